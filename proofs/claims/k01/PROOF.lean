import PyProof.Rows.All
import Wide.All
import OpenK.AllK
import Wide.FinOn
import HandS.ForMost
import HandS.Exc
import HandS.TryOnly
import HandS.Wide
import HandS.WideBits
import HandS.StrMore
import HandS.Conv
import HandS.Style
import HandS.TupAny
import HandS.NoneIn
import HandS.Codes
import HandS.Zip
import HandS.Small
import HandS.ExcInit
import HandS.ExcIs
import HandS.IsInst
import HandS.RaiseMore
import HandS.Lambda
import HandS.Replace
import PyProof.ListStr
import KE.IntTextLaws
import HandS.Walk
import HandS.ExcField
import KE.KExcIs
import KE.GoesEnumKw
import KE.KDictList
import HandS.WordsExc
import HandS.ReplaceLit
import HandS.EndTab
import KE.KNestM
import PySem.Challenge.RW_opengates_k01_texts_of_no_books
set_option Elab.async false
set_option linter.all false
set_option maxRecDepth 100000
set_option maxHeartbeats 4000000
namespace OG
open PySem PySem.Spec PyProof.Rows L2
def top (i : Nat) : Stmt := PySem.Challenge.pw_opengates_k01_texts_of_no_books.main.body.getD i (.Pass ⟨0, 0, 0, 0⟩)
abbrev s_is_integer : Stmt := top 3
theorem sc_is_integer : FnScope ["value"] ["value"] (defScope s_is_integer) := ⟨rfl, rfl, rfl, by decide +kernel, rfl, by decide +kernel, by decide +kernel⟩
abbrev s_is_by : Stmt := top 4
theorem sc_is_by : FnScope ["value"] ["value"] (defScope s_is_by) := ⟨rfl, rfl, rfl, by decide +kernel, rfl, by decide +kernel, by decide +kernel⟩
abbrev s_GateError_init : Stmt := inClass (top 6) 0
theorem sc_GateError_init : FnScope ["self", "value"] ["self", "value"] (defScope s_GateError_init) := ⟨rfl, rfl, rfl, by decide +kernel, rfl, by decide +kernel, by decide +kernel⟩
abbrev s_integer_of : Stmt := top 12
theorem sc_integer_of : FnScope ["word", "most", "figures"] ["word", "most"] (defScope s_integer_of) := ⟨rfl, rfl, rfl, by decide +kernel, rfl, by decide +kernel, by decide +kernel⟩
abbrev s_is_letters : Stmt := top 13
theorem sc_is_letters : FnScope ["word", "most"] ["word", "most"] (defScope s_is_letters) := ⟨rfl, rfl, rfl, by decide +kernel, rfl, by decide +kernel, by decide +kernel⟩
abbrev s_is_of : Stmt := top 14
theorem sc_is_of : FnScope ["word", "signs", "sign"] ["word", "signs"] (defScope s_is_of) := ⟨rfl, rfl, rfl, by decide +kernel, rfl, by decide +kernel, by decide +kernel⟩
abbrev s_Book_init : Stmt := inClass (top 19) 0
theorem sc_Book_init : FnScope ["self", "text", "by", "weights", "worths"] ["self", "text"] (defScope s_Book_init) := ⟨rfl, rfl, rfl, by decide +kernel, rfl, by decide +kernel, by decide +kernel⟩
abbrev s_read_book : Stmt := top 20
theorem sc_read_book : FnScope ["text", "rows", "by", "weights", "worths", "number", "row", "words", "word"] ["text"] (defScope s_read_book) := ⟨rfl, rfl, rfl, by decide +kernel, rfl, by decide +kernel, by decide +kernel⟩
abbrev s_read_by : Stmt := top 21
theorem sc_read_by : FnScope ["words", "by"] ["words"] (defScope s_read_by) := ⟨rfl, rfl, rfl, by decide +kernel, rfl, by decide +kernel, by decide +kernel⟩
abbrev s_is_mark : Stmt := top 22
theorem sc_is_mark : FnScope ["words", "by", "weights"] ["words", "by", "weights"] (defScope s_is_mark) := ⟨rfl, rfl, rfl, by decide +kernel, rfl, by decide +kernel, by decide +kernel⟩
abbrev s_is_kind : Stmt := top 23
theorem sc_is_kind : FnScope ["words", "by", "worths", "marks", "word"] ["words", "by", "worths", "marks"] (defScope s_is_kind) := ⟨rfl, rfl, rfl, by decide +kernel, rfl, by decide +kernel, by decide +kernel⟩
abbrev s_is_number : Stmt := top 24
theorem sc_is_number : FnScope ["word", "by", "number"] ["word", "by"] (defScope s_is_number) := ⟨rfl, rfl, rfl, by decide +kernel, rfl, by decide +kernel, by decide +kernel⟩
abbrev s_l_pot : Stmt := top 26
theorem sc_l_pot : FnScope ["script", "place", "cell", "own", "small"] ["script", "place"] (defScope s_l_pot) := ⟨rfl, rfl, rfl, by decide +kernel, rfl, by decide +kernel, by decide +kernel⟩
abbrev s_l_take : Stmt := top 27
theorem sc_l_take : FnScope ["pot", "upto", "digit", "prime", "blend"] ["pot", "upto"] (defScope s_l_take) := ⟨rfl, rfl, rfl, by decide +kernel, rfl, by decide +kernel, by decide +kernel⟩
abbrev s_l_of : Stmt := top 28
theorem sc_l_of : FnScope ["pot", "some"] ["pot", "some"] (defScope s_l_of) := ⟨rfl, rfl, rfl, by decide +kernel, rfl, by decide +kernel, by decide +kernel⟩
abbrev s_l_some : Stmt := top 29
theorem sc_l_some : FnScope ["pot", "pool", "many", "left", "found", "lap"] ["pot", "pool", "many"] (defScope s_l_some) := ⟨rfl, rfl, rfl, by decide +kernel, rfl, by decide +kernel, by decide +kernel⟩
abbrev s_l_heard : Stmt := top 30
theorem sc_l_heard : FnScope ["call", "caught", "back", "error"] ["call"] (defScope s_l_heard) := ⟨rfl, rfl, rfl, by decide +kernel, rfl, by decide +kernel, by decide +kernel⟩
abbrev s_l_odd : Stmt := top 31
theorem sc_l_odd : FnScope ["pot", "some"] ["pot"] (defScope s_l_odd) := ⟨rfl, rfl, rfl, by decide +kernel, rfl, by decide +kernel, by decide +kernel⟩
abbrev s_l_book_names : Stmt := top 32
theorem sc_l_book_names : FnScope ["pot", "many", "at", "is_alike", "letters", "tellings", "long", "base", "found", "telling", "lap"] ["pot", "many"] (defScope s_l_book_names) := ⟨rfl, rfl, rfl, by decide +kernel, rfl, by decide +kernel, by decide +kernel⟩
abbrev s_l_book_weights : Stmt := top 33
theorem sc_l_book_weights : FnScope ["pot", "by", "many", "is_above", "way", "most", "found", "last", "lap", "weight"] ["pot", "by", "many", "is_above"] (defScope s_l_book_weights) := ⟨rfl, rfl, rfl, by decide +kernel, rfl, by decide +kernel, by decide +kernel⟩
abbrev s_l_book_table : Stmt := top 34
theorem sc_l_book_table : FnScope ["pot", "by", "many", "way", "places", "low", "high", "some", "a", "b", "row", "n"] ["pot", "by", "many"] (defScope s_l_book_table) := ⟨rfl, rfl, rfl, by decide +kernel, rfl, by decide +kernel, by decide +kernel⟩
abbrev s_l_book_twinned : Stmt := top 35
theorem sc_l_book_twinned : FnScope ["own", "one", "other", "tables", "places", "kind", "at", "a", "b"] ["own", "one", "other"] (defScope s_l_book_twinned) := ⟨rfl, rfl, rfl, by decide +kernel, rfl, by decide +kernel, by decide +kernel⟩
abbrev s_l_book_of : Stmt := top 36
theorem sc_l_book_of : FnScope ["pot", "by", "many", "kinds", "is_above", "own", "one", "other", "kind"] ["pot", "by", "many", "kinds", "is_above"] (defScope s_l_book_of) := ⟨rfl, rfl, rfl, by decide +kernel, rfl, by decide +kernel, by decide +kernel⟩
abbrev s_l_book_drawn : Stmt := top 37
theorem sc_l_book_drawn : FnScope ["pot", "bys", "manys", "kinds", "is_above", "by", "many", "names", "own", "tables", "mark", "kind"] ["pot", "bys", "manys", "kinds", "is_above"] (defScope s_l_book_drawn) := ⟨rfl, rfl, rfl, by decide +kernel, rfl, by decide +kernel, by decide +kernel⟩
abbrev s_l_book_text : Stmt := top 38
theorem sc_l_book_text : FnScope ["own", "lines", "mark", "weight", "kind", "rows", "row", "n"] ["own"] (defScope s_l_book_text) := ⟨rfl, rfl, rfl, by decide +kernel, rfl, by decide +kernel, by decide +kernel⟩
abbrev s_l_books_primes : Stmt := top 39
theorem sc_l_books_primes : FnScope [] [] (defScope s_l_books_primes) := ⟨rfl, rfl, rfl, by decide +kernel, rfl, by decide +kernel, by decide +kernel⟩
abbrev s_l_books_number : Stmt := top 40
theorem sc_l_books_number : FnScope ["word", "figures", "sign"] ["word"] (defScope s_l_books_number) := ⟨rfl, rfl, rfl, by decide +kernel, rfl, by decide +kernel, by decide +kernel⟩
abbrev s_l_books_is_name : Stmt := top 41
theorem sc_l_books_is_name : FnScope ["word", "sign"] ["word"] (defScope s_l_books_is_name) := ⟨rfl, rfl, rfl, by decide +kernel, rfl, by decide +kernel, by decide +kernel⟩
abbrev s_l_books_is_worth : Stmt := top 42
theorem sc_l_books_is_worth : FnScope ["by", "number"] ["by", "number"] (defScope s_l_books_is_worth) := ⟨rfl, rfl, rfl, by decide +kernel, rfl, by decide +kernel, by decide +kernel⟩
abbrev s_l_books_can_stand : Stmt := top 43
theorem sc_l_books_can_stand : FnScope ["by", "marks", "kinds", "words", "name", "numbers", "is_many", "word", "number"] ["by", "marks", "kinds", "words"] (defScope s_l_books_can_stand) := ⟨rfl, rfl, rfl, by decide +kernel, rfl, by decide +kernel, by decide +kernel⟩
abbrev s_l_books_wrong : Stmt := top 44
theorem sc_l_books_wrong : FnScope ["text", "lines", "marks", "kinds", "words", "by", "at", "line"] ["text"] (defScope s_l_books_wrong) := ⟨rfl, rfl, rfl, by decide +kernel, rfl, by decide +kernel, by decide +kernel⟩
abbrev s_l_books_word : Stmt := top 45
theorem sc_l_books_word : FnScope ["pot", "words", "some"] ["pot", "words"] (defScope s_l_books_word) := ⟨rfl, rfl, rfl, by decide +kernel, rfl, by decide +kernel, by decide +kernel⟩
abbrev s_l_books_bent : Stmt := top 46
theorem sc_l_books_bent : FnScope ["pot", "text", "lines", "way", "at", "spot", "words", "place", "every", "more"] ["pot", "text"] (defScope s_l_books_bent) := ⟨rfl, rfl, rfl, by decide +kernel, rfl, by decide +kernel, by decide +kernel⟩
abbrev s_l_is_judged : Stmt := top 47
theorem sc_l_is_judged : FnScope ["text", "due", "caught", "back"] ["text"] (defScope s_l_is_judged) := ⟨rfl, rfl, rfl, by decide +kernel, rfl, by decide +kernel, by decide +kernel⟩
abbrev s_l_right : Stmt := top 48
theorem sc_l_right : FnScope ["pot", "own", "text", "near", "lap", "one", "value"] ["pot"] (defScope s_l_right) := ⟨rfl, rfl, rfl, by decide +kernel, rfl, by decide +kernel, by decide +kernel⟩
abbrev s_law : Stmt := top 49
theorem sc_law : FnScope ["script"] ["script"] (defScope s_law) := ⟨rfl, rfl, rfl, by decide +kernel, rfl, by decide +kernel, by decide +kernel⟩
structure Txt (K : PySem.W.Frag) (mg : Str → Option Value) where
  f_is_integer : Addr
  fd_is_integer : FuncData
  F_is_integer : Fun K "is_integer" "is_integer" s_is_integer f_is_integer fd_is_integer
  b_is_integer : Binds K fd_is_integer ["value"] []
  g_is_integer : mg "is_integer" = some (.ref f_is_integer)
  f_is_by : Addr
  fd_is_by : FuncData
  F_is_by : Fun K "is_by" "is_by" s_is_by f_is_by fd_is_by
  b_is_by : Binds K fd_is_by ["value"] []
  g_is_by : mg "is_by" = some (.ref f_is_by)
  f_GateError_init : Addr
  fd_GateError_init : FuncData
  F_GateError_init : Fun K "__init__" "GateError.__init__" s_GateError_init f_GateError_init fd_GateError_init
  b_GateError_init : Binds K fd_GateError_init ["self", "value"] []
  f_integer_of : Addr
  fd_integer_of : FuncData
  F_integer_of : Fun K "integer_of" "integer_of" s_integer_of f_integer_of fd_integer_of
  b_integer_of : Binds K fd_integer_of ["word", "most"] []
  g_integer_of : mg "integer_of" = some (.ref f_integer_of)
  f_is_letters : Addr
  fd_is_letters : FuncData
  F_is_letters : Fun K "is_letters" "is_letters" s_is_letters f_is_letters fd_is_letters
  b_is_letters : Binds K fd_is_letters ["word", "most"] []
  g_is_letters : mg "is_letters" = some (.ref f_is_letters)
  f_is_of : Addr
  fd_is_of : FuncData
  F_is_of : Fun K "_is_of" "_is_of" s_is_of f_is_of fd_is_of
  b_is_of : Binds K fd_is_of ["word", "signs"] []
  g_is_of : mg "_is_of" = some (.ref f_is_of)
  f_Book_init : Addr
  fd_Book_init : FuncData
  F_Book_init : Fun K "__init__" "Book.__init__" s_Book_init f_Book_init fd_Book_init
  b_Book_init : Binds K fd_Book_init ["self", "text"] []
  f_read_book : Addr
  fd_read_book : FuncData
  F_read_book : Fun K "_read_book" "_read_book" s_read_book f_read_book fd_read_book
  b_read_book : Binds K fd_read_book ["text"] []
  g_read_book : mg "_read_book" = some (.ref f_read_book)
  f_read_by : Addr
  fd_read_by : FuncData
  F_read_by : Fun K "_read_by" "_read_by" s_read_by f_read_by fd_read_by
  b_read_by : Binds K fd_read_by ["words"] []
  g_read_by : mg "_read_by" = some (.ref f_read_by)
  f_is_mark : Addr
  fd_is_mark : FuncData
  F_is_mark : Fun K "_is_mark" "_is_mark" s_is_mark f_is_mark fd_is_mark
  b_is_mark : Binds K fd_is_mark ["words", "by", "weights"] []
  g_is_mark : mg "_is_mark" = some (.ref f_is_mark)
  f_is_kind : Addr
  fd_is_kind : FuncData
  F_is_kind : Fun K "_is_kind" "_is_kind" s_is_kind f_is_kind fd_is_kind
  b_is_kind : Binds K fd_is_kind ["words", "by", "worths", "marks"] []
  g_is_kind : mg "_is_kind" = some (.ref f_is_kind)
  f_is_number : Addr
  fd_is_number : FuncData
  F_is_number : Fun K "_is_number" "_is_number" s_is_number f_is_number fd_is_number
  b_is_number : Binds K fd_is_number ["word", "by"] []
  g_is_number : mg "_is_number" = some (.ref f_is_number)
  f_l_pot : Addr
  fd_l_pot : FuncData
  F_l_pot : Fun K "_law_pot" "_law_pot" s_l_pot f_l_pot fd_l_pot
  b_l_pot : Binds K fd_l_pot ["script", "place"] []
  g_l_pot : mg "_law_pot" = some (.ref f_l_pot)
  f_l_take : Addr
  fd_l_take : FuncData
  F_l_take : Fun K "_law_take" "_law_take" s_l_take f_l_take fd_l_take
  b_l_take : Binds K fd_l_take ["pot", "upto"] []
  g_l_take : mg "_law_take" = some (.ref f_l_take)
  f_l_of : Addr
  fd_l_of : FuncData
  F_l_of : Fun K "_law_of" "_law_of" s_l_of f_l_of fd_l_of
  b_l_of : Binds K fd_l_of ["pot", "some"] []
  g_l_of : mg "_law_of" = some (.ref f_l_of)
  f_l_some : Addr
  fd_l_some : FuncData
  F_l_some : Fun K "_law_some" "_law_some" s_l_some f_l_some fd_l_some
  b_l_some : Binds K fd_l_some ["pot", "pool", "many"] []
  g_l_some : mg "_law_some" = some (.ref f_l_some)
  f_l_heard : Addr
  fd_l_heard : FuncData
  F_l_heard : Fun K "_law_heard" "_law_heard" s_l_heard f_l_heard fd_l_heard
  b_l_heard : Binds K fd_l_heard ["call"] []
  g_l_heard : mg "_law_heard" = some (.ref f_l_heard)
  f_l_odd : Addr
  fd_l_odd : FuncData
  F_l_odd : Fun K "_law_odd" "_law_odd" s_l_odd f_l_odd fd_l_odd
  b_l_odd : Binds K fd_l_odd ["pot"] []
  g_l_odd : mg "_law_odd" = some (.ref f_l_odd)
  f_l_book_names : Addr
  fd_l_book_names : FuncData
  F_l_book_names : Fun K "_law_book_names" "_law_book_names" s_l_book_names f_l_book_names fd_l_book_names
  b_l_book_names : Binds K fd_l_book_names ["pot", "many"] []
  g_l_book_names : mg "_law_book_names" = some (.ref f_l_book_names)
  f_l_book_weights : Addr
  fd_l_book_weights : FuncData
  F_l_book_weights : Fun K "_law_book_weights" "_law_book_weights" s_l_book_weights f_l_book_weights fd_l_book_weights
  b_l_book_weights : Binds K fd_l_book_weights ["pot", "by", "many", "is_above"] []
  g_l_book_weights : mg "_law_book_weights" = some (.ref f_l_book_weights)
  f_l_book_table : Addr
  fd_l_book_table : FuncData
  F_l_book_table : Fun K "_law_book_table" "_law_book_table" s_l_book_table f_l_book_table fd_l_book_table
  b_l_book_table : Binds K fd_l_book_table ["pot", "by", "many"] []
  g_l_book_table : mg "_law_book_table" = some (.ref f_l_book_table)
  f_l_book_twinned : Addr
  fd_l_book_twinned : FuncData
  F_l_book_twinned : Fun K "_law_book_twinned" "_law_book_twinned" s_l_book_twinned f_l_book_twinned fd_l_book_twinned
  b_l_book_twinned : Binds K fd_l_book_twinned ["own", "one", "other"] []
  g_l_book_twinned : mg "_law_book_twinned" = some (.ref f_l_book_twinned)
  f_l_book_of : Addr
  fd_l_book_of : FuncData
  F_l_book_of : Fun K "_law_book_of" "_law_book_of" s_l_book_of f_l_book_of fd_l_book_of
  b_l_book_of : Binds K fd_l_book_of ["pot", "by", "many", "kinds", "is_above"] []
  g_l_book_of : mg "_law_book_of" = some (.ref f_l_book_of)
  f_l_book_drawn : Addr
  fd_l_book_drawn : FuncData
  F_l_book_drawn : Fun K "_law_book_drawn" "_law_book_drawn" s_l_book_drawn f_l_book_drawn fd_l_book_drawn
  b_l_book_drawn : Binds K fd_l_book_drawn ["pot", "bys", "manys", "kinds", "is_above"] []
  g_l_book_drawn : mg "_law_book_drawn" = some (.ref f_l_book_drawn)
  f_l_book_text : Addr
  fd_l_book_text : FuncData
  F_l_book_text : Fun K "_law_book_text" "_law_book_text" s_l_book_text f_l_book_text fd_l_book_text
  b_l_book_text : Binds K fd_l_book_text ["own"] []
  g_l_book_text : mg "_law_book_text" = some (.ref f_l_book_text)
  f_l_books_primes : Addr
  fd_l_books_primes : FuncData
  F_l_books_primes : Fun K "_law_books_primes" "_law_books_primes" s_l_books_primes f_l_books_primes fd_l_books_primes
  b_l_books_primes : Binds K fd_l_books_primes [] []
  g_l_books_primes : mg "_law_books_primes" = some (.ref f_l_books_primes)
  f_l_books_number : Addr
  fd_l_books_number : FuncData
  F_l_books_number : Fun K "_law_books_number" "_law_books_number" s_l_books_number f_l_books_number fd_l_books_number
  b_l_books_number : Binds K fd_l_books_number ["word"] []
  g_l_books_number : mg "_law_books_number" = some (.ref f_l_books_number)
  f_l_books_is_name : Addr
  fd_l_books_is_name : FuncData
  F_l_books_is_name : Fun K "_law_books_is_name" "_law_books_is_name" s_l_books_is_name f_l_books_is_name fd_l_books_is_name
  b_l_books_is_name : Binds K fd_l_books_is_name ["word"] []
  g_l_books_is_name : mg "_law_books_is_name" = some (.ref f_l_books_is_name)
  f_l_books_is_worth : Addr
  fd_l_books_is_worth : FuncData
  F_l_books_is_worth : Fun K "_law_books_is_worth" "_law_books_is_worth" s_l_books_is_worth f_l_books_is_worth fd_l_books_is_worth
  b_l_books_is_worth : Binds K fd_l_books_is_worth ["by", "number"] []
  g_l_books_is_worth : mg "_law_books_is_worth" = some (.ref f_l_books_is_worth)
  f_l_books_can_stand : Addr
  fd_l_books_can_stand : FuncData
  F_l_books_can_stand : Fun K "_law_books_can_stand" "_law_books_can_stand" s_l_books_can_stand f_l_books_can_stand fd_l_books_can_stand
  b_l_books_can_stand : Binds K fd_l_books_can_stand ["by", "marks", "kinds", "words"] []
  g_l_books_can_stand : mg "_law_books_can_stand" = some (.ref f_l_books_can_stand)
  f_l_books_wrong : Addr
  fd_l_books_wrong : FuncData
  F_l_books_wrong : Fun K "_law_books_wrong" "_law_books_wrong" s_l_books_wrong f_l_books_wrong fd_l_books_wrong
  b_l_books_wrong : Binds K fd_l_books_wrong ["text"] []
  g_l_books_wrong : mg "_law_books_wrong" = some (.ref f_l_books_wrong)
  f_l_books_word : Addr
  fd_l_books_word : FuncData
  F_l_books_word : Fun K "_law_books_word" "_law_books_word" s_l_books_word f_l_books_word fd_l_books_word
  b_l_books_word : Binds K fd_l_books_word ["pot", "words"] []
  g_l_books_word : mg "_law_books_word" = some (.ref f_l_books_word)
  f_l_books_bent : Addr
  fd_l_books_bent : FuncData
  F_l_books_bent : Fun K "_law_books_bent" "_law_books_bent" s_l_books_bent f_l_books_bent fd_l_books_bent
  b_l_books_bent : Binds K fd_l_books_bent ["pot", "text"] []
  g_l_books_bent : mg "_law_books_bent" = some (.ref f_l_books_bent)
  f_l_is_judged : Addr
  fd_l_is_judged : FuncData
  F_l_is_judged : Fun K "_law_is_judged" "_law_is_judged" s_l_is_judged f_l_is_judged fd_l_is_judged
  b_l_is_judged : Binds K fd_l_is_judged ["text"] []
  g_l_is_judged : mg "_law_is_judged" = some (.ref f_l_is_judged)
  f_l_right : Addr
  fd_l_right : FuncData
  F_l_right : Fun K "_law_right" "_law_right" s_l_right f_l_right fd_l_right
  b_l_right : Binds K fd_l_right ["pot"] []
  g_l_right : mg "_law_right" = some (.ref f_l_right)
  f_law : Addr
  fd_law : FuncData
  F_law : Fun K "law" "law" s_law f_law fd_law
  b_law : Binds K fd_law ["script"] []
  g_law : mg "law" = some (.ref f_law)
  n_ValueError : mg "ValueError" = none
  n_abs : mg "abs" = none
  n_all : mg "all" = none
  n_bool : mg "bool" = none
  n_dict : mg "dict" = none
  n_enumerate : mg "enumerate" = none
  n_int : mg "int" = none
  n_isinstance : mg "isinstance" = none
  n_len : mg "len" = none
  n_list : mg "list" = none
  n_max : mg "max" = none
  n_min : mg "min" = none
  n_range : mg "range" = none
  n_repr : mg "repr" = none
  n_str : mg "str" = none
  n_sum : mg "sum" = none
  n_tuple : mg "tuple" = none
  n_zip : mg "zip" = none
  m_LETTERS : ∃ u, mg "LETTERS" = some u ∧ RelV (.str "abcdefghijklmnopqrstuvwxyz") u
  m_FIGURES : ∃ u, mg "FIGURES" = some u ∧ RelV (.str "0123456789") u
  m_GREATEST : ∃ u, mg "GREATEST" = some u ∧ RelV (.int 1000000000000) u
  m_MOST_MARKS : ∃ u, mg "MOST_MARKS" = some u ∧ RelV (.int 4) u
  m_MOST_KINDS : ∃ u, mg "MOST_KINDS" = some u ∧ RelV (.int 3) u
  a_PRIMES : Addr
  m_PRIMES : ∃ u, mg "PRIMES" = some u ∧ RelV (.ref a_PRIMES) u
  sq_PRIMES : ∀ H, SqT K H a_PRIMES ([2, 3, 5, 7, 11, 13, 17, 19, 23, 29, 31, 37, 41, 43, 47, 53, 59, 61, 67, 71, 73, 79, 83, 89, 97].map V.int)
  c_BadBook : Addr
  g_BadBook : mg "BadBook" = some (.ref c_BadBook)
  c_GateError : Addr
  g_GateError : mg "GateError" = some (.ref c_GateError)
  c_Book : Addr
  g_Book : mg "Book" = some (.ref c_Book)
end OG
set_option Elab.async false
set_option linter.all false
set_option maxRecDepth 100000
set_option maxHeartbeats 4000000
namespace OG
open PySem PySem.Spec PyProof.Rows L2
section
variable {X : Cx}
def CPowW (i j : Int) : Prop := 0 ≤ j ∧ (Builtin.Int.intBits i : Int) * j ≤ 2 ^ 27
theorem op_powW : OpR X (binaryOp .Pow) (rI CPowW fun i j => .int (i ^ j.toNat)) := opI fun _ _ _ _ _ _ _ hc q => pow_int hc.1 hc.2 q
theorem pow_c {i j : Int} (h : (decide (0 ≤ j) && decide ((Builtin.Int.intBits i : Int) * j ≤ 2 ^ 27)) = true) : CPowW i j := by
  rw [Bool.and_eq_true, decide_eq_true_eq, decide_eq_true_eq] at h
  exact h
theorem pow_64 {i j : Int} (ha : i.natAbs < 2 ^ 64) (h0 : 0 ≤ j) (hn : j ≤ 1000000) : CPowW i j := ⟨h0, bits_mul_le ha h0 hn⟩
def repS (x : Str) (n : Int) : Str := if n < 1 then Str.empty else if (n == 1 || x.length == 0) = true then x else ⟨(List.replicate n.toNat x.cps).foldl (· ++ ·) #[]⟩
theorem op_mulS : OpR X (binaryOp .Mult) (fun x y H Q => ∃ (z : Str) (n : Int), x = .str z ∧ y = .int n ∧ 0 ≤ n ∧ n ≤ 100000 ∧ z.length ≤ 100 ∧ Q (.str (repS z n)) H) := by
  intro pins s σ H x y v u Q I rx ry h
  obtain ⟨z, n, rfl, rfl, h0, h1, h2, q⟩ := h
  obtain ⟨t, rfl⟩ := rx
  obtain ⟨t', rfl⟩ := ry
  have htl : Builtin.Str.tooLong (z.length * n.toNat) = false := by
    have e3 : z.length * n.toNat ≤ 100 * 100000 := Nat.mul_le_mul h2 (by omega)
    have e4 : z.length * n.toNat ≤ sizeLine := Nat.le_trans e3 (by decide)
    show decide (z.length * n.toNat > sizeLine) = false
    exact decide_eq_false (by omega)
  refine PySem.P.mul_str (by simp only [Bool.or_eq_false_iff, decide_eq_false_iff_not]; omega) (fun hn _ => ?_) (fun hn _ => ?_) ?_
  · have e1 : (2 : Int) ^ 63 - 1 ≥ 100 * n := by omega
    have e2 : (100 : Int) ≤ (2 ^ 63 - 1) / n := Int.le_ediv_of_mul_le (by omega) e1
    omega
  · exact htl
  · unfold repS at q
    by_cases c1 : n < 1
    · rw [if_pos c1] at q ⊢
      exact ⟨by decide, .str Str.empty, H, I.tok _, ⟨_, rfl⟩, q⟩
    · rw [if_neg c1] at q ⊢
      by_cases c2 : (n == 1 || z.length == 0) = true
      · rw [if_pos c2] at q ⊢
        exact ⟨.str z, H, I, ⟨_, rfl⟩, q⟩
      · rw [if_neg c2] at q ⊢
        exact ⟨fits_reps htl, .str _, H, I.tok _, ⟨_, rfl⟩, q⟩
end
/-! heaps -/
/-- all but p stays -/
def Kp (p : Addr) (H H' : Hp) : Prop := ∀ b o, b ≠ p → H b = some o → H' b = some o
theorem Kp.refl (p : Addr) (H : Hp) : Kp p H H := fun _ _ _ h => h
theorem Kp.trans {p : Addr} {H H1 H2 : Hp} (a : Kp p H H1) (b : Kp p H1 H2) : Kp p H H2 := fun c o n h => b c o n (a c o n h)
theorem Same.kp {p : Addr} {H H' : Hp} (s : Same H H') : Kp p H H' := fun b o _ h => s b o h
theorem same_new {H : Hp} {p : Addr} {o : HO} (h : H p = none) : Same H (upd H p o) := fun b x e => by
  rw [upd_ne (ne_of_none e h)]
  exact e
theorem kp_self {p : Addr} {H : Hp} {o : HO} : Kp p H (upd H p o) := fun b x n e => by
  rw [upd_ne n]
  exact e
/-- the pot at p, at least k takes left -/
def Pot (k : Nat) (H : Hp) (p : Addr) : Prop := ∃ a b c : Int, H p = some (.lst [.int a, .int b, .int c]) ∧ 0 ≤ a ∧ a < 2 ^ 1000 ∧ 0 ≤ b ∧ b < 2 ^ 61 ∧ 0 ≤ c ∧ c + k ≤ 1000000
theorem Pot.mono {k j : Nat} {H : Hp} {p : Addr} (h : Pot k H p) (e : j ≤ k) : Pot j H p := by
  obtain ⟨a, b, c, h1, h2, h3, h4, h5, h6, h7⟩ := h
  exact ⟨a, b, c, h1, h2, h3, h4, h5, h6, by omega⟩
theorem Pot.same {k : Nat} {H H' : Hp} {p : Addr} (h : Pot k H p) (s : Same H H') : Pot k H' p := by
  obtain ⟨a, b, c, h1, h2⟩ := h
  exact ⟨a, b, c, s _ _ h1, h2⟩
theorem Pot.ex {k : Nat} {H : Hp} {p : Addr} (h : Pot k H p) : ∃ o, H p = some o := by
  obtain ⟨a, b, c, h1, _⟩ := h
  exact ⟨_, h1⟩
/-- a draw's way: the pot has k left, all else stands -/
def Dr (p : Addr) (k : Nat) (H H' : Hp) : Prop := Kp p H H' ∧ Pot k H' p
end OG
set_option Elab.async false
set_option linter.all false
set_option maxRecDepth 100000
set_option maxHeartbeats 4000000
namespace OG
open PySem PySem.Spec PyProof.Rows L2
section
variable {P : Program} {w : World} {K : PySem.W.Frag} {mg : Str → Option Value} {base : Heap}
def spTake : Sp := fun vs H Q _ => ∃ (p : Addr) (u : Int) (k : Nat), vs = [.ref p, .int u] ∧ Pot (k + 1) H p ∧ 0 < u ∧ u < 2 ^ 60 ∧
  ∀ (r : Int) (H' : Hp), 0 ≤ r → r < u → Dr p k H H' → Q (.int r) H'
theorem rix {H : Hp} {p : Addr} {xs : List V} {i : Nat} {v : V} {Q : VK} (h : H p = some (.lst xs)) (hi : xs[i]? = some v) (q : Q v H) : rIxL K (.ref p) (.int (i : Int)) H Q :=
  ⟨p, xs, _, v, rfl, rfl, SqL.of h, atI_nat hi, q⟩
theorem pow3 {x : Int} (h : x.natAbs < 2 ^ 64) : CPowW x 3 := pow_64 h (by decide) (by decide)
theorem ok_l_take (T : Txt K mg) : FnOk P w K mg base CX0 1 T.f_l_take T.fd_l_take ["pot", "upto"] (spTake) := by
  refine T.F_l_take.ok sc_l_take (fun vs H Q E h => ?_) (fun cdv A outer s H vs Q E hr h => ?_)
  · obtain ⟨p, u, k, rfl, _⟩ := h
    rfl
  · obtain ⟨p, u, k, rfl, ⟨a, b, c, hp, a0, a1, b0, b1, c0, c1⟩, u0, u1, q⟩ := h
    refine ⟨_, (pss_cons (ps_if (pt_cmpR op_gt (pe_ix ix_list (pv 0) pe_int (fun _ _ => rfl)) pe_int (nomark _)) (pss_cons (ps_set (i := 2) sc_l_take.nd rfl (Or.inl rfl) (pe_op op_mod (pe_callTy call_int1 (by rfl) T.n_int (by decide +kernel) (pa_cons (pe_ix ix_list (pv 0) pe_int (fun _ _ => rfl)) pa_nil)) (pv 1)))
  (pss_cons (ps_asg (pe_op op_fdivW (pe_ix ix_list (pv 0) pe_int (fun _ _ => rfl)) (pv 1)) (pg_sub (pv 0) pe_int set_list))
  (pss_one (ps_ret (pv 2))))) pss_nil)
  (pss_cons (ps_asg (pe_op op_add (pe_ix ix_list (pv 0) pe_int (fun _ _ => rfl)) pe_int) (pg_sub (pv 0) pe_int set_list))
  (pss_cons (ps_set (i := 3) sc_l_take.nd rfl (Or.inl rfl) (pe_ix ix_list (pe_lst (pa_cons pe_int (pa_cons pe_int (pa_cons pe_int (pa_cons pe_int (pa_cons pe_int pa_nil)))))) (pe_op op_mod (pe_callTy call_int1 (by rfl) T.n_int (by decide +kernel) (pa_cons (pe_ix ix_list (pv 0) pe_int (fun _ _ => rfl)) pa_nil)) pe_int) (fun _ _ => rfl)))
  (pss_cons (ps_set (i := 4) sc_l_take.nd rfl (Or.inl rfl) (pe_op op_mod (pe_callTy call_int1 (by rfl) T.n_int (by decide +kernel) (pa_cons (pe_op op_powW (pe_callTy call_int1 (by rfl) T.n_int (by decide +kernel) (pa_cons (pe_op op_add (pe_op op_add (pe_ix ix_list (pv 0) pe_int (fun _ _ => rfl)) (pe_op op_mulW (pe_op op_mulW pe_int (pe_ix ix_list (pv 0) pe_int (fun _ _ => rfl))) (pe_ix ix_list (pv 0) pe_int (fun _ _ => rfl)))) pe_int) pa_nil)) pe_int) pa_nil)) (pv 3)))
  (pss_cons (ps_set (i := 4) sc_l_take.nd rfl (Or.inl rfl) (pe_op op_mod (pe_callTy call_int1 (by rfl) T.n_int (by decide +kernel) (pa_cons (pe_op op_mulW (pv 4) (pe_op op_add (pe_op op_mod (pe_callTy call_int1 (by rfl) T.n_int (by decide +kernel) (pa_cons (pv 4) pa_nil)) pe_int) (pe_op op_mulW pe_int (pe_ix ix_list (pv 0) pe_int (fun _ _ => rfl))))) pa_nil)) pe_int))
  (pss_one (ps_ret (pe_op op_mod (pe_callTy call_int1 (by rfl) T.n_int (by decide +kernel) (pa_cons (pe_op op_fdivW (pv 4) pe_int) pa_nil)) (pv 1))))))))), ?_⟩
    refine ⟨.ref p, rfl, p, _, 0, _, rfl, rfl, SqL.of hp, rfl, ?_⟩
    refine ⟨a, 0, rfl, rfl, _, rfl, ?_⟩
    refine ite2 (fun ha => ?_) (fun ha => ?_)
    · have ha : 0 < a := of_decide_eq_true ha
      refine ⟨.ref p, rfl, p, _, 0, _, rfl, rfl, SqL.of hp, rfl, ?_⟩
      refine .inl ⟨a, rfl, ?_⟩
      refine ⟨.int u, rfl, a, u, rfl, rfl, u0, ?_⟩
      refine ⟨.ref p, rfl, p, _, 0, _, rfl, rfl, SqL.of hp, rfl, ?_⟩
      refine ⟨.int u, rfl, a, u, rfl, rfl, wide_div (b := 60) u0 (by omega) (by decide) (by decide), ?_⟩
      refine ⟨.ref p, rfl, p, _, 0, 0, rfl, rfl, hp, rfl, ?_⟩
      refine ⟨_, rfl, ?_⟩
      refine q _ _ (Int.emod_nonneg _ (by omega)) (Int.emod_lt_of_pos _ u0) ⟨kp_self, a / u, b, c, upd_same, Int.ediv_nonneg a0 (by omega), ?_, b0, b1, c0, by omega⟩
      exact Int.lt_of_le_of_lt (Int.ediv_le_self _ a0) a1
    · refine ⟨.ref p, rfl, p, _, 2, _, rfl, rfl, SqL.of hp, rfl, ?_⟩
      refine ⟨c, 1, rfl, rfl, ?_⟩
      refine ⟨.ref p, rfl, p, _, 2, 2, rfl, rfl, hp, rfl, ?_⟩
      refine ⟨by decide, fun l hl => ?_⟩
      have npl : p ≠ l := fun e => by
        rw [← e, upd_same] at hl
        cases hl
      have hp1 : (upd (upd H p (.lst [.int a, .int b, .int (c + 1)])) l (.lst [.int 2147483647, .int 2147483629, .int 2147483587, .int 2147483579, .int 2147483563])) p = some (.lst [.int a, .int b, .int (c + 1)]) := by
        rw [upd_ne npl, upd_same]
      refine ⟨.ref p, rfl, p, _, 2, _, rfl, rfl, SqL.of hp1, rfl, ?_⟩
      refine .inl ⟨c + 1, rfl, ?_⟩
      refine ⟨c + 1, 5, rfl, rfl, (by show (0 : Int) < 5; decide), ?_⟩
      have h5 : ∃ (m : Nat) (pr : Int), (c + 1) % 5 = (m : Int) ∧ ([V.int 2147483647, .int 2147483629, .int 2147483587, .int 2147483579, .int 2147483563])[m]? = some (.int pr) ∧ 0 < pr ∧ pr < 2 ^ 31 := by
        have e0 := Int.emod_nonneg (c + 1) (show (5 : Int) ≠ 0 by decide)
        have e1 := Int.emod_lt_of_pos (c + 1) (show (0 : Int) < 5 by decide)
        rcases (show (c + 1) % 5 = 0 ∨ (c + 1) % 5 = 1 ∨ (c + 1) % 5 = 2 ∨ (c + 1) % 5 = 3 ∨ (c + 1) % 5 = 4 by omega) with e | e | e | e | e
        · exact ⟨0, _, e, rfl, by decide, by decide⟩
        · exact ⟨1, _, e, rfl, by decide, by decide⟩
        · exact ⟨2, _, e, rfl, by decide, by decide⟩
        · exact ⟨3, _, e, rfl, by decide, by decide⟩
        · exact ⟨4, _, e, rfl, by decide, by decide⟩
      obtain ⟨m, pr, em, hm, pr0, pr1⟩ := h5
      refine ⟨l, _, (m : Int), _, rfl, congrArg V.int em, SqL.of upd_same, atI_nat hm, ?_⟩
      refine ⟨.ref p, rfl, p, _, 1, _, rfl, rfl, SqL.of hp1, rfl, ?_⟩
      have hc2 : (c + 1) * (c + 1) ≤ 1000000 * 1000000 := Int.mul_le_mul (by omega) (by omega) (by omega) (by decide)
      have hc3 : 0 ≤ (c + 1) * (c + 1) := Int.mul_nonneg (by omega) (by omega)
      refine ⟨.ref p, rfl, p, _, 2, _, rfl, rfl, SqL.of hp1, rfl, ?_⟩
      refine ⟨_, _, rfl, rfl, wide_mul (a := 30) (b := 30) (by decide) (by omega) (by decide) (by decide) (by decide), ?_⟩
      refine ⟨.ref p, rfl, p, _, 2, _, rfl, rfl, SqL.of hp1, rfl, ?_⟩
      refine ⟨_, _, rfl, rfl, wide_mul (a := 60) (b := 30) (by omega) (by omega) (by decide) (by decide) (by decide), ?_⟩
      refine ⟨_, _, rfl, rfl, ?_⟩
      refine ⟨_, _, rfl, rfl, ?_⟩
      refine .inl ⟨_, rfl, ?_⟩
      refine ⟨_, _, rfl, rfl, pow3 ?_, ?_⟩
      · rw [Int.mul_assoc]
        omega
      refine .inl ⟨_, rfl, ?_⟩
      refine ⟨_, rfl, _, _, rfl, rfl, pr0, ?_⟩
      have xb : ∀ y : Int, (y % pr).natAbs < 2 ^ 60 := fun y => by
        have z1 := Int.emod_nonneg y (show pr ≠ 0 by omega)
        have z2 := Int.emod_lt_of_pos y pr0
        omega
      refine ⟨_, rfl, _, rfl, .inl ⟨_, rfl, ?_⟩⟩
      refine ⟨_, 10140, rfl, rfl, (by show (0 : Int) < 10140; decide), ?_⟩
      refine ⟨.ref p, rfl, p, _, 2, _, rfl, rfl, SqL.of hp1, rfl, ?_⟩
      refine ⟨_, _, rfl, rfl, wide_mul (a := 30) (b := 30) (by decide) (by omega) (by decide) (by decide) (by decide), ?_⟩
      refine ⟨_, _, rfl, rfl, ?_⟩
      refine ⟨_, _, rfl, rfl, wide_mul (a := 60) (b := 90) (xb _) (by omega) (by decide) (by decide) (by decide), ?_⟩
      refine .inl ⟨_, rfl, ?_⟩
      refine ⟨_, 2305843009213693907, rfl, rfl, (by show (0 : Int) < 2305843009213693907; decide), ?_⟩
      refine ⟨_, rfl, ?_⟩
      refine ⟨_, _, rfl, rfl, wide_div (b := 60) (by decide) (by decide) (by decide) (by decide), ?_⟩
      refine .inl ⟨_, rfl, ?_⟩
      refine ⟨.int u, rfl, _, _, rfl, rfl, u0, ?_⟩
      refine q _ _ (Int.emod_nonneg _ (by omega)) (Int.emod_lt_of_pos _ u0) ⟨?_, a, b, c + 1, hp1, a0, a1, b0, b1, by omega, by omega⟩
      intro z o nz hz
      have nzl : z ≠ l := fun e => by
        rw [← e, upd_ne nz, hz] at hl
        cases hl
      rw [upd_ne nzl, upd_ne nz]
      exact hz
end
end OG
set_option Elab.async false
set_option linter.all false
set_option maxRecDepth 100000
set_option maxHeartbeats 4000000
namespace OG
open PySem PySem.Spec PyProof.Rows L2
theorem Kp.seq {K : PySem.W.Frag} {p : Addr} {H H' : Hp} {a : Addr} {xs : List V} (e : Kp p H H') (n : a ≠ p) (h : SqL K H a xs) : SqL K H' a xs := by
  rcases h with (h | ⟨o, h⟩) | h
  · exact .inl (.inl (e _ _ n h))
  · exact .inl (.inr ⟨o, e _ _ n h⟩)
  · exact .inr h
theorem Kp.seqT {K : PySem.W.Frag} {p : Addr} {H H' : Hp} {a : Addr} {xs : List V} (e : Kp p H H') (n : a ≠ p) (h : SqT K H a xs) : SqT K H' a xs := by
  rcases h with (h | ⟨o, h⟩) | h
  · exact .inl (.inl (e _ _ n h))
  · exact .inl (.inr ⟨o, e _ _ n h⟩)
  · exact .inr h
theorem Pot.ne {k : Nat} {H : Hp} {p l : Addr} (h : Pot k H p) (n : H l = none) : l ≠ p := fun e => by
  obtain ⟨o, ho⟩ := h.ex
  rw [e, ho] at n
  cases n
theorem Pot.neT {k : Nat} {H : Hp} {p l : Addr} {xs : List V} (h : Pot k H p) (n : H l = some (.tup xs)) : l ≠ p := fun e => by
  obtain ⟨a, b, c, ho, _⟩ := h
  rw [e, ho] at n
  cases n
theorem Pot.neD {k : Nat} {H : Hp} {p l : Addr} {xs : List (Key × V)} (h : Pot k H p) (n : H l = some (.dK xs)) : l ≠ p := fun e => by
  obtain ⟨a, b, c, ho, _⟩ := h
  rw [e, ho] at n
  cases n
theorem Dr.start {k j : Nat} {H : Hp} {p : Addr} (h : Pot k H p) (e : j ≤ k) : Dr p j H H := ⟨Kp.refl _ _, h.mono e⟩
theorem Dr.trans {k j : Nat} {H H1 H2 : Hp} {p : Addr} (a : Dr p k H H1) (b : Dr p j H1 H2) : Dr p j H H2 := ⟨a.1.trans b.1, b.2⟩
theorem Dr.mono {k j : Nat} {H H1 : Hp} {p : Addr} (a : Dr p k H H1) (e : j ≤ k) : Dr p j H H1 := ⟨a.1, a.2.mono e⟩
theorem Dr.fr {k : Nat} {H H' : Hp} {p l : Addr} (d : Dr p k H H') (n : H' l = none) : H l = none := by
  cases e : H l with
  | none => rfl
  | some o =>
    rw [d.1 _ _ (d.2.ne n) e] at n
    cases n
theorem Dr.new {k : Nat} {H H1 : Hp} {p l : Addr} {o : HO} (d : Dr p k H H1) (n : H1 l = none) : Dr p k H (upd H1 l o) :=
  ⟨d.1.trans (Same.kp (same_new n)), d.2.same (same_new n)⟩
theorem Dr.mut {k : Nat} {H H1 : Hp} {p l : Addr} {o : HO} (d : Dr p k H H1) (n : H l = none) (e : l ≠ p) : Dr p k H (upd H1 l o) := by
  refine ⟨fun b x q h => ?_, ?_⟩
  · rw [upd_ne (ne_of_none h n)]
    exact d.1 b x q h
  · obtain ⟨a, b, c, h1, h2⟩ := d.2
    refine ⟨a, b, c, ?_, h2⟩
    rw [upd_ne e.symm]
    exact h1
theorem Dr.st {k : Nat} {H H1 : Hp} {p b : Addr} {o : HO} (d : Dr p k H H1) (n : b ≠ p) (h : H b = some o) : H1 b = some o := d.1 _ _ n h
section
variable {P : Program} {w : World} {K : PySem.W.Frag} {mg : Str → Option Value} {base : Heap}
def spOf (K : PySem.W.Frag) : Sp := fun vs H Q _ => ∃ (p l : Addr) (xs : List V) (k : Nat), vs = [.ref p, .ref l] ∧ Pot (k + 1) H p ∧ SqL K H l xs ∧ l ≠ p ∧ 0 < xs.length ∧ xs.length < 100000 ∧
  ∀ (i : Nat) (x : V) (H' : Hp), xs[i]? = some x → Dr p k H H' → Q x H'
theorem ok_l_of (T : Txt K mg) : FnOk P w K mg base CX0 2 T.f_l_of T.fd_l_of ["pot", "some"] (spOf K) := by
  refine T.F_l_of.ok sc_l_of (fun vs H Q E h => ?_) (fun cdv A outer s H vs Q E hr h => ?_)
  · obtain ⟨p, l, xs, k, rfl, _⟩ := h
    rfl
  · obtain ⟨p, l, xs, k, rfl, hP, hL, nlp, l0, l1, q⟩ := h
    refine ⟨_, (pss_one (ps_ret (pe_ix ix_list (pv 1) (pe_call (ok_l_take T) (hr.mono (by decide)) (by rfl) T.g_l_take T.F_l_take.kp T.b_l_take .nil pass0 (pa_cons (pv 0) (pa_cons (pe_callB call_len_seq (by rfl) T.n_len PySem.boot_len (pa_cons (pv 1) pa_nil)) pa_nil))) (fun _ _ => rfl)))), ?_⟩
    refine ⟨.ref l, rfl, .ref p, rfl, .ref l, rfl, l, _, rfl, .inl hL, ?_⟩
    refine ⟨p, xs.length, k, rfl, hP, by omega, by omega, fun r H' r0 r1 d => ?_⟩
    have hr1 : r.toNat < xs.length := by omega
    have hx : xs[r.toNat]? = some (xs[r.toNat]) := List.getElem?_eq_getElem hr1
    refine ⟨l, xs, (r.toNat : Int), _, rfl, congrArg V.int (by omega), d.1.seq nlp hL, atI_nat hx, q _ _ _ hx d⟩
theorem seq_nat {n k : Nat} (h : k < n) : seqIndex? (k : Int) n = some k := by
  have e0 : ¬ ((k : Int) < 0) := by omega
  have e1 : (k : Int) < (n : Int) := by omega
  have e2 : (0 : Int) ≤ (k : Int) := by omega
  simp only [seqIndex?, if_neg e0, e1, e2, decide_true, Bool.and_self, if_true, Int.toNat_natCast]
def spSome (K : PySem.W.Frag) : Sp := fun vs H Q _ => ∃ (p l : Addr) (xs : List V) (m k : Nat), vs = [.ref p, .ref l, .int (m : Int)] ∧ Pot (k + m) H p ∧ SqL K H l xs ∧ l ≠ p ∧ m ≤ xs.length ∧ xs.length < 1000 ∧
  ∀ (q : Addr) (ys zs : List V) (H' : Hp), ys.length = m → (ys ++ zs).Perm xs → Dr p k H H' → H q = none → q ≠ p → H' q = some (.lst ys) → Q (.ref q) H'
theorem perm_pop {α : Type} : ∀ {ls : List α} {k : Nat} {y : α}, ls[k]? = some y → (y :: ls.eraseIdx k).Perm ls
  | [], k, y, h => by simp at h
  | a :: r, 0, y, h => by
    have e : a = y := Option.some.inj h
    rw [e]
    exact List.Perm.refl _
  | a :: r, k + 1, y, h => by
    have ih := perm_pop (ls := r) (k := k) (y := y) h
    exact (List.Perm.swap a y _).trans (ih.cons a)
theorem ok_l_some (T : Txt K mg) : FnOk P w K mg base CX0 2 T.f_l_some T.fd_l_some ["pot", "pool", "many"] (spSome K) := by
  refine T.F_l_some.ok sc_l_some (fun vs H Q E h => ?_) (fun cdv A outer s H vs Q E hr h => ?_)
  · obtain ⟨p, l, xs, m, k, rfl, _⟩ := h
    rfl
  · obtain ⟨p, l, xs, m, k, rfl, hP, hL, nlp, hm, l1, q⟩ := h
    refine ⟨_, (pss_cons (ps_par (i := 3) (j := 4) (by rfl) sc_l_some.nd rfl rfl (by decide) rfl rfl (pa_cons (pe_callTy call_list_of (by rfl) T.n_list (by decide +kernel) (pa_cons (pv 1) pa_nil)) (pa_cons (pe_lst pa_nil) pa_nil)) (by rfl))
  (pss_cons (ps_for PassesOwn.never rfl (pi_range1 (by rfl) T.n_range (pa_cons (pv 2) pa_nil)) (pg_name (i := 5) sc_l_some.nd rfl (Or.inl rfl)) (pss_one (ps_expr (pe_bm PySem.F.plainAttrs_list PySem.F.slot_list_append PySem.F.type_list_append mt_append (pv 4) (pa_cons (pe_bm PySem.F.plainAttrs_list PySem.F.slot_list_pop PySem.F.type_list_pop mt_popAt (pv 3) (pa_cons (pe_call (ok_l_take T) (hr.mono (by decide)) (by rfl) T.g_l_take T.F_l_take.kp T.b_l_take .nil pass0 (pa_cons (pv 0) (pa_cons (pe_callB call_len_seq (by rfl) T.n_len PySem.boot_len (pa_cons (pv 3) pa_nil)) pa_nil))) pa_nil)) pa_nil)))))
  (pss_one (ps_ret (pv 4))))), ?_⟩
    refine ⟨.ref l, rfl, l, xs, rfl, .inl hL, fun e he => ?_⟩
    refine ⟨Nat.zero_le _, fun o ho => ?_⟩
    refine ⟨_, _, rfl, ?_⟩
    have ho' : H o = none := by
      cases z : H o with
      | none => rfl
      | some u =>
        rw [same_new he _ _ z] at ho
        cases ho
    have neo : o ≠ e := fun z => by
      rw [z, upd_same] at ho
      cases ho
    have nep : e ≠ p := hP.ne he
    have nop : o ≠ p := hP.ne ho'
    refine ⟨.int m, rfl, m, rfl, (by omega), (by omega), ?_⟩
    rw [show ((m : Int)).toNat = m from rfl]
    refine for_range (n := m) (fun i σ H' => ∃ (v : Option V) (ys ls : List V), σ = [some (.ref p), some (.ref l), some (.int m), some (.ref e), some (.ref o), v] ∧ i ≤ m ∧ Dr p (k + (m - i)) H H' ∧ H' e = some (.lst ls) ∧ H' o = some (.lst ys) ∧ (ys ++ ls).Perm xs ∧ ys.length = i)
      ⟨none, [], xs, rfl, Nat.zero_le _, ((Dr.start hP (by omega)).new he).new ho, by rw [upd_ne neo.symm, upd_same], upd_same, List.Perm.refl _, rfl⟩ ?_ ?_
    · rintro i σ H' hi ⟨v, ys, ls, rfl, _, d, h1, h2, pm, hl⟩
      have len := pm.length_eq
      rw [List.length_append] at len
      refine ⟨.ref o, rfl, .inl ⟨rfl, _, SqL.of h2⟩, .ref e, rfl, .inl ⟨rfl, _, SqL.of h1⟩, .ref p, rfl, .ref e, rfl, e, _, rfl, .inl (SqL.of h1), ?_⟩
      refine ⟨p, ls.length, k + (m - (i + 1)), rfl, d.2.mono (by omega), by omega, by omega, fun r H1 r0 r1 d1 => ?_⟩
      have hr1 : r.toNat < ls.length := by omega
      have hx : ls[r.toNat]? = some (ls[r.toNat]) := List.getElem?_eq_getElem hr1
      refine ⟨e, ls, r, r.toNat, _, rfl, rfl, d1.st nep h1, by omega, by omega, ?_, hx, ?_⟩
      · have z := seq_nat (n := ls.length) (k := r.toNat) hr1
        rw [show ((r.toNat : Nat) : Int) = r by omega] at z
        exact z
      refine ⟨o, ys, _, rfl, rfl, by rw [upd_ne neo]; exact d1.st nop h2, small1000 (by omega), ?_⟩
      refine ⟨_, ys ++ [ls[r.toNat]], ls.eraseIdx r.toNat, rfl, hi, (((d.trans d1).mut he nep).mut ho' nop), by rw [upd_ne neo.symm, upd_same], upd_same, ?_, by rw [List.length_append, hl]; rfl⟩
      rw [List.append_assoc]
      exact ((perm_pop hx).append_left ys).trans pm
    · rintro σ H' ⟨v, ys, ls, rfl, _, d, h1, h2, pm, hl⟩
      rw [Nat.sub_self] at d
      exact ⟨_, rfl, q o ys ls H' hl pm d ho' nop h2⟩
end
end OG
set_option Elab.async false
set_option linter.all false
set_option maxRecDepth 100000
set_option maxHeartbeats 4000000
namespace OG
open PySem PySem.Spec PyProof.Rows L2
def sgn (c : Nat) : V := .str ⟨#[c]⟩
def rListT : List V → Hp → VK → Prop := fun xs H Q => ∃ z : Str, xs = [.str z] ∧ z.length ≤ sizeLine ∧ ∀ q, H q = none → Q (.ref q) (upd H q (.lst (z.cps.toList.map sgn)))
theorem call_list_text {X : Cx} (hc : X.calm = true) : CallR X (.type "list") rListT := by
  intro pins s σ H xs us Q I r h
  obtain ⟨z, e, hz, q⟩ := h
  subst e
  obtain ⟨u, eu, rx⟩ := vals1 r
  subst eu
  obtain ⟨t, rfl⟩ := rx
  have hz' : z.cps.size ≤ sizeLine := hz
  refine PySem.call_list_str (hn := hz') (I.ok.hd hc) z t fun h' tk acc' c' hkeep hS hacc => ?_
  refine ⟨.ref s.heap.objs.size, upd H s.heap.objs.size (.lst (z.cps.toList.map sgn)), I.laid hkeep (Nat.le_refl _) (show ObjOk X.prog X.w _ _ _ (.lst (z.cps.toList.map sgn)) from ⟨?_, acc'.toList, c', ?_, ?_⟩), rfl, q _ (I.hok.fresh (Nat.le_refl _))⟩
  · rw [List.length_map, Array.length_toList]; exact hz'
  · have el : acc'.toList.length = acc'.size := by simp
    refine vals_of_at (by rw [List.length_map, el, hacc.1, Array.length_toList]) fun j x w h1 h2 => ?_
    have hi := hacc.2 j w (by rw [← Array.getElem?_toList]; exact h2)
    obtain ⟨c, u, hc1, rfl⟩ := hi
    rw [List.getElem?_map, Array.getElem?_toList, hc1] at h1
    have e1 : sgn c = x := Option.some.inj h1
    rw [← e1]
    exact ⟨u, rfl⟩
  · rw [Array.toArray_toList]; exact hS
end OG
set_option Elab.async false
set_option linter.all false
set_option maxRecDepth 100000
set_option maxHeartbeats 4000000
namespace OG
open PySem PySem.Spec PyProof.Rows L2
/-! names: mathematics -/
def mk (l : List Nat) : Str := ⟨l.toArray⟩
theorem mk_tl (l : List Nat) : (mk l).cps.toList = l := by simp [mk]
theorem mk_len (l : List Nat) : (mk l).length = l.length := by simp [mk, Str.length]
theorem tl_mk (z : Str) : mk z.cps.toList = z := by
  unfold mk
  rw [Array.toArray_toList]
theorem mk_inj {a b : List Nat} (h : mk a = mk b) : a = b := by
  have e := congrArg (fun z : Str => z.cps.toList) h
  simpa [mk] using e
theorem sgn_mk (c : Nat) : sgn c = .str (mk [c]) := rfl
theorem sgn_inj {a b : Nat} (h : sgn a = sgn b) : a = b := by
  have e := mk_inj (V.str.inj h)
  exact List.head_eq_of_cons_eq e
def abc : List Nat := [97, 98, 99, 100, 101, 102, 103, 104, 105, 106, 107, 108, 109, 110, 111, 112, 113, 114, 115, 116, 117, 118, 119, 120, 121, 122]
theorem abc_tl : ("abcdefghijklmnopqrstuvwxyz" : Str).cps.toList = abc := by decide +kernel
theorem map_sgn_pick : ∀ {ys : List V}, (∀ y ∈ ys, y ∈ abc.map sgn) → ∃ cs : List Nat, ys = cs.map sgn ∧ ∀ c ∈ cs, c ∈ abc
  | [], _ => ⟨[], rfl, fun _ h => by cases h⟩
  | y :: r, h => by
    obtain ⟨cs, e, k⟩ := map_sgn_pick (ys := r) fun z hz => h z (List.mem_cons_of_mem _ hz)
    obtain ⟨c, hc, hy⟩ := List.mem_map.mp (h y List.mem_cons_self)
    refine ⟨c :: cs, by rw [e, ← hy]; rfl, fun z hz => ?_⟩
    rcases List.mem_cons.mp hz with q | q
    · rw [q]; exact hc
    · exact k z q
theorem abc_nodup : (abc.map sgn).Nodup := by
  have h : abc.Nodup := by decide
  unfold List.Nodup at h ⊢
  rw [List.pairwise_map]
  exact h.imp fun n e => n (sgn_inj e)
theorem pick {ys zs : List V} (pm : (ys ++ zs).Perm (abc.map sgn)) : ∃ cs : List Nat, ys = cs.map sgn ∧ cs.Nodup ∧ ∀ c ∈ cs, c ∈ abc := by
  obtain ⟨cs, e, k⟩ := map_sgn_pick (ys := ys) fun y hy => pm.mem_iff.mp (List.mem_append_left _ hy)
  have nd : (ys ++ zs).Nodup := pm.nodup_iff.mpr abc_nodup
  have n1 : ys.Nodup := (List.nodup_append.mp nd).1
  rw [e] at n1
  refine ⟨cs, e, ?_, k⟩
  unfold List.Nodup at n1 ⊢
  rw [List.pairwise_map] at n1
  exact n1.imp fun n q => n (congrArg sgn q)
/-- a NAME of a book -/
def IsNm (z : Str) : Prop := 1 ≤ z.length ∧ z.length ≤ 4 ∧ ∀ c ∈ z.cps.toList, c ∈ abc
def nm (bs : List Nat) (at_ c : Nat) : List Nat := bs.take at_ ++ c :: bs.drop (at_ + 1)
theorem nm_len {bs : List Nat} {a c : Nat} (h : a < bs.length) : (nm bs a c).length = bs.length := by
  unfold nm
  rw [List.length_append, List.length_cons, List.length_take, List.length_drop]
  omega
theorem nm_at {bs : List Nat} {a c : Nat} (h : a < bs.length) : (nm bs a c)[a]? = some c := by
  unfold nm
  rw [List.getElem?_append_right (by rw [List.length_take]; omega), List.length_take, show a - min a bs.length = 0 by omega]
  rfl
theorem nm_mem {bs : List Nat} {a c z : Nat} (hb : ∀ x ∈ bs, x ∈ abc) (hc : c ∈ abc) (h : z ∈ nm bs a c) : z ∈ abc := by
  unfold nm at h
  rcases List.mem_append.mp h with h | h
  · exact hb _ (List.mem_of_mem_take h)
  · rcases List.mem_cons.mp h with h | h
    · rw [h]; exact hc
    · exact hb _ (List.mem_of_mem_drop h)
theorem nm_is {bs : List Nat} {a c : Nat} (hb : ∀ x ∈ bs, x ∈ abc) (hc : c ∈ abc) (h : a < bs.length) (h4 : bs.length ≤ 4) : IsNm (mk (nm bs a c)) := by
  refine ⟨?_, ?_, fun z hz => ?_⟩
  · rw [mk_len, nm_len h]; omega
  · rw [mk_len, nm_len h]; exact h4
  · rw [mk_tl] at hz
    exact nm_mem hb hc hz
theorem joinL_ones : ∀ l : List Nat, TL.joinL [] (l.map fun c => [c]) = l
  | [] => rfl
  | [_] => rfl
  | a :: b :: r => by
    show [a] ++ ([] ++ TL.joinL [] ((b :: r).map fun c => [c])) = a :: b :: r
    rw [joinL_ones (b :: r)]
    rfl
theorem join_ones (l : List Nat) : Txt.join "" (l.map fun c => mk [c]) = mk l := by
  have e := TL.tl_join "" (l.map fun c => mk [c])
  have e2 : (l.map fun c => mk [c]).map TL.tl = l.map fun c => [c] := by
    rw [List.map_map]
    rfl
  rw [e2] at e
  have e3 : TL.tl "" = [] := rfl
  rw [e3, joinL_ones] at e
  have e4 := (congrArg TL.tl (TL.join_eq "" (l.map fun c => mk [c]))).trans e
  exact TL.ext_tl (e4.trans (mk_tl l).symm)
theorem cut_to {xs : List V} {n : Nat} : cutV xs none (some (n : Int)) = xs.take n := by
  unfold cutV
  rw [HT.sIx_none, HT.sIx_nat, List.drop_zero, Nat.sub_zero]
  rw [List.take_eq_take_iff]
  omega
theorem cut_from {xs : List V} {n : Nat} : cutV xs (some (n : Int)) none = xs.drop n := by
  unfold cutV
  rw [HT.sIx_none, HT.sIx_nat]
  by_cases h : n ≤ xs.length
  · rw [Nat.min_eq_left h]
    exact List.take_of_length_le (by rw [List.length_drop]; exact Nat.le_refl _)
  · rw [Nat.min_eq_right (by omega), List.drop_eq_nil_of_le (Nat.le_refl _), List.drop_eq_nil_of_le (by omega)]
    simp
/-- what book_names tells -/
structure Nms (ns : List Str) (m : Nat) : Prop where
  len : ns.length = m
  nd : ns.Nodup
  is : ∀ z ∈ ns, IsNm z
theorem nms_of {cs : List Nat} {ns : List Str} {a : Nat} (h1 : cs.Nodup) (h2 : ns.length = cs.length) (h3 : ∀ (i : Nat) (z : Str), ns[i]? = some z → z.cps.toList[a]? = cs[i]?) (h4 : ∀ z ∈ ns, IsNm z) : Nms ns cs.length := by
  refine ⟨h2, ?_, h4⟩
  have e : ns.map (fun z => z.cps.toList[a]?) = cs.map some := by
    refine List.ext_getElem? fun i => ?_
    rw [List.getElem?_map, List.getElem?_map]
    cases q : ns[i]? with
    | none =>
      have q1 : cs[i]? = none := by
        rw [List.getElem?_eq_none_iff] at q ⊢
        omega
      rw [q1]
      rfl
    | some z =>
      have q1 : i < cs.length := by
        have := (List.getElem?_eq_some_iff.mp q).1
        omega
      show some (z.cps.toList[a]?) = _
      rw [h3 i z q, List.getElem?_eq_getElem q1]
      rfl
  have n2 : (ns.map (fun z => z.cps.toList[a]?)).Nodup := by
    rw [e]
    unfold List.Nodup at h1 ⊢
    rw [List.pairwise_map]
    exact h1.imp fun n q => n (Option.some.inj q)
  unfold List.Nodup at n2 ⊢
  rw [List.pairwise_map] at n2
  exact n2.imp fun n q => n (congrArg (fun z : Str => z.cps.toList[a]?) q)
end OG
set_option Elab.async false
set_option linter.all false
set_option maxRecDepth 100000
set_option maxHeartbeats 4000000
namespace OG
open PySem PySem.Spec PyProof.Rows L2
section
variable {P : Program} {w : World} {K : PySem.W.Frag} {mg : Str → Option Value} {base : Heap}
def spNames : Sp := fun vs H Q _ => ∃ (p : Addr) (m k : Nat), vs = [.ref p, .int (m : Int)] ∧ Pot (k + 100) H p ∧ m ≤ 5 ∧
  ∀ (q : Addr) (ns : List Str) (H' : Hp), Nms ns m → Dr p k H H' → H q = none → q ≠ p → H' q = some (.tup (ns.map V.str)) → Q (.ref q) H'
theorem ne_new {H : Hp} {p l : Addr} {o : HO} (h : (upd H l o) p = none) : p ≠ l := fun z => by
  rw [z, upd_same] at h
  cases h
theorem ok_l_book_names (T : Txt K mg) : FnOk P w K mg base CX0 3 T.f_l_book_names T.fd_l_book_names ["pot", "many"] (spNames) := by
  refine T.F_l_book_names.ok sc_l_book_names (fun vs H Q E h => ?_) (fun cdv A outer s H vs Q E hr h => ?_)
  · obtain ⟨p, m, k, rfl, _⟩ := h
    rfl
  · obtain ⟨p, m, k, rfl, hP, hm, q⟩ := h
    refine ⟨_, (pss_cons (ps_par (i := 2) (j := 3) (by rfl) sc_l_book_names.nd rfl rfl (by decide) rfl rfl (pa_cons (pe_call (ok_l_take T) (hr.mono (by decide)) (by rfl) T.g_l_take T.F_l_take.kp T.b_l_take .nil pass0 (pa_cons (pv 0) (pa_cons pe_int pa_nil))) (pa_cons (pe_cmpR op_eq (pe_call (ok_l_take T) (hr.mono (by decide)) (by rfl) T.g_l_take T.F_l_take.kp T.b_l_take .nil pass0 (pa_cons (pv 0) (pa_cons pe_int pa_nil))) pe_int (nomark _)) pa_nil)) (by rfl))
  (pss_cons (ps_set (i := 4) sc_l_book_names.nd rfl (Or.inr rfl) (pe_callTy (call_list_text rfl) (by rfl) T.n_list (by decide +kernel) (pa_cons pe_str pa_nil)))
  (pss_cons (ps_par (i := 5) (j := 6) (by rfl) sc_l_book_names.nd rfl rfl (by decide) rfl rfl (pa_cons (pe_call (ok_l_some T) (hr.mono (by decide)) (by rfl) T.g_l_some T.F_l_some.kp T.b_l_some .nil pass0 (pa_cons (pv 0) (pa_cons (pv 4) (pa_cons (pv 1) pa_nil)))) (pa_cons (pe_op op_add (pe_op op_add (pv 2) pe_int) (pe_call (ok_l_take T) (hr.mono (by decide)) (by rfl) T.g_l_take T.F_l_take.kp T.b_l_take .nil pass0 (pa_cons (pv 0) (pa_cons (pe_op op_sub pe_int (pv 2)) pa_nil)))) pa_nil)) (by rfl))
  (pss_cons (ps_par (i := 7) (j := 8) (by rfl) sc_l_book_names.nd rfl rfl (by decide) rfl rfl (pa_cons (pe_lc (own := [("lap", 10)]) (g := gName 10) (by rfl) sc_l_book_names.nd (pi_range1 (by rfl) T.n_range (pa_cons (pv 6) pa_nil)) (blkOk_by (own := [("lap", 10)]) (by rfl)) (fun _ _ _ _ _ => (pg_name (i := 10) sc_l_book_names.nd rfl (Or.inl rfl))) (fun _ _ _ _ _ => pts_nil) (fun _ _ _ _ _ => (pe_call (ok_l_of T) (hr.mono (by decide)) (by rfl) T.g_l_of T.F_l_of.kp T.b_l_of .nil pass0 (pa_cons (pv 0) (pa_cons (pv 4) pa_nil))))) (pa_cons (pe_lst pa_nil) pa_nil)) (by rfl))
  (pss_cons (ps_for PassesOwn.never rfl (pi_list (pv 5)) (pg_name (i := 9) sc_l_book_names.nd rfl (Or.inl rfl)) (pss_cons (ps_if (pt_not (pt_val (pv 3))) (pss_one (ps_setLc (i := 7) (own := [("lap", 10)]) (g := gName 10) (by rfl) sc_l_book_names.nd rfl rfl (sw_true rfl rfl rfl (by decide +kernel)) (pi_range1 (by rfl) T.n_range (pa_cons (pe_op op_add (pe_op op_add (pv 2) pe_int) (pe_call (ok_l_take T) (hr.mono (by decide)) (by rfl) T.g_l_take T.F_l_take.kp T.b_l_take .nil pass0 (pa_cons (pv 0) (pa_cons (pe_op op_sub pe_int (pv 2)) pa_nil)))) pa_nil)) (blkOk_by (own := [("lap", 10)]) (by rfl)) (fun _ _ _ _ _ => (pg_name (i := 10) sc_l_book_names.nd rfl (Or.inl rfl))) (fun _ _ _ _ _ => pts_nil) (fun _ _ _ _ _ => (pe_call (ok_l_of T) (hr.mono (by decide)) (by rfl) T.g_l_of T.F_l_of.kp T.b_l_of .nil pass0 (pa_cons (pv 0) (pa_cons (pv 4) pa_nil)))))) pss_nil)
  (pss_one (ps_expr (pe_bm PySem.F.plainAttrs_list PySem.F.slot_list_append PySem.F.type_list_append mt_append (pv 8) (pa_cons (pe_join pe_str (pe_op op_cat (pe_op op_cat (pe_slice sl_list (pv 7) po_none (po_some (pv 2))) (pe_lst (pa_cons (pv 9) pa_nil))) (pe_slice sl_list (pv 7) (po_some (pe_op op_add (pv 2) pe_int)) po_none))) pa_nil))))))
  (pss_one (ps_ret (pe_callTy call_tuple_of (by rfl) T.n_tuple (by decide +kernel) (pa_cons (pv 8) pa_nil))))))))), ?_⟩
    refine ⟨.ref p, rfl, p, 4, k + 99, rfl, hP, by decide, by decide, fun ai H1 a0 a1 d1 => ?_⟩
    refine ⟨.ref p, rfl, p, 2, k + 98, rfl, d1.2, by decide, by decide, fun r2 H2 _ _ d2 => ?_⟩
    refine ⟨rfl, _, _, rfl, ?_⟩
    have d2 := d1.trans d2
    obtain ⟨a, rfl⟩ : ∃ a : Nat, ai = (a : Int) := ⟨ai.toNat, by omega⟩
    generalize decide (V.int r2 = V.int 0) = alike
    refine ⟨_, rfl, by decide, fun lt hlt => ?_⟩
    rw [abc_tl]
    have d3 := d2.new (o := .lst (abc.map sgn)) hlt
    have nlp : lt ≠ p := d2.2.ne hlt
    refine ⟨.ref p, rfl, .ref lt, rfl, .int m, rfl, p, lt, abc.map sgn, m, k + 93, rfl, d3.2.mono (by omega), SqL.of upd_same, nlp, Nat.le_trans hm (by decide), by decide, fun tq ys zs H4 hl pm d4 ntq nqp htq => ?_⟩
    obtain ⟨cs, rfl, nd, hcs⟩ := pick pm
    rw [List.length_map] at hl
    have d34 := d3.trans d4
    refine ⟨.int a, rfl, _, _, rfl, rfl, .ref p, rfl, .int a, rfl, _, _, rfl, rfl, p, 4 - (a : Int), k + 92, rfl, d4.2, by omega, by omega, fun b H5 b0 b1 d5 => ?_⟩
    refine ⟨_, _, rfl, rfl, _, _, rfl, ?_⟩
    obtain ⟨n, hn⟩ : ∃ n : Nat, (a : Int) + 1 + b = (n : Int) := ⟨((a : Int) + 1 + b).toNat, by omega⟩
    have hn4 : a < n ∧ n ≤ 4 := by omega
    have hlt5 : H5 lt = some (.lst (abc.map sgn)) := d5.st nlp (d4.st nlp upd_same)
    have htq5 : H5 tq = some (.lst (cs.map sgn)) := d5.st nqp htq
    refine ⟨_, rfl, (n : Int), congrArg (fun z => [V.int z]) hn, (by omega), (by omega), fun D hD => ?_⟩
    have d05 := d34.trans d5
    refine lc_range (lo := 0) (n := n) (fun i H' => i ≤ n ∧ Dr p (k + 92 - i) H5 H' ∧ ∃ bs : List Nat, H' D = some (.lst (bs.map sgn)) ∧ bs.length = i ∧ ∀ c ∈ bs, c ∈ abc) ⟨Nat.zero_le _, (Dr.start d5.2 (by omega)).new hD, [], upd_same, rfl, fun _ h => by cases h⟩ ?_ ?_
    · rintro i H' hi ⟨_, d6, bs, hbs, hbl, hba⟩
      refine ⟨rfl, ?_⟩
      have nDp : D ≠ p := d5.2.ne hD
      refine ⟨.ref p, rfl, .ref lt, rfl, p, lt, abc.map sgn, k + 92 - (i + 1), rfl, d6.2.mono (by omega), SqL.of (d6.st nlp hlt5), nlp, by decide, by decide, fun j x H7 hx d7 => ?_⟩
      rw [List.getElem?_map] at hx
      cases e : abc[j]? with
      | none =>
        rw [e] at hx
        cases hx
      | some c =>
        rw [e] at hx
        have ex : sgn c = x := Option.some.inj hx
        refine ⟨bs.map sgn, d7.st nDp hbs, by rw [List.length_map]; exact small1000 (by omega), hi, (d6.trans d7).mut hD nDp, bs ++ [c], ?_, by rw [List.length_append, hbl]; rfl, fun z hz => ?_⟩
        · rw [upd_same, List.map_append, ← ex]
          rfl
        · rcases List.mem_append.mp hz with z1 | z1
          · exact hba _ z1
          · rw [List.mem_singleton.mp z1]
            exact List.mem_of_getElem? e
    · rintro H6 ⟨_, d6, bs, hbs, hbl, hba⟩
      have nDp : D ≠ p := d5.2.ne hD
      refine ⟨Nat.zero_le _, fun F hF => ?_⟩
      refine ⟨_, _, rfl, ?_⟩
      have hF5 : H5 F = none := d6.fr hF
      have nFp : F ≠ p := d6.2.ne hF
      have nDF : D ≠ F := ne_of_none hbs hF
      refine ⟨.ref tq, rfl, tq, rfl, ⟨_, SqL.of (by rw [upd_ne (ne_of_none (d6.st nqp htq5) hF)]; exact d6.st nqp htq5)⟩, ?_⟩
      refine for_list (K := K) (a := tq) (xs := cs.map sgn) (fun i σ H' => ∃ (D : Addr) (bs : List Nat) (v9 v10 : Option V) (ns : List Str), σ = [some (.ref p), some (.int m), some (.int a), some (.bl alike), some (.ref lt), some (.ref tq), some (.int ((a : Int) + 1 + b)), some (.ref D), some (.ref F), v9, v10] ∧ i ≤ m ∧ Dr p (k + 60 - 10 * i) H5 H' ∧
          H' D = some (.lst (bs.map sgn)) ∧ D ≠ p ∧ H5 D = none ∧ D ≠ F ∧ a < bs.length ∧ bs.length ≤ 4 ∧ (∀ c ∈ bs, c ∈ abc) ∧ H' F = some (.lst (ns.map V.str)) ∧ ns.length = i ∧ (∀ (j : Nat) (z : Str), ns[j]? = some z → z.cps.toList[a]? = cs[j]?) ∧ ∀ z ∈ ns, IsNm z)
        ⟨D, bs, none, none, [], rfl, Nat.zero_le _, (d6.new hF).mono (by omega), by rw [upd_ne nDF]; exact hbs, nDp, hD, nDF, by omega, by omega, hba, upd_same, rfl, fun j z h => by simp at h, fun _ h => by cases h⟩ ?_ ?_ ?_
      · rintro i σ H' _ ⟨D, bs, v9, v10, ns, rfl, _, d, _⟩
        exact SqL.of (d.st nqp htq5)
      · rintro i x σ H' hx ⟨D, bs, v9, v10, ns, rfl, hi, d, hD, nDp, nD5, nDF, ha, hb4, hba, hF, hnl, hnat, hnis⟩
        obtain ⟨c, hci, rfl⟩ : ∃ c, cs[i]? = some c ∧ x = sgn c := by
          rw [List.getElem?_map] at hx
          cases e : cs[i]? with
          | none =>
            rw [e] at hx
            cases hx
          | some c =>
            rw [e] at hx
            exact ⟨c, rfl, (Option.some.inj hx).symm⟩
        have hi5 : i < m := by
          have := (List.getElem?_eq_some_iff.mp hci).1
          omega
        refine ⟨_, rfl, alike, rfl, ?_⟩
        refine ite2 (fun _ => ?_) (fun _ => ?_)
        · -- base = [_law_of(pot, letters) for lap in range(at + 1 + _law_take(pot, 4 - at))]
          refine ⟨.int a, rfl, _, _, rfl, rfl, .ref p, rfl, .int a, rfl, _, _, rfl, rfl, p, 4 - (a : Int), k + 60 - 10 * i - 1, rfl, d.2.mono (by omega), by omega, by omega, fun b2 H8 c0 c1 d8 => ?_⟩
          obtain ⟨n2, hn2⟩ : ∃ n : Nat, (a : Int) + 1 + b2 = (n : Int) := ⟨((a : Int) + 1 + b2).toNat, by omega⟩
          have hn24 : a < n2 ∧ n2 ≤ 4 := by omega
          have d58 := d.trans d8
          have hlt8 : H8 lt = some (.lst (abc.map sgn)) := d58.st nlp hlt5
          have hF8 : H8 F = some (.lst (ns.map V.str)) := d8.st nFp hF
          refine ⟨_, _, rfl, rfl, (n2 : Int), congrArg (fun z => [V.int z]) hn2, (by omega), (by omega), fun D2 hD2 => ?_⟩
          have nDp2 : D2 ≠ p := d8.2.ne hD2
          have nDF2 : D2 ≠ F := fun z => by
            rw [z, hF8] at hD2
            cases hD2
          have nD25 : H5 D2 = none := d58.fr hD2
          refine lc_range (lo := 0) (n := n2) (fun i2 H' => i2 ≤ n2 ∧ Dr p (k + 60 - 10 * i - 1 - i2) H8 H' ∧ ∃ bs : List Nat, H' D2 = some (.lst (bs.map sgn)) ∧ bs.length = i2 ∧ ∀ c ∈ bs, c ∈ abc) ⟨Nat.zero_le _, (Dr.start d8.2 (by omega)).new hD2, [], upd_same, rfl, fun _ h => by cases h⟩ ?_ ?_
          · rintro i2 H' hi2 ⟨_, d6, bs, hbs, hbl, hba⟩
            refine ⟨rfl, ?_⟩
            refine ⟨.ref p, rfl, .ref lt, rfl, p, lt, abc.map sgn, k + 60 - 10 * i - 1 - (i2 + 1), rfl, d6.2.mono (by omega), SqL.of (d6.st nlp hlt8), nlp, by decide, by decide, fun j x H7 hx d7 => ?_⟩
            rw [List.getElem?_map] at hx
            cases e : abc[j]? with
            | none =>
              rw [e] at hx
              cases hx
            | some c =>
              rw [e] at hx
              have ex : sgn c = x := Option.some.inj hx
              refine ⟨bs.map sgn, d7.st nDp2 hbs, by rw [List.length_map]; exact small1000 (by omega), hi2, (d6.trans d7).mut hD2 nDp2, bs ++ [c], ?_, by rw [List.length_append, hbl]; rfl, fun z hz => ?_⟩
              · rw [upd_same, List.map_append, ← ex]
                rfl
              · rcases List.mem_append.mp hz with z1 | z1
                · exact hba _ z1
                · rw [List.mem_singleton.mp z1]
                  exact List.mem_of_getElem? e
          rintro H9 ⟨_, d9, bs2, hbs2, hbl2, hba2⟩
          have d59 := d58.trans d9
          have hF9 : H9 F = some (.lst (ns.map V.str)) := d9.st nFp hF8
          have ha2 : a < bs2.length := by omega
          have hb42 : bs2.length ≤ 4 := by omega
          · refine ⟨.ref F, rfl, .inl ⟨rfl, _, SqL.of hF9⟩, ⟨_, rfl⟩, .ref D2, rfl, .int a, rfl, a, rfl, D2, _, rfl, SqL.of hbs2, fun e1 he1 => ?_⟩
            refine ⟨sgn c, rfl, (by show 1 ≤ sizeLine; decide), fun e2 he2 => ?_⟩
            refine ⟨e1, e2, _, _, rfl, rfl, by rw [upd_ne (ne_new he2).symm, upd_same], upd_same, ?_, fun e3 he3 => ?_⟩
            · rw [cut_to]
              show ((bs2.map sgn).take a).length + 1 ≤ sizeLine
              rw [List.length_take, List.length_map]
              exact Nat.le_trans (show _ ≤ 100 by omega) (by decide)
            have s3 := ((same_new (o := .lst (cutV (bs2.map sgn) none (some (a : Int)))) he1).trans (same_new (o := .lst [sgn c]) he2)).trans (same_new (o := .lst (cutV (bs2.map sgn) none (some (a : Int)) ++ [sgn c])) he3)
            refine ⟨.ref D2, rfl, .int a, rfl, _, _, rfl, rfl, _, rfl, D2, _, rfl, SqL.of (s3 _ _ hbs2), fun e4 he4 => ?_⟩
            refine ⟨e3, e4, _, _, rfl, rfl, by rw [upd_ne (ne_new he4).symm, upd_same], upd_same, ?_, fun e5 he5 => ?_⟩
            · rw [cut_to, show ((a : Int) + 1) = ((a + 1 : Nat) : Int) by omega, cut_from, List.length_append, List.length_take, List.length_drop, List.length_map]
              show min a bs2.length + 1 + _ ≤ _
              exact Nat.le_trans (show _ ≤ 100 by omega) (by decide)
            have s5 := (s3.trans (same_new (o := .lst (cutV (bs2.map sgn) (some ((a : Int) + 1)) none)) he4)).trans (same_new (o := .lst (cutV (bs2.map sgn) none (some (a : Int)) ++ [sgn c] ++ cutV (bs2.map sgn) (some ((a : Int) + 1)) none)) he5)
            have en : cutV (bs2.map sgn) none (some (a : Int)) ++ [sgn c] ++ cutV (bs2.map sgn) (some ((a : Int) + 1)) none = ((nm bs2 a c).map fun c => mk [c]).map V.str := by
              rw [cut_to, show ((a : Int) + 1) = ((a + 1 : Nat) : Int) by omega, cut_from, List.map_map]
              unfold nm
              rw [List.map_append, List.map_cons, List.map_take, List.map_drop, List.append_assoc]
              rfl
            refine ⟨_, e5, (nm bs2 a c).map fun c => mk [c], rfl, rfl, .inl (SqL.of (by rw [upd_same, en])), ?_, ?_⟩
            · have l1 : ((nm bs2 a c).map fun c => mk [c]).map (·.length) = (nm bs2 a c).map fun _ => 1 := by
                rw [List.map_map]
                rfl
              rw [l1, List.map_const', List.sum_replicate_nat, List.length_map, nm_len ha2]
              show bs2.length * 1 + bs2.length * 0 ≤ 16777216
              omega
            refine ⟨F, _, _, rfl, rfl, s5 _ _ hF9, by rw [List.length_map]; exact small1000 (by omega), ?_⟩
            refine ⟨D2, bs2, _, _, ns ++ [mk (nm bs2 a c)], rfl, by omega, ?_, ?_, nDp2, nD25, nDF2, ha2, hb42, hba2, ?_, by rw [List.length_append, hnl]; rfl, ?_, ?_⟩
            · exact Dr.mono (Dr.mut ⟨d59.1.trans (Same.kp s5), d59.2.same s5⟩ hF5 nFp) (by omega)
            · rw [upd_ne nDF2]
              exact s5 _ _ hbs2
            · rw [upd_same, List.map_append, join_ones]
              rfl
            · intro j z hz
              by_cases hj : j < ns.length
              · rw [List.getElem?_append_left hj] at hz
                exact hnat j z hz
              · rw [List.getElem?_append_right (by omega)] at hz
                have hj0 : j - ns.length = 0 := by
                  have := (List.getElem?_eq_some_iff.mp hz).1
                  simp only [List.length_singleton] at this
                  omega
                rw [hj0] at hz
                have ez : mk (nm bs2 a c) = z := Option.some.inj hz
                rw [← ez, mk_tl, nm_at ha2, show j = i by omega, hci]
            · intro z hz
              rcases List.mem_append.mp hz with z1 | z1
              · exact hnis z z1
              · rw [List.mem_singleton.mp z1]
                exact nm_is hba2 (hcs _ (List.mem_of_getElem? hci)) ha2 hb42
        · refine ⟨.ref F, rfl, .inl ⟨rfl, _, SqL.of hF⟩, ⟨_, rfl⟩, .ref D, rfl, .int a, rfl, a, rfl, D, _, rfl, SqL.of hD, fun e1 he1 => ?_⟩
          refine ⟨sgn c, rfl, (by show 1 ≤ sizeLine; decide), fun e2 he2 => ?_⟩
          refine ⟨e1, e2, _, _, rfl, rfl, by rw [upd_ne (ne_new he2).symm, upd_same], upd_same, ?_, fun e3 he3 => ?_⟩
          · rw [cut_to]
            show ((bs.map sgn).take a).length + 1 ≤ sizeLine
            rw [List.length_take, List.length_map]
            exact Nat.le_trans (show _ ≤ 100 by omega) (by decide)
          have s3 := ((same_new (o := .lst (cutV (bs.map sgn) none (some (a : Int)))) he1).trans (same_new (o := .lst [sgn c]) he2)).trans (same_new (o := .lst (cutV (bs.map sgn) none (some (a : Int)) ++ [sgn c])) he3)
          refine ⟨.ref D, rfl, .int a, rfl, _, _, rfl, rfl, _, rfl, D, _, rfl, SqL.of (s3 _ _ hD), fun e4 he4 => ?_⟩
          refine ⟨e3, e4, _, _, rfl, rfl, by rw [upd_ne (ne_new he4).symm, upd_same], upd_same, ?_, fun e5 he5 => ?_⟩
          · rw [cut_to, show ((a : Int) + 1) = ((a + 1 : Nat) : Int) by omega, cut_from, List.length_append, List.length_take, List.length_drop, List.length_map]
            show min a bs.length + 1 + _ ≤ _
            exact Nat.le_trans (show _ ≤ 100 by omega) (by decide)
          have s5 := (s3.trans (same_new (o := .lst (cutV (bs.map sgn) (some ((a : Int) + 1)) none)) he4)).trans (same_new (o := .lst (cutV (bs.map sgn) none (some (a : Int)) ++ [sgn c] ++ cutV (bs.map sgn) (some ((a : Int) + 1)) none)) he5)
          have en : cutV (bs.map sgn) none (some (a : Int)) ++ [sgn c] ++ cutV (bs.map sgn) (some ((a : Int) + 1)) none = ((nm bs a c).map fun c => mk [c]).map V.str := by
            rw [cut_to, show ((a : Int) + 1) = ((a + 1 : Nat) : Int) by omega, cut_from, List.map_map]
            unfold nm
            rw [List.map_append, List.map_cons, List.map_take, List.map_drop, List.append_assoc]
            rfl
          refine ⟨_, e5, (nm bs a c).map fun c => mk [c], rfl, rfl, .inl (SqL.of (by rw [upd_same, en])), ?_, ?_⟩
          · have l1 : ((nm bs a c).map fun c => mk [c]).map (·.length) = (nm bs a c).map fun _ => 1 := by
              rw [List.map_map]
              rfl
            rw [l1, List.map_const', List.sum_replicate_nat, List.length_map, nm_len ha]
            show bs.length * 1 + bs.length * 0 ≤ 16777216
            omega
          refine ⟨F, _, _, rfl, rfl, s5 _ _ hF, by rw [List.length_map]; exact small1000 (by omega), ?_⟩
          refine ⟨D, bs, _, _, ns ++ [mk (nm bs a c)], rfl, by omega, ?_, ?_, nDp, nD5, nDF, ha, hb4, hba, ?_, by rw [List.length_append, hnl]; rfl, ?_, ?_⟩
          · exact Dr.mono (Dr.mut ⟨d.1.trans (Same.kp s5), d.2.same s5⟩ hF5 nFp) (by omega)
          · rw [upd_ne nDF]
            exact s5 _ _ hD
          · rw [upd_same, List.map_append, join_ones]
            rfl
          · intro j z hz
            by_cases hj : j < ns.length
            · rw [List.getElem?_append_left hj] at hz
              exact hnat j z hz
            · rw [List.getElem?_append_right (by omega)] at hz
              have hj0 : j - ns.length = 0 := by
                have := (List.getElem?_eq_some_iff.mp hz).1
                simp only [List.length_singleton] at this
                omega
              rw [hj0] at hz
              have ez : mk (nm bs a c) = z := Option.some.inj hz
              rw [← ez, mk_tl, nm_at ha, show j = i by omega, hci]
          · intro z hz
            rcases List.mem_append.mp hz with z1 | z1
            · exact hnis z z1
            · rw [List.mem_singleton.mp z1]
              exact nm_is hba (hcs _ (List.mem_of_getElem? hci)) ha hb4
      · rintro σ H' ⟨D, bs, v9, v10, ns, rfl, hi, d, hD, nDp, nD5, nDF, ha, hb4, hba, hF, hnl, hnat, hnis⟩
        refine ⟨.ref F, rfl, F, _, rfl, .inl ⟨SqL.of hF, fun tq2 htq2 => ?_⟩⟩
        rw [List.length_map] at hnl d
        have hms := nms_of nd hnl hnat hnis
        rw [hl] at hms
        exact q tq2 ns _ hms ((d05.trans (d.mono (by omega))).new htq2) (d05.fr (d.fr htq2)) ((d05.trans d).2.ne htq2) upd_same
end
end OG
set_option Elab.async false
set_option linter.all false
set_option maxRecDepth 100000
set_option maxHeartbeats 4000000
namespace OG
open PySem PySem.Spec PyProof.Rows L2
theorem lc_drawn {p : Addr} {m : Nat} {H5 : Hp} {D : Addr} {te : TE} {sl : Nat} {σ : L2.St} {Qd : Hp → Prop} (b : Nat → Nat) (R : V → Prop) (hP : Pot (b 0) H5 p) (hD : H5 D = none) (hm : m ≤ 1000)
    (hte : ∀ (i : Nat) (H' : Hp) (Q : VK), i < m → Dr p (b i) H5 H' → (∀ x H4, R x → Dr p (b (i + 1)) H' H4 → Q x H4) → te ((wipe σ [sl]).set sl (some (.int (0 + (i : Int))))) H' Q)
    (hw : ∀ v : Option V, wipe ((wipe σ [sl]).set sl v) [sl] = wipe σ [sl])
    (hd : ∀ (H6 : Hp) (xs : List V), xs.length = m → (∀ x ∈ xs, R x) → Dr p (b m) H5 H6 → H6 D = some (.lst xs) → Qd H6) :
    ∃ W : Nat → Nat → Hp → Prop, (∃ m, W 0 m (upd H5 D (.lst []))) ∧ ∀ i n H, W i n H →
      ((Itr 0 m).stop i H ∧ Qd H) ∨ ((Itr 0 m).go i H ∧ ∃ Nx : Hp → Prop, (∀ H', Nx H' → ∃ m', m' < n ∧ W (i + 1) m' H') ∧ ∀ x H', (Itr 0 m).yld i H x H' → gName sl x (wipe σ [sl]) H' fun σ2 H2 => wipe σ2 [sl] = wipe σ [sl] ∧ tYes σ2 H2 fun b H3 =>
        if b = true then te σ2 H3 fun y H4 => ∃ acc, H4 D = some (.lst acc) ∧ acc.length < sizeLine ∧ Nx (upd H4 D (.lst (acc ++ [y]))) else Nx H3) := by
  have nDp : D ≠ p := hP.ne hD
  refine lc_range (lo := 0) (n := m) (fun i H' => i ≤ m ∧ Dr p (b i) H5 H' ∧ ∃ xs : List V, H' D = some (.lst xs) ∧ xs.length = i ∧ ∀ x ∈ xs, R x) ⟨Nat.zero_le _, (Dr.start hP (Nat.le_refl _)).new hD, [], upd_same, rfl, fun _ h => by cases h⟩ ?_ ?_
  · rintro i H' hi ⟨_, d, xs, h1, h2, h3⟩
    refine ⟨hw _, ?_⟩
    refine hte i H' _ hi d fun x H4 hx d4 => ?_
    refine ⟨xs, d4.st nDp h1, small1000 (by omega), hi, (d.trans d4).mut hD nDp, xs ++ [x], upd_same, by rw [List.length_append, h2]; rfl, fun z hz => ?_⟩
    rcases List.mem_append.mp hz with q | q
    · exact h3 z q
    · rw [List.mem_singleton.mp q]
      exact hx
  · rintro H6 ⟨_, d, xs, h1, h2, h3⟩
    exact hd H6 xs h2 h3 d h1
theorem ints_of {P : Int → Prop} : ∀ {xs : List V}, (∀ x ∈ xs, ∃ z, x = V.int z ∧ P z) → ∃ zs : List Int, xs = zs.map V.int ∧ ∀ z ∈ zs, P z
  | [], _ => ⟨[], rfl, fun _ h => by cases h⟩
  | x :: r, h => by
    obtain ⟨zs, e, k⟩ := ints_of (xs := r) fun y hy => h y (List.mem_cons_of_mem _ hy)
    obtain ⟨z, ez, pz⟩ := h x List.mem_cons_self
    refine ⟨z :: zs, by rw [e, ez]; rfl, fun y hy => ?_⟩
    rcases List.mem_cons.mp hy with q | q
    · rw [q]; exact pz
    · exact k y q
def WOk (b w : Int) : Prop := w ≠ 0 ∧ -1000000000000 ≤ w ∧ w ≤ 1000000000000 ∧ (0 < b → 0 < w ∧ w < b)
theorem sum_bd : ∀ {zs : List Int}, (∀ z ∈ zs, -3 ≤ z ∧ z ≤ 3) → -(3 * (zs.length : Int)) ≤ zs.sum ∧ zs.sum ≤ 3 * (zs.length : Int)
  | [], _ => by simp
  | x :: r, h => by
    have ih := sum_bd (zs := r) fun y hy => h y (List.mem_cons_of_mem _ hy)
    have hx := h x List.mem_cons_self
    rw [List.sum_cons, List.length_cons]
    omega
end OG
set_option Elab.async false
set_option linter.all false
set_option maxRecDepth 100000
set_option maxHeartbeats 4000000
namespace OG
open PySem PySem.Spec PyProof.Rows L2
section
variable {P : Program} {w : World} {K : PySem.W.Frag} {mg : Str → Option Value} {base : Heap}
def spWeights : Sp := fun vs H Q _ => ∃ (p : Addr) (b : Int) (m k : Nat) (ab : Bool), vs = [.ref p, .int b, .int (m : Int), .bl ab] ∧ Pot (k + 20) H p ∧ m ≤ 5 ∧ 1 ≤ m ∧ 0 ≤ b ∧ b ≠ 1 ∧ b ≤ 97 ∧
  ∀ (q : Addr) (ws : List Int) (H' : Hp), ws.length = m → (∀ z ∈ ws, WOk b z) → Dr p k H H' → H q = none → q ≠ p → H' q = some (.tup (ws.map V.int)) → Q (.ref q) H'
theorem rep_ones : ∀ m : Nat, (List.replicate m [V.int 1]).flatten = (List.replicate m (1 : Int)).map V.int
  | 0 => rfl
  | m + 1 => by
    rw [List.replicate_succ, List.flatten_cons, rep_ones m, List.replicate_succ]
    rfl
theorem at_of {xs : List Int} {i : Nat} {x : V} (h : (xs.map V.int)[i]? = some x) : ∃ z, z ∈ xs ∧ x = .int z := by
  rw [List.getElem?_map] at h
  cases e : xs[i]? with
  | none =>
    rw [e] at h
    cases h
  | some z =>
    rw [e] at h
    exact ⟨z, List.mem_of_getElem? e, (Option.some.inj h).symm⟩
theorem ok_l_book_weights (T : Txt K mg) : FnOk P w K mg base CX0 3 T.f_l_book_weights T.fd_l_book_weights ["pot", "by", "many", "is_above"] (spWeights) := by
  refine T.F_l_book_weights.ok sc_l_book_weights (fun vs H Q E h => ?_) (fun cdv A outer s H vs Q E hr h => ?_)
  · obtain ⟨p, b, m, k, ab, rfl, _⟩ := h
    rfl
  · obtain ⟨p, b, m, k, ab, rfl, hP, hm, hm1, b0, bn1, b97, q⟩ := h
    refine ⟨_, (pss_cons (ps_set (i := 4) sc_l_book_weights.nd rfl (Or.inl rfl) (pe_call (ok_l_take T) (hr.mono (by decide)) (by rfl) T.g_l_take T.F_l_take.kp T.b_l_take .nil pass0 (pa_cons (pv 0) (pa_cons pe_int pa_nil))))
  (pss_cons (ps_if (pt_cmpR op_eq (pv 4) pe_int (nomark _)) (pss_one (ps_ret (pe_callTy call_tuple_of (by rfl) T.n_tuple (by decide +kernel) (pa_cons (pe_op op_rep (pe_lst (pa_cons pe_int pa_nil)) (pv 2)) pa_nil)))) pss_nil)
  (pss_cons (ps_if (pt_cmpR op_gt (pv 1) pe_int (nomark _)) (pss_one (ps_ret (pe_callTy call_tuple_of (by rfl) T.n_tuple (by decide +kernel) (pa_cons (pe_lc (own := [("lap", 8)]) (g := gName 8) (by rfl) sc_l_book_weights.nd (pi_range1 (by rfl) T.n_range (pa_cons (pv 2) pa_nil)) (blkOk_by (own := [("lap", 8)]) (by rfl)) (fun _ _ _ _ _ => (pg_name (i := 8) sc_l_book_weights.nd rfl (Or.inl rfl))) (fun _ _ _ _ _ => pts_nil) (fun _ _ _ _ _ => (pe_op op_add pe_int (pe_call (ok_l_take T) (hr.mono (by decide)) (by rfl) T.g_l_take T.F_l_take.kp T.b_l_take .nil pass0 (pa_cons (pv 0) (pa_cons (pe_op op_sub (pv 1) pe_int) pa_nil)))))) pa_nil)))) pss_nil)
  (pss_cons (ps_if (PW.pt (pw_or (pt_val (pv 3)) (pw_or1 (pt_cmpR op_lt (pv 4) pe_int (nomark _))))) (pss_cons (ps_set (i := 5) sc_l_book_weights.nd rfl (Or.inr rfl) (pe_call (ok_l_of T) (hr.mono (by decide)) (by rfl) T.g_l_of T.F_l_of.kp T.b_l_of .nil pass0 (pa_cons (pv 0) (pa_cons (pe_lst (pa_cons pe_int (pa_cons pe_int (pa_cons pe_int (pa_cons (pe_op op_powW pe_int pe_int) pa_nil))))) pa_nil))))
  (pss_one (ps_ret (pe_callTy call_tuple_of (by rfl) T.n_tuple (by decide +kernel) (pa_cons (pe_lc (own := [("lap", 8)]) (g := gName 8) (by rfl) sc_l_book_weights.nd (pi_range1 (by rfl) T.n_range (pa_cons (pv 2) pa_nil)) (blkOk_by (own := [("lap", 8)]) (by rfl)) (fun _ _ _ _ _ => (pg_name (i := 8) sc_l_book_weights.nd rfl (Or.inl rfl))) (fun _ _ _ _ _ => pts_nil) (fun _ _ _ _ _ => (pe_op op_add pe_int (pe_call (ok_l_take T) (hr.mono (by decide)) (by rfl) T.g_l_take T.F_l_take.kp T.b_l_take .nil pass0 (pa_cons (pv 0) (pa_cons (pv 5) pa_nil)))))) pa_nil))))) pss_nil)
  (pss_cons (ps_if (pt_cmpR op_eq (pv 4) pe_int (nomark _)) (pss_one (ps_ret (pe_callTy call_tuple_of (by rfl) T.n_tuple (by decide +kernel) (pa_cons (pe_lc (own := [("lap", 8)]) (g := gName 8) (by rfl) sc_l_book_weights.nd (pi_range1 (by rfl) T.n_range (pa_cons (pv 2) pa_nil)) (blkOk_by (own := [("lap", 8)]) (by rfl)) (fun _ _ _ _ _ => (pg_name (i := 8) sc_l_book_weights.nd rfl (Or.inl rfl))) (fun _ _ _ _ _ => pts_nil) (fun _ _ _ _ _ => (pe_call (ok_l_of T) (hr.mono (by decide)) (by rfl) T.g_l_of T.F_l_of.kp T.b_l_of .nil pass0 (pa_cons (pv 0) (pa_cons (pe_lst (pa_cons (pe_op op_powW pe_int pe_int) (pa_cons (pe_un un_neg (pe_op op_powW pe_int pe_int)) (pa_cons pe_int (pa_cons (pe_un un_neg pe_int) (pa_cons pe_int pa_nil)))))) pa_nil))))) pa_nil)))) pss_nil)
  (pss_cons (ps_setLc (i := 6) (own := [("lap", 8)]) (g := gName 8) (by rfl) sc_l_book_weights.nd rfl rfl (sw_true rfl rfl rfl (by decide +kernel)) (pi_range1 (by rfl) T.n_range (pa_cons (pv 2) pa_nil)) (blkOk_by (own := [("lap", 8)]) (by rfl)) (fun _ _ _ _ _ => (pg_name (i := 8) sc_l_book_weights.nd rfl (Or.inl rfl))) (fun _ _ _ _ _ => pts_nil) (fun _ _ _ _ _ => (pe_call (ok_l_of T) (hr.mono (by decide)) (by rfl) T.g_l_of T.F_l_of.kp T.b_l_of .nil pass0 (pa_cons (pv 0) (pa_cons (pe_lst (pa_cons pe_int (pa_cons (pe_un un_neg pe_int) (pa_cons pe_int (pa_cons (pe_un un_neg pe_int) (pa_cons pe_int (pa_cons (pe_un un_neg pe_int) pa_nil))))))) pa_nil)))))
  (pss_cons (ps_set (i := 7) sc_l_book_weights.nd rfl (Or.inl rfl) (pe_un un_neg (pe_callB (cr_sum rfl) (by rfl) T.n_sum (by decide +kernel) (pa_cons (pe_lc (own := [("weight", 9)]) (g := gName 9) (by rfl) sc_l_book_weights.nd (pi_list (pe_slice sl_list (pv 6) (po_some pe_int) po_none)) (blkOk_by (own := [("weight", 9)]) (by rfl)) (fun _ _ _ _ _ => (pg_name (i := 9) sc_l_book_weights.nd rfl (Or.inl rfl))) (fun _ _ _ _ _ => pts_nil) (fun _ _ _ _ _ => (pe_callTy call_int1 (by rfl) T.n_int (by decide +kernel) (pa_cons (pv 9) pa_nil)))) pa_nil))))
  (pss_one (ps_ret (pe_callTy call_tuple_of (by rfl) T.n_tuple (by decide +kernel) (pa_cons (pe_ifExp (PW.pt (pw_and (pt_cmpR op_eq (pv 4) pe_int (nomark _)) (pw_and1 (pt_cmpR op_ne (pv 7) pe_int (nomark _))))) (pe_op op_cat (pe_lst (pa_cons (pv 7) pa_nil)) (pe_slice sl_list (pv 6) (po_some pe_int) po_none)) (pv 6)) pa_nil))))))))))), ?_⟩
    refine ⟨.ref p, rfl, p, 6, k + 19, rfl, hP, by decide, by decide, fun way H1 w0 w1 d1 => ?_⟩
    have fin : ∀ (D : Addr) (H6 : Hp) (zs : List Int), zs.length = m → (∀ z ∈ zs, WOk b z) → Dr p k H H6 → H6 D = some (.lst (zs.map V.int)) →
        ∃ p_1 ys, [V.ref D] = [V.ref p_1] ∧ ((SqL K H6 p_1 ys ∧ ∀ l, H6 l = none → Q (.ref l) (upd H6 l (.tup ys))) ∨ (SqT K H6 p_1 ys ∧ Q (.ref p_1) H6)) := fun D H6 zs h1 h2 d h3 =>
      ⟨D, _, rfl, .inl ⟨SqL.of h3, fun t ht => q t zs _ h1 h2 (d.new ht) (d.fr ht) (d.2.ne ht) upd_same⟩⟩
    refine ⟨.int way, rfl, rfl, _, rfl, ite2 (fun _ => ?_) (fun _ => ?_)⟩
    · refine ⟨by decide, fun e1 he1 => ?_⟩
      refine ⟨.int m, rfl, e1, m, _, rfl, rfl, upd_same, by omega, by omega, ?_, fun e2 he2 => ?_⟩
      · show 1 * m ≤ sizeLine
        exact Nat.le_trans (show _ ≤ 100 by omega) (by decide)
      · refine fin e2 _ (List.replicate m (1 : Int)) (List.length_replicate ..) (fun z hz => ?_) (((d1.new he1).new he2).mono (by omega)) ?_
        · rw [(List.mem_replicate.mp hz).2]
          exact ⟨by decide, by decide, by decide, fun _ => by omega⟩
        · rw [upd_same, ← rep_ones]
          rfl
    · refine ⟨.int b, rfl, _, _, rfl, rfl, _, rfl, ite2 (fun hb => ?_) (fun hb => ?_)⟩
      · have hb : 0 < b := of_decide_eq_true hb
        refine ⟨.int m, rfl, m, rfl, by omega, by omega, fun D hD => ?_⟩
        refine lc_drawn (m := m) (fun i => k + 19 - i) (fun x => ∃ z, x = .int z ∧ WOk b z) d1.2 hD (by omega) (fun i H' Q' hi d hq => ?_) (fun _ => rfl) ?_
        · refine ⟨.ref p, rfl, .int b, rfl, _, _, rfl, rfl, p, b - 1, k + 19 - (i + 1), rfl, d.2.mono (by omega), by omega, by omega, fun r H4 r0 r1 d4 => ?_⟩
          exact ⟨_, _, rfl, rfl, hq _ _ ⟨1 + r, rfl, by omega, by omega, by omega, fun _ => by omega⟩ d4⟩
        · intro H6 xs h1 h2 d h3
          obtain ⟨zs, rfl, hz⟩ := ints_of h2
          exact fin D H6 zs (by rw [← h1, List.length_map]) hz ((d1.trans d).mono (by omega)) h3
      · have hb : b = 0 := by
          have := of_decide_eq_false (Bool.eq_false_iff.mpr hb)
          omega
        subst hb
        refine ⟨.bl ab, rfl, ab, rfl, ?_⟩
        cases ab with
        | true =>
          refine ⟨.ref p, rfl, _, _, rfl, rfl, pow_c (by decide), by decide, fun l hl => ?_⟩
          have nlp : l ≠ p := d1.2.ne hl
          refine ⟨p, l, _, k + 18, rfl, (d1.new hl).2.mono (by omega), SqL.of upd_same, nlp, by decide, by decide, fun j x H4 hx d4 => ?_⟩
          obtain ⟨most, rfl, m0, m1⟩ : ∃ z : Int, x = .int z ∧ 0 < z ∧ z ≤ 1000000000000 := by
            have hx : [V.int 3, V.int 3, V.int 99, V.int 1000000000000][j]? = some x := hx
            rcases j with _ | _ | _ | _ | j
            · exact ⟨3, (Option.some.inj hx).symm, by decide, by decide⟩
            · exact ⟨3, (Option.some.inj hx).symm, by decide, by decide⟩
            · exact ⟨99, (Option.some.inj hx).symm, by decide, by decide⟩
            · exact ⟨1000000000000, (Option.some.inj hx).symm, by decide, by decide⟩
            · simp at hx
          have d14 := (d1.new (o := .lst [V.int 3, V.int 3, V.int 99, V.int 1000000000000]) hl).trans d4
          refine ⟨.int m, rfl, m, rfl, by omega, by omega, fun D hD => ?_⟩
          refine lc_drawn (m := m) (fun i => k + 18 - i) (fun x => ∃ z, x = .int z ∧ WOk 0 z) d4.2 hD (by omega) (fun i H' Q' hi d hq => ?_) (fun _ => rfl) ?_
          · refine ⟨.ref p, rfl, .int most, rfl, p, most, k + 18 - (i + 1), rfl, d.2.mono (by omega), m0, by omega, fun r H4 r0 r1 d4 => ?_⟩
            exact ⟨_, _, rfl, rfl, hq _ _ ⟨1 + r, rfl, by omega, by omega, by omega, fun _ => by omega⟩ d4⟩
          · intro H6 xs h1 h2 d h3
            obtain ⟨zs, rfl, hz⟩ := ints_of h2
            exact fin D H6 zs (by rw [← h1, List.length_map]) hz ((d14.trans d).mono (by omega)) h3
        | false =>
          refine ⟨.int way, rfl, _, _, rfl, rfl, _, rfl, ite2 (fun _ => ?_) (fun _ => ?_)⟩
          · -- most
            refine ⟨.ref p, rfl, _, _, rfl, rfl, pow_c (by decide), by decide, fun l hl => ?_⟩
            have nlp : l ≠ p := d1.2.ne hl
            refine ⟨p, l, _, k + 18, rfl, (d1.new hl).2.mono (by omega), SqL.of upd_same, nlp, by decide, by decide, fun j x H4 hx d4 => ?_⟩
            obtain ⟨most, rfl, m0, m1⟩ : ∃ z : Int, x = .int z ∧ 0 < z ∧ z ≤ 1000000000000 := by
              have hx : [V.int 3, V.int 3, V.int 99, V.int 1000000000000][j]? = some x := hx
              rcases j with _ | _ | _ | _ | j
              · exact ⟨3, (Option.some.inj hx).symm, by decide, by decide⟩
              · exact ⟨3, (Option.some.inj hx).symm, by decide, by decide⟩
              · exact ⟨99, (Option.some.inj hx).symm, by decide, by decide⟩
              · exact ⟨1000000000000, (Option.some.inj hx).symm, by decide, by decide⟩
              · simp at hx
            have d14 := (d1.new (o := .lst [V.int 3, V.int 3, V.int 99, V.int 1000000000000]) hl).trans d4
            refine ⟨.int m, rfl, m, rfl, by omega, by omega, fun D hD => ?_⟩
            refine lc_drawn (m := m) (fun i => k + 18 - i) (fun x => ∃ z, x = .int z ∧ WOk 0 z) d4.2 hD (by omega) (fun i H' Q' hi d hq => ?_) (fun _ => rfl) ?_
            · refine ⟨.ref p, rfl, .int most, rfl, p, most, k + 18 - (i + 1), rfl, d.2.mono (by omega), m0, by omega, fun r H4 r0 r1 d4 => ?_⟩
              exact ⟨_, _, rfl, rfl, hq _ _ ⟨1 + r, rfl, by omega, by omega, by omega, fun _ => by omega⟩ d4⟩
            · intro H6 xs h1 h2 d h3
              obtain ⟨zs, rfl, hz⟩ := ints_of h2
              exact fin D H6 zs (by rw [← h1, List.length_map]) hz ((d14.trans d).mono (by omega)) h3
          · refine ⟨.int way, rfl, rfl, _, rfl, ite2 (fun _ => ?_) (fun _ => ?_)⟩
            · refine ⟨.int m, rfl, m, rfl, by omega, by omega, fun D hD => ?_⟩
              refine lc_drawn (m := m) (fun i => k + 19 - i) (fun x => ∃ z, x = .int z ∧ WOk 0 z) d1.2 hD (by omega) (fun i H' Q' hi d hq => ?_) (fun _ => rfl) ?_
              · refine ⟨.ref p, rfl, _, _, rfl, rfl, pow_c (by decide), _, _, rfl, rfl, pow_c (by decide), _, rfl, _, rfl, by decide, fun l hl => ?_⟩
                have nlp : l ≠ p := d.2.ne hl
                refine ⟨p, l, _, k + 19 - (i + 1), rfl, (d.2.same (same_new hl)).mono (by omega), SqL.of upd_same, nlp, by decide, by decide, fun j x H4 hx d4 => ?_⟩
                refine hq _ _ ?_ ((Dr.new (Dr.start d.2 (Nat.le_refl _)) hl).trans d4)
                have hx : [V.int 1000000000000, V.int (-1000000000000), V.int 1, V.int (-1), V.int 99][j]? = some x := hx
                rcases j with _ | _ | _ | _ | _ | j
                · exact ⟨_, (Option.some.inj hx).symm, by decide, by decide, by decide, fun h => absurd h (by decide)⟩
                · exact ⟨_, (Option.some.inj hx).symm, by decide, by decide, by decide, fun h => absurd h (by decide)⟩
                · exact ⟨_, (Option.some.inj hx).symm, by decide, by decide, by decide, fun h => absurd h (by decide)⟩
                · exact ⟨_, (Option.some.inj hx).symm, by decide, by decide, by decide, fun h => absurd h (by decide)⟩
                · exact ⟨_, (Option.some.inj hx).symm, by decide, by decide, by decide, fun h => absurd h (by decide)⟩
                · simp at hx
              · intro H6 xs h1 h2 d h3
                obtain ⟨zs, rfl, hz⟩ := ints_of h2
                exact fin D H6 zs (by rw [← h1, List.length_map]) hz ((d1.trans d).mono (by omega)) h3
            · -- found
              refine ⟨.int m, rfl, m, rfl, by omega, by omega, fun D hD => ?_⟩
              refine lc_drawn (m := m) (fun i => k + 19 - i) (fun x => ∃ z, x = .int z ∧ (z ≠ 0 ∧ -3 ≤ z ∧ z ≤ 3)) d1.2 hD (by omega) (fun i H' Q' hi d hq => ?_) (fun _ => rfl) ?_
              · refine ⟨.ref p, rfl, _, rfl, _, rfl, _, rfl, by decide, fun l hl => ?_⟩
                have nlp : l ≠ p := d.2.ne hl
                refine ⟨p, l, _, k + 19 - (i + 1), rfl, (d.2.same (same_new hl)).mono (by omega), SqL.of upd_same, nlp, by decide, by decide, fun j x H4 hx d4 => ?_⟩
                refine hq _ _ ?_ ((Dr.new (Dr.start d.2 (Nat.le_refl _)) hl).trans d4)
                have hx : [V.int 1, V.int (-1), V.int 2, V.int (-2), V.int 3, V.int (-3)][j]? = some x := hx
                rcases j with _ | _ | _ | _ | _ | _ | j
                · exact ⟨_, (Option.some.inj hx).symm, by decide, by decide, by decide⟩
                · exact ⟨_, (Option.some.inj hx).symm, by decide, by decide, by decide⟩
                · exact ⟨_, (Option.some.inj hx).symm, by decide, by decide, by decide⟩
                · exact ⟨_, (Option.some.inj hx).symm, by decide, by decide, by decide⟩
                · exact ⟨_, (Option.some.inj hx).symm, by decide, by decide, by decide⟩
                · exact ⟨_, (Option.some.inj hx).symm, by decide, by decide, by decide⟩
                · simp at hx
              · intro H6 xs h1 h2 d h3
                obtain ⟨zs, rfl, hz⟩ := ints_of h2
                rw [List.length_map] at h1
                have dz := d1.trans d
                refine ⟨.ref D, rfl, _, rfl, D, _, rfl, SqL.of h3, fun e he => ?_⟩
                have ec : cutV (zs.map V.int) (some 1) none = (zs.drop 1).map V.int := by
                  rw [show (1 : Int) = ((1 : Nat) : Int) from rfl, cut_from, List.map_drop]
                have hdl : (zs.drop 1).length ≤ 5 := by
                  rw [List.length_drop]
                  omega
                have d7 := dz.new (o := .lst (cutV (zs.map V.int) (some 1) none)) he
                refine ⟨e, rfl, ⟨_, SqL.of upd_same⟩, fun G hG => ?_⟩
                refine lc_list (K := K) (a := e) (xs := (zs.drop 1).map V.int) (fun i H' => i ≤ (zs.drop 1).length ∧ Same (upd H6 e (.lst (cutV (zs.map V.int) (some 1) none))) H' ∧ H' G = some (.lst (((zs.drop 1).take i).map V.int)))
                  ⟨Nat.zero_le _, same_new hG, upd_same⟩ (fun i H' _ ⟨_, s, _⟩ => SqL.of (by rw [← ec]; exact s _ _ upd_same)) ?_ ?_
                · rintro i x H' hx ⟨hi, s, hG'⟩
                  have hil : i < (zs.drop 1).length := by
                    have := (List.getElem?_eq_some_iff.mp hx).1
                    rwa [List.length_map] at this
                  have ex : x = .int ((zs.drop 1)[i]) := by
                    rw [List.getElem?_map, List.getElem?_eq_getElem hil] at hx
                    exact (Option.some.inj hx).symm
                  subst ex
                  refine ⟨rfl, ?_⟩
                  refine ⟨_, rfl, .inl ⟨_, rfl, ?_⟩⟩
                  refine ⟨_, hG', ?_, hil, fun a o ho => ?_, ?_⟩
                  · rw [List.length_map, List.length_take]
                    exact small1000 (by omega)
                  · rw [upd_ne (ne_of_none ho hG)]
                    exact s _ _ ho
                  · rw [upd_same, List.take_add_one, List.getElem?_eq_getElem hil, List.map_append]
                    rfl
                · rintro H7 ⟨_, s, hG'⟩
                  rw [List.length_map, List.take_length] at hG'
                  refine ⟨G, _, rfl, SqL.of hG', ?_⟩
                  have d8 : Dr p (k + 19 - m) H H7 := ⟨d7.1.trans (Same.kp s), d7.2.same s⟩
                  have hD7 : H7 D = some (.lst (zs.map V.int)) := s _ _ (by rw [upd_ne (ne_of_none h3 he)]; exact h3)
                  refine ⟨_, rfl, ?_⟩
                  have sb := sum_bd (zs := zs.drop 1) fun z hz' => ⟨(hz z (List.mem_of_mem_drop hz')).2.1, (hz z (List.mem_of_mem_drop hz')).2.2⟩
                  have sl : ((zs.drop 1).length : Int) ≤ 4 := by
                    rw [List.length_drop]
                    omega
                  have hz1 : ∀ z ∈ zs, WOk 0 z := fun z hz' => by
                    obtain ⟨z1, z2, z3⟩ := hz z hz'
                    exact ⟨z1, by omega, by omega, fun h => absurd h (by decide)⟩
                  refine ⟨.int way, rfl, rfl, _, rfl, ?_⟩
                  refine ite2 (fun _ => ?_) (fun _ => ?_)
                  · refine ⟨_, rfl, rfl, _, rfl, ?_⟩
                    generalize hl : (!decide (V.int (-(zs.drop 1).sum) = V.int 0)) = last0
                    cases last0 with
                    | true =>
                      have ln : -(zs.drop 1).sum ≠ 0 := fun z => by
                        rw [z] at hl
                        cases hl
                      refine ⟨_, rfl, (by show 1 ≤ sizeLine; decide), fun u hu => ?_⟩
                      refine ⟨.ref D, rfl, _, rfl, D, _, rfl, SqL.of (by rw [upd_ne (ne_of_none hD7 hu)]; exact hD7), fun v hv => ?_⟩
                      refine ⟨u, v, _, _, rfl, rfl, by rw [upd_ne (ne_new hv).symm, upd_same], upd_same, ?_, fun t ht => ?_⟩
                      · rw [ec, List.length_map, List.length_drop]
                        exact Nat.le_trans (show 1 + (zs.length - 1) ≤ 100 by omega) (by decide)
                      · refine fin t _ (-(zs.drop 1).sum :: zs.drop 1) ?_ (fun z hz' => ?_) ((((d8.new hu).new hv).new ht).mono (by omega)) ?_
                        · rw [List.length_cons, List.length_drop]
                          omega
                        · rcases List.mem_cons.mp hz' with z1 | z1
                          · rw [z1]
                            exact ⟨ln, by omega, by omega, fun h => absurd h (by decide)⟩
                          · exact hz1 z (List.mem_of_mem_drop z1)
                        · rw [upd_same, ec]
                          rfl
                    | false => exact ⟨_, rfl, fin D H7 zs h1 hz1 (d8.mono (by omega)) hD7⟩
                  · exact ⟨_, rfl, fin D H7 zs h1 hz1 (d8.mono (by omega)) hD7⟩
end
end OG
set_option Elab.async false
set_option linter.all false
set_option maxRecDepth 100000
set_option maxHeartbeats 4000000
namespace OG
open PySem PySem.Spec PyProof.Rows L2
theorem seq_fin {t1 t2 : TS} {D : Ends} {σ : L2.St} {H : Hp} (C : L2.St → Hp → Prop) (h2 : ∀ σ' H', C σ' H' → t2 D σ' H') (h1 : (∀ σ' H', C σ' H' → t2 D σ' H') → t1 { D with nx := t2 D } σ H) : tSeq t1 t2 D σ H := h1 h2
/-- places: the ints below m -/
def plV (m : Nat) : List V := rgV 0 (m : Int)
theorem plV_len (m : Nat) : (plV m).length = m := by
  unfold plV
  rw [rgV_length]
  omega
theorem plV_at {m i : Nat} {x : V} (h : (plV m)[i]? = some x) : i < m ∧ x = .int (i : Int) := by
  have hi : i < m := by
    have q := (List.getElem?_eq_some_iff.mp h).1
    rwa [plV_len] at q
  refine ⟨hi, ?_⟩
  unfold plV rgV at h
  rw [List.getElem?_map, List.getElem?_range (show i < ((m : Int) - 0).toNat by omega)] at h
  have e : V.int (0 + (i : Int)) = x := Option.some.inj h
  rw [← e, Int.zero_add]
/-- a list of lists: m rows of m numbers -/
def Mat (R : Int → Prop) (p : Addr) (H : Hp) (S : Addr) (m : Nat) : Prop := ∃ rs : List Addr, H S = some (.lst (rs.map V.ref)) ∧ S ≠ p ∧ rs.length = m ∧ ∀ r ∈ rs, r ≠ p ∧ r ≠ S ∧ ∃ row : List Int, H r = some (.lst (row.map V.int)) ∧ row.length = m ∧ ∀ z ∈ row, R z
theorem Mat.imp {R R' : Int → Prop} {p : Addr} {H : Hp} {S : Addr} {m : Nat} (h : Mat R p H S m) (e : ∀ z, R z → R' z) : Mat R' p H S m := by
  obtain ⟨rs, h1, h2, h3, h4⟩ := h
  refine ⟨rs, h1, h2, h3, fun r hr => ?_⟩
  obtain ⟨a, b, row, c, d, f⟩ := h4 r hr
  exact ⟨a, b, row, c, d, fun z hz => e z (f z hz)⟩
theorem Mat.dr {R : Int → Prop} {p : Addr} {H H' : Hp} {S : Addr} {m k : Nat} (h : Mat R p H S m) (d : Dr p k H H') : Mat R p H' S m := by
  obtain ⟨rs, h1, h2, h3, h4⟩ := h
  refine ⟨rs, d.st h2 h1, h2, h3, fun r hr => ?_⟩
  obtain ⟨a, b, row, c, d', f⟩ := h4 r hr
  exact ⟨a, b, row, d.st a c, d', f⟩
/-- the entry at a, b -/
theorem Mat.row {R : Int → Prop} {p : Addr} {H : Hp} {S : Addr} {m i : Nat} (h : Mat R p H S m) (hi : i < m) : ∃ (rs : List Addr) (r : Addr) (row : List Int), H S = some (.lst (rs.map V.ref)) ∧ rs.length = m ∧ (rs.map V.ref)[i]? = some (.ref r) ∧ H r = some (.lst (row.map V.int)) ∧ row.length = m ∧ ∀ z ∈ row, R z := by
  obtain ⟨rs, h1, h2, h3, h4⟩ := h
  have hr : rs[i]? = some (rs[i]'(by omega)) := List.getElem?_eq_getElem (by omega)
  obtain ⟨a, b, row, c, d', f⟩ := h4 _ (List.mem_of_getElem? hr)
  refine ⟨rs, _, row, h1, h3, ?_, c, d', f⟩
  rw [List.getElem?_map, hr]
  rfl
theorem row_at {R : Int → Prop} {row : List Int} {m i : Nat} (h : row.length = m) (f : ∀ z ∈ row, R z) (hi : i < m) : ∃ z, (row.map V.int)[i]? = some (.int z) ∧ R z := by
  have hr : row[i]? = some (row[i]'(by omega)) := List.getElem?_eq_getElem (by omega)
  refine ⟨_, ?_, f _ (List.mem_of_getElem? hr)⟩
  rw [List.getElem?_map, hr]
  rfl
theorem lc_mat {K : PySem.W.Frag} {p pl D : Addr} {m k sa sb sp : Nat} {H5 : Hp} {te : TE} {σ : L2.St} {Qd : Hp → Prop} (R : Int → Prop)
    (hP : Pot (k + 25) H5 p) (hm : m ≤ 4) (hpl : H5 pl = some (.lst (plV m))) (npl : pl ≠ p) (hD : H5 D = none)
    (hte : ∀ (a b j : Nat) (H' : Hp) (Q' : VK), a < m → b < m → Dr p (j + 1) H5 H' → (∀ z H4, R z → Dr p j H' H4 → Q' (.int z) H4) →
      te ((wipe ((wipe σ [sa]).set sa (some (.int (a : Int)))) [sb]).set sb (some (.int (b : Int)))) H' Q')
    (hv : ∀ v : Option V, ((wipe σ [sa]).set sa v)[sp]? = some (some (.ref pl)))
    (hw1 : ∀ v : Option V, wipe ((wipe σ [sa]).set sa v) [sa] = wipe σ [sa])
    (hw2 : ∀ v v2 : Option V, wipe ((wipe ((wipe σ [sa]).set sa v) [sb]).set sb v2) [sb] = wipe ((wipe σ [sa]).set sa v) [sb])
    (hd : ∀ (H6 : Hp), Mat R p H6 D m → Dr p k H5 H6 → Qd H6) :
    ∃ W : Nat → Nat → Hp → Prop, (∃ m, W 0 m (upd H5 D (.lst []))) ∧ ∀ i n H, W i n H →
      ((Itl K pl).stop i H ∧ Qd H) ∨ ((Itl K pl).go i H ∧ ∃ Nx : Hp → Prop, (∀ H', Nx H' → ∃ m', m' < n ∧ W (i + 1) m' H') ∧ ∀ x H', (Itl K pl).yld i H x H' → gName sa x (wipe σ [sa]) H' fun σ2 H2 => wipe σ2 [sa] = wipe σ [sa] ∧ tYes σ2 H2 fun b H3 =>
        if b = true then tLc (iList K (tVar sp)) (gName sb) tYes te [sb] σ2 H3 fun y H4 => ∃ acc, H4 D = some (.lst acc) ∧ acc.length < sizeLine ∧ Nx (upd H4 D (.lst (acc ++ [y]))) else Nx H3) := by
  have nDp : D ≠ p := hP.ne hD
  refine lc_list (K := K) (a := pl) (xs := plV m) (fun i H' => i ≤ m ∧ Dr p (k + 25 - 5 * i) H5 H' ∧ ∃ rs : List Addr, H' D = some (.lst (rs.map V.ref)) ∧ rs.length = i ∧ ∀ r ∈ rs, r ≠ p ∧ r ≠ D ∧ ∃ row : List Int, H' r = some (.lst (row.map V.int)) ∧ row.length = m ∧ ∀ z ∈ row, R z)
    ⟨Nat.zero_le _, (Dr.start hP (Nat.le_refl _)).new hD, [], upd_same, rfl, fun _ h => by cases h⟩ (fun i H' _ ⟨_, d, _⟩ => SqL.of (d.st npl hpl)) ?_ ?_
  · rintro i x H' hx ⟨_, d, rs, h1, h2, h3⟩
    obtain ⟨him, rfl⟩ := plV_at hx
    refine ⟨hw1 _, ?_⟩
    refine ⟨.ref pl, hv _, pl, rfl, ⟨_, SqL.of (d.st npl hpl)⟩, fun D2 hD2 => ?_⟩
    have nD2p : D2 ≠ p := d.2.ne hD2
    have nD2D : D2 ≠ D := fun z => by
      rw [z, h1] at hD2
      cases hD2
    have hD25 := d.fr hD2
    refine lc_list (K := K) (a := pl) (xs := plV m) (fun j H7 => j ≤ m ∧ Dr p (k + 25 - 5 * i - j) H' H7 ∧ ∃ row : List Int, H7 D2 = some (.lst (row.map V.int)) ∧ row.length = j ∧ ∀ z ∈ row, R z)
      ⟨Nat.zero_le _, (Dr.start d.2 (Nat.le_refl _)).new hD2, [], upd_same, rfl, fun _ h => by cases h⟩ (fun j H7 _ ⟨_, d7, _⟩ => SqL.of (d7.st npl (d.st npl hpl))) ?_ ?_
    · rintro j x H7 hx ⟨_, d7, row, g1, g2, g3⟩
      obtain ⟨hjm, rfl⟩ := plV_at hx
      refine ⟨hw2 _ _, ?_⟩
      refine hte i j (k + 25 - 5 * i - (j + 1)) H7 _ him hjm ((d.trans d7).mono (by omega)) fun z H8 hz d8 => ?_
      refine ⟨row.map V.int, d8.st nD2p g1, by rw [List.length_map]; exact small1000 (by omega), hjm, (d7.trans d8).mut hD2 nD2p, row ++ [z], ?_, by rw [List.length_append, g2]; rfl, fun y hy => ?_⟩
      · rw [upd_same, List.map_append]
        rfl
      · rcases List.mem_append.mp hy with q | q
        · exact g3 y q
        · rw [List.mem_singleton.mp q]
          exact hz
    · rintro H7 ⟨_, d7, row, g1, g2, g3⟩
      rw [plV_len] at d7 g2
      refine ⟨rs.map V.ref, d7.st nDp h1, by rw [List.length_map]; exact small1000 (by omega), him, ((d.trans d7).mut hD nDp).mono (by omega), rs ++ [D2], ?_, by rw [List.length_append, h2]; rfl, fun r hr => ?_⟩
      · rw [upd_same, List.map_append]
        rfl
      · rcases List.mem_append.mp hr with q | q
        · obtain ⟨a1, a2, row', a3, a4, a5⟩ := h3 r q
          exact ⟨a1, a2, row', by rw [upd_ne a2]; exact d7.st a1 a3, a4, a5⟩
        · rw [List.mem_singleton.mp q]
          exact ⟨nD2p, nD2D, row, by rw [upd_ne nD2D]; exact g1, g2, g3⟩
  · rintro H6 ⟨_, d, rs, h1, h2, h3⟩
    rw [plV_len] at d h2
    exact hd H6 ⟨rs, h1, nDp, h2, h3⟩ (d.mono (by omega))
end OG
set_option Elab.async false
set_option linter.all false
set_option maxRecDepth 100000
set_option maxHeartbeats 4000000
namespace OG
open PySem PySem.Spec PyProof.Rows L2
section
variable {X : Cx} (K : PySem.W.Frag)
theorem pi_listK {tg l : Expr} {tl : TE} (h : PE X l tl) (hK : X.K = K := by rfl) : PI X tg l (iList K tl) := hK ▸ pi_list h
theorem pi_tupK {tg l : Expr} {tl : TE} (h : PE X l tl) (hK : X.K = K := by rfl) : PI X tg l (iTup K tl) := hK ▸ pi_tup h
theorem ix_listK (hK : X.K = K := by rfl) : IxR X (rIxL K) := hK ▸ ix_list
theorem ix_tupK (hK : X.K = K := by rfl) : IxR X (rIxT K) := hK ▸ ix_tup
def rTupOf (K : PySem.W.Frag) : List V → Hp → VK → Prop := fun xs H Q => ∃ p ys, xs = [.ref p] ∧ ((SqL K H p ys ∧ ∀ l, H l = none → Q (.ref l) (upd H l (.tup ys))) ∨ (SqT K H p ys ∧ Q (.ref p) H))
theorem call_tuple_ofK (hK : X.K = K := by rfl) : CallR X (.type "tuple") (rTupOf K) := hK ▸ call_tuple_of
theorem op_in_seqK (hK : X.K = K := by rfl) : OpR X (compareOp .In) (rIn K false) := hK ▸ op_in_seq
theorem op_notIn_seqK (hK : X.K = K := by rfl) : OpR X (compareOp .NotIn) (rIn K true) := hK ▸ op_notIn_seq
def rJoin (K : PySem.W.Frag) : V → List V → Hp → VK → Prop := fun x xs H Q => ∃ a p, ∃ ys : List Str, x = .str a ∧ xs = [.ref p] ∧ (SqL K H p (ys.map V.str) ∨ SqT K H p (ys.map V.str)) ∧ (ys.map (·.length)).sum + ys.length * a.length ≤ 16777216 ∧ Q (.str (Txt.join a ys)) H
theorem mt_joinK (hK : X.K = K := by rfl) : MtR X "str.join" (rJoin K) := hK ▸ mt_join
theorem sl_listK (hK : X.K = K := by rfl) : SlR X (rSlL K) := hK ▸ sl_list
def rLenSeq (K : PySem.W.Frag) : List V → Hp → VK → Prop := fun xs H Q => ∃ p ys, xs = [.ref p] ∧ (SqL K H p ys ∨ SqT K H p ys) ∧ Q (.int ys.length) H
theorem call_len_seqK (hK : X.K = K := by rfl) : CallR X (.builtin "len") (rLenSeq K) := hK ▸ call_len_seq
theorem pg_tupK {es : List Expr} {k : Nat} {t : TGs} {n : Nat} {pos : Pos} (hc : X.calm = true) (h : PGs X es t) (hn : (assignEach es X.env).length = n := by rfl) (hst : (assignEach es X.env).findIdx? (·.1) = none := by rfl) (hK : X.K = K := by rfl) : PG X (.Tuple es k pos) (gTup K n t) := hK ▸ pg_tup hc h hn hst
end
end OG
set_option Elab.async false
set_option linter.all false
set_option maxRecDepth 100000
set_option maxHeartbeats 8000000
namespace OG
open PySem PySem.Spec PyProof.Rows L2
section
variable {P : Program} {w : World} {K : PySem.W.Frag} {mg : Str → Option Value} {base : Heap}
/-- an entry of a book's table -/
def TOk (b z : Int) : Prop := -1000000000000 ≤ z ∧ z ≤ 1000000000000 ∧ (0 < b → 0 ≤ z ∧ z < b)
/-- a tuple of m tuples of m entries -/
def Tab (b : Int) (H : Hp) (t : Addr) (m : Nat) (M : List (List Int)) : Prop := ∃ rs : List Addr, H t = some (.tup (rs.map V.ref)) ∧ rs.length = m ∧ M.length = m ∧
  (∀ (i : Nat) (r : Addr), rs[i]? = some r → ∃ row : List Int, M[i]? = some row ∧ H r = some (.tup (row.map V.int))) ∧ ∀ row ∈ M, row.length = m ∧ ∀ z ∈ row, TOk b z
theorem Tab.dr {b : Int} {p : Addr} {H H' : Hp} {t : Addr} {m k j : Nat} {M : List (List Int)} (h : Tab b H t m M) (hP : Pot j H p) (d : Dr p k H H') : Tab b H' t m M := by
  obtain ⟨rs, h1, h2, h3, h4, h5⟩ := h
  refine ⟨rs, d.st (hP.neT h1) h1, h2, h3, fun i r hr => ?_, h5⟩
  obtain ⟨row, e1, e2⟩ := h4 i r hr
  exact ⟨row, e1, d.st (hP.neT e2) e2⟩
theorem Tab.same {b : Int} {H H' : Hp} {t : Addr} {m : Nat} {M : List (List Int)} (h : Tab b H t m M) (s : Same H H') : Tab b H' t m M := by
  obtain ⟨rs, h1, h2, h3, h4, h5⟩ := h
  refine ⟨rs, s _ _ h1, h2, h3, fun i r hr => ?_, h5⟩
  obtain ⟨row, e1, e2⟩ := h4 i r hr
  exact ⟨row, e1, s _ _ e2⟩
def spTable : Sp := fun vs H Q _ => ∃ (p : Addr) (b : Int) (m k : Nat), vs = [.ref p, .int b, .int (m : Int)] ∧ Pot (k + 60) H p ∧ m ≤ 4 ∧ 1 ≤ m ∧ 0 ≤ b ∧ b ≠ 1 ∧ b ≤ 97 ∧
  ∀ (t : Addr) (M : List (List Int)) (H' : Hp), Tab b H' t m M → Dr p k H H' → H t = none → t ≠ p → Q (.ref t) H'
def R9 (z : Int) : Prop := -9 ≤ z ∧ z ≤ 9
def R12 (z : Int) : Prop := -1000000000000 ≤ z ∧ z ≤ 1000000000000
theorem r9_12 (z : Int) (h : R9 z) : R12 z := ⟨by have := h.1; omega, by have := h.2; omega⟩
theorem rx_le {x y : Int} (hx : R9 x) (hy : R9 y) : R12 (x * y) := by
  obtain ⟨a, b⟩ := hx
  obtain ⟨c, d⟩ := hy
  have h1 : (x * y).natAbs ≤ 9 * 9 := by
    rw [Int.natAbs_mul]
    exact Nat.mul_le_mul (by omega) (by omega)
  exact ⟨by omega, by omega⟩
theorem b01 (c : Bool) : R12 (if c then 1 else 0) := by
  cases c
  · exact ⟨by decide, by decide⟩
  · exact ⟨by decide, by decide⟩
theorem at_neg1 {xs : List V} {m : Nat} {v : V} (hl : xs.length = m) (hm : 1 ≤ m) (h : xs[m - 1]? = some v) : atI xs (-1) = some v := by
  have e : ixN xs.length (-1) = some (m - 1) := by
    unfold ixN
    rw [hl, if_neg (by decide), if_pos (by omega)]
    exact congrArg some (by omega)
  unfold atI
  rw [e]
  exact h
theorem ok_l_book_table (T : Txt K mg) : FnOk P w K mg base CX0 3 T.f_l_book_table T.fd_l_book_table ["pot", "by", "many"] (spTable) := by
  refine T.F_l_book_table.ok sc_l_book_table (fun vs H Q E h => ?_) (fun cdv A outer s H vs Q E hr h => ?_)
  · obtain ⟨p, b, m, k, rfl, _⟩ := h
    rfl
  · obtain ⟨p, b, m, k, rfl, hP, hm, hm1, b0, bn1, b97, q⟩ := h
    refine ⟨_, (pss_cons (ps_asg (pe_tup (pa_cons (pe_call (ok_l_take T) (hr.mono (by decide)) (by rfl) T.g_l_take T.F_l_take.kp T.b_l_take .nil pass0 (pa_cons (pv 0) (pa_cons pe_int pa_nil))) (pa_cons (pe_listRg (by rfl) (by rfl) T.n_list (prg_1 (by rfl) T.n_range (pv 2))) pa_nil))) (pg_tup (by rfl) (pgs_cons (pg_name (i := 3) sc_l_book_table.nd rfl (Or.inl rfl)) (pgs_cons (pg_name (i := 4) sc_l_book_table.nd rfl (Or.inr rfl)) pgs_nil))))
  (pss_cons (ps_asg (pe_call (ok_l_of T) (hr.mono (by decide)) (by rfl) T.g_l_of T.F_l_of.kp T.b_l_of .nil pass0 (pa_cons (pv 0) (pa_cons (pe_lst (pa_cons (pe_tup (pa_cons pe_int (pa_cons pe_int pa_nil))) (pa_cons (pe_tup (pa_cons pe_int (pa_cons pe_int pa_nil))) (pa_cons (pe_tup (pa_cons (pe_un un_neg pe_int) (pa_cons pe_int pa_nil))) (pa_cons (pe_tup (pa_cons (pe_un un_neg pe_int) (pa_cons pe_int pa_nil))) (pa_cons (pe_tup (pa_cons (pe_un un_neg pe_int) (pa_cons pe_int pa_nil))) pa_nil)))))) pa_nil))) (pg_tup (by rfl) (pgs_cons (pg_name (i := 5) sc_l_book_table.nd rfl (Or.inr rfl)) (pgs_cons (pg_name (i := 6) sc_l_book_table.nd rfl (Or.inr rfl)) pgs_nil))))
  (pss_cons (ps_set (i := 7) sc_l_book_table.nd rfl (Or.inr rfl) (pe_lc (own := [("a", 8)]) (g := gName 8) (by rfl) sc_l_book_table.nd (pi_list (pv 4)) (blkOk_by (own := [("a", 8)]) (by rfl)) (fun _ _ _ _ _ => (pg_name (i := 8) sc_l_book_table.nd rfl (Or.inl rfl))) (fun _ _ _ _ _ => pts_nil) (fun _ _ _ _ _ => (pe_lc (own := [("b", 9)]) (g := gName 9) (by rfl) sc_l_book_table.nd (pi_listK K (pv 4)) (blkOk_by (own := [("b", 9)]) (by rfl)) (fun _ _ _ _ _ => (pg_name (i := 9) sc_l_book_table.nd rfl (Or.inl rfl))) (fun _ _ _ _ _ => pts_nil) (fun _ _ _ _ _ => (pe_op op_add (pv 5) (pe_call (ok_l_take T) (hr.mono (by decide)) (by rfl) T.g_l_take T.F_l_take.kp T.b_l_take .nil pass0 (pa_cons (pv 0) (pa_cons (pe_op op_add (pe_op op_sub (pv 6) (pv 5)) pe_int) pa_nil)))))))))
  (pss_cons (ps_if (pt_cmpR op_eq (pv 3) pe_int (nomark _)) (pss_one (ps_set (i := 7) sc_l_book_table.nd rfl (Or.inr rfl) (pe_lc (own := [("a", 8)]) (g := gName 8) (by rfl) sc_l_book_table.nd (pi_list (pv 4)) (blkOk_by (own := [("a", 8)]) (by rfl)) (fun _ _ _ _ _ => (pg_name (i := 8) sc_l_book_table.nd rfl (Or.inr rfl))) (fun _ _ _ _ _ => pts_nil) (fun _ _ _ _ _ => (pe_lc (own := [("b", 9)]) (g := gName 9) (by rfl) sc_l_book_table.nd (pi_listK K (pv 4)) (blkOk_by (own := [("b", 9)]) (by rfl)) (fun _ _ _ _ _ => (pg_name (i := 9) sc_l_book_table.nd rfl (Or.inl rfl))) (fun _ _ _ _ _ => pts_nil) (fun _ _ _ _ _ => (pe_callTy call_int1 (by rfl) T.n_int (by decide +kernel) (pa_cons (pe_cmpR op_eq (pv 8) (pv 9) (nomark _)) pa_nil)))))))) (pss_one (ps_if (pt_cmpR op_eq (pv 3) pe_int (nomark _)) (pss_one (ps_set (i := 7) sc_l_book_table.nd rfl (Or.inr rfl) (pe_lc (own := [("a", 8)]) (g := gName 8) (by rfl) sc_l_book_table.nd (pi_list (pv 4)) (blkOk_by (own := [("a", 8)]) (by rfl)) (fun _ _ _ _ _ => (pg_name (i := 8) sc_l_book_table.nd rfl (Or.inr rfl))) (fun _ _ _ _ _ => pts_nil) (fun _ _ _ _ _ => (pe_lc (own := [("b", 9)]) (g := gName 9) (by rfl) sc_l_book_table.nd (pi_listK K (pv 4)) (blkOk_by (own := [("b", 9)]) (by rfl)) (fun _ _ _ _ _ => (pg_name (i := 9) sc_l_book_table.nd rfl (Or.inl rfl))) (fun _ _ _ _ _ => pts_nil) (fun _ _ _ _ _ => (pe_callTy call_int1 (by rfl) T.n_int (by decide +kernel) (pa_cons (pe_cmpR op_ne (pv 8) (pv 9) (nomark _)) pa_nil)))))))) (pss_one (ps_if (pt_cmpR op_eq (pv 3) pe_int (nomark _)) (pss_one (ps_set (i := 7) sc_l_book_table.nd rfl (Or.inr rfl) (pe_lc (own := [("a", 8)]) (g := gName 8) (by rfl) sc_l_book_table.nd (pi_list (pv 4)) (blkOk_by (own := [("a", 8)]) (by rfl)) (fun _ _ _ _ _ => (pg_name (i := 8) sc_l_book_table.nd rfl (Or.inr rfl))) (fun _ _ _ _ _ => pts_nil) (fun _ _ _ _ _ => (pe_lc (own := [("b", 9)]) (g := gName 9) (by rfl) sc_l_book_table.nd (pi_listK K (pv 4)) (blkOk_by (own := [("b", 9)]) (by rfl)) (fun _ _ _ _ _ => (pg_name (i := 9) sc_l_book_table.nd rfl (Or.inl rfl))) (fun _ _ _ _ _ => pts_nil) (fun _ _ _ _ _ => (pe_callTy call_int1 (by rfl) T.n_int (by decide +kernel) (pa_cons (pe_cmpR op_eq (pv 9) (pe_op op_mod (pe_callTy call_int1 (by rfl) T.n_int (by decide +kernel) (pa_cons (pe_op op_add (pv 8) pe_int) pa_nil)) (pv 2)) (nomark _)) pa_nil)))))))) (pss_one (ps_if (pt_cmpR op_lt (pv 3) pe_int (nomark _)) (pss_one (ps_set (i := 7) sc_l_book_table.nd rfl (Or.inr rfl) (pe_lc (own := [("a", 8)]) (g := gName 8) (by rfl) sc_l_book_table.nd (pi_list (pv 4)) (blkOk_by (own := [("a", 8)]) (by rfl)) (fun _ _ _ _ _ => (pg_name (i := 8) sc_l_book_table.nd rfl (Or.inr rfl))) (fun _ _ _ _ _ => pts_nil) (fun _ _ _ _ _ => (pe_lc (own := [("b", 9)]) (g := gName 9) (by rfl) sc_l_book_table.nd (pi_listK K (pv 4)) (blkOk_by (own := [("b", 9)]) (by rfl)) (fun _ _ _ _ _ => (pg_name (i := 9) sc_l_book_table.nd rfl (Or.inl rfl))) (fun _ _ _ _ _ => pts_nil) (fun _ _ _ _ _ => (pe_ix (ix_listK K) (pe_ix (ix_listK K) (pv 7) (pe_callB (call_min2 rfl) (by rfl) T.n_min (by decide +kernel) (pa_cons (pv 8) (pa_cons (pv 9) pa_nil))) (fun _ _ => rfl)) (pe_callB (call_max2 rfl) (by rfl) T.n_max (by decide +kernel) (pa_cons (pv 8) (pa_cons (pv 9) pa_nil))) (fun _ _ => rfl)))))))) (pss_one (ps_if (pt_cmpR op_eq (pv 3) pe_int (nomark _)) (pss_one (ps_set (i := 7) sc_l_book_table.nd rfl (Or.inr rfl) (pe_lc (own := [("a", 8)]) (g := gName 8) (by rfl) sc_l_book_table.nd (pi_list (pv 4)) (blkOk_by (own := [("a", 8)]) (by rfl)) (fun _ _ _ _ _ => (pg_name (i := 8) sc_l_book_table.nd rfl (Or.inr rfl))) (fun _ _ _ _ _ => pts_nil) (fun _ _ _ _ _ => (pe_lc (own := [("b", 9)]) (g := gName 9) (by rfl) sc_l_book_table.nd (pi_listK K (pv 4)) (blkOk_by (own := [("b", 9)]) (by rfl)) (fun _ _ _ _ _ => (pg_name (i := 9) sc_l_book_table.nd rfl (Or.inl rfl))) (fun _ _ _ _ _ => pts_nil) (fun _ _ _ _ _ => (pe_op op_mulW (pe_ix (ix_listK K) (pe_ix (ix_listK K) (pv 7) pe_int (fun _ _ => rfl)) (pv 8) (fun _ _ => rfl)) (pe_ix (ix_listK K) (pe_ix (ix_listK K) (pv 7) (pe_un un_neg pe_int) (fun _ _ => rfl)) (pv 9) (fun _ _ => rfl))))))))) (pss_one (ps_if (pt_cmpR op_eq (pv 3) pe_int (nomark _)) (pss_one (ps_set (i := 7) sc_l_book_table.nd rfl (Or.inr rfl) (pe_lc (own := [("a", 8)]) (g := gName 8) (by rfl) sc_l_book_table.nd (pi_list (pv 4)) (blkOk_by (own := [("a", 8)]) (by rfl)) (fun _ _ _ _ _ => (pg_name (i := 8) sc_l_book_table.nd rfl (Or.inl rfl))) (fun _ _ _ _ _ => pts_nil) (fun _ _ _ _ _ => (pe_lc (own := [("b", 9)]) (g := gName 9) (by rfl) sc_l_book_table.nd (pi_listK K (pv 4)) (blkOk_by (own := [("b", 9)]) (by rfl)) (fun _ _ _ _ _ => (pg_name (i := 9) sc_l_book_table.nd rfl (Or.inl rfl))) (fun _ _ _ _ _ => pts_nil) (fun _ _ _ _ _ => (pe_call (ok_l_of T) (hr.mono (by decide)) (by rfl) T.g_l_of T.F_l_of.kp T.b_l_of .nil pass0 (pa_cons (pv 0) (pa_cons (pe_lst (pa_cons (pe_op op_powW pe_int pe_int) (pa_cons (pe_un un_neg (pe_op op_powW pe_int pe_int)) (pa_cons pe_int (pa_cons pe_int (pa_cons (pe_op op_powW pe_int pe_int) pa_nil)))))) pa_nil))))))))) (pss_one (ps_if (pt_cmpR op_eq (pv 3) pe_int (nomark _)) (pss_one (ps_set (i := 7) sc_l_book_table.nd rfl (Or.inr rfl) (pe_lc (own := [("a", 8)]) (g := gName 8) (by rfl) sc_l_book_table.nd (pi_list (pv 4)) (blkOk_by (own := [("a", 8)]) (by rfl)) (fun _ _ _ _ _ => (pg_name (i := 8) sc_l_book_table.nd rfl (Or.inl rfl))) (fun _ _ _ _ _ => pts_nil) (fun _ _ _ _ _ => (pe_lc (own := [("b", 9)]) (g := gName 9) (by rfl) sc_l_book_table.nd (pi_listK K (pv 4)) (blkOk_by (own := [("b", 9)]) (by rfl)) (fun _ _ _ _ _ => (pg_name (i := 9) sc_l_book_table.nd rfl (Or.inl rfl))) (fun _ _ _ _ _ => pts_nil) (fun _ _ _ _ _ => pe_int)))))) pss_nil)))))))))))))
  (pss_one (ps_ret (pe_callTy call_tuple_of (by rfl) T.n_tuple (by decide +kernel) (pa_cons (pe_lc (own := [("row", 10)]) (g := gName 10) (by rfl) sc_l_book_table.nd (pi_list (pv 7)) (blkOk_by (own := [("row", 10)]) (by rfl)) (fun _ _ _ _ _ => (pg_name (i := 10) sc_l_book_table.nd rfl (Or.inl rfl))) (fun _ _ _ _ _ => pts_nil) (fun _ _ _ _ _ => (pe_callTy (call_tuple_ofK K) (by rfl) T.n_tuple (by decide +kernel) (pa_cons (pe_lc (own := [("n", 11)]) (g := gName 11) (by rfl) sc_l_book_table.nd (pi_listK K (pv 10)) (blkOk_by (own := [("n", 11)]) (by rfl)) (fun _ _ _ _ _ => (pg_name (i := 11) sc_l_book_table.nd rfl (Or.inl rfl))) (fun _ _ _ _ _ => pts_nil) (fun _ _ _ _ _ => (pe_ifExp (pt_cmpR op_gt (pv 1) pe_int (nomark _)) (pe_op op_mod (pe_callTy call_int1 (by rfl) T.n_int (by decide +kernel) (pa_cons (pv 11) pa_nil)) (pv 1)) (pv 11)))) pa_nil)))) pa_nil)))))))), ?_⟩
    refine ⟨.ref p, rfl, p, 10, k + 59, rfl, hP, by decide, by decide, fun way H1 w0 w1 d1 => ?_⟩
    refine ⟨.int m, rfl, m, rfl, RgOk.of_le (by decide) (by omega) (by decide) (by omega), fun pl hpl => ?_⟩
    have npl : pl ≠ p := d1.2.ne hpl
    have d2 := d1.new (o := .lst (plV m)) hpl
    refine ⟨(by show 2 ≤ sizeLine; decide), fun t1 ht1 => ?_⟩
    have d3 := d2.new (o := .tup [.int way, .ref pl]) ht1
    have hpl3 : (upd (upd H1 pl (.lst (plV m))) t1 (.tup [.int way, .ref pl])) pl = some (.lst (plV m)) := by
      rw [upd_ne (ne_new ht1).symm, upd_same]
    refine ⟨t1, _, rfl, SqT.of upd_same, rfl, _, _, rfl, _, _, rfl, rfl, ?_⟩
    refine ⟨.ref p, rfl, by decide, fun c1 hc1 => ?_⟩
    refine ⟨by decide, fun c2 hc2 => ?_⟩
    refine ⟨_, rfl, by decide, fun c3 hc3 => ?_⟩
    refine ⟨_, rfl, by decide, fun c4 hc4 => ?_⟩
    refine ⟨_, rfl, by decide, fun c5 hc5 => ?_⟩
    refine ⟨(by show 5 ≤ sizeLine; decide), fun l hl => ?_⟩
    have s1 := same_new (o := .tup [.int 0, .int 1]) hc1
    have s2 := same_new (o := .tup [.int 0, .int 1]) hc2
    have s3 := same_new (o := .tup [.int (-1), .int 1]) hc3
    have s4 := same_new (o := .tup [.int (-3), .int 3]) hc4
    have s5 := same_new (o := .tup [.int (-9), .int 9]) hc5
    have s6 := same_new (o := .lst [.ref c1, .ref c2, .ref c3, .ref c4, .ref c5]) hl
    have t6 := s6
    have t5 := s5.trans t6
    have t4 := s4.trans t5
    have t3 := s3.trans t4
    have t2 := s2.trans t3
    have t1' := s1.trans t2
    have d6 : Dr p (k + 59) H _ := ⟨d3.1.trans (Same.kp t1'), d3.2.same t1'⟩
    have nlp : l ≠ p := (d3.2.same (((((s1.trans s2).trans s3).trans s4).trans s5))).ne hl
    refine ⟨p, l, _, k + 58, rfl, d6.2.mono (by omega), SqL.of upd_same, nlp, (by show 0 < 5; decide), (by show 5 < 100000; decide), fun j x H7 hx d7 => ?_⟩
    have d67 := d6.trans d7
    have hc : ∃ (c : Addr) (lo hi : Int), x = .ref c ∧ H7 c = some (.tup [.int lo, .int hi]) ∧ -9 ≤ lo ∧ lo ≤ 0 ∧ 1 ≤ hi ∧ hi ≤ 9 := by
      have hx : [V.ref c1, V.ref c2, V.ref c3, V.ref c4, V.ref c5][j]? = some x := hx
      rcases j with _ | _ | _ | _ | _ | j
      · have u := t2 c1 _ upd_same
        exact ⟨c1, 0, 1, (Option.some.inj hx).symm, d7.st (d6.2.neT u) u, by decide, by decide, by decide, by decide⟩
      · have u := t3 c2 _ upd_same
        exact ⟨c2, 0, 1, (Option.some.inj hx).symm, d7.st (d6.2.neT u) u, by decide, by decide, by decide, by decide⟩
      · have u := t4 c3 _ upd_same
        exact ⟨c3, (-1), 1, (Option.some.inj hx).symm, d7.st (d6.2.neT u) u, by decide, by decide, by decide, by decide⟩
      · have u := t5 c4 _ upd_same
        exact ⟨c4, (-3), 3, (Option.some.inj hx).symm, d7.st (d6.2.neT u) u, by decide, by decide, by decide, by decide⟩
      · have u := t6 c5 _ upd_same
        exact ⟨c5, (-9), 9, (Option.some.inj hx).symm, d7.st (d6.2.neT u) u, by decide, by decide, by decide, by decide⟩
      · simp at hx
    obtain ⟨c, lo, hi, rfl, hcT, lo9, lo0, hi1, hi9⟩ := hc
    refine ⟨c, _, rfl, SqT.of hcT, rfl, _, _, rfl, _, _, rfl, rfl, ?_⟩
    have hpl7 : H7 pl = some (.lst (plV m)) := d7.st npl (t1' _ _ hpl3)
    refine ⟨.ref pl, rfl, pl, rfl, ⟨_, SqL.of hpl7⟩, fun S hS => ?_⟩
    refine lc_mat (sa := 8) (sb := 9) (sp := 4) (k := k + 33) R9 d7.2 hm hpl7 npl hS (fun a b j H' Q' ha hb d hq => ?_) (fun _ => rfl) (fun _ => rfl) (fun _ _ => rfl) (fun H8 hM d8 => ?_)
    · refine ⟨.int lo, rfl, .ref p, rfl, .int hi, rfl, .int lo, rfl, _, _, rfl, rfl, _, _, rfl, rfl, p, hi - lo + 1, j, rfl, d.2, by omega, by omega, fun r H4 r0 r1 d4 => ?_⟩
      exact ⟨lo, r, rfl, rfl, hq _ _ ⟨by omega, by omega⟩ d4⟩
    have d08 := d67.trans d8
    have hpl8 : H8 pl = some (.lst (plV m)) := d8.st npl hpl7
    dsimp only [gName]
    refine seq_fin (fun σ' H' => ∃ (S : Addr), σ' = [some (.ref p), some (.int b), some (.int m), some (.int way), some (.ref pl), some (.int lo), some (.int hi), some (.ref S), none, none, none, none] ∧ Mat R12 p H' S m ∧ Dr p k H H') ?_ (fun fin => ?_)
    · rintro σ' H' ⟨S, rfl, ⟨rs, h1, nSp, h3, h4⟩, d⟩
      refine ⟨.ref S, rfl, S, rfl, ⟨_, SqL.of h1⟩, fun D hD => ?_⟩
      refine lc_list (K := K) (a := S) (xs := rs.map V.ref) (fun i H2 => i ≤ m ∧ Same H' H2 ∧ ∃ (qs : List Addr) (M : List (List Int)), H2 D = some (.lst (qs.map V.ref)) ∧ qs.length = i ∧ M.length = i ∧
          (∀ (j : Nat) (q : Addr), qs[j]? = some q → q ≠ D ∧ ∃ row : List Int, M[j]? = some row ∧ H2 q = some (.tup (row.map V.int))) ∧ ∀ row ∈ M, row.length = m ∧ ∀ z ∈ row, TOk b z)
        ⟨Nat.zero_le _, same_new hD, [], [], upd_same, rfl, rfl, fun j q h => by simp at h, fun _ h => by cases h⟩ (fun i H2 _ ⟨_, s, _⟩ => SqL.of (s _ _ h1)) ?_ ?_
      · rintro i x H2 hx ⟨_, s, qs, M, g1, g2, g3, g4, g5⟩
        have him : i < m := by
          have := (List.getElem?_eq_some_iff.mp hx).1
          rw [List.length_map] at this
          omega
        have hr : rs[i]? = some (rs[i]'(by omega)) := List.getElem?_eq_getElem (by omega)
        obtain ⟨nrp, nrS, row, e1, e2, e3⟩ := h4 _ (List.mem_of_getElem? hr)
        have ex : x = .ref (rs[i]'(by omega)) := by
          rw [List.getElem?_map, hr] at hx
          exact (Option.some.inj hx).symm
        subst ex
        refine ⟨rfl, ?_⟩
        refine ⟨_, rfl, _, rfl, ⟨_, SqL.of (s _ _ e1)⟩, fun D2 hD2 => ?_⟩
        refine lc_list (K := K) (a := rs[i]'(by omega)) (xs := row.map V.int) (fun j H3 => j ≤ m ∧ Same H2 H3 ∧ ∃ zs : List Int, H3 D2 = some (.lst (zs.map V.int)) ∧ zs.length = j ∧ ∀ z ∈ zs, TOk b z)
          ⟨Nat.zero_le _, same_new hD2, [], upd_same, rfl, fun _ h => by cases h⟩ (fun j H3 _ ⟨_, s3, _⟩ => SqL.of (s3 _ _ (s _ _ e1))) ?_ ?_
        · rintro j x H3 hx ⟨_, s3, zs, f1, f2, f3⟩
          have hjm : j < m := by
            have := (List.getElem?_eq_some_iff.mp hx).1
            rw [List.length_map] at this
            omega
          obtain ⟨z, hz, rfl⟩ := at_of hx
          obtain ⟨z1, z2⟩ := e3 z hz
          refine ⟨rfl, ?_⟩
          have go : ∀ y : Int, TOk b y → ∃ acc, H3 D2 = some (.lst acc) ∧ acc.length < sizeLine ∧ j + 1 ≤ m ∧ Same H2 (upd H3 D2 (.lst (acc ++ [V.int y]))) ∧ ∃ zs : List Int, (upd H3 D2 (.lst (acc ++ [V.int y]))) D2 = some (.lst (zs.map V.int)) ∧ zs.length = j + 1 ∧ ∀ z ∈ zs, TOk b z := fun y hy => by
            refine ⟨_, f1, by rw [List.length_map]; exact small1000 (by omega), hjm, fun a o ho => ?_, zs ++ [y], ?_, by rw [List.length_append, f2]; rfl, fun u hu => ?_⟩
            · rw [upd_ne (ne_of_none ho hD2)]
              exact s3 _ _ ho
            · rw [upd_same, List.map_append]
              rfl
            · rcases List.mem_append.mp hu with v | v
              · exact f3 u v
              · rw [List.mem_singleton.mp v]
                exact hy
          refine ⟨.int b, rfl, _, _, rfl, rfl, _, rfl, ite2 (fun hb => ?_) (fun hb => ?_)⟩
          · have hb : 0 < b := of_decide_eq_true hb
            refine ⟨_, rfl, .inl ⟨_, rfl, ?_⟩⟩
            refine ⟨.int b, rfl, _, _, rfl, rfl, hb, ?_⟩
            have m0 := Int.emod_nonneg z (show b ≠ 0 by omega)
            have m1 := Int.emod_lt_of_pos z hb
            exact go _ ⟨by omega, by omega, fun _ => ⟨m0, m1⟩⟩
          · have hb : ¬ 0 < b := of_decide_eq_false (Bool.eq_false_iff.mpr hb)
            exact ⟨_, rfl, go _ ⟨z1, z2, fun h => absurd h hb⟩⟩
        · rintro H3 ⟨_, s3, zs, f1, f2, f3⟩
          rw [List.length_map, e2] at f2
          refine ⟨D2, _, rfl, .inl ⟨SqL.of f1, fun t ht => ?_⟩⟩
          have s4 := s3.trans (same_new (o := .tup (zs.map V.int)) ht)
          have nDt : D ≠ t := ne_of_none (s3 _ _ g1) ht
          refine ⟨_, s4 _ _ g1, by rw [List.length_map]; exact small1000 (by omega), him, fun a o ho => ?_, qs ++ [t], M ++ [zs], ?_, by rw [List.length_append, g2]; rfl, by rw [List.length_append, g3]; rfl, fun j q hq => ?_, fun r hr => ?_⟩
          · rw [upd_ne (ne_of_none ho hD)]
            exact s4 _ _ (s _ _ ho)
          · rw [upd_same, List.map_append]
            rfl
          · by_cases hj : j < qs.length
            · rw [List.getElem?_append_left hj] at hq
              obtain ⟨k1, row', k2, k3⟩ := g4 j q hq
              exact ⟨k1, row', by rw [List.getElem?_append_left (by omega)]; exact k2, by rw [upd_ne k1]; exact s4 _ _ k3⟩
            · rw [List.getElem?_append_right (by omega)] at hq
              have hj0 : j - qs.length = 0 := by
                have := (List.getElem?_eq_some_iff.mp hq).1
                simp only [List.length_singleton] at this
                omega
              rw [hj0] at hq
              have eq : t = q := Option.some.inj hq
              subst eq
              refine ⟨nDt.symm, zs, ?_, by rw [upd_ne nDt.symm, upd_same]⟩
              rw [List.getElem?_append_right (by omega), show j - M.length = 0 by omega]
              rfl
          · rcases List.mem_append.mp hr with v | v
            · exact g5 r v
            · rw [List.mem_singleton.mp v]
              exact ⟨f2, f3⟩
      · rintro H2 ⟨_, s, qs, M, g1, g2, g3, g4, g5⟩
        rw [List.length_map, h3] at g2 g3
        refine ⟨D, _, rfl, .inl ⟨SqL.of g1, fun t ht => ?_⟩⟩
        have s2 := s.trans (same_new (o := .tup (qs.map V.ref)) ht)
        refine q t M _ ⟨qs, upd_same, g2, g3, fun i r hr => ?_, g5⟩ ⟨d.1.trans (Same.kp s2), d.2.same s2⟩ (d.fr (s.free ht)) ((d.2.same s).ne ht)
        obtain ⟨k1, row, k2, k3⟩ := g4 i r hr
        exact ⟨row, k2, by rw [upd_ne (ne_of_none k3 ht)]; exact k3⟩
    · refine ⟨.int way, rfl, rfl, _, rfl, ite2 (fun _ => ?_) (fun _ => ?_)⟩
      · refine ⟨.ref pl, rfl, pl, rfl, ⟨_, SqL.of hpl8⟩, fun S2 hS2 => ?_⟩
        refine lc_mat (sa := 8) (sb := 9) (sp := 4) (k := k + 5) R12 (d8.2.mono (by omega)) hm hpl8 npl hS2 (fun a c j H' Q' ha hc d hq => ?_) (fun _ => rfl) (fun _ => rfl) (fun _ _ => rfl) (fun H9 hM9 d9 => fin _ _ ⟨S2, rfl, hM9, (d08.trans d9).mono (by omega)⟩)
        refine ⟨.int a, rfl, .int c, rfl, rfl, ?_⟩
        exact .inr ⟨_, rfl, hq _ _ (b01 _) (Dr.start d.2 (by omega))⟩
      · refine ⟨.int way, rfl, rfl, _, rfl, ite2 (fun _ => ?_) (fun _ => ?_)⟩
        · refine ⟨.ref pl, rfl, pl, rfl, ⟨_, SqL.of hpl8⟩, fun S2 hS2 => ?_⟩
          refine lc_mat (sa := 8) (sb := 9) (sp := 4) (k := k + 5) R12 (d8.2.mono (by omega)) hm hpl8 npl hS2 (fun a c j H' Q' ha hc d hq => ?_) (fun _ => rfl) (fun _ => rfl) (fun _ _ => rfl) (fun H9 hM9 d9 => fin _ _ ⟨S2, rfl, hM9, (d08.trans d9).mono (by omega)⟩)
          refine ⟨.int a, rfl, .int c, rfl, rfl, ?_⟩
          exact .inr ⟨_, rfl, hq _ _ (b01 _) (Dr.start d.2 (by omega))⟩
        · refine ⟨.int way, rfl, rfl, _, rfl, ite2 (fun _ => ?_) (fun _ => ?_)⟩
          · refine ⟨.ref pl, rfl, pl, rfl, ⟨_, SqL.of hpl8⟩, fun S2 hS2 => ?_⟩
            refine lc_mat (sa := 8) (sb := 9) (sp := 4) (k := k + 5) R12 (d8.2.mono (by omega)) hm hpl8 npl hS2 (fun a c j H' Q' ha hc d hq => ?_) (fun _ => rfl) (fun _ => rfl) (fun _ _ => rfl) (fun H9 hM9 d9 => fin _ _ ⟨S2, rfl, hM9, (d08.trans d9).mono (by omega)⟩)
            refine ⟨.int c, rfl, .int a, rfl, _, _, rfl, rfl, .inl ⟨_, rfl, ?_⟩⟩
            refine ⟨.int m, rfl, _, _, rfl, rfl, (by show (0 : Int) < m; omega), rfl, ?_⟩
            exact .inr ⟨_, rfl, hq _ _ (b01 _) (Dr.start d.2 (by omega))⟩
          · refine ⟨.int way, rfl, _, _, rfl, rfl, _, rfl, ite2 (fun _ => ?_) (fun _ => ?_)⟩
            · refine ⟨.ref pl, rfl, pl, rfl, ⟨_, SqL.of hpl8⟩, fun S2 hS2 => ?_⟩
              refine lc_mat (sa := 8) (sb := 9) (sp := 4) (k := k + 5) R12 (d8.2.mono (by omega)) hm hpl8 npl hS2 (fun a c j H' Q' ha hc d hq => ?_) (fun _ => rfl) (fun _ => rfl) (fun _ _ => rfl) (fun H9 hM9 d9 => fin _ _ ⟨S2, rfl, hM9, (d08.trans d9).mono (by omega)⟩)
              have hM' := hM.dr d
              obtain ⟨x1, hx1, hx2⟩ : ∃ x : Nat, x < m ∧ (if ((c : Nat) : Int) < ((a : Nat) : Int) then ((c : Nat) : Int) else ((a : Nat) : Int)) = (x : Int) := by
                by_cases e : ((c : Nat) : Int) < ((a : Nat) : Int)
                · exact ⟨c, hc, if_pos e⟩
                · exact ⟨a, ha, if_neg e⟩
              obtain ⟨y1, hy1, hy2⟩ : ∃ x : Nat, x < m ∧ (if ((c : Nat) : Int) > ((a : Nat) : Int) then ((c : Nat) : Int) else ((a : Nat) : Int)) = (x : Int) := by
                by_cases e : ((c : Nat) : Int) > ((a : Nat) : Int)
                · exact ⟨c, hc, if_pos e⟩
                · exact ⟨a, ha, if_neg e⟩
              obtain ⟨rs, r, row, m1, m2, m3, m4, m5, m6⟩ := hM'.row hx1
              obtain ⟨z, z1, z2⟩ := row_at m5 m6 hy1
              refine ⟨.ref S, rfl, .int a, rfl, .int c, rfl, _, _, rfl, ?_⟩
              refine ⟨S, _, (x1 : Int), _, rfl, congrArg V.int hx2, SqL.of m1, atI_nat m3, ?_⟩
              refine ⟨.int a, rfl, .int c, rfl, _, _, rfl, ?_⟩
              refine ⟨r, _, (y1 : Int), _, rfl, congrArg V.int hy2, SqL.of m4, atI_nat z1, ?_⟩
              exact hq _ _ (r9_12 _ z2) (Dr.start d.2 (by omega))
            · refine ⟨.int way, rfl, rfl, _, rfl, ite2 (fun _ => ?_) (fun _ => ?_)⟩
              · refine ⟨.ref pl, rfl, pl, rfl, ⟨_, SqL.of hpl8⟩, fun S2 hS2 => ?_⟩
                refine lc_mat (sa := 8) (sb := 9) (sp := 4) (k := k + 5) R12 (d8.2.mono (by omega)) hm hpl8 npl hS2 (fun a c j H' Q' ha hc d hq => ?_) (fun _ => rfl) (fun _ => rfl) (fun _ _ => rfl) (fun H9 hM9 d9 => fin _ _ ⟨S2, rfl, hM9, (d08.trans d9).mono (by omega)⟩)
                have hM' := hM.dr d
                obtain ⟨rs, r, row, m1, m2, m3, m4, m5, m6⟩ := hM'.row (show 0 < m by omega)
                obtain ⟨z, z1, z2⟩ := row_at m5 m6 ha
                obtain ⟨rs', r', row', m1', m2', m3', m4', m5', m6'⟩ := hM'.row (show m - 1 < m by omega)
                obtain ⟨y, y1, y2⟩ := row_at m5' m6' hc
                have nb := rx_le z2 y2
                refine ⟨.ref S, rfl, S, _, ((0 : Nat) : Int), _, rfl, rfl, SqL.of m1, atI_nat m3, ?_⟩
                refine ⟨.int a, rfl, r, _, (a : Int), _, rfl, rfl, SqL.of m4, atI_nat z1, ?_⟩
                refine ⟨.ref S, rfl, _, rfl, S, _, _, _, rfl, rfl, SqL.of m1', at_neg1 (by rw [List.length_map, m2']) hm1 m3', ?_⟩
                refine ⟨.int c, rfl, r', _, (c : Int), _, rfl, rfl, SqL.of m4', atI_nat y1, ?_⟩
                refine ⟨_, _, rfl, rfl, wide_mul (a := 10) (b := 10) (by have := z2.1; have := z2.2; omega) (by have := y2.1; have := y2.2; omega) (by decide) (by decide) (by decide), ?_⟩
                exact hq _ _ nb (Dr.start d.2 (by omega))
              · refine ⟨.int way, rfl, rfl, _, rfl, ite2 (fun _ => ?_) (fun _ => ?_)⟩
                · refine ⟨.ref pl, rfl, pl, rfl, ⟨_, SqL.of hpl8⟩, fun S2 hS2 => ?_⟩
                  refine lc_mat (sa := 8) (sb := 9) (sp := 4) (k := k + 5) R12 (d8.2.mono (by omega)) hm hpl8 npl hS2 (fun a c j H' Q' ha hc d hq => ?_) (fun _ => rfl) (fun _ => rfl) (fun _ _ => rfl) (fun H9 hM9 d9 => fin _ _ ⟨S2, rfl, hM9, (d08.trans d9).mono (by omega)⟩)
                  refine ⟨.ref p, rfl, _, _, rfl, rfl, pow_c (by decide), _, _, rfl, rfl, pow_c (by decide), _, rfl, _, _, rfl, rfl, pow_c (by decide), by decide, fun l hl => ?_⟩
                  have nlp : l ≠ p := d.2.ne hl
                  refine ⟨p, l, _, j, rfl, d.2.same (same_new hl), SqL.of upd_same, nlp, by decide, by decide, fun e x H4 hx d4 => ?_⟩
                  have d5 : Dr p j H' H4 := (Dr.new (Dr.start d.2 (Nat.le_refl _)) hl).trans d4
                  have hx : [V.int 1000000000000, V.int (-1000000000000), V.int 0, V.int 1, V.int 1000000][e]? = some x := hx
                  rcases e with _ | _ | _ | _ | _ | e
                  · have ex := Option.some.inj hx
                    rw [← ex]
                    exact hq _ _ ⟨by decide, by decide⟩ d5
                  · have ex := Option.some.inj hx
                    rw [← ex]
                    exact hq _ _ ⟨by decide, by decide⟩ d5
                  · have ex := Option.some.inj hx
                    rw [← ex]
                    exact hq _ _ ⟨by decide, by decide⟩ d5
                  · have ex := Option.some.inj hx
                    rw [← ex]
                    exact hq _ _ ⟨by decide, by decide⟩ d5
                  · have ex := Option.some.inj hx
                    rw [← ex]
                    exact hq _ _ ⟨by decide, by decide⟩ d5
                  · simp at hx
                · refine ⟨.int way, rfl, rfl, _, rfl, ite2 (fun _ => ?_) (fun _ => ?_)⟩
                  · refine ⟨.ref pl, rfl, pl, rfl, ⟨_, SqL.of hpl8⟩, fun S2 hS2 => ?_⟩
                    refine lc_mat (sa := 8) (sb := 9) (sp := 4) (k := k + 5) R12 (d8.2.mono (by omega)) hm hpl8 npl hS2 (fun a c j H' Q' ha hc d hq => ?_) (fun _ => rfl) (fun _ => rfl) (fun _ _ => rfl) (fun H9 hM9 d9 => fin _ _ ⟨S2, rfl, hM9, (d08.trans d9).mono (by omega)⟩)
                    exact hq _ _ ⟨by decide, by decide⟩ (Dr.start d.2 (by omega))
                  · exact fin _ _ ⟨S, rfl, hM.imp r9_12, d08.mono (by omega)⟩
end
end OG
set_option Elab.async false
set_option linter.all false
set_option maxRecDepth 100000
set_option maxHeartbeats 4000000
namespace OG
open PySem PySem.Spec PyProof.Rows L2
theorem merge_new : ∀ {more kvs : List (Key × V)}, (more.map (·.1)).Nodup → (∀ kv ∈ more, valV kvs kv.1 = none) → mergeK kvs more = kvs ++ more
  | [], kvs, _, _ => by
    rw [List.append_nil]
    rfl
  | kv :: r, kvs, h, hn => by
    rw [List.map_cons, List.nodup_cons] at h
    have e : mergeK kvs (kv :: r) = mergeK (putK kvs kv.1 kv.2) r := rfl
    have e1 := putK_new kv.2 (hn kv List.mem_cons_self)
    rw [e, e1, merge_new h.2 fun x hx => ?_, List.append_assoc]
    · rfl
    · rw [valV_snoc _ _ _ _ (hn kv List.mem_cons_self), if_neg fun z => h.1 (by rw [← z]; exact List.mem_map_of_mem hx)]
      exact hn x (List.mem_cons_of_mem _ hx)
theorem merge0 {more : List (Key × V)} (h : (more.map (·.1)).Nodup) : mergeK [] more = more := by
  rw [merge_new h fun _ _ => rfl]
  rfl
theorem dget {H : Hp} {o : Addr} {kvs : List (Key × V)} {s : Str} {v : V} (h : H o = some (.dK kvs)) (hv : valV kvs (.inr s) = some v) : DGet H o (.str s) (some v) := .inl ⟨kvs, .inr s, .inl h, rfl, hv.symm⟩
theorem putK_nd {kvs : List (Key × V)} {k : Key} {v : V} (h : (kvs.map (·.1)).Nodup) : ((putK kvs k v).map (·.1)).Nodup := by
  unfold putK
  split
  · rw [List.map_map, show ((fun x : Key × V => x.1) ∘ fun kv => if kv.1 = k then (kv.1, v) else kv) = (fun x => x.1) from funext fun kv => by
      show (if kv.1 = k then (kv.1, v) else kv).1 = kv.1
      split <;> rfl]
    exact h
  · rename_i e
    rw [List.map_append, List.nodup_append]
    refine ⟨h, by simp, fun a ha b hb z => ?_⟩
    obtain ⟨kv, h1, rfl⟩ := List.mem_map.mp ha
    have eb : b = k := by simpa using hb
    exact e (List.any_eq_true.mpr ⟨kv, h1, decide_eq_true (z.trans eb)⟩)
/-- what is right of a drawn book -/
structure BkOk (b : Int) (m : Nat) (ms : List Str) (ws : List Int) (ks : List Str) (Ms : List (List (List Int))) : Prop where
  b0 : 0 ≤ b
  b1 : b ≠ 1
  b97 : b ≤ 97
  m1 : 1 ≤ m
  m4 : m ≤ 4
  nm : Nms ms m
  wl : ws.length = m
  w : ∀ z ∈ ws, WOk b z
  nk : Nms ks ks.length
  k1 : 1 ≤ ks.length
  k3 : ks.length ≤ 3
  ml : Ms.length = ks.length
def TabsAt (b : Int) (m : Nat) (H : Hp) (td : Addr) (ks : List Str) (Ms : List (List (List Int))) : Prop := ∃ tkvs : List (Key × V), H td = some (.dK tkvs) ∧ (tkvs.map (·.1)).Nodup ∧ tkvs.length ≤ 10 ∧
  ∀ (i : Nat) (k : Str), ks[i]? = some k → ∃ (t : Addr) (M : List (List Int)), valV tkvs (.inr k) = some (.ref t) ∧ Ms[i]? = some M ∧ Tab b H t m M
/-- the dict of a drawn book -/
def BookAt (H : Hp) (o : Addr) (b : Int) (m : Nat) (ms : List Str) (ws : List Int) (ks : List Str) (Ms : List (List (List Int))) : Prop := ∃ (kvs : List (Key × V)) (tm tw tk td : Addr),
  H o = some (.dK kvs) ∧ kvs.length ≤ 10 ∧ valV kvs (.inr "by") = some (.int b) ∧ valV kvs (.inr "marks") = some (.ref tm) ∧ H tm = some (.tup (ms.map V.str)) ∧ valV kvs (.inr "weights") = some (.ref tw) ∧ H tw = some (.tup (ws.map V.int)) ∧
  valV kvs (.inr "kinds") = some (.ref tk) ∧ H tk = some (.tup (ks.map V.str)) ∧ valV kvs (.inr "tables") = some (.ref td) ∧ TabsAt b m H td ks Ms
theorem TabsAt.same {b : Int} {m : Nat} {H H' : Hp} {td : Addr} {ks : List Str} {Ms : List (List (List Int))} (h : TabsAt b m H td ks Ms) (s : Same H H') : TabsAt b m H' td ks Ms := by
  obtain ⟨tkvs, h1, hn, hl, h2⟩ := h
  refine ⟨tkvs, s _ _ h1, hn, hl, fun i k hk => ?_⟩
  obtain ⟨t, M, e1, e2, e3⟩ := h2 i k hk
  exact ⟨t, M, e1, e2, e3.same s⟩
theorem TabsAt.dr {b : Int} {m : Nat} {H H' : Hp} {p td : Addr} {j k : Nat} {ks : List Str} {Ms : List (List (List Int))} (h : TabsAt b m H td ks Ms) (hP : Pot j H p) (d : Dr p k H H') : TabsAt b m H' td ks Ms := by
  obtain ⟨tkvs, h1, hn, hl, h2⟩ := h
  refine ⟨tkvs, d.st (hP.neD h1) h1, hn, hl, fun i k hk => ?_⟩
  obtain ⟨t, M, e1, e2, e3⟩ := h2 i k hk
  exact ⟨t, M, e1, e2, e3.dr hP d⟩
theorem BookAt.same {H H' : Hp} {o : Addr} {b : Int} {m : Nat} {ms ks : List Str} {ws : List Int} {Ms : List (List (List Int))} (h : BookAt H o b m ms ws ks Ms) (s : Same H H') : BookAt H' o b m ms ws ks Ms := by
  obtain ⟨kvs, tm, tw, tk, td, h1, h2, h3, h4, h5, h6, h7, h8, h9, h10, h11⟩ := h
  exact ⟨kvs, tm, tw, tk, td, s _ _ h1, h2, h3, h4, s _ _ h5, h6, s _ _ h7, h8, s _ _ h9, h10, h11.same s⟩
theorem BookAt.dr {H H' : Hp} {p o : Addr} {b : Int} {m j k : Nat} {ms ks : List Str} {ws : List Int} {Ms : List (List (List Int))} (h : BookAt H o b m ms ws ks Ms) (hP : Pot j H p) (d : Dr p k H H') : BookAt H' o b m ms ws ks Ms := by
  obtain ⟨kvs, tm, tw, tk, td, h1, h2, h3, h4, h5, h6, h7, h8, h9, h10, h11⟩ := h
  exact ⟨kvs, tm, tw, tk, td, d.st (hP.neD h1) h1, h2, h3, h4, d.st (hP.neT h5) h5, h6, d.st (hP.neT h7) h7, h8, d.st (hP.neT h9) h9, h10, h11.dr hP d⟩
def dict5 (b : Int) (tm tw tk td : Addr) : List (Key × V) := [(.inr "by", .int b), (.inr "marks", .ref tm), (.inr "weights", .ref tw), (.inr "kinds", .ref tk), (.inr "tables", .ref td)]
theorem dict5_nd (b : Int) (tm tw tk td : Addr) : ((dict5 b tm tw tk td).map (·.1)).Nodup := by
  show ([.inr "by", .inr "marks", .inr "weights", .inr "kinds", .inr "tables"] : List Key).Nodup
  decide +kernel
theorem k_ne {a b : Str} (h : ¬ a = b) : ¬ (Sum.inr a : Key) = Sum.inr b := fun z => h (Sum.inr.inj z)
theorem dict5_at (b : Int) (tm tw tk td : Addr) : valV (dict5 b tm tw tk td) (.inr "by") = some (.int b) ∧ valV (dict5 b tm tw tk td) (.inr "marks") = some (.ref tm) ∧ valV (dict5 b tm tw tk td) (.inr "weights") = some (.ref tw) ∧
    valV (dict5 b tm tw tk td) (.inr "kinds") = some (.ref tk) ∧ valV (dict5 b tm tw tk td) (.inr "tables") = some (.ref td) := by
  unfold dict5
  refine ⟨valV_pos rfl, ?_, ?_, ?_, ?_⟩
  · rw [valV_neg (k_ne (by decide +kernel)), valV_pos rfl]
  · rw [valV_neg (k_ne (by decide +kernel)), valV_neg (k_ne (by decide +kernel)), valV_pos rfl]
  · rw [valV_neg (k_ne (by decide +kernel)), valV_neg (k_ne (by decide +kernel)), valV_neg (k_ne (by decide +kernel)), valV_pos rfl]
  · rw [valV_neg (k_ne (by decide +kernel)), valV_neg (k_ne (by decide +kernel)), valV_neg (k_ne (by decide +kernel)), valV_neg (k_ne (by decide +kernel)), valV_pos rfl]
end OG
set_option Elab.async false
set_option linter.all false
set_option maxRecDepth 100000
set_option maxHeartbeats 8000000
namespace OG
open PySem PySem.Spec PyProof.Rows L2
section
variable {P : Program} {w : World} {K : PySem.W.Frag} {mg : Str → Option Value} {base : Heap}
def spTwin : Sp := fun vs H Q _ => ∃ (o : Addr) (x y : Nat) (b : Int) (m : Nat) (ms ks : List Str) (ws : List Int) (Ms : List (List (List Int))), vs = [.ref o, .int (x : Int), .int (y : Int)] ∧ BookAt H o b m ms ws ks Ms ∧ BkOk b m ms ws ks Ms ∧ x < m ∧
  ∀ (q : Addr) (Ms' : List (List (List Int))) (H' : Hp), Same H H' → H q = none → BookAt H' q b m ms ws ks Ms' → BkOk b m ms ws ks Ms' → Q (.ref q) H'
/-- the rows at the places of the list -/
theorem Tab.at {b : Int} {H : Hp} {t : Addr} {m : Nat} {M : List (List Int)} (h : Tab b H t m M) {i j : Nat} (hi : i < m) (hj : j < m) : ∃ (rs : List V) (r : Addr) (row : List Int) (z : Int), H t = some (.tup rs) ∧ rs[i]? = some (.ref r) ∧ H r = some (.tup (row.map V.int)) ∧ (row.map V.int)[j]? = some (.int z) ∧ TOk b z := by
  obtain ⟨rs, h1, h2, h3, h4, h5⟩ := h
  have hr : rs[i]? = some (rs[i]'(by omega)) := List.getElem?_eq_getElem (by omega)
  obtain ⟨row, e1, e2⟩ := h4 i _ hr
  obtain ⟨f1, f2⟩ := h5 row (List.mem_of_getElem? e1)
  obtain ⟨z, z1, z2⟩ := row_at f1 f2 hj
  refine ⟨_, _, row, z, h1, ?_, e2, z1, z2⟩
  rw [List.getElem?_map, hr]
  rfl
theorem nat_at {ns : List Nat} {i : Nat} {x : V} (h : (ns.map fun (n : Nat) => V.int (n : Int))[i]? = some x) : ∃ n, n ∈ ns ∧ x = .int (n : Int) := by
  rw [List.getElem?_map] at h
  cases e : ns[i]? with
  | none =>
    rw [e] at h
    cases h
  | some n =>
    rw [e] at h
    exact ⟨n, List.mem_of_getElem? e, (Option.some.inj h).symm⟩
theorem ok_l_book_twinned (T : Txt K mg) : FnOk P w K mg base CX0 1 T.f_l_book_twinned T.fd_l_book_twinned ["own", "one", "other"] (spTwin) := by
  refine T.F_l_book_twinned.ok sc_l_book_twinned (fun vs H Q E h => ?_) (fun cdv A outer s H vs Q E hr h => ?_)
  · obtain ⟨o, x, y, b, m, ms, ks, ws, Ms, rfl, _⟩ := h
    rfl
  · obtain ⟨o, x, y, b, m, ms, ks, ws, Ms, rfl, hB, ok, hx, q⟩ := h
    refine ⟨_, (pss_cons (ps_asg (pe_tup (pa_cons pe_dnewK (pa_cons (pe_lc (own := [("at", 6)]) (g := gName 6) (by rfl) sc_l_book_twinned.nd (pi_range1 (by rfl) T.n_range (pa_cons (pe_callB call_len_seq (by rfl) T.n_len PySem.boot_len (pa_cons (pe_dget (hu_of hr) (pv 0) pe_str (fun _ _ => rfl)) pa_nil)) pa_nil)) (blkOk_by (own := [("at", 6)]) (by rfl)) (fun _ _ _ _ _ => (pg_name (i := 6) sc_l_book_twinned.nd rfl (Or.inl rfl))) (fun _ _ _ _ _ => pts_nil) (fun _ _ _ _ _ => (pe_ifExp (pt_cmpR op_eq (pv 6) (pv 2) (nomark _)) (pv 1) (pv 6)))) pa_nil))) (pg_tup (by rfl) (pgs_cons (pg_name (i := 3) sc_l_book_twinned.nd rfl (Or.inl rfl)) (pgs_cons (pg_name (i := 4) sc_l_book_twinned.nd rfl (Or.inr rfl)) pgs_nil))))
  (pss_cons (ps_for PassesOwn.never rfl (pi_tup (pe_dget (hu_of hr) (pv 0) pe_str (fun _ _ => rfl))) (pg_name (i := 5) sc_l_book_twinned.nd rfl (Or.inr rfl)) (pss_one (ps_dput (hu_of hr) (pv 3) (pv 5) (pe_callTy call_tuple_of (by rfl) T.n_tuple (by decide +kernel) (pa_cons (pe_lc (own := [("a", 7)]) (g := gName 7) (by rfl) sc_l_book_twinned.nd (pi_list (pv 4)) (blkOk_by (own := [("a", 7)]) (by rfl)) (fun _ _ _ _ _ => (pg_name (i := 7) sc_l_book_twinned.nd rfl (Or.inr rfl))) (fun _ _ _ _ _ => pts_nil) (fun _ _ _ _ _ => (pe_callTy (call_tuple_ofK K) (by rfl) T.n_tuple (by decide +kernel) (pa_cons (pe_lc (own := [("b", 8)]) (g := gName 8) (by rfl) sc_l_book_twinned.nd (pi_listK K (pv 4)) (blkOk_by (own := [("b", 8)]) (by rfl)) (fun _ _ _ _ _ => (pg_name (i := 8) sc_l_book_twinned.nd rfl (Or.inl rfl))) (fun _ _ _ _ _ => pts_nil) (fun _ _ _ _ _ => (pe_ix (ix_tupK K) (pe_ix (ix_tupK K) (pe_dget (hu_of hr) (pe_dget (hu_of hr) (pv 0) pe_str (fun _ _ => rfl)) (pv 5) (fun _ _ => rfl)) (pv 7) (fun _ _ => rfl)) (pv 8) (fun _ _ => rfl)))) pa_nil)))) pa_nil)) rfl)))
  (pss_one (ps_ret (pe_disp (pps_cons pe_str (pe_dget (hu_of hr) (pv 0) pe_str (fun _ _ => rfl)) (pps_cons pe_str (pe_dget (hu_of hr) (pv 0) pe_str (fun _ _ => rfl)) (pps_cons pe_str (pe_dget (hu_of hr) (pv 0) pe_str (fun _ _ => rfl)) (pps_cons pe_str (pe_dget (hu_of hr) (pv 0) pe_str (fun _ _ => rfl)) (pps_cons pe_str (pv 3) pps_nil))))) (by rfl) (by rfl) (fun z => by cases z) (by decide)))))), ?_⟩
    have hm4 := ok.m4
    have hm1 := ok.m1
    have hk3 := ok.k3
    obtain ⟨kvs, tm, tw, tk, td, hO, hl10, v1, v2, hT2, v3, hT3, v4, hT4, v5, tkvs, hTd, tnd, tln, tabs⟩ := id hB
    refine fun d hd => ?_
    have s1 := same_new (o := .dK []) hd
    refine ⟨.ref o, rfl, o, _, rfl, dget (s1 _ _ hO) v2, tm, _, rfl, .inr (SqT.of (s1 _ _ hT2)), ?_⟩
    rw [List.length_map, ok.nm.len]
    refine ⟨(m : Int), rfl, by omega, by omega, fun pl hpl => ?_⟩
    rw [show ((m : Int)).toNat = m from rfl]
    have nod : o ≠ d := ne_of_none hO hd
    refine lc_range (lo := 0) (n := m) (fun i H' => i ≤ m ∧ Same (upd H d (.dK [])) H' ∧ ∃ ns : List Nat, H' pl = some (.lst (ns.map fun (n : Nat) => V.int (n : Int))) ∧ ns.length = i ∧ ∀ n ∈ ns, n < m) ⟨Nat.zero_le _, same_new hpl, [], upd_same, rfl, fun _ h => by cases h⟩ ?_ ?_
    · rintro i H' hi ⟨_, s2, ns, g1, g2, g3⟩
      have go : ∀ n : Nat, n < m → ∃ acc, H' pl = some (.lst acc) ∧ acc.length < sizeLine ∧ i + 1 ≤ m ∧ Same (upd H d (.dK [])) (upd H' pl (.lst (acc ++ [V.int (n : Int)]))) ∧ ∃ ns : List Nat, (upd H' pl (.lst (acc ++ [V.int (n : Int)]))) pl = some (.lst (ns.map fun (n : Nat) => V.int (n : Int))) ∧ ns.length = i + 1 ∧ ∀ n ∈ ns, n < m := fun n hn => by
        refine ⟨_, g1, by rw [List.length_map]; exact small1000 (by omega), hi, fun a z hz => ?_, ns ++ [n], ?_, by rw [List.length_append, g2]; rfl, fun u hu => ?_⟩
        · rw [upd_ne (ne_of_none hz hpl)]
          exact s2 _ _ hz
        · rw [upd_same, List.map_append]
          rfl
        · rcases List.mem_append.mp hu with v | v
          · exact g3 u v
          · rw [List.mem_singleton.mp v]
            exact hn
      refine ⟨rfl, ?_⟩
      refine ⟨_, rfl, .int y, rfl, rfl, _, rfl, ite2 (fun _ => ?_) (fun _ => ?_)⟩
      · exact ⟨.int x, rfl, go x hx⟩
      · refine ⟨_, rfl, ?_⟩
        have e := go i hi
        rw [← Int.zero_add (i : Int)] at e
        exact e
    · rintro H2 ⟨_, s2, ns, g1, g2, g3⟩
      refine ⟨(by show 2 ≤ sizeLine; decide), fun t1 ht1 => ?_⟩
      have s3 := (s1.trans s2).trans (same_new (o := .tup [.ref d, .ref pl]) ht1)
      have hd3 : (upd H2 t1 (.tup [.ref d, .ref pl])) d = some (.dK []) := same_new ht1 _ _ (s2 _ _ upd_same)
      have hpl3 : (upd H2 t1 (.tup [.ref d, .ref pl])) pl = some (.lst (ns.map fun (n : Nat) => V.int (n : Int))) := same_new ht1 _ _ g1
      have npd : pl ≠ d := fun z => by
        rw [z, upd_same] at hpl
        cases hpl
      refine ⟨t1, _, rfl, SqT.of upd_same, rfl, _, _, rfl, _, _, rfl, rfl, ?_⟩
      refine ⟨.ref o, rfl, o, _, rfl, dget (s3 _ _ hO) v4, tk, rfl, ⟨_, SqT.of (s3 _ _ hT4)⟩, ?_⟩
      refine for_tup (K := K) (a := tk) (xs := ks.map V.str) (fun i σ H' => ∃ (v5 v6 v7 v8 : Option V) (tkv : List (Key × V)) (Ms' : List (List (List Int))), σ = [some (.ref o), some (.int x), some (.int y), some (.ref d), some (.ref pl), v5, v6, v7, v8] ∧ Same H H' ∧ H' pl = some (.lst (ns.map fun (n : Nat) => V.int (n : Int))) ∧
          H' d = some (.dK tkv) ∧ tkv.length ≤ i ∧ (tkv.map (·.1)).Nodup ∧ Ms'.length = i ∧ ∀ (j : Nat) (k : Str), j < i → ks[j]? = some k → ∃ (t : Addr) (M : List (List Int)), valV tkv (.inr k) = some (.ref t) ∧ Ms'[j]? = some M ∧ Tab b H' t m M)
        ⟨none, none, none, none, [], [], rfl, s3, hpl3, hd3, Nat.le_refl _, List.nodup_nil, rfl, fun j k h => absurd h (Nat.not_lt_zero _)⟩ (fun i σ H' _ ⟨_, _, _, _, _, _, _, s, _⟩ => SqT.of (s _ _ hT4)) ?_ ?_
      · rintro i u σ H' hu ⟨v5', v6, v7, v8, tkv, Ms', rfl, s, h1, h2, h3, hnd, h4, h5⟩
        obtain ⟨k, hk, rfl⟩ : ∃ k, ks[i]? = some k ∧ u = .str k := by
          rw [List.getElem?_map] at hu
          cases e : ks[i]? with
          | none =>
            rw [e] at hu
            cases hu
          | some k =>
            rw [e] at hu
            exact ⟨k, rfl, (Option.some.inj hu).symm⟩
        obtain ⟨t, M, e1, e2, e3⟩ := tabs i k hk
        have hk3 := ok.k3
        have hik : i < ks.length := (List.getElem?_eq_some_iff.mp hk).1
        refine ⟨.ref pl, rfl, pl, rfl, ⟨_, SqL.of h1⟩, fun D hD => ?_⟩
        refine lc_list (K := K) (a := pl) (xs := ns.map fun (n : Nat) => V.int (n : Int)) (fun a H2 => a ≤ m ∧ Same H' H2 ∧ ∃ (qs : List Addr) (N : List (List Int)), H2 D = some (.lst (qs.map V.ref)) ∧ qs.length = a ∧ N.length = a ∧
            (∀ (j : Nat) (q : Addr), qs[j]? = some q → q ≠ D ∧ ∃ row : List Int, N[j]? = some row ∧ H2 q = some (.tup (row.map V.int))) ∧ ∀ row ∈ N, row.length = m ∧ ∀ z ∈ row, TOk b z)
          ⟨Nat.zero_le _, same_new hD, [], [], upd_same, rfl, rfl, fun j q h => by simp at h, fun _ h => by cases h⟩ (fun a H2 _ ⟨_, s, _⟩ => SqL.of (s _ _ h1)) ?_ ?_
        · rintro a w H3 hw ⟨_, sa, qs, N, f1, f2, f3, f4, f5⟩
          have ham : a < m := by
            have := (List.getElem?_eq_some_iff.mp hw).1
            rw [List.length_map] at this
            omega
          obtain ⟨na, hna, rfl⟩ := nat_at hw
          refine ⟨rfl, ?_⟩
          refine ⟨.ref pl, rfl, pl, rfl, ⟨_, SqL.of (sa _ _ h1)⟩, fun D2 hD2 => ?_⟩
          refine lc_list (K := K) (a := pl) (xs := ns.map fun (n : Nat) => V.int (n : Int)) (fun c H4 => c ≤ m ∧ Same H3 H4 ∧ ∃ zs : List Int, H4 D2 = some (.lst (zs.map V.int)) ∧ zs.length = c ∧ ∀ z ∈ zs, TOk b z)
            ⟨Nat.zero_le _, same_new hD2, [], upd_same, rfl, fun _ h => by cases h⟩ (fun c H4 _ ⟨_, s4, _⟩ => SqL.of (s4 _ _ (sa _ _ h1))) ?_ ?_
          · rintro c w H4 hw ⟨_, s4, zs, r1, r2, r3⟩
            have hcm : c < m := by
              have := (List.getElem?_eq_some_iff.mp hw).1
              rw [List.length_map] at this
              omega
            obtain ⟨nc, hnc, rfl⟩ := nat_at hw
            have sH := ((s.trans sa).trans s4)
            obtain ⟨rs, r, row, z, y1, y2, y3, y4, y5⟩ := (e3.same sH).at (g3 na hna) (g3 nc hnc)
            refine ⟨rfl, ?_⟩
            refine ⟨.ref o, rfl, o, _, rfl, dget (sH _ _ hO) v5, .str k, rfl, td, _, rfl, dget (sH _ _ hTd) e1, ?_⟩
            refine ⟨.int na, rfl, t, _, (na : Int), _, rfl, rfl, SqT.of y1, atI_nat y2, ?_⟩
            refine ⟨.int nc, rfl, r, _, (nc : Int), _, rfl, rfl, SqT.of y3, atI_nat y4, ?_⟩
            refine ⟨_, r1, by rw [List.length_map]; exact small1000 (by omega), hcm, fun a o ho => ?_, zs ++ [z], ?_, by rw [List.length_append, r2]; rfl, fun u hu => ?_⟩
            · rw [upd_ne (ne_of_none ho hD2)]
              exact s4 _ _ ho
            · rw [upd_same, List.map_append]
              rfl
            · rcases List.mem_append.mp hu with v | v
              · exact r3 u v
              · rw [List.mem_singleton.mp v]
                exact y5
          · rintro H4 ⟨_, s4, zs, r1, r2, r3⟩
            rw [List.length_map, g2] at r2
            refine ⟨D2, _, rfl, .inl ⟨SqL.of r1, fun t2 ht2 => ?_⟩⟩
            have s5 := s4.trans (same_new (o := .tup (zs.map V.int)) ht2)
            have nDt : D ≠ t2 := ne_of_none (s4 _ _ f1) ht2
            refine ⟨_, s5 _ _ f1, by rw [List.length_map]; exact small1000 (by omega), ham, fun a o ho => ?_, qs ++ [t2], N ++ [zs], ?_, by rw [List.length_append, f2]; rfl, by rw [List.length_append, f3]; rfl, fun j q hq => ?_, fun r hr => ?_⟩
            · rw [upd_ne (ne_of_none ho hD)]
              exact s5 _ _ (sa _ _ ho)
            · rw [upd_same, List.map_append]
              rfl
            · by_cases hj : j < qs.length
              · rw [List.getElem?_append_left hj] at hq
                obtain ⟨k1, row', k2, k3⟩ := f4 j q hq
                exact ⟨k1, row', by rw [List.getElem?_append_left (by omega)]; exact k2, by rw [upd_ne k1]; exact s5 _ _ k3⟩
              · rw [List.getElem?_append_right (by omega)] at hq
                have hj0 : j - qs.length = 0 := by
                  have := (List.getElem?_eq_some_iff.mp hq).1
                  simp only [List.length_singleton] at this
                  omega
                rw [hj0] at hq
                have eq : t2 = q := Option.some.inj hq
                subst eq
                refine ⟨nDt.symm, zs, ?_, by rw [upd_ne nDt.symm, upd_same]⟩
                rw [List.getElem?_append_right (by omega), show j - N.length = 0 by omega]
                rfl
            · rcases List.mem_append.mp hr with v | v
              · exact f5 r v
              · rw [List.mem_singleton.mp v]
                exact ⟨r2, r3⟩
        · rintro H3 ⟨_, sa, qs, N, f1, f2, f3, f4, f5⟩
          rw [List.length_map, g2] at f2 f3
          refine ⟨D, _, rfl, .inl ⟨SqL.of f1, fun t2 ht2 => ?_⟩⟩
          have s6 := sa.trans (same_new (o := .tup (qs.map V.ref)) ht2)
          have hdn : (upd H3 t2 (.tup (qs.map V.ref))) d = some (.dK tkv) := s6 _ _ h2
          refine ⟨.ref d, rfl, .str k, rfl, d, _, rfl, DPut.k (k := .inr k) hdn (small1000 (by omega)), ?_⟩
          have ndH : ∀ a z, H a = some z → a ≠ d := fun a z hz => ne_of_none hz hd
          have n2d : t2 ≠ d := fun z => by
            rw [z, sa _ _ h2] at ht2
            cases ht2
          have tabN : Tab b (upd (upd H3 t2 (.tup (qs.map V.ref))) d (.dK (putK tkv (.inr k) (.ref t2)))) t2 m N := by
            refine ⟨qs, by rw [upd_ne n2d, upd_same], f2, f3, fun j r hr => ?_, f5⟩
            obtain ⟨k1, row, k2, k3⟩ := f4 j r hr
            have nrd : r ≠ d := fun z => by
              rw [z, sa _ _ h2] at k3
              cases k3
            exact ⟨row, k2, by rw [upd_ne nrd, upd_ne (ne_of_none k3 ht2)]; exact k3⟩
          refine ⟨_, _, _, _, putK tkv (.inr k) (.ref t2), Ms' ++ [N], rfl, fun a z hz => ?_, ?_, upd_same, ?_, putK_nd hnd, by rw [List.length_append, h4]; rfl, fun j k' hj hk' => ?_⟩
          · rw [upd_ne (ndH a z hz)]
            exact s6 _ _ (s _ _ hz)
          · rw [upd_ne npd]
            exact s6 _ _ h1
          · unfold putK
            split
            · rw [List.length_map]
              omega
            · rw [List.length_append]
              show tkv.length + 1 ≤ i + 1
              omega
          · by_cases hji : j < i
            · obtain ⟨t', M', k1, k2, k3⟩ := h5 j k' hji hk'
              have nkk : ¬ (Sum.inr k' : Key) = Sum.inr k := fun z => by
                have z := Sum.inr.inj z
                rw [z] at hk'
                have := (List.getElem?_inj (show j < ks.length by omega) ok.nk.nd).mp (hk'.trans hk.symm)
                omega
              refine ⟨t', M', ?_, by rw [List.getElem?_append_left (by omega)]; exact k2, ?_⟩
              · rw [valV_put, if_neg nkk]
                exact k1
              · have k4 := k3.same s6
                obtain ⟨rs, l1, l2, l3, l4, l5⟩ := k4
                have nt : t' ≠ d := fun z => by
                  rw [z, hdn] at l1
                  cases l1
                refine ⟨rs, by rw [upd_ne nt]; exact l1, l2, l3, fun j r hr => ?_, l5⟩
                obtain ⟨row, p1, p2⟩ := l4 j r hr
                have nr : r ≠ d := fun z => by
                  rw [z, hdn] at p2
                  cases p2
                exact ⟨row, p1, by rw [upd_ne nr]; exact p2⟩
            · have eji : j = i := by omega
              subst eji
              rw [hk] at hk'
              have ek := Option.some.inj hk'
              subst ek
              refine ⟨t2, N, ?_, ?_, tabN⟩
              · rw [valV_put, if_pos rfl]
              · rw [List.getElem?_append_right (by omega), show j - Ms'.length = 0 by omega]
                rfl
      · rintro σ H' ⟨v5', v6, v7, v8, tkv, Ms', rfl, s, h1, h2, h3, hnd, h4, h5⟩
        rw [List.length_map] at h3 h4 h5
        refine fun q' hq' => ?_
        have sq := same_new (o := .dK []) hq'
        have sH := s.trans sq
        refine ⟨.ref o, rfl, o, _, rfl, dget (sH _ _ hO) v1, ?_⟩
        refine ⟨.ref o, rfl, o, _, rfl, dget (sH _ _ hO) v2, ?_⟩
        refine ⟨.ref o, rfl, o, _, rfl, dget (sH _ _ hO) v3, ?_⟩
        refine ⟨.ref o, rfl, o, _, rfl, dget (sH _ _ hO) v4, ?_⟩
        refine ⟨.ref d, rfl, ?_⟩
        refine ⟨upd_same, dict5 b tm tw tk d, rfl, (by show 5 ≤ 15; decide), ?_⟩
        rw [merge0 (dict5_nd b tm tw tk d)]
        have sF : Same H (upd (upd H' q' (.dK [])) q' (.dK (dict5 b tm tw tk d))) := fun a z hz => by
          have n : a ≠ q' := ne_of_none (s _ _ hz) hq'
          rw [upd_ne n, upd_ne n]
          exact s _ _ hz
        have sF' : Same H' (upd (upd H' q' (.dK [])) q' (.dK (dict5 b tm tw tk d))) := fun a z hz => by
          have n : a ≠ q' := ne_of_none hz hq'
          rw [upd_ne n, upd_ne n]
          exact hz
        obtain ⟨w1, w2, w3, w4, w5⟩ := dict5_at b tm tw tk d
        refine q q' Ms' _ sF (s.free hq') ⟨_, tm, tw, tk, d, upd_same, (by show 5 ≤ 10; decide), w1, w2, sF _ _ hT2, w3, sF _ _ hT3, w4, sF _ _ hT4, w5, tkv, sF' _ _ h2, hnd, Nat.le_trans h3 (Nat.le_trans hk3 (by decide)), fun i k hk => ?_⟩ ⟨ok.b0, ok.b1, ok.b97, ok.m1, ok.m4, ok.nm, ok.wl, ok.w, ok.nk, ok.k1, ok.k3, h4⟩
        obtain ⟨t, M, a1, a2, a3⟩ := h5 i k (List.getElem?_eq_some_iff.mp hk).1 hk
        exact ⟨t, M, a1, a2, a3.same sF'⟩
end
end OG
set_option Elab.async false
set_option linter.all false
set_option maxRecDepth 100000
set_option maxHeartbeats 8000000
namespace OG
open PySem PySem.Spec PyProof.Rows L2
theorem paired_of {α β : Type} {R : α → β → Prop} : ∀ {xs : List α} {ys : List β}, xs.length = ys.length → (∀ (j : Nat) x y, xs[j]? = some x → ys[j]? = some y → R x y) → Paired R xs ys
  | [], [], _, _ => .nil
  | [], _ :: _, h, _ => by simp at h
  | _ :: _, [], h, _ => by simp at h
  | x :: xs, y :: ys, h, f => .cons (f 0 x y rfl rfl) (paired_of (by simpa using h) fun j a b h1 h2 => f (j + 1) a b (by simpa using h1) (by simpa using h2))
theorem valV_of : ∀ {kvs : List (Key × V)}, (kvs.map (·.1)).Nodup → ∀ {j : Nat} {k : Key} {v : V}, kvs[j]? = some (k, v) → valV kvs k = some v
  | [], _, j, k, v, h => by simp at h
  | p :: r, n, 0, k, v, h => by
    have e : p = (k, v) := Option.some.inj h
    rw [e]
    exact valV_pos rfl
  | p :: r, n, j + 1, k, v, h => by
    rw [List.map_cons, List.nodup_cons] at n
    have h : r[j]? = some (k, v) := h
    have ne : ¬ p.1 = k := fun z => n.1 (by
      rw [z]
      exact List.mem_map_of_mem (f := fun q : Key × V => q.1) (List.mem_of_getElem? h))
    rw [valV_neg ne]
    exact valV_of n.2 h
def dict3 (b : Int) (tm tw : Addr) : List (Key × V) := [(.inr "by", .int b), (.inr "marks", .ref tm), (.inr "weights", .ref tw)]
def dict4 (b : Int) (tm tw tk : Addr) : List (Key × V) := [(.inr "by", .int b), (.inr "marks", .ref tm), (.inr "weights", .ref tw), (.inr "kinds", .ref tk)]
theorem dict3_nd (b : Int) (tm tw : Addr) : ((dict3 b tm tw).map (·.1)).Nodup := by
  show ([.inr "by", .inr "marks", .inr "weights"] : List Key).Nodup
  decide +kernel
theorem put3 (b : Int) (tm tw tk : Addr) : putK (dict3 b tm tw) (.inr "kinds") (.ref tk) = dict4 b tm tw tk := by
  refine (putK_new _ ?_).trans rfl
  unfold dict3
  rw [valV_neg (k_ne (by decide +kernel)), valV_neg (k_ne (by decide +kernel)), valV_neg (k_ne (by decide +kernel))]
  rfl
theorem put4 (b : Int) (tm tw tk td : Addr) : putK (dict4 b tm tw tk) (.inr "tables") (.ref td) = dict5 b tm tw tk td := by
  refine (putK_new _ ?_).trans rfl
  unfold dict4
  rw [valV_neg (k_ne (by decide +kernel)), valV_neg (k_ne (by decide +kernel)), valV_neg (k_ne (by decide +kernel)), valV_neg (k_ne (by decide +kernel))]
  rfl
theorem Tab.upd {b : Int} {H : Hp} {t D : Addr} {m : Nat} {M : List (List Int)} {o : HO} (h : Tab b H t m M) (hn : ∀ xs, H D ≠ some (.tup xs)) : Tab b (upd H D o) t m M := by
  obtain ⟨rs, h1, h2, h3, h4, h5⟩ := h
  have n : ∀ {a : Addr} {xs : List V}, H a = some (.tup xs) → a ≠ D := fun {a xs} e z => hn xs (by rw [← z]; exact e)
  refine ⟨rs, by rw [upd_ne (n h1)]; exact h1, h2, h3, fun i r hr => ?_, h5⟩
  obtain ⟨row, e1, e2⟩ := h4 i r hr
  exact ⟨row, e1, by rw [upd_ne (n e2)]; exact e2⟩
section
variable {P : Program} {w : World} {K : PySem.W.Frag} {mg : Str → Option Value} {base : Heap}
def spBof : Sp := fun vs H Q _ => ∃ (p kk : Addr) (b : Int) (m k : Nat) (ab : Bool) (ks : List Str), vs = [.ref p, .int b, .int (m : Int), .ref kk, .bl ab] ∧ Pot (k + 500) H p ∧ 0 ≤ b ∧ b ≠ 1 ∧ b ≤ 97 ∧ 1 ≤ m ∧ m ≤ 4 ∧ H kk = some (.tup (ks.map V.str)) ∧ Nms ks ks.length ∧ 1 ≤ ks.length ∧ ks.length ≤ 3 ∧
  ∀ (q : Addr) (ms : List Str) (ws : List Int) (Ms : List (List (List Int))) (H' : Hp), Dr p k H H' → H q = none → q ≠ p → BookAt H' q b m ms ws ks Ms → BkOk b m ms ws ks Ms → Q (.ref q) H'
theorem ok_l_book_of (T : Txt K mg) : FnOk P w K mg base CX0 4 T.f_l_book_of T.fd_l_book_of ["pot", "by", "many", "kinds", "is_above"] (spBof) := by
  refine T.F_l_book_of.ok sc_l_book_of (fun vs H Q E h => ?_) (fun cdv A outer s H vs Q E hr h => ?_)
  · obtain ⟨p, kk, b, m, k, ab, ks, rfl, _⟩ := h
    rfl
  · obtain ⟨p, kk, b, m, k, ab, ks, rfl, hP, b0, b1, b97, m1, m4, hkk, hks, k1, k3, q⟩ := h
    refine ⟨_, (pss_cons (ps_set (i := 5) sc_l_book_of.nd rfl (Or.inl rfl) (pe_disp (pps_cons pe_str (pv 1) (pps_cons pe_str (pe_call (ok_l_book_names T) (hr.mono (by decide)) (by rfl) T.g_l_book_names T.F_l_book_names.kp T.b_l_book_names .nil pass0 (pa_cons (pv 0) (pa_cons (pv 2) pa_nil))) (pps_cons pe_str (pe_call (ok_l_book_weights T) (hr.mono (by decide)) (by rfl) T.g_l_book_weights T.F_l_book_weights.kp T.b_l_book_weights .nil pass0 (pa_cons (pv 0) (pa_cons (pv 1) (pa_cons (pv 2) (pa_cons (pv 4) pa_nil))))) pps_nil))) (by rfl) (by rfl) (fun z => by cases z) (by decide)))
  (pss_cons (ps_dput (hu_of hr) (pv 5) pe_str (pe_callTy call_tuple_of (by rfl) T.n_tuple (by decide +kernel) (pa_cons (pv 3) pa_nil)) rfl)
  (pss_cons (ps_dput (hu_of hr) (pv 5) pe_str (pe_callTy (call_dictP rfl) (by rfl) T.n_dict (by decide +kernel) (pa_cons (pe_lc (own := [("kind", 8)]) (g := gName 8) (by rfl) sc_l_book_of.nd (pi_tup (pv 3)) (blkOk_by (own := [("kind", 8)]) (by rfl)) (fun _ _ _ _ _ => (pg_name (i := 8) sc_l_book_of.nd rfl (Or.inl rfl))) (fun _ _ _ _ _ => pts_nil) (fun _ _ _ _ _ => (pe_tup (pa_cons (pv 8) (pa_cons (pe_call (ok_l_book_table T) (hr.mono (by decide)) (by rfl) T.g_l_book_table T.F_l_book_table.kp T.b_l_book_table .nil pass0 (pa_cons (pv 0) (pa_cons (pv 1) (pa_cons (pv 2) pa_nil)))) pa_nil))))) pa_nil)) rfl)
  (pss_cons (ps_if (PW.pt (pw_and (pt_cmpR op_gt (pv 2) pe_int (nomark _)) (pw_and1 (pt_cmpR op_eq (pe_call (ok_l_take T) (hr.mono (by decide)) (by rfl) T.g_l_take T.F_l_take.kp T.b_l_take .nil pass0 (pa_cons (pv 0) (pa_cons pe_int pa_nil))) pe_int (nomark _))))) (pss_cons (ps_asg (pe_call (ok_l_some T) (hr.mono (by decide)) (by rfl) T.g_l_some T.F_l_some.kp T.b_l_some .nil pass0 (pa_cons (pv 0) (pa_cons (pe_listRg (by rfl) (by rfl) T.n_list (prg_1 (by rfl) T.n_range (pv 2))) (pa_cons pe_int pa_nil)))) (pg_lst (by rfl) (pgs_cons (pg_name (i := 6) sc_l_book_of.nd rfl (Or.inl rfl)) (pgs_cons (pg_name (i := 7) sc_l_book_of.nd rfl (Or.inl rfl)) pgs_nil))))
  (pss_one (ps_set (i := 5) sc_l_book_of.nd rfl (Or.inl rfl) (pe_call (ok_l_book_twinned T) (hr.mono (by decide)) (by rfl) T.g_l_book_twinned T.F_l_book_twinned.kp T.b_l_book_twinned .nil pass0 (pa_cons (pv 5) (pa_cons (pv 6) (pa_cons (pv 7) pa_nil))))))) pss_nil)
  (pss_one (ps_ret (pv 5))))))), ?_⟩
    refine fun q0 hq0 => ?_
    have nq0p : q0 ≠ p := hP.ne hq0
    have d0 : Dr p (k + 500) H (upd H q0 (.dK [])) := (Dr.start hP (Nat.le_refl _)).new hq0
    refine ⟨.int b, rfl, .ref p, rfl, .int m, rfl, p, m, k + 400, rfl, d0.2.mono (by omega), by omega, fun tm ms H1 hms d1 n1 ntm h1 => ?_⟩
    refine ⟨.ref p, rfl, .int b, rfl, .int m, rfl, .bl ab, rfl, p, b, m, k + 380, ab, rfl, d1.2.mono (by omega), by omega, m1, b0, b1, b97, fun tw ws H2 hwl hws d2 n2 ntw h2 => ?_⟩
    have d02 := (d0.trans d1).trans d2
    have hq2 : H2 q0 = some (.dK []) := d2.st nq0p (d1.st nq0p upd_same)
    refine ⟨hq2, dict3 b tm tw, rfl, (by show 3 ≤ 15; decide), ?_⟩
    rw [merge0 (dict3_nd b tm tw)]
    have d3 := d02.mut (o := .dK (dict3 b tm tw)) hq0 nq0p
    have hkk3 : (upd H2 q0 (.dK (dict3 b tm tw))) kk = some (.tup (ks.map V.str)) := d3.st (hP.neT hkk) hkk
    refine ⟨.ref kk, rfl, kk, _, rfl, .inr ⟨SqT.of hkk3, ?_⟩⟩
    refine ⟨.ref q0, rfl, q0, _, rfl, DPut.k (k := .inr "kinds") upd_same (by show 3 < sizeLine; decide), ?_⟩
    rw [put3]
    generalize hH4 : upd (upd H2 q0 (.dK (dict3 b tm tw))) q0 (.dK (dict4 b tm tw kk)) = H4
    have d4 : Dr p (k + 380) H H4 := by
      rw [← hH4]
      exact d3.mut hq0 nq0p
    have hq4 : H4 q0 = some (.dK (dict4 b tm tw kk)) := by
      rw [← hH4]
      exact upd_same
    have htm4 : H4 tm = some (.tup (ms.map V.str)) := by
      have e := d2.st ntm h1
      rw [← hH4, upd_ne (ne_of e hq2 (by intro z; cases z)), upd_ne (ne_of e hq2 (by intro z; cases z))]
      exact e
    have htw4 : H4 tw = some (.tup (ws.map V.int)) := by
      rw [← hH4, upd_ne (ne_of h2 hq2 (by intro z; cases z)), upd_ne (ne_of h2 hq2 (by intro z; cases z))]
      exact h2
    have hkk4 : H4 kk = some (.tup (ks.map V.str)) := d4.st (hP.neT hkk) hkk
    refine ⟨.ref kk, rfl, kk, rfl, ⟨_, SqT.of hkk4⟩, fun D hD => ?_⟩
    have nDp : D ≠ p := d4.2.ne hD
    refine lc_tup (K := K) (a := kk) (xs := ks.map V.str) (fun i H5 => i ≤ ks.length ∧ Dr p (k + 380 - 60 * i) H4 H5 ∧ ∃ (ps ts : List Addr) (Ms : List (List (List Int))), H5 D = some (.lst (ps.map V.ref)) ∧ ps.length = i ∧ ts.length = i ∧ Ms.length = i ∧
        ∀ (j : Nat) (a t : Addr) (kd : Str), ps[j]? = some a → ts[j]? = some t → ks[j]? = some kd → a ≠ p ∧ H5 a = some (.tup [.str kd, .ref t]) ∧ ∃ M, Ms[j]? = some M ∧ Tab b H5 t m M)
      ⟨Nat.zero_le _, (Dr.start d4.2 (Nat.le_refl _)).new hD, [], [], [], upd_same, rfl, rfl, rfl, fun j a t kd h => by simp at h⟩ (fun i H5 _ ⟨_, d5, _⟩ => SqT.of (d5.st (hP.neT hkk) hkk4)) ?_ ?_
    · rintro i x H5 hx ⟨_, d5, ps, ts, Ms, g1, g2, g3, g4, g5⟩
      obtain ⟨kd, hkd, rfl⟩ : ∃ kd, ks[i]? = some kd ∧ x = .str kd := by
        rw [List.getElem?_map] at hx
        cases e : ks[i]? with
        | none =>
          rw [e] at hx
          cases hx
        | some kd =>
          rw [e] at hx
          exact ⟨kd, rfl, (Option.some.inj hx).symm⟩
      have hik : i < ks.length := (List.getElem?_eq_some_iff.mp hkd).1
      refine ⟨rfl, ?_⟩
      refine ⟨_, rfl, .ref p, rfl, .int b, rfl, .int m, rfl, p, b, m, k + 380 - 60 * (i + 1), rfl, d5.2.mono (by omega), m4, m1, b0, b1, b97, fun t M H6 hM d6 nt ntp => ?_⟩
      refine ⟨(by show 2 ≤ sizeLine; decide), fun tt htt => ?_⟩
      have d7 := d6.new (o := .tup [.str kd, .ref t]) htt
      have hD6 : H6 D = some (.lst (ps.map V.ref)) := d6.st nDp g1
      have hD7 : (upd H6 tt (.tup [.str kd, .ref t])) D = some (.lst (ps.map V.ref)) := d7.st nDp g1
      have nttD : tt ≠ D := fun z => by
        rw [z, hD6] at htt
        cases htt
      refine ⟨_, hD7, by rw [List.length_map]; exact small1000 (by omega), hik, (d5.trans d7).mut hD nDp, ps ++ [tt], ts ++ [t], Ms ++ [M], ?_, by rw [List.length_append, g2]; rfl, by rw [List.length_append, g3]; rfl, by rw [List.length_append, g4]; rfl, fun j a t' kd' ha ht' hk' => ?_⟩
      · rw [upd_same, List.map_append]
        rfl
      · by_cases hj : j < i
        · rw [List.getElem?_append_left (by omega)] at ha ht'
          obtain ⟨u1, u2, M', u3, u4⟩ := g5 j a t' kd' ha ht' hk'
          have nat : ∀ xs, (upd H6 tt (.tup [.str kd, .ref t])) D ≠ some (.tup xs) := fun xs z => by
            rw [hD7] at z
            cases z
          refine ⟨u1, ?_, M', by rw [List.getElem?_append_left (by omega)]; exact u3, (u4.dr d5.2 d7).upd nat⟩
          have e := d7.st u1 u2
          rw [upd_ne (ne_of e hD7 (by intro z; cases z))]
          exact e
        · have hjl : j < (ps ++ [tt]).length := (List.getElem?_eq_some_iff.mp ha).1
          rw [List.length_append, List.length_singleton] at hjl
          have hji : j = i := by omega
          subst hji
          rw [List.getElem?_append_right (by omega), show j - ps.length = 0 by omega] at ha
          rw [List.getElem?_append_right (by omega), show j - ts.length = 0 by omega] at ht'
          have ea : tt = a := Option.some.inj ha
          have et : t = t' := Option.some.inj ht'
          rw [hkd] at hk'
          have ek : kd = kd' := Option.some.inj hk'
          subst ea et ek
          refine ⟨d6.2.ne htt, by rw [upd_ne nttD, upd_same], M, ?_, ?_⟩
          · rw [List.getElem?_append_right (by omega), show j - Ms.length = 0 by omega]
            rfl
          · refine (hM.same (same_new htt)).upd fun xs z => ?_
            rw [hD7] at z
            cases z
    · rintro H5 ⟨_, d5, ps, ts, Ms, g1, g2, g3, g4, g5⟩
      rw [List.length_map] at g2 g3 g4 d5
      have hkv : ∀ (j : Nat) (t : Addr) (kd : Str), ts[j]? = some t → ks[j]? = some kd → ((ks.zip ts).map fun q => ((.inr q.1 : Key), V.ref q.2))[j]? = some (.inr kd, .ref t) := fun j t kd h1 h2 => by
        rw [List.getElem?_map, List.getElem?_zip_eq_some (z := (kd, t)) |>.mpr ⟨h2, h1⟩]
        rfl
      have hkeys : ((ks.zip ts).map fun q => ((.inr q.1 : Key), V.ref q.2)).map (·.1) = ks.map (fun z => (.inr z : Key)) := by
        rw [List.map_map]
        have e : ((fun x : Key × V => x.1) ∘ fun q : Str × Addr => ((.inr q.1 : Key), V.ref q.2)) = (fun z : Str => (.inr z : Key)) ∘ (fun q : Str × Addr => q.1) := rfl
        rw [e, ← List.map_map, List.map_fst_zip (by omega)]
      have hnd : (((ks.zip ts).map fun q => ((.inr q.1 : Key), V.ref q.2)).map (·.1)).Nodup := by
        rw [hkeys]
        have n := hks.nd
        unfold List.Nodup at n ⊢
        rw [List.pairwise_map]
        exact n.imp fun h e => h (Sum.inr.inj e)
      have hln : ((ks.zip ts).map fun q => ((.inr q.1 : Key), V.ref q.2)).length ≤ 10 := by
        rw [List.length_map, List.length_zip]
        omega
      refine ⟨D, ps, (ks.zip ts).map fun q => ((.inr q.1 : Key), V.ref q.2), rfl, SqL.of g1, paired_of ?_ fun j a kv ha hkv' => ?_, fun dd hdd => ?_⟩
      · rw [List.length_map, List.length_zip]
        omega
      · rw [List.getElem?_map] at hkv'
        cases e : (ks.zip ts)[j]? with
        | none =>
          rw [e] at hkv'
          cases hkv'
        | some kt =>
          rw [e] at hkv'
          have ekv := Option.some.inj hkv'
          obtain ⟨z1, z2⟩ := List.getElem?_zip_eq_some.mp e
          obtain ⟨u1, u2, _⟩ := g5 j a kt.2 kt.1 ha z2 z1
          rw [← ekv]
          exact SqT.of u2
      · rw [merge0 hnd]
        generalize hkvs : ((ks.zip ts).map fun q => ((.inr q.1 : Key), V.ref q.2)) = tkv at *
        have sdd := same_new (o := .dK tkv) hdd
        have d6 := d5.new (o := .dK tkv) hdd
        have hq6 : (upd H5 dd (.dK tkv)) q0 = some (.dK (dict4 b tm tw kk)) := d6.st nq0p hq4
        refine ⟨.ref q0, rfl, q0, _, rfl, DPut.k (k := .inr "tables") hq6 (by show 4 < sizeLine; decide), ?_⟩
        rw [put4]
        generalize hH7 : upd (upd H5 dd (.dK tkv)) q0 (.dK (dict5 b tm tw kk dd)) = H7
        have d7 : Dr p (k + 200) H H7 := by
          rw [← hH7]
          exact ((d4.trans d6).mut hq0 nq0p).mono (by omega)
        have nup : ∀ xs, (upd H5 dd (.dK tkv)) q0 ≠ some (.tup xs) := fun xs z => by
          rw [hq6] at z
          cases z
        have keep : ∀ (a : Addr) (xs : List V), (upd H5 dd (.dK tkv)) a = some (.tup xs) → H7 a = some (.tup xs) := fun a xs e => by
          rw [← hH7, upd_ne (ne_of e hq6 (by intro z; cases z))]
          exact e
        have nddq : dd ≠ q0 := fun z => by
          rw [z, d5.st nq0p hq4] at hdd
          cases hdd
        obtain ⟨w1, w2, w3, w4, w5⟩ := dict5_at b tm tw kk dd
        have ok : BkOk b m ms ws ks Ms := ⟨b0, b1, b97, m1, m4, hms, hwl, hws, hks, k1, k3, g4⟩
        have bk : BookAt H7 q0 b m ms ws ks Ms := by
          refine ⟨dict5 b tm tw kk dd, tm, tw, kk, dd, by rw [← hH7]; exact upd_same, (by show 5 ≤ 10; decide), w1, w2, keep _ _ (d6.st ntm htm4), w3, keep _ _ (d6.st ntw htw4), w4, keep _ _ (d6.st (hP.neT hkk) hkk4), w5, tkv, ?_, hnd, hln, fun i kd hk => ?_⟩
          · rw [← hH7, upd_ne nddq, upd_same]
          · have hi : i < ks.length := (List.getElem?_eq_some_iff.mp hk).1
            have ht : ts[i]? = some (ts[i]'(by omega)) := List.getElem?_eq_getElem (by omega)
            have hp : ps[i]? = some (ps[i]'(by omega)) := List.getElem?_eq_getElem (by omega)
            obtain ⟨u1, u2, M, u3, u4⟩ := g5 i _ _ kd hp ht hk
            refine ⟨_, M, valV_of hnd (hkv i _ kd ht hk), u3, ?_⟩
            rw [← hH7]
            exact (u4.same sdd).upd nup
        have fin : ∀ (q' : Addr) (Ms' : List (List (List Int))) (H8 : Hp), Dr p k H H8 → H q' = none → q' ≠ p → BookAt H8 q' b m ms ws ks Ms' → BkOk b m ms ws ks Ms' → Q (.ref q') H8 := fun q' Ms' H8 => q q' ms ws Ms' H8
        have done : ∀ H8, Dr p k H7 H8 → Q (.ref q0) H8 := fun H8 d8 => fin q0 Ms H8 (d7.trans d8) hq0 nq0p (bk.dr d7.2 d8) ok
        refine ⟨.int m, rfl, _, _, rfl, rfl, _, rfl, ite2 (fun hm => ?_) (fun _ => ?_)⟩
        · have hm : 1 < (m : Int) := of_decide_eq_true hm
          refine ⟨.ref p, rfl, p, 4, k + 100, rfl, d7.2.mono (by omega), by decide, by decide, fun r H8 r0 r1 d8 => ?_⟩
          refine ⟨rfl, _, rfl, ite2 (fun _ => ?_) (fun _ => ?_)⟩
          · refine ⟨.ref p, rfl, .int m, rfl, m, rfl, RgOk.of_le (by decide) (by omega) (by decide) (by omega), fun lr hlr => ?_⟩
            have d9 := d8.new (o := .lst (plV m)) hlr
            refine ⟨p, lr, plV m, 2, k + 50, rfl, d9.2.mono (by omega), SqL.of upd_same, d8.2.ne hlr, by rw [plV_len]; omega, by rw [plV_len]; omega, fun q2 ys zs H10 yl pm d10 nq2 nq2p hq2 => ?_⟩
            obtain ⟨y1, y2, rfl⟩ : ∃ y1 y2, ys = [y1, y2] := by
              match ys, yl with
              | [y1, y2], _ => exact ⟨y1, y2, rfl⟩
            have iny : ∀ y, y ∈ [y1, y2] → ∃ n : Nat, n < m ∧ y = .int (n : Int) := fun y hy => by
              obtain ⟨i, hi⟩ := List.getElem?_of_mem (pm.mem_iff.mp (List.mem_append_left _ hy))
              obtain ⟨z1, z2⟩ := plV_at hi
              exact ⟨i, z1, z2⟩
            obtain ⟨n1', hn1, rfl⟩ := iny y1 (by simp)
            obtain ⟨n2', hn2, rfl⟩ := iny y2 (by simp)
            refine ⟨q2, _, rfl, SqL.of hq2, rfl, _, _, rfl, _, _, rfl, rfl, ?_⟩
            have d710 := d9.trans d10
            have bk10 : BookAt H10 q0 b m ms ws ks Ms := bk.dr d7.2 d710
            refine ⟨.ref q0, rfl, .int n1', rfl, .int n2', rfl, q0, n1', n2', b, m, ms, ks, ws, Ms, rfl, bk10, ok, hn1, fun q3 Ms' H11 s11 nq3 bk11 ok11 => ?_⟩
            have d11 : Dr p k H H11 := Dr.mono ⟨(d7.trans d710).1.trans (Same.kp s11), d710.2.same s11⟩ (by omega)
            exact ⟨_, rfl, fin q3 Ms' H11 d11 ((d7.trans d710).fr nq3) (d710.2.ne nq3) bk11 ok11⟩
          · exact ⟨_, rfl, done H8 (d8.mono (by omega))⟩
        · exact ⟨_, rfl, done H7 (Dr.start d7.2 (by omega))⟩
end
end OG
set_option Elab.async false
set_option linter.all false
set_option maxRecDepth 100000
set_option maxHeartbeats 8000000
namespace OG
open PySem PySem.Spec PyProof.Rows L2
open RZ (ItzT pi_zipA iZipA)
theorem lc_zipT {K : PySem.W.Frag} {a b : Addr} {xs ys : List V} {g : TG} {tt : TT} {te : TE} {vs : List Nat} {σ : L2.St} {H1 : Hp} {D : Addr} {Qd : Hp → Prop} (Pv : Nat → Hp → Prop) (h0 : Pv 0 (upd H1 D (.lst []))) (hq : ∀ i H, Pv i H → SqT K H a xs ∧ SqT K H b ys)
    (hs : ∀ (i : Nat) (x y : V) (T : Addr) (H : Hp), xs[i]? = some x → ys[i]? = some y → Pv i H → H T = none → g (.ref T) (wipe σ vs) (upd H T (.tup [x, y])) fun σ2 H2 => wipe σ2 vs = wipe σ vs ∧ tt σ2 H2 fun b H3 =>
      if b = true then te σ2 H3 fun y H4 => ∃ acc, H4 D = some (.lst acc) ∧ acc.length < sizeLine ∧ Pv (i + 1) (upd H4 D (.lst (acc ++ [y]))) else Pv (i + 1) H3) (hd : ∀ H, Pv (min xs.length ys.length) H → Qd H) :
    ∃ W : Nat → Nat → Hp → Prop, (∃ m, W 0 m (upd H1 D (.lst []))) ∧ ∀ i m H, W i m H →
      ((ItzT K a b).stop i H ∧ Qd H) ∨ ((ItzT K a b).go i H ∧ ∃ Nx : Hp → Prop, (∀ H', Nx H' → ∃ m', m' < m ∧ W (i + 1) m' H') ∧ ∀ x H', (ItzT K a b).yld i H x H' → g x (wipe σ vs) H' fun σ2 H2 => wipe σ2 vs = wipe σ vs ∧ tt σ2 H2 fun b H3 =>
        if b = true then te σ2 H3 fun y H4 => ∃ acc, H4 D = some (.lst acc) ∧ acc.length < sizeLine ∧ Nx (upd H4 D (.lst (acc ++ [y]))) else Nx H3) := by
  refine ⟨fun i m H => m = min xs.length ys.length - i ∧ i ≤ min xs.length ys.length ∧ Pv i H, ⟨_, rfl, Nat.zero_le _, h0⟩, ?_⟩
  rintro i m H ⟨rfl, hi, p⟩
  obtain ⟨qx, qy⟩ := hq i H p
  by_cases hlt : i < min xs.length ys.length
  · have h1 : i < xs.length := by omega
    have h2 : i < ys.length := by omega
    refine .inr ⟨⟨xs, ys, xs[i], ys[i], qx, qy, List.getElem?_eq_getElem h1, List.getElem?_eq_getElem h2⟩, Pv (i + 1), fun H' p' => ⟨min xs.length ys.length - (i + 1), by omega, rfl, hlt, p'⟩, fun v H' hy => ?_⟩
    obtain ⟨T, x, y, rfl, nT, rfl, f1, f2⟩ := hy
    exact hs i x y T H (f1 xs qx) (f2 ys qy) p nT
  · have e : i = min xs.length ys.length := by omega
    subst e
    refine .inl ⟨⟨xs, ys, qx, qy, by omega⟩, hd H p⟩
theorem Dr.sm {p : Addr} {k : Nat} {H H1 H2 : Hp} (d : Dr p k H H1) (s : Same H1 H2) : Dr p k H H2 := ⟨d.1.trans (Same.kp s), d.2.same s⟩
theorem put_len {kvs : List (Key × V)} {k : Key} {v x : V} (h : valV kvs k = some x) : (putK kvs k v).length = kvs.length := by
  have e : (kvs.any fun kv => decide (kv.1 = k)) = true := by
    rw [valV_any, h]
    rfl
  unfold putK
  rw [if_pos e, List.length_map]
theorem Nms.take {ms : List Str} {m n : Nat} (h : Nms ms m) (hn : n ≤ m) : Nms (ms.take n) n := by
  refine ⟨by rw [List.length_take, h.len]; omega, h.nd.sublist (List.take_sublist _ _), fun z hz => h.is z (List.mem_of_mem_take hz)⟩
section
variable {P : Program} {w : World} {K : PySem.W.Frag} {mg : Str → Option Value} {base : Heap}
def spDrawn (K : PySem.W.Frag) : Sp := fun vs H Q _ => ∃ (p lb lm : Addr) (bs ms0 : List Int) (kn : Int) (k : Nat) (ab : Bool), vs = [.ref p, .ref lb, .ref lm, .int kn, .bl ab] ∧ Pot (k + 800) H p ∧ SqL K H lb (bs.map V.int) ∧ lb ≠ p ∧ 0 < bs.length ∧ bs.length < 1000 ∧ (∀ b ∈ bs, 0 ≤ b ∧ b ≠ 1 ∧ b ≤ 97) ∧
  SqL K H lm (ms0.map V.int) ∧ lm ≠ p ∧ 0 < ms0.length ∧ ms0.length < 1000 ∧ (∀ b ∈ ms0, 1 ≤ b ∧ b ≤ 4) ∧ 1 ≤ kn ∧ kn ≤ 3 ∧
  ∀ (q : Addr) (b : Int) (m : Nat) (ms ks : List Str) (ws : List Int) (Ms : List (List (List Int))) (H' : Hp), b ∈ bs → (m : Int) ∈ ms0 → Dr p k H H' → H q = none → q ≠ p → BookAt H' q b m ms ws ks Ms → BkOk b m ms ws ks Ms → Q (.ref q) H'
theorem str_at {xs : List Str} {i : Nat} {x : V} (h : (xs.map V.str)[i]? = some x) : ∃ z, xs[i]? = some z ∧ x = .str z := by
  rw [List.getElem?_map] at h
  cases e : xs[i]? with
  | none =>
    rw [e] at h
    cases h
  | some z =>
    rw [e] at h
    exact ⟨z, rfl, (Option.some.inj h).symm⟩
theorem ok_l_book_drawn (T : Txt K mg) : FnOk P w K mg base CX0 5 T.f_l_book_drawn T.fd_l_book_drawn ["pot", "bys", "manys", "kinds", "is_above"] (spDrawn K) := by
  refine T.F_l_book_drawn.ok sc_l_book_drawn (fun vs H Q E h => ?_) (fun cdv A outer s H vs Q E hr h => ?_)
  · obtain ⟨p, lb, lm, bs, ms0, kn, k, ab, rfl, _⟩ := h
    rfl
  · obtain ⟨p, lb, lm, bs, ms0, kn, k, ab, rfl, hP, hB, nbp, bl0, bl1, bok, hM, nmp, ml0, ml1, mok, kn1, kn3, q⟩ := h
    refine ⟨_, (pss_cons (ps_par (i := 5) (j := 6) (by rfl) sc_l_book_drawn.nd rfl rfl (by decide) rfl rfl (pa_cons (pe_call (ok_l_of T) (hr.mono (by decide)) (by rfl) T.g_l_of T.F_l_of.kp T.b_l_of .nil pass0 (pa_cons (pv 0) (pa_cons (pv 1) pa_nil))) (pa_cons (pe_call (ok_l_of T) (hr.mono (by decide)) (by rfl) T.g_l_of T.F_l_of.kp T.b_l_of .nil pass0 (pa_cons (pv 0) (pa_cons (pv 2) pa_nil))) pa_nil)) (by rfl))
  (pss_cons (ps_set (i := 7) sc_l_book_drawn.nd rfl (Or.inl rfl) (pe_call (ok_l_book_names T) (hr.mono (by decide)) (by rfl) T.g_l_book_names T.F_l_book_names.kp T.b_l_book_names .nil pass0 (pa_cons (pv 0) (pa_cons (pe_op op_add pe_int (pe_call (ok_l_take T) (hr.mono (by decide)) (by rfl) T.g_l_take T.F_l_take.kp T.b_l_take .nil pass0 (pa_cons (pv 0) (pa_cons (pv 3) pa_nil)))) pa_nil))))
  (pss_cons (ps_set (i := 8) sc_l_book_drawn.nd rfl (Or.inr rfl) (pe_call (ok_l_book_of T) (hr.mono (by decide)) (by rfl) T.g_l_book_of T.F_l_book_of.kp T.b_l_book_of .nil pass0 (pa_cons (pv 0) (pa_cons (pv 5) (pa_cons (pv 6) (pa_cons (pv 7) (pa_cons (pv 4) pa_nil)))))))
  (pss_cons (ps_if (PW.pt (pw_and (pt_cmpR op_le (pe_callB call_len_seq (by rfl) T.n_len PySem.boot_len (pa_cons (pv 7) pa_nil)) (pv 6) (nomark _)) (pw_and1 (pt_cmpR op_eq (pe_call (ok_l_take T) (hr.mono (by decide)) (by rfl) T.g_l_take T.F_l_take.kp T.b_l_take .nil pass0 (pa_cons (pv 0) (pa_cons pe_int pa_nil))) pe_int (nomark _))))) (pss_cons (ps_set (i := 9) sc_l_book_drawn.nd rfl (Or.inl rfl) (pe_callTy (call_dictP rfl) (by rfl) T.n_dict (by decide +kernel) (pa_cons (pe_lc (own := [("mark", 10), ("kind", 11)]) (by rfl) sc_l_book_drawn.nd (pi_zipA (by rfl) T.n_zip (pa_cons (pe_dget (hu_of hr) (pv 8) pe_str (fun _ _ => rfl)) (pa_cons (pv 7) pa_nil))) (blkOk_by (own := [("mark", 10), ("kind", 11)]) (by rfl)) (fun _ _ _ _ _ => (pg_tupK K (n := 2) (by rfl) (pgs_cons (pg_name (i := 10) sc_l_book_drawn.nd rfl (Or.inl rfl)) (pgs_cons (pg_name (i := 11) sc_l_book_drawn.nd rfl (Or.inl rfl)) pgs_nil)))) (fun _ _ _ _ _ => pts_nil) (fun _ _ _ _ _ => (pe_tup (pa_cons (pv 10) (pa_cons (pe_dget (hu_of hr) (pe_dget (hu_of hr) (pv 8) pe_str (fun _ _ => rfl)) (pv 11) (fun _ _ => rfl)) pa_nil))))) pa_nil)))
  (pss_one (ps_asg (pe_tup (pa_cons (pe_slice sl_tupA (pe_dget (hu_of hr) (pv 8) pe_str (fun _ _ => rfl)) po_none (po_some (pe_callB call_len_seq (by rfl) T.n_len PySem.boot_len (pa_cons (pv 7) pa_nil)))) (pa_cons (pv 9) pa_nil))) (pg_tup (by rfl) (pgs_cons (pg_sub (pv 8) pe_str (set_dict (hu_of hr))) (pgs_cons (pg_sub (pv 8) pe_str (set_dict (hu_of hr))) pgs_nil)))))) pss_nil)
  (pss_one (ps_ret (pv 8))))))), ?_⟩
    refine ⟨.ref p, rfl, .ref lb, rfl, p, lb, _, k + 799, rfl, hP, hB, nbp, by rw [List.length_map]; exact bl0, by rw [List.length_map]; omega, fun i x H1 hx d1 => ?_⟩
    obtain ⟨b, hb, rfl⟩ := at_of hx
    refine ⟨.ref p, rfl, .ref lm, rfl, p, lm, _, k + 798, rfl, d1.2, d1.1.seq nmp hM, nmp, by rw [List.length_map]; exact ml0, by rw [List.length_map]; omega, fun i2 x2 H2 hx2 d2 => ?_⟩
    obtain ⟨mi, hmi, rfl⟩ := at_of hx2
    obtain ⟨b0, b1, b97⟩ := bok b hb
    obtain ⟨mi1, mi4⟩ := mok mi hmi
    obtain ⟨m, rfl⟩ : ∃ m : Nat, mi = (m : Int) := ⟨mi.toNat, by omega⟩
    have d02 := d1.trans d2
    refine ⟨_, _, rfl, ?_⟩
    refine ⟨.ref p, rfl, .ref p, rfl, .int kn, rfl, p, kn, k + 797, rfl, d2.2, by omega, by omega, fun r H3 r0 r1 d3 => ?_⟩
    obtain ⟨n, hn⟩ : ∃ n : Nat, 1 + r = (n : Int) := ⟨(1 + r).toNat, by omega⟩
    refine ⟨1, r, rfl, rfl, p, n, k + 697, congrArg (fun z => [V.ref p, V.int z]) hn, d3.2, by omega, fun tk ks H4 hks d4 ntk ntkp htk => ?_⟩
    have hkl := hks.len
    refine ⟨.ref p, rfl, .int b, rfl, .int m, rfl, .ref tk, rfl, .bl ab, rfl, p, tk, b, m, k + 197, ab, ks, rfl, d4.2, b0, b1, b97, by omega, by omega, htk, by rw [hkl]; exact hks, by omega, by omega, fun q0 ms ws Ms H5 d5 nq0 nq0p bk ok => ?_⟩
    have d05 := ((d02.trans d3).trans d4).trans d5
    have htk5 : H5 tk = some (.tup (ks.map V.str)) := d5.st ntkp htk
    have nq : H q0 = none := ((d02.trans d3).trans d4).fr nq0
    have done : ∀ H8, Dr p k H5 H8 → Q (.ref q0) H8 := fun H8 d8 => q q0 b m ms ks ws Ms H8 hb hmi (d05.trans d8) nq nq0p (bk.dr d5.2 d8) ok
    refine ⟨.ref tk, rfl, tk, _, rfl, .inr (SqT.of htk5), .int m, rfl, _, _, rfl, rfl, _, rfl, ite2 (fun hle => ?_) (fun _ => ?_)⟩
    · have hle : ((ks.map V.str).length : Int) ≤ (m : Int) := of_decide_eq_true hle
      rw [List.length_map, hkl] at hle
      refine ⟨.ref p, rfl, p, 6, k + 196, rfl, d5.2, by decide, by decide, fun r6 H6 _ _ d6 => ?_⟩
      refine ⟨rfl, _, rfl, ite2 (fun _ => ?_) (fun _ => ?_)⟩
      · have d06 := d05.trans d6
        have bk6 := bk.dr d5.2 d6
        have htk6 : H6 tk = some (.tup (ks.map V.str)) := d6.st ntkp htk5
        obtain ⟨kvs, tm, tw, tk', td, hO, hl10, v1, v2, hT2, v3, hT3, v4, hT4, v5, tkvs, hTd, tnd, tln, tabs⟩ := id bk6
        have hml := ok.nm.len
        refine ⟨.ref q0, rfl, q0, _, rfl, dget hO v2, .ref tk, rfl, tm, tk, _, _, rfl, .inr ⟨SqT.of hT2, SqT.of htk6, fun D hD => ?_⟩⟩
        refine lc_zipT (K := K) (a := tm) (b := tk) (xs := ms.map V.str) (ys := ks.map V.str) (fun i H7 => i ≤ n ∧ Same H6 H7 ∧ ∃ (ps ts : List Addr), H7 D = some (.lst (ps.map V.ref)) ∧ ps.length = i ∧ ts.length = i ∧
            ∀ (j : Nat) (a t : Addr) (z : Str), ps[j]? = some a → ts[j]? = some t → ms[j]? = some z → H7 a = some (.tup [.str z, .ref t]) ∧ ∃ M, Ms[j]? = some M ∧ Tab b H6 t m M)
          ⟨Nat.zero_le _, same_new hD, [], [], upd_same, rfl, rfl, fun j a t kd h => by simp at h⟩ (fun i H7 ⟨_, s7, _⟩ => ⟨SqT.of (s7 _ _ hT2), SqT.of (s7 _ _ htk6)⟩) ?_ ?_
        · rintro i x y T7 H7 hx hy ⟨_, s7, ps, ts, g1, g2, g3, g4⟩ hT7
          obtain ⟨z, hz, rfl⟩ := str_at hx
          obtain ⟨kd, hkd, rfl⟩ := str_at hy
          have hik : i < ks.length := (List.getElem?_eq_some_iff.mp hkd).1
          obtain ⟨t, M, e1, e2, e3⟩ := tabs i kd hkd
          have s8 := s7.trans (same_new (o := .tup [.str z, .str kd]) hT7)
          refine ⟨T7, _, rfl, SqT.of upd_same, rfl, _, _, rfl, _, _, rfl, rfl, ?_⟩
          refine ⟨rfl, ?_⟩
          refine ⟨_, rfl, .ref q0, rfl, q0, _, rfl, dget (s8 _ _ hO) v5, .str kd, rfl, td, _, rfl, dget (s8 _ _ hTd) e1, ?_⟩
          refine ⟨(by show 2 ≤ sizeLine; decide), fun tt htt => ?_⟩
          have s9 := s8.trans (same_new (o := .tup [.str z, .ref t]) htt)
          have hD9 : (upd (upd H7 T7 (.tup [.str z, .str kd])) tt (.tup [.str z, .ref t])) D = some (.lst (ps.map V.ref)) := same_new htt _ _ (same_new hT7 _ _ g1)
          have nttD : tt ≠ D := fun e => by
            rw [e, same_new hT7 _ _ g1] at htt
            cases htt
          refine ⟨_, hD9, by rw [List.length_map]; exact small1000 (by omega), by omega, fun a o ho => ?_, ps ++ [tt], ts ++ [t], ?_, by rw [List.length_append, g2]; rfl, by rw [List.length_append, g3]; rfl, fun j a t' z' ha ht' hz' => ?_⟩
          · rw [upd_ne (ne_of_none ho hD)]
            exact s9 _ _ ho
          · rw [upd_same, List.map_append]
            rfl
          · by_cases hj : j < i
            · rw [List.getElem?_append_left (by omega)] at ha ht'
              obtain ⟨u1, u2⟩ := g4 j a t' z' ha ht' hz'
              have e := same_new (o := .tup [.str z, .ref t]) htt _ _ (same_new (o := .tup [.str z, .str kd]) hT7 _ _ u1)
              refine ⟨?_, u2⟩
              rw [upd_ne (ne_of e hD9 (by intro z; cases z))]
              exact e
            · have hjl : j < (ps ++ [tt]).length := (List.getElem?_eq_some_iff.mp ha).1
              rw [List.length_append, List.length_singleton] at hjl
              have hji : j = i := by omega
              subst hji
              rw [List.getElem?_append_right (by omega), show j - ps.length = 0 by omega] at ha
              rw [List.getElem?_append_right (by omega), show j - ts.length = 0 by omega] at ht'
              have ea : tt = a := Option.some.inj ha
              have et : t = t' := Option.some.inj ht'
              rw [hz] at hz'
              have ek : z = z' := Option.some.inj hz'
              subst ea et ek
              exact ⟨by rw [upd_ne nttD, upd_same], M, e2, e3⟩
        · rintro H7 ⟨hin, s7, ps, ts, g1, g2, g3, g4⟩
          rw [List.length_map, List.length_map, hml, hkl, Nat.min_eq_right (by omega)] at g2 g3
          have hkv : ∀ (j : Nat) (t : Addr) (z : Str), ts[j]? = some t → (ms.take n)[j]? = some z → (((ms.take n).zip ts).map fun q => ((.inr q.1 : Key), V.ref q.2))[j]? = some (.inr z, .ref t) := fun j t z h1 h2 => by
            rw [List.getElem?_map, List.getElem?_zip_eq_some (z := (z, t)) |>.mpr ⟨h2, h1⟩]
            rfl
          have htl : (ms.take n).length = n := by
            rw [List.length_take, hml]
            omega
          have nmt := ok.nm.take (n := n) (by omega)
          have hnd : ((((ms.take n).zip ts).map fun q => ((.inr q.1 : Key), V.ref q.2)).map (·.1)).Nodup := by
            rw [List.map_map]
            have e : ((fun x : Key × V => x.1) ∘ fun q : Str × Addr => ((.inr q.1 : Key), V.ref q.2)) = (fun z : Str => (.inr z : Key)) ∘ (fun q : Str × Addr => q.1) := rfl
            rw [e, ← List.map_map, List.map_fst_zip (by omega)]
            have n := nmt.nd
            unfold List.Nodup at n ⊢
            rw [List.pairwise_map]
            exact n.imp fun h e => h (Sum.inr.inj e)
          have at_take : ∀ (j : Nat) (z : Str), (ms.take n)[j]? = some z → ms[j]? = some z := fun j z h => by
            rw [List.getElem?_take] at h
            split at h
            · exact h
            · cases h
          have hln : (((ms.take n).zip ts).map fun q => ((.inr q.1 : Key), V.ref q.2)).length ≤ 10 := by
            rw [List.length_map, List.length_zip]
            omega
          refine ⟨D, ps, ((ms.take n).zip ts).map fun q => ((.inr q.1 : Key), V.ref q.2), rfl, SqL.of g1, paired_of ?_ fun j a kv ha hkv' => ?_, fun dd hdd => ?_⟩
          · rw [List.length_map, List.length_zip]
            omega
          · rw [List.getElem?_map] at hkv'
            cases e : ((ms.take n).zip ts)[j]? with
            | none =>
              rw [e] at hkv'
              cases hkv'
            | some kt =>
              rw [e] at hkv'
              have ekv := Option.some.inj hkv'
              obtain ⟨z1, z2⟩ := List.getElem?_zip_eq_some.mp e
              obtain ⟨u1, _⟩ := g4 j a kt.2 kt.1 ha z2 (at_take _ _ z1)
              rw [← ekv]
              exact SqT.of u1
          · rw [merge0 hnd]
            generalize hkvs : (((ms.take n).zip ts).map fun q => ((.inr q.1 : Key), V.ref q.2)) = tkv at *
            have s8 := s7.trans (same_new (o := .dK tkv) hdd)
            have sdd := same_new (o := .dK tkv) hdd
            have hdd8 : (upd H7 dd (.dK tkv)) dd = some (.dK tkv) := upd_same
            have stored : ∀ (H8 : Hp) (tn : Addr), Same (upd H7 dd (.dK tkv)) H8 → H8 tn = some (.tup ((ms.take n).map V.str)) →
                ∃ (H9 H10 : Hp), DPut H8 q0 (.str "kinds") (.ref tn) H9 ∧ DPut H9 q0 (.str "tables") (.ref dd) H10 ∧ ∀ H11, Same H10 H11 → Q (.ref q0) H11 := fun H8 tn sx htn => by
              have s68 := s8.trans sx
              have hO8 := s68 _ _ hO
              have len9 : ∀ (kv : List (Key × V)) (k : Key) (v : V), (putK kv k v).length ≤ kv.length + 1 := fun kv k v => by
                unfold putK
                split
                · rw [List.length_map]
                  omega
                · rw [List.length_append]
                  exact Nat.le_refl _
              refine ⟨_, _, DPut.k (k := .inr "kinds") hO8 (small1000 (by omega)), DPut.k (k := .inr "tables") upd_same (small1000 (Nat.le_trans (len9 _ _ _) (by omega))), fun H11 s11 => ?_⟩
              generalize hkv2 : putK (putK kvs (.inr "kinds") (.ref tn)) (.inr "tables") (.ref dd) = kvs2 at s11
              have look : ∀ (s : Str), ¬ s = "kinds" → ¬ s = "tables" → valV kvs2 (.inr s) = valV kvs (.inr s) := fun s h1 h2 => by
                rw [← hkv2, valV_put, if_neg (k_ne h2), valV_put, if_neg (k_ne h1)]
              have lk : valV kvs2 (.inr "kinds") = some (.ref tn) := by
                rw [← hkv2, valV_put, if_neg (k_ne (by decide +kernel)), valV_put, if_pos rfl]
              have lt : valV kvs2 (.inr "tables") = some (.ref dd) := by
                rw [← hkv2, valV_put, if_pos rfl]
              have nT : ∀ {a : Addr} {xs : List V}, H8 a = some (.tup xs) → H11 a = some (.tup xs) := fun {a xs} e => s11 _ _ (by
                rw [upd_ne (ne_of e hO8 (by intro z; cases z)), upd_ne (ne_of e hO8 (by intro z; cases z))]
                exact e)
              have nddq : dd ≠ q0 := fun z => by
                rw [z, s7 _ _ hO] at hdd
                cases hdd
              have nup : ∀ xs, H8 q0 ≠ some (.tup xs) := fun xs z => by
                rw [hO8] at z
                cases z
              have l9 : kvs2.length ≤ 12 := by
                rw [← hkv2]
                exact Nat.le_trans (len9 _ _ _) (Nat.le_trans (Nat.add_le_add_right (len9 _ _ _) 1) (by omega))
              have d8 := d06.sm s68
              have dx : Dr p (k + 196) H H11 := ((d8.mut nq nq0p).mut nq nq0p).sm s11
              have nup9 : ∀ xs, (upd H8 q0 (.dK (putK kvs (.inr "kinds") (.ref tn)))) q0 ≠ some (.tup xs) := fun xs z => by
                rw [upd_same] at z
                cases z
              refine q q0 b m ms (ms.take n) ws Ms H11 hb hmi (dx.mono (by omega)) nq nq0p ⟨kvs2, tm, tw, tn, dd, s11 _ _ upd_same, ?_, by rw [look _ (by decide +kernel) (by decide +kernel)]; exact v1, by rw [look _ (by decide +kernel) (by decide +kernel)]; exact v2, nT (s68 _ _ hT2), by rw [look _ (by decide +kernel) (by decide +kernel)]; exact v3, nT (s68 _ _ hT3), lk, nT htn, lt, tkv, s11 _ _ (by rw [upd_ne nddq, upd_ne nddq]; exact sx _ _ hdd8), hnd, hln, fun i z hz => ?_⟩ ⟨ok.b0, ok.b1, ok.b97, ok.m1, ok.m4, ok.nm, ok.wl, ok.w, by rw [htl]; exact nmt, by omega, by omega, by rw [ok.ml, hkl, htl]⟩
              · rw [← hkv2, put_len (x := .ref td) (by rw [valV_put, if_neg (k_ne (by decide +kernel))]; exact v5), put_len v4]
                exact hl10
              · have hi : i < n := by
                  have := (List.getElem?_eq_some_iff.mp hz).1
                  omega
                have ht : ts[i]? = some (ts[i]'(by omega)) := List.getElem?_eq_getElem (by omega)
                have hp : ps[i]? = some (ps[i]'(by omega)) := List.getElem?_eq_getElem (by omega)
                obtain ⟨u1, M, u3, u4⟩ := g4 i _ _ z hp ht (at_take _ _ hz)
                exact ⟨_, M, valV_of hnd (hkv i _ z ht hz), u3, (((u4.same s68).upd nup).upd nup9).same s11⟩
            have s8O := s8 _ _ hO
            refine ⟨.ref q0, rfl, q0, _, rfl, dget s8O v2, .ref tk, rfl, tk, _, rfl, .inr (SqT.of (s8 _ _ htk6)), (n : Int), by rw [List.length_map, hkl], ?_⟩
            refine ⟨tm, _, rfl, SqT.of (s8 _ _ hT2), fun wh => ?_, fun _ tn htn => ?_⟩
            · refine ⟨_, rfl, (by show 2 ≤ sizeLine; decide), fun tt htt => ?_⟩
              have et : ms.take n = ms := by
                have e := wh.2
                rw [HT.sIx_nat, List.length_map] at e
                exact List.take_of_length_le (by omega)
              obtain ⟨H9, H10, e1, e2, e3⟩ := stored _ tm (same_new (o := .tup [.ref tm, .ref dd]) htt) (by rw [et]; exact same_new htt _ _ (s8 _ _ hT2))
              exact ⟨tt, _, rfl, SqT.of upd_same, rfl, _, _, rfl, .ref q0, rfl, q0, H9, rfl, e1, _, _, rfl, .ref q0, rfl, q0, H10, rfl, e2, rfl, _, rfl, e3 H10 (Same.refl _)⟩
            · refine ⟨_, rfl, (by show 2 ≤ sizeLine; decide), fun tt htt => ?_⟩
              have sn := same_new (o := .tup (cutV (ms.map V.str) none (some (n : Int)))) htn
              have ec : cutV (ms.map V.str) none (some (n : Int)) = (ms.take n).map V.str := by
                rw [cut_to, List.map_take]
              obtain ⟨H9, H10, e1, e2, e3⟩ := stored _ tn (sn.trans (same_new (o := .tup [.ref tn, .ref dd]) htt)) (by rw [upd_ne (ne_new htt).symm, upd_same, ec])
              exact ⟨tt, _, rfl, SqT.of upd_same, rfl, _, _, rfl, .ref q0, rfl, q0, H9, rfl, e1, _, _, rfl, .ref q0, rfl, q0, H10, rfl, e2, rfl, _, rfl, e3 H10 (Same.refl _)⟩
      · exact ⟨_, rfl, done H6 (d6.mono (by omega))⟩
    · exact ⟨_, rfl, done H5 (Dr.start d5.2 (by omega))⟩
end
end OG
set_option Elab.async false
set_option linter.all false
set_option maxRecDepth 100000
set_option maxHeartbeats 4000000
namespace OG
open PySem PySem.Spec PyProof.Rows L2
def istr (i : Int) : Str := Str.ofString (toString i)
theorem istr_len {i : Int} (h1 : -1000000000000 ≤ i) (h2 : i ≤ 1000000000000) : (istr i).length ≤ 14 := by
  by_cases h : i < 0
  · unfold istr
    rw [len_text_neg h]
    have := toString_length_le (v := 0 - i) (by omega) (k := 13) (by decide) (by omega)
    omega
  · have := toString_length_le (v := i) (by omega) (k := 13) (by decide) (by omega)
    unfold istr
    omega
theorem small_log {i : Int} (h1 : -1000000000000 ≤ i) (h2 : i ≤ 1000000000000) : i.natAbs.log2 < 1920 := PySem.Flt.log2_lt_of (by decide) (Nat.lt_of_le_of_lt (show i.natAbs ≤ 1000000000000 by omega) (Nat.lt_of_lt_of_le (show 1000000000000 < 2 ^ 60 by decide) (Nat.pow_le_pow_right (by decide) (by decide))))
theorem app_len (a b : Str) : (a ++ b).length = a.length + b.length := by
  rw [TL.len_tl, TL.tl_append, List.length_append, TL.len_tl, TL.len_tl]
theorem joinL_len (S : List Nat) : ∀ ls : List (List Nat), (TL.joinL S ls).length ≤ (ls.map fun l => l.length + S.length).sum
  | [] => Nat.zero_le _
  | [p] => by
    show p.length ≤ _
    simp
  | p :: q :: r => by
    show (p ++ (S ++ TL.joinL S (q :: r))).length ≤ _
    have ih := joinL_len S (q :: r)
    rw [List.length_append, List.length_append, List.map_cons, List.sum_cons]
    omega
theorem join_len (a : Str) (ys : List Str) : (Txt.join a ys).length ≤ (ys.map fun y => y.length + a.length).sum := by
  have e := (congrArg TL.tl (TL.join_eq a ys)).trans (TL.tl_join a ys)
  rw [TL.len_tl, e]
  refine Nat.le_trans (joinL_len _ _) ?_
  rw [List.map_map]
  exact Nat.le_refl _
theorem sum_le {α : Type} {f : α → Nat} {c : Nat} : ∀ {ys : List α}, (∀ y ∈ ys, f y ≤ c) → (ys.map f).sum ≤ ys.length * c
  | [], _ => Nat.zero_le _
  | y :: r, h => by
    have ih := sum_le (ys := r) fun z hz => h z (List.mem_cons_of_mem _ hz)
    have hy := h y List.mem_cons_self
    rw [List.map_cons, List.sum_cons, List.length_cons, Nat.add_mul]
    omega
theorem join_le {a : Str} {ys : List Str} {c n : Nat} (h : ∀ y ∈ ys, y.length ≤ c) (hn : ys.length ≤ n) (ha : a.length = 1) : (Txt.join a ys).length ≤ n * (c + 1) := by
  refine Nat.le_trans (join_len a ys) (Nat.le_trans (sum_le (c := c + 1) fun y hy => ?_) (Nat.mul_le_mul_right _ hn))
  have := h y hy
  omega
/-- what join's rule asks -/
theorem join_ok {a : Str} {ys : List Str} {c n : Nat} (h : ∀ y ∈ ys, y.length ≤ c) (hn : ys.length ≤ n) (ha : a.length = 1) (hb : n * (c + 1) ≤ 16777216) : (ys.map (·.length)).sum + ys.length * a.length ≤ 16777216 := by
  have e := sum_le (f := fun y : Str => y.length) h
  have e2 : ys.length * (c + 1) ≤ n * (c + 1) := Nat.mul_le_mul_right _ hn
  rw [Nat.mul_add, Nat.mul_one] at e2
  rw [ha]
  omega
def markL (z : Str) (w : Int) : Str := "mark " ++ z ++ " " ++ istr w
def rowL (row : List Int) : Str := Txt.join " " (row.map istr)
def kindL (k : Str) (M : List (List Int)) : Str := "kind " ++ k ++ " " ++ Txt.join " " (M.map rowL)
def bookLines (b : Int) (ms : List Str) (ws : List Int) (ks : List Str) (Ms : List (List (List Int))) : List Str := ("book " ++ istr b) :: (List.zipWith markL ms ws ++ List.zipWith kindL ks Ms)
def bookText (b : Int) (ms : List Str) (ws : List Int) (ks : List Str) (Ms : List (List (List Int))) : Str := Txt.join "\n" (bookLines b ms ws ks Ms)
theorem markL_len {z : Str} {w : Int} (hz : z.length ≤ 4) (h1 : -1000000000000 ≤ w) (h2 : w ≤ 1000000000000) : (markL z w).length ≤ 24 := by
  have := istr_len h1 h2
  unfold markL
  rw [app_len, app_len, app_len]
  show 5 + z.length + 1 + _ ≤ _
  omega
theorem rowL_len {row : List Int} (h : ∀ z ∈ row, -1000000000000 ≤ z ∧ z ≤ 1000000000000) (hl : row.length ≤ 4) : (rowL row).length ≤ 60 := by
  refine join_le (c := 14) (n := 4) (fun y hy => ?_) (by rw [List.length_map]; exact hl) rfl
  obtain ⟨z, hz, rfl⟩ := List.mem_map.mp hy
  exact istr_len (h z hz).1 (h z hz).2
theorem rows_len {M : List (List Int)} (h : ∀ row ∈ M, row.length ≤ 4 ∧ ∀ z ∈ row, -1000000000000 ≤ z ∧ z ≤ 1000000000000) (hl : M.length ≤ 4) : (Txt.join " " (M.map rowL)).length ≤ 244 := by
  refine join_le (c := 60) (n := 4) (fun y hy => ?_) (by rw [List.length_map]; exact hl) rfl
  obtain ⟨row, hr, rfl⟩ := List.mem_map.mp hy
  exact rowL_len (h row hr).2 (h row hr).1
theorem kindL_len {k : Str} {M : List (List Int)} (hk : k.length ≤ 4) (h : ∀ row ∈ M, row.length ≤ 4 ∧ ∀ z ∈ row, -1000000000000 ≤ z ∧ z ≤ 1000000000000) (hl : M.length ≤ 4) : (kindL k M).length ≤ 254 := by
  have := rows_len h hl
  unfold kindL
  rw [app_len, app_len, app_len]
  show 5 + k.length + 1 + _ ≤ _
  omega
end OG
set_option Elab.async false
set_option linter.all false
set_option maxRecDepth 100000
set_option maxHeartbeats 8000000
namespace OG
open PySem PySem.Spec PyProof.Rows L2
open RZ (ItzT pi_zipA iZipA for_zipT)
theorem take_more {α : Type} {l : List α} {i : Nat} {x : α} (h : l[i]? = some x) : l.take (i + 1) = l.take i ++ [x] := by
  rw [List.take_add_one, h]
  rfl
theorem zw_at {α β γ : Type} {f : α → β → γ} {xs : List α} {ys : List β} {i : Nat} {x : α} {y : β} (h1 : xs[i]? = some x) (h2 : ys[i]? = some y) : (List.zipWith f xs ys)[i]? = some (f x y) := by
  rw [List.getElem?_zipWith, h1, h2]
theorem szl {n : Nat} (h : n ≤ 16000000) : n ≤ sizeLine := Nat.le_trans h (by decide)
section
variable {P : Program} {w : World} {K : PySem.W.Frag} {mg : Str → Option Value} {base : Heap}
def spText : Sp := fun vs H Q _ => ∃ (o : Addr) (b : Int) (m : Nat) (ms ks : List Str) (ws : List Int) (Ms : List (List (List Int))), vs = [.ref o] ∧ BookAt H o b m ms ws ks Ms ∧ BkOk b m ms ws ks Ms ∧
  ∀ (H' : Hp), Same H H' → Q (.str (bookText b ms ws ks Ms)) H'
theorem ok_l_book_text (T : Txt K mg) : FnOk P w K mg base CX0 1 T.f_l_book_text T.fd_l_book_text ["own"] (spText) := by
  refine T.F_l_book_text.ok sc_l_book_text (fun vs H Q E h => ?_) (fun cdv A outer s H vs Q E hr h => ?_)
  · obtain ⟨o, b, m, ms, ks, ws, Ms, rfl, _⟩ := h
    rfl
  · obtain ⟨o, b, m, ms, ks, ws, Ms, rfl, hB, ok, q⟩ := h
    refine ⟨_, (pss_cons (ps_set (i := 1) sc_l_book_text.nd rfl (Or.inl rfl) (pe_lst (pa_cons (pe_op op_add_str pe_str (pe_callTy call_str_int (by rfl) T.n_str (by decide +kernel) (pa_cons (pe_callTy call_int1 (by rfl) T.n_int (by decide +kernel) (pa_cons (pe_dget (hu_of hr) (pv 0) pe_str (fun _ _ => rfl)) pa_nil)) pa_nil))) pa_nil)))
  (pss_cons (ps_for PassesOwn.never rfl (pi_zipA (by rfl) T.n_zip (pa_cons (pe_dget (hu_of hr) (pv 0) pe_str (fun _ _ => rfl)) (pa_cons (pe_dget (hu_of hr) (pv 0) pe_str (fun _ _ => rfl)) pa_nil))) (pg_tup (by rfl) (pgs_cons (pg_name (i := 2) sc_l_book_text.nd rfl (Or.inl rfl)) (pgs_cons (pg_name (i := 3) sc_l_book_text.nd rfl (Or.inl rfl)) pgs_nil))) (pss_one (ps_expr (pe_bm PySem.F.plainAttrs_list PySem.F.slot_list_append PySem.F.type_list_append mt_append (pv 1) (pa_cons (pe_op op_add_str (pe_op op_add_str (pe_op op_add_str pe_str (pv 2)) pe_str) (pe_callTy call_str_int (by rfl) T.n_str (by decide +kernel) (pa_cons (pe_callTy call_int1 (by rfl) T.n_int (by decide +kernel) (pa_cons (pv 3) pa_nil)) pa_nil))) pa_nil)))))
  (pss_cons (ps_for PassesOwn.never rfl (pi_tup (pe_dget (hu_of hr) (pv 0) pe_str (fun _ _ => rfl))) (pg_name (i := 4) sc_l_book_text.nd rfl (Or.inl rfl)) (pss_cons (ps_setLc (i := 5) (own := [("row", 6)]) (g := gName 6) (by rfl) sc_l_book_text.nd rfl rfl (sw_true rfl rfl rfl (by decide +kernel)) (pi_tup (pe_dget (hu_of hr) (pe_dget (hu_of hr) (pv 0) pe_str (fun _ _ => rfl)) (pv 4) (fun _ _ => rfl))) (blkOk_by (own := [("row", 6)]) (by rfl)) (fun _ _ _ _ _ => (pg_name (i := 6) sc_l_book_text.nd rfl (Or.inl rfl))) (fun _ _ _ _ _ => pts_nil) (fun _ _ _ _ _ => (pe_m1 PySem.F.slot_str_join PySem.F.type_str_join (mt_joinK K) pe_str (pe_lc (own := [("n", 7)]) (g := gName 7) (by rfl) sc_l_book_text.nd (pi_tupK K (pv 6)) (blkOk_by (own := [("n", 7)]) (by rfl)) (fun _ _ _ _ _ => (pg_name (i := 7) sc_l_book_text.nd rfl (Or.inl rfl))) (fun _ _ _ _ _ => pts_nil) (fun _ _ _ _ _ => (pe_callTy call_str_int (by rfl) T.n_str (by decide +kernel) (pa_cons (pe_callTy call_int1 (by rfl) T.n_int (by decide +kernel) (pa_cons (pv 7) pa_nil)) pa_nil)))))))
  (pss_one (ps_expr (pe_bm PySem.F.plainAttrs_list PySem.F.slot_list_append PySem.F.type_list_append mt_append (pv 1) (pa_cons (pe_op op_add_str (pe_op op_add_str (pe_op op_add_str pe_str (pv 4)) pe_str) (pe_join pe_str (pv 5))) pa_nil))))))
  (pss_one (ps_ret (pe_join pe_str (pv 1))))))), ?_⟩
    have hm4 := ok.m4
    have hm1 := ok.m1
    have hml := ok.nm.len
    have hwl := ok.wl
    have hk3 := ok.k3
    have hMl := ok.ml
    have hb0 := ok.b0
    have hb97 := ok.b97
    obtain ⟨kvs, tm, tw, tk, td, hO, hl10, v1, v2, hT2, v3, hT3, v4, hT4, v5, tkvs, hTd, tnd, tln, tabs⟩ := id hB
    refine ⟨.ref o, rfl, o, _, rfl, dget hO v1, .inl ⟨b, rfl, ?_⟩⟩
    refine ⟨b, rfl, small_log (by omega) (by omega), ?_⟩
    have lb := istr_len (i := b) (by omega) (by omega)
    refine ⟨_, _, rfl, rfl, szl (Nat.le_trans (Nat.add_le_add_left lb 5) (by decide)), ?_⟩
    refine ⟨(by show 1 ≤ sizeLine; decide), fun L hL => ?_⟩
    have s1 := same_new (o := .lst [.str ("book " ++ istr b)]) hL
    refine ⟨.ref o, rfl, o, _, rfl, dget (s1 _ _ hO) v2, .ref o, rfl, o, _, rfl, dget (s1 _ _ hO) v3, tm, tw, _, _, rfl, .inr ⟨SqT.of (s1 _ _ hT2), SqT.of (s1 _ _ hT3), ?_⟩⟩
    refine for_zipT (K := K) (a := tm) (b := tw) (xs := ms.map V.str) (ys := ws.map V.int) (by rw [List.length_map, List.length_map, hml, hwl]) (fun i σ H' => ∃ v2 v3 v4 v5 v6 v7 : Option V, σ = [some (.ref o), some (.ref L), v2, v3, v4, v5, v6, v7] ∧ i ≤ m ∧ Same H H' ∧ H' L = some (.lst ((("book " ++ istr b) :: (List.zipWith markL ms ws).take i).map V.str)))
      ⟨none, none, none, none, none, none, rfl, Nat.zero_le _, s1, upd_same⟩ (fun i σ H' ⟨_, _, _, _, _, _, _, _, s, _⟩ => ⟨SqT.of (s _ _ hT2), SqT.of (s _ _ hT3)⟩) ?_ ?_
    · rintro i x y T0 σ H' hx hy ⟨u2, u3, u4, u5, u6, u7, rfl, _, s, h1⟩ hT0
      obtain ⟨z, hz, rfl⟩ := str_at hx
      obtain ⟨wt, hwt, rfl⟩ : ∃ wt, ws[i]? = some wt ∧ y = .int wt := by
        rw [List.getElem?_map] at hy
        cases e : ws[i]? with
        | none =>
          rw [e] at hy
          cases hy
        | some wt =>
          rw [e] at hy
          exact ⟨wt, rfl, (Option.some.inj hy).symm⟩
      have him : i < ms.length := (List.getElem?_eq_some_iff.mp hz).1
      obtain ⟨_, w1, w2, _⟩ := ok.w wt (List.mem_of_getElem? hwt)
      have zl := (ok.nm.is z (List.mem_of_getElem? hz)).2.1
      have wl := istr_len w1 w2
      have sT := same_new (o := .tup [.str z, .int wt]) hT0
      have hL' := sT _ _ h1
      refine ⟨T0, _, rfl, SqT.of upd_same, rfl, _, _, rfl, _, _, rfl, rfl, ?_⟩
      refine ⟨.ref L, rfl, .inl ⟨rfl, _, SqL.of hL'⟩, ?_⟩
      refine ⟨.str z, rfl, _, _, rfl, rfl, szl (Nat.le_trans (Nat.add_le_add_left zl 5) (by decide)), ?_⟩
      have l2 : ("mark " ++ z : Str).length ≤ 9 := by
        rw [app_len]
        exact Nat.add_le_add_left zl 5
      refine ⟨_, _, rfl, rfl, szl (Nat.le_trans (Nat.add_le_add_right l2 1) (by decide)), ?_⟩
      have l3 : ("mark " ++ z ++ " " : Str).length ≤ 10 := by
        rw [app_len]
        exact Nat.add_le_add_right l2 1
      refine ⟨.int wt, rfl, .inl ⟨wt, rfl, wt, rfl, small_log w1 w2, ?_⟩⟩
      refine ⟨_, _, rfl, rfl, szl (Nat.le_trans (Nat.add_le_add l3 wl) (by decide)), ?_⟩
      refine ⟨L, _, _, rfl, rfl, hL', ?_, _, _, _, _, _, _, rfl, by omega, fun a u hu => ?_, ?_⟩
      · rw [List.length_map, List.length_cons, List.length_take]
        exact small1000 (by omega)
      · have n : a ≠ L := ne_of_none hu hL
        rw [upd_ne n]
        exact sT _ _ (s _ _ hu)
      · rw [upd_same, take_more (zw_at hz hwt), ← List.cons_append, List.map_append]
        rfl
    · rintro σ H' ⟨u2, u3, u4, u5, u6, u7, rfl, _, s, h1⟩
      have ez : (List.zipWith markL ms ws).take (ms.map V.str).length = List.zipWith markL ms ws := List.take_of_length_le (by rw [List.length_zipWith, List.length_map]; omega)
      rw [ez] at h1
      refine ⟨.ref o, rfl, o, _, rfl, dget (s _ _ hO) v4, tk, rfl, ⟨_, SqT.of (s _ _ hT4)⟩, ?_⟩
      refine for_tup (K := K) (a := tk) (xs := ks.map V.str) (fun i σ H' => ∃ v2 v3 v4 v5 v6 v7 : Option V, σ = [some (.ref o), some (.ref L), v2, v3, v4, v5, v6, v7] ∧ i ≤ ks.length ∧ Same H H' ∧ H' L = some (.lst ((("book " ++ istr b) :: (List.zipWith markL ms ws ++ (List.zipWith kindL ks Ms).take i)).map V.str)))
        ⟨_, _, _, _, _, _, rfl, Nat.zero_le _, s, by rw [List.take_zero, List.append_nil]; exact h1⟩ (fun i σ H' _ ⟨_, _, _, _, _, _, _, _, s, _⟩ => SqT.of (s _ _ hT4)) ?_ ?_
      · rintro i x σ H' hx ⟨u2, u3, u4, u5, u6, u7, rfl, _, s, h1⟩
        obtain ⟨k, hk, rfl⟩ := str_at hx
        have hik : i < ks.length := (List.getElem?_eq_some_iff.mp hk).1
        obtain ⟨t, M, e1, e2, e3⟩ := tabs i k hk
        obtain ⟨rs, t1, t2, t3, t4, t5⟩ := e3
        have kl := (ok.nk.is k (List.mem_of_getElem? hk)).2.1
        have hMb : ∀ row ∈ M, row.length ≤ 4 ∧ ∀ z ∈ row, -1000000000000 ≤ z ∧ z ≤ 1000000000000 := fun row hr => ⟨by rw [(t5 row hr).1]; exact hm4, fun z hz => ⟨((t5 row hr).2 z hz).1, ((t5 row hr).2 z hz).2.1⟩⟩
        refine ⟨.ref o, rfl, o, _, rfl, dget (s _ _ hO) v5, .str k, rfl, td, _, rfl, dget (s _ _ hTd) e1, t, rfl, ⟨_, SqT.of (s _ _ t1)⟩, fun D hD => ?_⟩
        refine lc_tup (K := K) (a := t) (xs := rs.map V.ref) (fun a H2 => a ≤ m ∧ Same H' H2 ∧ H2 D = some (.lst (((M.map rowL).take a).map V.str))) ⟨Nat.zero_le _, same_new hD, upd_same⟩ (fun a H2 _ ⟨_, s2, _⟩ => SqT.of (s2 _ _ (s _ _ t1))) ?_ ?_
        · rintro a x H2 hx ⟨_, s2, g1⟩
          have ham : a < rs.length := by
            have := (List.getElem?_eq_some_iff.mp hx).1
            rwa [List.length_map] at this
          have hr : rs[a]? = some (rs[a]'ham) := List.getElem?_eq_getElem ham
          have ex : x = .ref (rs[a]'ham) := by
            rw [List.getElem?_map, hr] at hx
            exact (Option.some.inj hx).symm
          subst ex
          obtain ⟨row, r1, r2⟩ := t4 a _ hr
          obtain ⟨rl, rb⟩ := t5 row (List.mem_of_getElem? r1)
          refine ⟨rfl, ?_⟩
          refine ⟨⟨_, rfl⟩, _, rfl, _, rfl, ⟨_, SqT.of (s2 _ _ (s _ _ r2))⟩, fun D2 hD2 => ?_⟩
          refine lc_tup (K := K) (a := rs[a]'ham) (xs := row.map V.int) (fun c H3 => c ≤ m ∧ Same H2 H3 ∧ H3 D2 = some (.lst (((row.map istr).take c).map V.str))) ⟨Nat.zero_le _, same_new hD2, upd_same⟩ (fun c H3 _ ⟨_, s3, _⟩ => SqT.of (s3 _ _ (s2 _ _ (s _ _ r2)))) ?_ ?_
          · rintro c x H3 hx ⟨_, s3, f1⟩
            have hcm : c < row.length := by
              have := (List.getElem?_eq_some_iff.mp hx).1
              rwa [List.length_map] at this
            have hz : row[c]? = some (row[c]'hcm) := List.getElem?_eq_getElem hcm
            have ex : x = .int (row[c]'hcm) := by
              rw [List.getElem?_map, hz] at hx
              exact (Option.some.inj hx).symm
            subst ex
            obtain ⟨z1, z2, _⟩ := rb _ (List.mem_of_getElem? hz)
            refine ⟨rfl, ?_⟩
            refine ⟨_, rfl, .inl ⟨_, rfl, _, rfl, small_log z1 z2, ?_⟩⟩
            refine ⟨_, f1, ?_, by omega, fun a u hu => ?_, ?_⟩
            · rw [List.length_map, List.length_take, List.length_map]
              exact small1000 (by omega)
            · rw [upd_ne (ne_of_none hu hD2)]
              exact s3 _ _ hu
            · rw [upd_same, take_more (l := row.map istr) (i := c) (x := istr (row[c]'hcm)) (by rw [List.getElem?_map, hz]; rfl), List.map_append]
              rfl
          · rintro H3 ⟨_, s3, f1⟩
            rw [List.length_map, show row.length = (row.map istr).length by rw [List.length_map], List.take_length] at f1
            refine ⟨_, D2, row.map istr, rfl, rfl, .inl (SqL.of f1), join_ok (c := 14) (n := 4) (fun y hy => ?_) (by rw [List.length_map]; omega) rfl (by decide), ?_⟩
            · obtain ⟨z, hz, rfl⟩ := List.mem_map.mp hy
              exact istr_len (rb z hz).1 (rb z hz).2.1
            refine ⟨_, s3 _ _ g1, ?_, by omega, fun a u hu => ?_, ?_⟩
            · rw [List.length_map, List.length_take, List.length_map]
              exact small1000 (by omega)
            · rw [upd_ne (ne_of_none hu hD)]
              exact s3 _ _ (s2 _ _ hu)
            · rw [upd_same, take_more (l := M.map rowL) (i := a) (x := rowL row) (by rw [List.getElem?_map, r1]; rfl), List.map_append]
              rfl
        · rintro H2 ⟨_, s2, g1⟩
          rw [List.length_map, show rs.length = (M.map rowL).length by rw [List.length_map, t2, t3], List.take_length] at g1
          have hL2 := s2 _ _ h1
          refine ⟨.ref L, rfl, .inl ⟨rfl, _, SqL.of hL2⟩, ?_⟩
          refine ⟨.str k, rfl, _, _, rfl, rfl, szl (Nat.le_trans (Nat.add_le_add_left kl 5) (by decide)), ?_⟩
          have l2 : ("kind " ++ k : Str).length ≤ 9 := by
            rw [app_len]
            exact Nat.add_le_add_left kl 5
          refine ⟨_, _, rfl, rfl, szl (Nat.le_trans (Nat.add_le_add_right l2 1) (by decide)), ?_⟩
          have l3 : ("kind " ++ k ++ " " : Str).length ≤ 10 := by
            rw [app_len]
            exact Nat.add_le_add_right l2 1
          refine ⟨⟨_, rfl⟩, .ref D, rfl, _, D, M.map rowL, rfl, rfl, .inl (SqL.of g1), join_ok (c := 60) (n := 4) (fun y hy => ?_) (by rw [List.length_map]; omega) rfl (by decide), ?_⟩
          · obtain ⟨row, hr, rfl⟩ := List.mem_map.mp hy
            exact rowL_len (hMb row hr).2 (hMb row hr).1
          have jl := rows_len hMb (by omega)
          refine ⟨_, _, rfl, rfl, szl (Nat.le_trans (Nat.add_le_add l3 jl) (by decide)), ?_⟩
          refine ⟨L, _, _, rfl, rfl, hL2, ?_, _, _, _, _, _, _, rfl, by omega, fun a u hu => ?_, ?_⟩
          · rw [List.length_map, List.length_cons, List.length_append, List.length_take, List.length_zipWith]
            exact small1000 (by omega)
          · rw [upd_ne (ne_of_none hu hL)]
            exact s2 _ _ (s _ _ hu)
          · rw [upd_same, take_more (zw_at hk e2)]
            simp only [List.map_append, List.map_cons, List.cons_append, List.append_assoc]
            rfl
      · rintro σ H' ⟨u2, u3, u4, u5, u6, u7, rfl, _, s, h1⟩
        have ez : (List.zipWith kindL ks Ms).take (ks.map V.str).length = List.zipWith kindL ks Ms := List.take_of_length_le (by rw [List.length_zipWith, List.length_map]; omega)
        rw [ez] at h1
        refine ⟨⟨_, rfl⟩, .ref L, rfl, _, L, bookLines b ms ws ks Ms, rfl, rfl, .inl (SqL.of h1), join_ok (c := 254) (n := 20) (fun y hy => ?_) ?_ rfl (by decide), q H' s⟩
        · unfold bookLines at hy
          rcases List.mem_cons.mp hy with rfl | hy
          · rw [app_len]
            exact Nat.le_trans (Nat.add_le_add_left lb 5) (by decide)
          · rcases List.mem_append.mp hy with hy | hy
            · obtain ⟨i, hi⟩ := List.getElem?_of_mem hy
              rw [List.getElem?_zipWith] at hi
              cases e1 : ms[i]? with
              | none =>
                rw [e1] at hi
                cases hi
              | some z =>
                cases e2 : ws[i]? with
                | none =>
                  rw [e1, e2] at hi
                  cases hi
                | some wt =>
                  rw [e1, e2] at hi
                  have ey := Option.some.inj hi
                  obtain ⟨_, w1, w2, _⟩ := ok.w wt (List.mem_of_getElem? e2)
                  rw [← ey]
                  exact Nat.le_trans (markL_len (ok.nm.is z (List.mem_of_getElem? e1)).2.1 w1 w2) (by decide)
            · obtain ⟨i, hi⟩ := List.getElem?_of_mem hy
              rw [List.getElem?_zipWith] at hi
              cases e1 : ks[i]? with
              | none =>
                rw [e1] at hi
                cases hi
              | some k =>
                cases e2 : Ms[i]? with
                | none =>
                  rw [e1, e2] at hi
                  cases hi
                | some M =>
                  rw [e1, e2] at hi
                  have ey := Option.some.inj hi
                  obtain ⟨t, M', a1, a2, a3⟩ := tabs i k e1
                  rw [e2] at a2
                  have eM := Option.some.inj a2
                  subst eM
                  obtain ⟨rs, t1, t2, t3, t4, t5⟩ := a3
                  rw [← ey]
                  exact kindL_len (ok.nk.is k (List.mem_of_getElem? e1)).2.1 (fun row hr => ⟨by rw [(t5 row hr).1]; exact hm4, fun z hz => ⟨((t5 row hr).2 z hz).1, ((t5 row hr).2 z hz).2.1⟩⟩) (by omega)
        · unfold bookLines
          rw [List.length_cons, List.length_append, List.length_zipWith, List.length_zipWith]
          omega
end
end OG
set_option Elab.async false
set_option linter.all false
set_option maxRecDepth 100000
set_option maxHeartbeats 4000000
namespace OG
open PySem PySem.Spec PyProof.Rows L2
open PySem.NumText (AllDigits digitsVal)
abbrev tl (x : Str) : List Nat := x.cps.toList
def figs : List Nat → List Nat
  | 45 :: r => r
  | l => l
theorem figs_neg (r : List Nat) : figs (45 :: r) = r := rfl
theorem figs_pos {c : Nat} {r : List Nat} (h : c ≠ 45) : figs (c :: r) = c :: r := by
  unfold figs
  split
  · rename_i h2
    exact absurd (List.cons.inj h2).1 h
  · rfl
theorem figs_le (l : List Nat) : (figs l).length ≤ l.length := by
  unfold figs
  split
  · simp
  · exact Nat.le_refl _
theorem rp (w : Str) : tl (Txt.removeprefix w "-") = figs (tl w) := by
  have e : Builtin.Str.subAt w "-" 0 = ((tl w).take 1 == [45]) := by
    rw [PySem.StrLaws.subAt_eq, List.drop_zero]
    rfl
  unfold Txt.removeprefix
  rw [e]
  cases h : tl w with
  | nil =>
    show tl (Txt.affix w (if (([] : List Nat) == [45]) = true then _ else none)) = []
    rw [if_neg (by decide)]
    exact h
  | cons c r =>
    by_cases hc : c = 45
    · subst hc
      rw [if_pos (by show ([45] == [45]) = true; decide)]
      have hl : w.length = r.length + 1 := by
        rw [TL.len_tl]
        show (tl w).length = _
        rw [h]
        rfl
      show tl (if ((w.length - 1 == w.length) = true) then w else Builtin.Str.strSub w 1 w.length) = r
      rw [if_neg (by rw [hl]; simp)]
      show (Builtin.Str.strSub w 1 w.length).cps.toList = r
      rw [PySem.StrLaws.strSub_toList]
      show ((tl w).drop 1).take (w.length - 1) = r
      rw [h, hl]
      show r.take (r.length + 1 - 1) = r
      exact List.take_of_length_le (by omega)
    · rw [if_neg (by show ¬ ([c] == [45]) = true; simpa using hc), figs_pos hc]
      exact h
def digs (l : List Nat) : Bool := l.all fun c => decide (48 ≤ c) && decide (c ≤ 57)
theorem digs_all {l : List Nat} (h : digs l = true) : AllDigits l := fun c hc => by
  unfold digs at h
  rw [List.all_eq_true] at h
  have := h c hc
  rw [Bool.and_eq_true, decide_eq_true_eq, decide_eq_true_eq] at this
  exact this
/-- a number of at most n figures, as Python writes it -/
def numQ (n : Nat) (l : List Nat) : Bool := decide (1 ≤ (figs l).length) && decide ((figs l).length ≤ n) && digs (figs l) && !(decide ((figs l).head? = some 48) && !decide (l = [48]))
def numV : List Nat → Int
  | 45 :: r => -((digitsVal r : Nat) : Int)
  | l => ((digitsVal l : Nat) : Int)
theorem numV_neg (r : List Nat) : numV (45 :: r) = -((digitsVal r : Nat) : Int) := rfl
theorem numV_pos {c : Nat} {r : List Nat} (h : c ≠ 45) : numV (c :: r) = ((digitsVal (c :: r) : Nat) : Int) := by
  unfold numV
  split
  · rename_i h2
    exact absurd (List.cons.inj h2).1 h
  · rfl
theorem numV_abs {l : List Nat} (h : l ≠ []) : (numV l).natAbs = digitsVal (figs l) := by
  cases l with
  | nil => exact absurd rfl h
  | cons c r =>
    by_cases hc : c = 45
    · subst hc
      rw [numV_neg, figs_neg]
      omega
    · rw [numV_pos hc, figs_pos hc]
      omega
theorem digitsVal_go : ∀ (l : List Nat) (a : Nat), l.foldl (fun acc c => acc * 10 + (c - 48)) a = a * 10 ^ l.length + digitsVal l
  | [], a => by
    show a = a * 10 ^ 0 + 0
    omega
  | c :: r, a => by
    rw [List.foldl_cons, digitsVal_go r]
    have e : digitsVal (c :: r) = (c - 48) * 10 ^ r.length + digitsVal r := by
      unfold digitsVal
      rw [List.foldl_cons]
      have := digitsVal_go r (0 * 10 + (c - 48))
      rw [this, show 0 * 10 + (c - 48) = c - 48 by omega]
      rfl
    rw [e, List.length_cons, Nat.pow_succ, Nat.add_mul]
    rw [Nat.mul_assoc, Nat.mul_comm 10 (10 ^ r.length)]
    omega
theorem digitsVal_cons (c : Nat) (r : List Nat) : digitsVal (c :: r) = (c - 48) * 10 ^ r.length + digitsVal r := by
  have := digitsVal_go r (0 * 10 + (c - 48))
  show (c :: r).foldl _ 0 = _
  rw [List.foldl_cons, this, show 0 * 10 + (c - 48) = c - 48 by omega]
theorem digitsVal_lt : ∀ {l : List Nat}, AllDigits l → digitsVal l < 10 ^ l.length
  | [], _ => by decide
  | c :: r, h => by
    have ih := digitsVal_lt h.tail
    have hc := h.head
    rw [digitsVal_cons, List.length_cons, Nat.pow_succ]
    have : (c - 48) * 10 ^ r.length ≤ 9 * 10 ^ r.length := Nat.mul_le_mul_right _ (by omega)
    omega
theorem digitsVal_ge {c : Nat} {r : List Nat} (h : AllDigits (c :: r)) (hc : c ≠ 48) : 10 ^ r.length ≤ digitsVal (c :: r) := by
  have := h.head
  rw [digitsVal_cons]
  have : 1 * 10 ^ r.length ≤ (c - 48) * 10 ^ r.length := Nat.mul_le_mul_right _ (by omega)
  omega
structure NumQ (n : Nat) (l : List Nat) : Prop where
  f1 : 1 ≤ (figs l).length
  fn : (figs l).length ≤ n
  all : AllDigits (figs l)
  lead : (figs l).head? = some 48 → l = [48]
theorem numQ_iff {n : Nat} {l : List Nat} : numQ n l = true ↔ NumQ n l := by
  unfold numQ
  rw [Bool.and_eq_true, Bool.and_eq_true, Bool.and_eq_true, decide_eq_true_eq, decide_eq_true_eq]
  constructor
  · rintro ⟨⟨⟨h1, h2⟩, h3⟩, h4⟩
    refine ⟨h1, h2, digs_all h3, fun e => ?_⟩
    rw [e] at h4
    simpa using h4
  · rintro ⟨h1, h2, h3, h4⟩
    refine ⟨⟨⟨h1, h2⟩, ?_⟩, ?_⟩
    · unfold digs
      rw [List.all_eq_true]
      intro c hc
      have := h3 c hc
      simpa using this
    · by_cases e : (figs l).head? = some 48
      · rw [h4 e]
        rfl
      · simp [e]
theorem NumQ.ne {n : Nat} {l : List Nat} (h : NumQ n l) : l ≠ [] := fun e => by
  have := h.f1
  rw [e] at this
  exact absurd this (by decide)
theorem NumQ.lt {n : Nat} {l : List Nat} (h : NumQ n l) : (numV l).natAbs < 10 ^ (figs l).length := by
  rw [numV_abs h.ne]
  exact digitsVal_lt h.all
theorem NumQ.ge {n : Nat} {l : List Nat} (h : NumQ n l) (h2 : 2 ≤ (figs l).length) : 10 ^ ((figs l).length - 1) ≤ (numV l).natAbs := by
  rw [numV_abs h.ne]
  have hl := h.lead
  have ha := h.all
  cases e : figs l with
  | nil =>
    rw [e] at h2
    exact absurd h2 (by decide)
  | cons c r =>
    rw [e] at hl ha h2
    have hc : c ≠ 48 := fun z => by
      have := hl (by rw [z]; rfl)
      rw [this] at e
      have e2 : figs [48] = [48] := rfl
      rw [e2] at e
      have := (List.cons.inj e).2
      rw [← this, List.length_singleton] at h2
      omega
    rw [List.length_cons, Nat.add_sub_cancel]
    exact digitsVal_ge ha hc
theorem NumQ.zero {n : Nat} {l : List Nat} (h : NumQ n l) (h0 : numV l = 0) : l = [48] := by
  have hl := h.lt
  by_cases h2 : 2 ≤ (figs l).length
  · have := h.ge h2
    rw [h0] at this
    have p : 0 < 10 ^ ((figs l).length - 1) := Nat.pow_pos (by decide)
    rw [Int.natAbs_zero] at this
    omega
  · have h1 := h.f1
    have ab := numV_abs h.ne
    rw [h0] at ab
    have hl := h.lead
    have ha := h.all
    cases e : figs l with
    | nil =>
      rw [e] at h1
      exact absurd h1 (by decide)
    | cons c r =>
      rw [e] at hl ha h2 ab
      have er : r = [] := by
        cases r with
        | nil => rfl
        | cons x y =>
          rw [List.length_cons, List.length_cons] at h2
          omega
      subst er
      rw [digitsVal_cons] at ab
      have hc := ha.head
      have : digitsVal [] = 0 := rfl
      rw [this] at ab
      have ec : c = 48 := by
        simp at ab
        omega
      exact hl (by rw [ec]; rfl)
theorem NumQ.mono {n k : Nat} {l : List Nat} (h : NumQ n l) (e : (figs l).length ≤ k) : NumQ k l := ⟨h.f1, e, h.all, h.lead⟩
/-- a number of 14 figures that is small has fewer -/
theorem NumQ.small {n k : Nat} {l : List Nat} (h : NumQ n l) (hk : 1 ≤ k) (hv : (numV l).natAbs < 10 ^ k) : NumQ k l := by
  refine h.mono ?_
  by_cases h2 : 2 ≤ (figs l).length
  · have := h.ge h2
    by_cases e : (figs l).length ≤ k
    · exact e
    · have p : 10 ^ k ≤ 10 ^ ((figs l).length - 1) := Nat.pow_le_pow_right (by decide) (by omega)
      omega
  · omega
theorem intText_num {n : Nat} {w : Str} (h : NumQ n (tl w)) (hw : w.length ≤ 4300) : intText? w = some (numV (tl w)) := by
  have ha := h.all
  cases e : tl w with
  | nil => exact absurd e h.ne
  | cons c r =>
    rw [e] at ha
    by_cases hc : c = 45
    · subst hc
      have h1 := h.f1
      rw [e, figs_neg] at h1
      exact intText_neg e ha (fun z => by rw [z] at h1; exact absurd h1 (by decide)) hw
    · rw [figs_pos hc] at ha
      rw [numV_pos hc, ← e]
      exact intText_digits (by show AllDigits (tl w); rw [e]; exact ha) (by show tl w ≠ []; rw [e]; exact fun z => by cases z) hw
theorem figs_ge (l : List Nat) : l.length ≤ (figs l).length + 1 := by
  cases l with
  | nil => exact Nat.zero_le _
  | cons c r =>
    by_cases hc : c = 45
    · subst hc
      rw [figs_neg]
      exact Nat.le_refl _
    · rw [figs_pos hc]
      omega
theorem NumQ.len {n : Nat} {w : Str} (h : NumQ n (tl w)) : w.length ≤ n + 1 := by
  have h1 := figs_ge (tl w)
  have h2 := h.fn
  rw [TL.len_tl]
  show (tl w).length ≤ _
  omega
end OG
set_option Elab.async false
set_option linter.all false
set_option maxRecDepth 100000
set_option maxHeartbeats 4000000
namespace OG
open PySem PySem.Spec PyProof.Rows L2
theorem lc_signs {x : Str} {te : TE} {sl : Nat} {σ : L2.St} {H1 : Hp} {D : Addr} {Qd : Hp → Prop} (f : Nat → Bool) (hx : x.length ≤ 16000000) (hD : H1 D = none)
    (hte : ∀ (c : Nat) (H' : Hp) (Q' : VK), Q' (.bl (f c)) H' → te ((wipe σ [sl]).set sl (some (.str ⟨#[c]⟩))) H' Q')
    (hw : ∀ v : Option V, wipe ((wipe σ [sl]).set sl v) [sl] = wipe σ [sl])
    (hd : ∀ (H6 : Hp), Same H1 H6 → H6 D = some (.lst (((tl x).map f).map V.bl)) → Qd H6) :
    ∃ W : Nat → Nat → Hp → Prop, (∃ m, W 0 m (upd H1 D (.lst []))) ∧ ∀ i n H, W i n H →
      ((Its x).stop i H ∧ Qd H) ∨ ((Its x).go i H ∧ ∃ Nx : Hp → Prop, (∀ H', Nx H' → ∃ m', m' < n ∧ W (i + 1) m' H') ∧ ∀ y H', (Its x).yld i H y H' → gName sl y (wipe σ [sl]) H' fun σ2 H2 => wipe σ2 [sl] = wipe σ [sl] ∧ tYes σ2 H2 fun b H3 =>
        if b = true then te σ2 H3 fun y H4 => ∃ acc, H4 D = some (.lst acc) ∧ acc.length < sizeLine ∧ Nx (upd H4 D (.lst (acc ++ [y]))) else Nx H3) := by
  have hl : (tl x).length = x.cps.size := Array.length_toList ..
  refine ⟨fun i n H => n = x.cps.size - i ∧ i ≤ x.cps.size ∧ Same H1 H ∧ H D = some (.lst ((((tl x).map f).take i).map V.bl)), ⟨_, rfl, Nat.zero_le _, same_new hD, upd_same⟩, ?_⟩
  rintro i n H ⟨rfl, hi, s, h1⟩
  by_cases hlt : i < x.cps.size
  · refine .inr ⟨hlt, fun H' => Same H1 H' ∧ H' D = some (.lst ((((tl x).map f).take (i + 1)).map V.bl)), fun H' p' => ⟨x.cps.size - (i + 1), by omega, rfl, hlt, p'⟩, fun v H' hy => ?_⟩
    obtain ⟨rfl, c, hc, rfl⟩ := hy
    refine ⟨hw _, ?_⟩
    refine hte c H' _ ?_
    have hc' : (tl x)[i]? = some c := by
      rw [← hc]
      exact Array.getElem?_toList
    refine ⟨_, h1, ?_, fun a o ho => ?_, ?_⟩
    · rw [List.length_map, List.length_take, List.length_map, hl]
      have hx' : x.cps.size ≤ 16000000 := hx
      exact Nat.lt_of_le_of_lt (show _ ≤ 16000000 by omega) (by decide)
    · rw [upd_ne (ne_of_none ho hD)]
      exact s _ _ ho
    · rw [upd_same, take_more (l := (tl x).map f) (i := i) (x := f c) (by rw [List.getElem?_map, hc']; rfl), List.map_append]
      rfl
  · have e : i = x.cps.size := by omega
    subst e
    refine .inl ⟨Nat.le_refl _, hd H s ?_⟩
    rw [List.take_of_length_le (by rw [List.length_map, hl]; exact Nat.le_refl _)] at h1
    exact h1
theorem lc_same {K : PySem.W.Frag} {a : Addr} {xs : List V} {te : TE} {sl : Nat} {σ : L2.St} {H1 : Hp} {D : Addr} {Qd : Hp → Prop} (f : V → V) (hx : xs.length ≤ 16000000) (ha : SqL K H1 a xs) (hD : H1 D = none)
    (hte : ∀ (x : V) (H' : Hp) (Q' : VK), x ∈ xs → Same H1 H' → (∀ H'', Same H' H'' → Q' (f x) H'') → te ((wipe σ [sl]).set sl (some x)) H' Q')
    (hw : ∀ v : Option V, wipe ((wipe σ [sl]).set sl v) [sl] = wipe σ [sl])
    (hd : ∀ (H6 : Hp), Same H1 H6 → H6 D = some (.lst (xs.map f)) → Qd H6) :
    ∃ W : Nat → Nat → Hp → Prop, (∃ m, W 0 m (upd H1 D (.lst []))) ∧ ∀ i n H, W i n H →
      ((Itl K a).stop i H ∧ Qd H) ∨ ((Itl K a).go i H ∧ ∃ Nx : Hp → Prop, (∀ H', Nx H' → ∃ m', m' < n ∧ W (i + 1) m' H') ∧ ∀ y H', (Itl K a).yld i H y H' → gName sl y (wipe σ [sl]) H' fun σ2 H2 => wipe σ2 [sl] = wipe σ [sl] ∧ tYes σ2 H2 fun b H3 =>
        if b = true then te σ2 H3 fun y H4 => ∃ acc, H4 D = some (.lst acc) ∧ acc.length < sizeLine ∧ Nx (upd H4 D (.lst (acc ++ [y]))) else Nx H3) := by
  refine lc_list (K := K) (a := a) (xs := xs) (fun i H' => Same H1 H' ∧ H' D = some (.lst ((xs.map f).take i))) ⟨same_new hD, upd_same⟩ (fun i H' _ ⟨s, _⟩ => s.seq ha) ?_ ?_
  · rintro i x H' hx' ⟨s, h1⟩
    have hi := (List.getElem?_eq_some_iff.mp hx').1
    refine ⟨hw _, ?_⟩
    refine hte x H' _ (List.mem_of_getElem? hx') s fun H'' s2 => ?_
    refine ⟨_, s2 _ _ h1, ?_, fun b o ho => ?_, ?_⟩
    · rw [List.length_take, List.length_map]
      exact Nat.lt_of_le_of_lt (show _ ≤ 16000000 by omega) (by decide)
    · rw [upd_ne (ne_of_none ho hD)]
      exact s2 _ _ (s _ _ ho)
    · rw [upd_same, take_more (l := xs.map f) (i := i) (x := f x) (by rw [List.getElem?_map, hx']; rfl)]
  · rintro H' ⟨s, h1⟩
    rw [List.take_of_length_le (by rw [List.length_map]; exact Nat.le_refl _)] at h1
    exact hd H' s h1
theorem all_id {α : Type} (l : List α) (f : α → Bool) : ((l.map f).all id) = l.all f := by
  rw [List.all_map]
  rfl
def isOf (w s : Str) : Bool := decide (0 < w.length) && (tl w).all fun c => decide (c ∈ tl s)
def fig10 : Str := "0123456789"
theorem fig_mem (c : Nat) : decide (c ∈ tl ("0123456789" : Str)) = (decide (48 ≤ c) && decide (c ≤ 57)) := by
  have e : tl ("0123456789" : Str) = [48, 49, 50, 51, 52, 53, 54, 55, 56, 57] := by decide +kernel
  rw [e]
  by_cases h : 48 ≤ c ∧ c ≤ 57
  · rw [decide_eq_true h.1, decide_eq_true h.2]
    refine decide_eq_true ?_
    rcases (show c = 48 ∨ c = 49 ∨ c = 50 ∨ c = 51 ∨ c = 52 ∨ c = 53 ∨ c = 54 ∨ c = 55 ∨ c = 56 ∨ c = 57 by omega) with e | e | e | e | e | e | e | e | e | e <;> rw [e] <;> decide
  · have : ¬ c ∈ [48, 49, 50, 51, 52, 53, 54, 55, 56, 57] := fun m => h (by
      simp only [List.mem_cons, List.mem_nil_iff, or_false] at m
      omega)
    rw [decide_eq_false this]
    by_cases h1 : 48 ≤ c
    · rw [decide_eq_true h1, decide_eq_false (fun h2 => h ⟨h1, h2⟩)]
      rfl
    · rw [decide_eq_false h1]
      rfl
theorem isOf_fig (w : Str) : isOf w "0123456789" = (decide (0 < (tl w).length) && digs (tl w)) := by
  unfold isOf digs
  rw [TL.len_tl]
  congr 1
  congr 1
  funext c
  exact fig_mem c
def isNmB (n : Nat) (z : Str) : Bool := decide (z.length ≤ n) && isOf z "abcdefghijklmnopqrstuvwxyz"
section
variable {P : Program} {w : World} {K : PySem.W.Frag} {mg : Str → Option Value} {base : Heap}
end
end OG
set_option Elab.async false
set_option linter.all false
set_option maxRecDepth 100000
set_option maxHeartbeats 8000000
namespace OG
open PySem PySem.Spec PyProof.Rows L2
theorem le_line {n : Nat} (h : n ≤ 16000000) : n ≤ sizeLine := Nat.le_trans h (by decide)
theorem starts0 (f : Str) : Txt.startswith f "0" = decide ((tl f).head? = some 48) := by
  unfold Txt.startswith
  rw [PySem.StrLaws.subAt_eq, List.drop_zero]
  have e1 : (("0" : Str).length) = 1 := rfl
  have e2 : (("0" : Str)).cps.toList = [48] := rfl
  rw [e1, e2, TL.len_tl]
  show (decide (0 + 1 ≤ (tl f).length) && (((tl f).take 1) == [48])) = _
  cases h : tl f with
  | nil => rfl
  | cons c r =>
    show (decide (0 + 1 ≤ r.length + 1) && ([c] == [48])) = decide (some c = some 48)
    rw [decide_eq_true (show 0 + 1 ≤ r.length + 1 by omega), Bool.true_and]
    by_cases hc : c = 48
    · rw [hc]
      rfl
    · rw [decide_eq_false (fun z => hc (Option.some.inj z))]
      simpa using hc
def oint (c : Bool) (n : Int) : V := if c then .int n else .non
theorem str_eq {a b : Str} : decide (V.str a = V.str b) = decide (tl a = tl b) := by
  by_cases h : a = b
  · rw [h, decide_eq_true rfl, decide_eq_true rfl]
  · rw [decide_eq_false (fun z => h (V.str.inj z)), decide_eq_false (fun z => h (TL.ext_tl z))]
section
variable {P : Program} {w : World} {K : PySem.W.Frag} {mg : Str → Option Value} {base : Heap}
def spIsOf : Sp := fun vs H Q _ => ∃ (w s : Str), vs = [.str w, .str s] ∧ w.length ≤ 10000000 ∧ ∀ H', Same H H' → Q (.bl (isOf w s)) H'
theorem ok_is_of (T : Txt K mg) : FnOk P w K mg base CX0 1 T.f_is_of T.fd_is_of ["word", "signs"] (spIsOf) := by
  refine T.F_is_of.ok sc_is_of (fun vs H Q E h => ?_) (fun cdv A outer s H vs Q E hr h => ?_)
  · obtain ⟨w, s, rfl, _⟩ := h
    rfl
  · obtain ⟨w, sg, rfl, hl, q⟩ := h
    refine ⟨_, (pss_one (ps_ret (pe_and (pe_cmpR op_gt (pe_callB call_len_str (by rfl) T.n_len PySem.boot_len (pa_cons (pv 0) pa_nil)) pe_int (nomark _)) (pe_one (pe_callB (cr_all rfl) (by rfl) T.n_all (by decide +kernel) (pa_cons (pe_lc (own := [("sign", 2)]) (g := gName 2) (by rfl) sc_is_of.nd (pi_str (pv 0)) (blkOk_by (own := [("sign", 2)]) (by rfl)) (fun _ _ _ _ _ => (pg_name (i := 2) sc_is_of.nd rfl (Or.inl rfl))) (fun _ _ _ _ _ => pts_nil) (fun _ _ _ _ _ => (pe_cmpR op_in_sign (pv 2) (pv 1) rfl))) pa_nil)))))), ?_⟩
    refine ⟨.str w, rfl, w, rfl, le_line (by omega), _, _, rfl, rfl, _, rfl, ?_⟩
    refine ite2 (fun h0 => ?_) (fun h0 => ?_)
    · refine ⟨.str w, rfl, w, rfl, fun D hD => ?_⟩
      refine lc_signs (x := w) (fun c => decide (c ∈ tl sg)) (by omega) hD (fun c H' Q' hq => ?_) (fun _ => rfl) (fun H6 s6 h6 => ?_)
      · exact ⟨_, rfl, .str sg, rfl, c, sg, rfl, rfl, hq⟩
      · refine ⟨D, (tl w).map fun c => decide (c ∈ tl sg), rfl, SqL.of h6, ?_⟩
        rw [all_id]
        have e := q H6 s6
        unfold isOf at e
        have h0 : 0 < (w.length : Int) := of_decide_eq_true h0
        rw [decide_eq_true (show 0 < w.length by omega), Bool.true_and] at e
        exact e
    · have e := q H (Same.refl H)
      unfold isOf at e
      have h0 : ¬ 0 < (w.length : Int) := of_decide_eq_false (Bool.eq_false_iff.mpr h0)
      rw [decide_eq_false (show ¬ 0 < w.length by omega), Bool.false_and] at e
      exact e
def spIsLetters : Sp := fun vs H Q _ => ∃ (w : Str) (n : Nat), vs = [.str w, .int (n : Int)] ∧ w.length ≤ 10000000 ∧ ∀ H', Same H H' → Q (.bl (isNmB n w)) H'
theorem ok_is_letters (T : Txt K mg) : FnOk P w K mg base CX0 2 T.f_is_letters T.fd_is_letters ["word", "most"] (spIsLetters) := by
  refine T.F_is_letters.ok sc_is_letters (fun vs H Q E h => ?_) (fun cdv A outer s H vs Q E hr h => ?_)
  · obtain ⟨w, n, rfl, _⟩ := h
    rfl
  · obtain ⟨w, n, rfl, hl, q⟩ := h
    refine ⟨_, (pss_one (ps_ret (pe_and (pe_cmpR op_le (pe_callB call_len_str (by rfl) T.n_len PySem.boot_len (pa_cons (pv 0) pa_nil)) (pv 1) (nomark _)) (pe_one (pe_call (ok_is_of T) (hr.mono (by decide)) (by rfl) T.g_is_of T.F_is_of.kp T.b_is_of .nil pass0 (pa_cons (pv 0) (pa_cons (C8.pe_gc (by rfl) T.m_LETTERS) pa_nil))))))), ?_⟩
    refine ⟨.str w, rfl, w, rfl, le_line (by omega), .int n, rfl, _, _, rfl, rfl, _, rfl, ?_⟩
    refine ite2 (fun h0 => ?_) (fun h0 => ?_)
    · have h0 : (w.length : Int) ≤ n := of_decide_eq_true h0
      refine ⟨.str w, rfl, w, _, rfl, hl, fun H' s' => ?_⟩
      have e := q H' s'
      unfold isNmB at e
      rw [decide_eq_true (show w.length ≤ n by omega), Bool.true_and] at e
      exact e
    · have h0 : ¬ (w.length : Int) ≤ n := of_decide_eq_false (Bool.eq_false_iff.mpr h0)
      have e := q H (Same.refl H)
      unfold isNmB at e
      rw [decide_eq_false (show ¬ w.length ≤ n by omega), Bool.false_and] at e
      exact e
def spIntOf : Sp := fun vs H Q _ => ∃ (w : Str) (n : Nat), vs = [.str w, .int (n : Int)] ∧ w.length ≤ 10000000 ∧ n ≤ 600 ∧ ∀ H', Same H H' → Q (oint (numQ n (tl w)) (numV (tl w))) H'
theorem ok_integer_of (T : Txt K mg) : FnOk P w K mg base CX0 2 T.f_integer_of T.fd_integer_of ["word", "most"] (spIntOf) := by
  refine T.F_integer_of.ok sc_integer_of (fun vs H Q E h => ?_) (fun cdv A outer s H vs Q E hr h => ?_)
  · obtain ⟨w, n, rfl, _⟩ := h
    rfl
  · obtain ⟨w, n, rfl, hl, hn, q⟩ := h
    refine ⟨_, (pss_cons (ps_set (i := 2) sc_integer_of.nd rfl (Or.inl rfl) (pe_bm PySem.F.plainAttrs_str PySem.F.slot_str_removeprefix PySem.F.type_str_removeprefix mt_removeprefix (pv 0) (pa_cons pe_str pa_nil)))
  (pss_cons (ps_if (PW.pt (pw_or (pt_cmpR op_gt (pe_callB call_len_str (by rfl) T.n_len PySem.boot_len (pa_cons (pv 2) pa_nil)) (pv 1) (nomark _)) (pw_or1 (pt_not (pt_val (pe_call (ok_is_of T) (hr.mono (by decide)) (by rfl) T.g_is_of T.F_is_of.kp T.b_is_of .nil pass0 (pa_cons (pv 2) (pa_cons (C8.pe_gc (by rfl) T.m_FIGURES) pa_nil)))))))) (pss_one (ps_ret pe_non)) pss_nil)
  (pss_cons (ps_if (PW.pt (pw_or (pt_cmpR op_eq (pv 0) pe_str (nomark _)) (pw_or1 (PW.pt (pw_and (pt_val (pe_m1 PySem.F.slot_str_startswith PySem.F.type_str_startswith mt_startswith (pv 2) pe_str)) (pw_and1 (pt_cmpR op_gt (pe_callB call_len_str (by rfl) T.n_len PySem.boot_len (pa_cons (pv 2) pa_nil)) pe_int (nomark _)))))))) (pss_one (ps_ret pe_non)) pss_nil)
  (pss_one (ps_ret (pe_callTy call_int_str (by rfl) T.n_int (by decide +kernel) (pa_cons (pv 0) pa_nil))))))), ?_⟩
    refine ⟨.str w, rfl, rfl, w, _, rfl, rfl, le_line (by omega), ?_⟩
    generalize hf : Txt.removeprefix w "-" = f
    have hft : tl f = figs (tl w) := by rw [← hf]; exact rp w
    have hfl : f.length = (figs (tl w)).length := by rw [TL.len_tl]; exact congrArg List.length hft
    have hfw : f.length ≤ 10000000 := by
      have := figs_le (tl w)
      rw [hfl]
      rw [TL.len_tl] at hl
      exact Nat.le_trans this hl
    have no : ∀ H', Same H H' → numQ n (tl w) = false → Q .non H' := fun H' s' e => by
      have e2 := q H' s'
      rw [e] at e2
      exact e2
    refine ⟨.str f, rfl, f, rfl, le_line (by omega), .int n, rfl, _, _, rfl, rfl, _, rfl, ?_⟩
    refine ite2 (fun h0 => ?_) (fun h0 => ?_)
    · have h0 : (n : Int) < f.length := of_decide_eq_true h0
      refine no H (Same.refl H) ?_
      unfold numQ
      rw [decide_eq_false (show ¬ (figs (tl w)).length ≤ n by omega), Bool.and_false, Bool.false_and, Bool.false_and]
    · have h0 : ¬ (n : Int) < f.length := of_decide_eq_false (Bool.eq_false_iff.mpr h0)
      refine ⟨.str f, rfl, f, _, rfl, hfw, fun H1 s1 => ?_⟩
      rw [isOf_fig, hft]
      refine ⟨_, rfl, ?_⟩
      generalize hc1 : (decide (0 < (figs (tl w)).length) && digs (figs (tl w))) = c1
      cases c1 with
      | false =>
        refine no H1 s1 ?_
        unfold numQ
        rw [Bool.and_eq_false_iff, decide_eq_false_iff_not] at hc1
        rcases hc1 with e | e
        · rw [decide_eq_false (show ¬ 1 ≤ (figs (tl w)).length by omega), Bool.false_and, Bool.false_and, Bool.false_and]
        · rw [e, Bool.and_false, Bool.false_and]
      | true =>
        rw [Bool.and_eq_true, decide_eq_true_eq] at hc1
        have base : numQ n (tl w) = !(decide ((figs (tl w)).head? = some 48) && !decide (tl w = [48])) := by
          unfold numQ
          rw [decide_eq_true (show 1 ≤ (figs (tl w)).length by omega), decide_eq_true (show (figs (tl w)).length ≤ n by omega), hc1.2]
          rfl
        refine ⟨.str w, rfl, rfl, _, rfl, ?_⟩
        rw [str_eq]
        have em : tl ("-0" : Str) = [45, 48] := rfl
        rw [em]
        refine ite2 (fun hm => ?_) (fun hm => ?_)
        · have hm : tl w = [45, 48] := of_decide_eq_true hm
          refine no H1 s1 ?_
          rw [base, hm]
          rfl
        · have hm : ¬ tl w = [45, 48] := of_decide_eq_false (Bool.eq_false_iff.mpr hm)
          refine ⟨.str f, rfl, ⟨_, rfl⟩, f, _, rfl, rfl, _, rfl, ?_⟩
          rw [starts0, hft]
          have fin : ∀ H2, Same H H2 → numQ n (tl w) = true → ∃ (a : Str) (n_1 : Int), [V.str w] = [V.str a] ∧ PySem.intText? a = some n_1 ∧ a.length ≤ 640 ∧ Q (.int n_1) H2 := fun H2 s2 e => by
            have nq := numQ_iff.mp e
            have wl := nq.len
            refine ⟨w, _, rfl, intText_num nq (by omega), by omega, ?_⟩
            have e2 := q H2 s2
            rw [e] at e2
            exact e2
          refine ite2 (fun hs => ?_) (fun hs => ?_)
          · have hs : (figs (tl w)).head? = some 48 := of_decide_eq_true hs
            refine ⟨.str f, rfl, f, rfl, le_line (by omega), _, _, rfl, rfl, _, rfl, ?_⟩
            refine ite2 (fun h2 => ?_) (fun h2 => ?_)
            · have h2 : 1 < (f.length : Int) := of_decide_eq_true h2
              refine no H1 s1 ?_
              rw [base, decide_eq_true hs]
              by_cases e : tl w = [48]
              · rw [e] at hfl
                have : (figs [48]).length = 1 := rfl
                omega
              · rw [decide_eq_false e]
                rfl
            · have h2 : ¬ 1 < (f.length : Int) := of_decide_eq_false (Bool.eq_false_iff.mpr h2)
              refine ⟨_, rfl, fin H1 s1 ?_⟩
              rw [base, decide_eq_true hs]
              have e : tl w = [48] := by
                cases hw : tl w with
                | nil =>
                  rw [hw] at hs
                  cases hs
                | cons c r =>
                  rw [hw] at hs hfl hm
                  by_cases hc : c = 45
                  · subst hc
                    rw [figs_neg] at hs hfl
                    cases r with
                    | nil => cases hs
                    | cons d r' =>
                      have ed : d = 48 := Option.some.inj hs
                      rw [List.length_cons] at hfl
                      have er : r' = [] := List.eq_nil_of_length_eq_zero (by omega)
                      rw [ed, er] at hm
                      exact absurd rfl hm
                  · rw [figs_pos hc] at hs hfl
                    have ed : c = 48 := Option.some.inj hs
                    rw [List.length_cons] at hfl
                    have er : r = [] := List.eq_nil_of_length_eq_zero (by omega)
                    rw [ed, er]
              rw [decide_eq_true e]
              rfl
          · have hs : ¬ (figs (tl w)).head? = some 48 := of_decide_eq_false (Bool.eq_false_iff.mpr hs)
            refine ⟨_, rfl, fin H1 s1 ?_⟩
            rw [base, decide_eq_false hs]
            rfl
def spNum : Sp := fun vs H Q _ => ∃ (w : Str), vs = [.str w] ∧ w.length ≤ 10000000 ∧ ∀ H', Same H H' → Q (oint (numQ 14 (tl w)) (numV (tl w))) H'
theorem cut1_iff (w : Str) : decide (V.str (cutS w none (some 1)) = V.str "-") = decide ((tl w).head? = some 45) := by
  rw [str_eq]
  have e1 : tl (cutS w none (some 1)) = (tl w).take 1 := by
    unfold cutS
    show (((tl w).drop (HT.sIx w.length 0 none)).take (HT.sIx w.length w.length (some ((1 : Nat) : Int)) - HT.sIx w.length 0 none)).toArray.toList = _
    rw [HT.sIx_none, HT.sIx_nat, List.drop_zero, Nat.sub_zero, TL.len_tl]
    show (tl w).take (min 1 (tl w).length) = _
    rw [List.take_eq_take_iff]
    omega
  have e2 : tl ("-" : Str) = [45] := rfl
  rw [e1, e2]
  cases h : tl w with
  | nil => rfl
  | cons c r =>
    by_cases hc : c = 45
    · rw [hc]
      rfl
    · show decide ([c] = [45]) = decide (some c = some 45)
      rw [decide_eq_false (fun z => hc (List.cons.inj z).1), decide_eq_false (fun z => hc (Option.some.inj z))]
theorem cut_tail (w : Str) : tl (cutS w (some 1) none) = (tl w).drop 1 := by
  unfold cutS
  show (((tl w).drop (HT.sIx w.length 0 (some ((1 : Nat) : Int)))).take (HT.sIx w.length w.length none - HT.sIx w.length 0 (some ((1 : Nat) : Int)))).toArray.toList = _
  rw [HT.sIx_none, HT.sIx_nat, TL.len_tl]
  show ((tl w).drop (min 1 (tl w).length)).take ((tl w).length - min 1 (tl w).length) = _
  cases h : tl w with
  | nil => rfl
  | cons c r =>
    rw [List.length_cons, show min 1 (r.length + 1) = 1 by omega, List.drop_succ_cons, List.drop_zero, Nat.add_sub_cancel, List.take_length]
theorem ok_l_books_number (T : Txt K mg) : FnOk P w K mg base CX0 1 T.f_l_books_number T.fd_l_books_number ["word"] (spNum) := by
  refine T.F_l_books_number.ok sc_l_books_number (fun vs H Q E h => ?_) (fun cdv A outer s H vs Q E hr h => ?_)
  · obtain ⟨w, rfl, _⟩ := h
    rfl
  · obtain ⟨w, rfl, hl, q⟩ := h
    refine ⟨_, (pss_cons (ps_set (i := 1) sc_l_books_number.nd rfl (Or.inl rfl) (pe_ifExp (pt_cmpR op_eq (pe_slice sl_str (pv 0) po_none (po_some pe_int)) pe_str (nomark _)) (pe_slice sl_str (pv 0) (po_some pe_int) po_none) (pv 0)))
  (pss_cons (ps_if (PW.pt (pw_or (pt_not (pt_chain op_le op_le pe_int (pe_callB call_len_str (by rfl) T.n_len PySem.boot_len (pa_cons (pv 1) pa_nil)) pe_int)) (pw_or1 (pt_not (pt_val (pe_callB (cr_all rfl) (by rfl) T.n_all (by decide +kernel) (pa_cons (pe_lc (own := [("sign", 2)]) (g := gName 2) (by rfl) sc_l_books_number.nd (pi_str (pv 1)) (blkOk_by (own := [("sign", 2)]) (by rfl)) (fun _ _ _ _ _ => (pg_name (i := 2) sc_l_books_number.nd rfl (Or.inl rfl))) (fun _ _ _ _ _ => pts_nil) (fun _ _ _ _ _ => (pe_cmpR op_in_sign (pv 2) pe_str rfl))) pa_nil))))))) (pss_one (ps_ret pe_non)) pss_nil)
  (pss_one (ps_ret (pe_ifExp (PW.pt (pw_and (pt_cmpR op_eq (pe_ix ix_str (pv 1) pe_int (fun _ _ => rfl)) pe_str (nomark _)) (pw_and1 (pt_cmpR op_ne (pv 0) pe_str (nomark _))))) pe_non (pe_callTy call_int_str (by rfl) T.n_int (by decide +kernel) (pa_cons (pv 0) pa_nil))))))), ?_⟩
    have no : ∀ H', Same H H' → numQ 14 (tl w) = false → Q .non H' := fun H' s' e => by
      have e2 := q H' s'
      rw [e] at e2
      exact e2
    refine seq_fin (fun σ' H' => ∃ f : Str, σ' = [some (.str w), some (.str f), none] ∧ H' = H ∧ tl f = figs (tl w)) ?_ (fun fin => ?_)
    · rintro σ' H' ⟨f, rfl, rfl, hft⟩
      have hfl : f.length = (figs (tl w)).length := by rw [TL.len_tl]; exact congrArg List.length hft
      have hfw : f.length ≤ 10000000 := by
        have := figs_le (tl w)
        rw [hfl]
        rw [TL.len_tl] at hl
        exact Nat.le_trans this hl
      refine ⟨.str f, rfl, f, rfl, le_line (by omega), _, _, rfl, rfl, _, rfl, ?_⟩
      have bad : (decide (1 ≤ (f.length : Int)) && decide ((f.length : Int) ≤ 14)) = false → numQ 14 (tl w) = false := fun e => by
        unfold numQ
        rw [← hfl]
        have e1 : decide (1 ≤ f.length) = decide (1 ≤ (f.length : Int)) := by
          rw [decide_eq_decide]
          omega
        have e2 : decide (f.length ≤ 14) = decide ((f.length : Int) ≤ 14) := by
          rw [decide_eq_decide]
          omega
        rw [e1, e2, e]
        rfl
      have back : (decide (1 ≤ (f.length : Int)) && decide ((f.length : Int) ≤ 14)) = true → ∀ g : Bool, numQ 14 (tl w) = (digs (figs (tl w)) && !(decide ((figs (tl w)).head? = some 48) && !decide (tl w = [48]))) := fun e _ => by
        rw [Bool.and_eq_true, decide_eq_true_eq, decide_eq_true_eq] at e
        unfold numQ
        rw [decide_eq_true (show 1 ≤ (figs (tl w)).length by omega), decide_eq_true (show (figs (tl w)).length ≤ 14 by omega)]
        rfl
      refine ite2 (fun h1 => ?_) (fun h1 => ?_)
      · refine ⟨_, _, rfl, rfl, _, rfl, ?_⟩
        generalize hc2 : decide ((f.length : Int) ≤ 14) = c2
        cases c2 with
        | false => exact no H' (Same.refl _) (bad (by rw [hc2, Bool.and_false]))
        | true =>
          have bk := back (by rw [hc2, Bool.and_true]; exact h1) true
          have h1 : 1 ≤ (f.length : Int) := of_decide_eq_true h1
          refine ⟨.str f, rfl, f, rfl, fun D hD => ?_⟩
          refine lc_signs (x := f) (fun c => decide (c ∈ tl ("0123456789" : Str))) (by omega) hD (fun c H' Q' hq => ?_) (fun _ => rfl) (fun H6 s6 h6 => ?_)
          · exact ⟨_, rfl, c, _, rfl, rfl, hq⟩
          · refine ⟨D, _, rfl, SqL.of h6, ?_⟩
            have ed : (((tl f).map fun c => decide (c ∈ tl ("0123456789" : Str))).all id) = digs (figs (tl w)) := by
              rw [all_id, hft]
              unfold digs
              congr 1
              funext c
              exact fig_mem c
            rw [ed]
            refine ⟨_, rfl, ?_⟩
            cases hdg : digs (figs (tl w)) with
            | false =>
              refine no H6 s6 ?_
              rw [bk, hdg]
              rfl
            | true =>
              rw [hdg] at bk
              have fin2 : ∀ H2, Same H' H2 → numQ 14 (tl w) = true → ∃ (a : Str) (n_1 : Int), [V.str w] = [V.str a] ∧ PySem.intText? a = some n_1 ∧ a.length ≤ 640 ∧ Q (.int n_1) H2 := fun H2 s2 e => by
                have nq := numQ_iff.mp e
                have wl := nq.len
                refine ⟨w, _, rfl, intText_num nq (by omega), by omega, ?_⟩
                have e2 := q H2 s2
                rw [e] at e2
                exact e2
              obtain ⟨c, r, hcr⟩ : ∃ c r, tl f = c :: r := by
                cases e : tl f with
                | nil =>
                  rw [TL.len_tl] at h1
                  have h1' : 1 ≤ (((tl f).length : Nat) : Int) := h1
                  rw [e] at h1'
                  exact absurd h1' (by decide)
                | cons c r => exact ⟨c, r, rfl⟩
              refine ⟨.str f, rfl, f, ((0 : Nat) : Int), c, rfl, rfl, le_line (by omega), atI_nat (by show (tl f)[0]? = some c; rw [hcr]; rfl), rfl, _, rfl, ?_⟩
              have eh : decide (V.str ⟨#[c]⟩ = V.str "0") = decide ((figs (tl w)).head? = some 48) := by
                rw [str_eq, ← hft, hcr]
                show decide ([c] = [48]) = decide (some c = some 48)
                by_cases hc : c = 48
                · rw [hc]
                  rfl
                · rw [decide_eq_false (fun z => hc (List.cons.inj z).1), decide_eq_false (fun z => hc (Option.some.inj z))]
              rw [eh]
              refine ite2 (fun hs => ?_) (fun hs => ?_)
              · refine ⟨.str w, rfl, rfl, _, rfl, ?_⟩
                rw [str_eq]
                have e48 : tl ("0" : Str) = [48] := rfl
                rw [e48]
                rw [of_decide_eq_true hs] at bk
                cases hw : decide (tl w = [48]) with
                | false =>
                  refine no H6 s6 ?_
                  rw [bk, hw]
                  rfl
                | true =>
                  refine ⟨_, rfl, fin2 H6 s6 ?_⟩
                  rw [bk, hw]
                  rfl
              · refine ⟨_, rfl, fin2 H6 s6 ?_⟩
                rw [bk, Bool.eq_false_iff.mpr hs]
                rfl
      · have h1 := Bool.eq_false_iff.mpr h1
        exact ⟨_, rfl, no H' (Same.refl _) (bad (by rw [h1, Bool.false_and]))⟩
    · refine ⟨.str w, rfl, _, rfl, w, rfl, le_line (by omega), rfl, _, rfl, ?_⟩
      rw [cut1_iff]
      refine ite2 (fun h => ?_) (fun h => ?_)
      · refine ⟨.str w, rfl, _, rfl, w, rfl, le_line (by omega), fin _ _ ⟨_, rfl, rfl, ?_⟩⟩
        have h : (tl w).head? = some 45 := of_decide_eq_true h
        rw [cut_tail]
        cases e : tl w with
        | nil =>
          rw [e] at h
          cases h
        | cons c r =>
          rw [e] at h
          have ec : c = 45 := Option.some.inj h
          rw [ec]
          rfl
      · refine ⟨.str w, rfl, fin _ _ ⟨w, rfl, rfl, ?_⟩⟩
        have h : ¬ (tl w).head? = some 45 := of_decide_eq_false (Bool.eq_false_iff.mpr h)
        cases e : tl w with
        | nil => rfl
        | cons c r =>
          rw [e] at h
          exact (figs_pos (fun z => h (by rw [z]; rfl))).symm
def spIsName : Sp := fun vs H Q _ => ∃ (w : Str), vs = [.str w] ∧ w.length ≤ 10000000 ∧ ∀ H', Same H H' → Q (.bl (isNmB 4 w)) H'
theorem ok_l_books_is_name (T : Txt K mg) : FnOk P w K mg base CX0 1 T.f_l_books_is_name T.fd_l_books_is_name ["word"] (spIsName) := by
  refine T.F_l_books_is_name.ok sc_l_books_is_name (fun vs H Q E h => ?_) (fun cdv A outer s H vs Q E hr h => ?_)
  · obtain ⟨w, rfl, _⟩ := h
    rfl
  · obtain ⟨w, rfl, hl, q⟩ := h
    refine ⟨_, (pss_one (ps_ret (pe_and (pe_chain op_le op_le pe_int (pe_callB call_len_str (by rfl) T.n_len PySem.boot_len (pa_cons (pv 0) pa_nil)) pe_int) (pe_one (pe_callB (cr_all rfl) (by rfl) T.n_all (by decide +kernel) (pa_cons (pe_lc (own := [("sign", 1)]) (g := gName 1) (by rfl) sc_l_books_is_name.nd (pi_str (pv 0)) (blkOk_by (own := [("sign", 1)]) (by rfl)) (fun _ _ _ _ _ => (pg_name (i := 1) sc_l_books_is_name.nd rfl (Or.inl rfl))) (fun _ _ _ _ _ => pts_nil) (fun _ _ _ _ _ => (pe_cmpR op_in_sign (pv 1) pe_str rfl))) pa_nil)))))), ?_⟩
    have no : isNmB 4 w = false → Q (.bl false) H := fun e => by
      have e2 := q H (Same.refl H)
      rw [e] at e2
      exact e2
    refine ⟨.str w, rfl, w, rfl, le_line (by omega), _, _, rfl, rfl, _, rfl, ?_⟩
    refine ite2 (fun h1 => ?_) (fun h1 => ?_)
    · have h1 : 1 ≤ (w.length : Int) := of_decide_eq_true h1
      refine ⟨_, _, rfl, rfl, _, rfl, ?_⟩
      refine ite2 (fun h2 => ?_) (fun h2 => ?_)
      · have h2 : (w.length : Int) ≤ 4 := of_decide_eq_true h2
        refine ⟨.str w, rfl, w, rfl, fun D hD => ?_⟩
        refine lc_signs (x := w) (fun c => decide (c ∈ tl ("abcdefghijklmnopqrstuvwxyz" : Str))) (by omega) hD (fun c H' Q' hq => ?_) (fun _ => rfl) (fun H6 s6 h6 => ?_)
        · exact ⟨_, rfl, c, _, rfl, rfl, hq⟩
        · refine ⟨D, _, rfl, SqL.of h6, ?_⟩
          rw [all_id]
          have e := q H6 s6
          unfold isNmB isOf at e
          rw [decide_eq_true (show w.length ≤ 4 by omega), decide_eq_true (show 0 < w.length by omega), Bool.true_and, Bool.true_and] at e
          exact e
      · have h2 : ¬ (w.length : Int) ≤ 4 := of_decide_eq_false (Bool.eq_false_iff.mpr h2)
        refine no ?_
        unfold isNmB
        rw [decide_eq_false (show ¬ w.length ≤ 4 by omega), Bool.false_and]
    · have h1 : ¬ 1 ≤ (w.length : Int) := of_decide_eq_false (Bool.eq_false_iff.mpr h1)
      refine ⟨_, rfl, no ?_⟩
      unfold isNmB isOf
      rw [decide_eq_false (show ¬ 0 < w.length by omega), Bool.false_and, Bool.and_false]
def wokB (b n : Int) : Bool := if b = 0 then decide (-1000000000000 ≤ n) && decide (n ≤ 1000000000000) else decide (0 ≤ n) && decide (n < b)
def spIsWorth : Sp := fun vs H Q _ => ∃ (b n : Int) (c : Bool), vs = [.int b, oint c n] ∧ ∀ H', Same H H' → Q (.bl (c && wokB b n)) H'
theorem abs_le {n : Int} : decide ((if n < 0 then -n else n) ≤ (1000000000000 : Int)) = (decide (-1000000000000 ≤ n) && decide (n ≤ 1000000000000)) := by
  by_cases h : n < 0
  · rw [if_pos h]
    by_cases h2 : -1000000000000 ≤ n
    · rw [decide_eq_true (show -n ≤ 1000000000000 by omega), decide_eq_true h2, decide_eq_true (show n ≤ 1000000000000 by omega)]
      rfl
    · rw [decide_eq_false (show ¬ -n ≤ 1000000000000 by omega), decide_eq_false h2]
      rfl
  · rw [if_neg h, decide_eq_true (show -1000000000000 ≤ n by omega), Bool.true_and]
theorem ok_l_books_is_worth (T : Txt K mg) : FnOk P w K mg base CX0 1 T.f_l_books_is_worth T.fd_l_books_is_worth ["by", "number"] (spIsWorth) := by
  refine T.F_l_books_is_worth.ok sc_l_books_is_worth (fun vs H Q E h => ?_) (fun cdv A outer s H vs Q E hr h => ?_)
  · obtain ⟨b, n, c, rfl, _⟩ := h
    rfl
  · obtain ⟨b, n, c, rfl, q⟩ := h
    have q := q H (Same.refl H)
    refine ⟨_, (pss_cons (ps_if (pt_cmpR op_isN (pv 1) pe_non (nomark _)) (pss_one (ps_ret pe_bl)) pss_nil)
  (pss_one (ps_ret (pe_ifExp (pt_cmpR op_eq (pv 0) pe_int (nomark _)) (pe_cmpR op_le (pe_callB call_abs (by rfl) T.n_abs (by decide +kernel) (pa_cons (pv 1) pa_nil)) (pe_op op_powW pe_int pe_int) (nomark _)) (pe_chain op_le op_lt pe_int (pv 1) (pv 0)))))), ?_⟩
    cases c with
    | false => exact ⟨_, rfl, rfl, _, rfl, q⟩
    | true =>
      rw [Bool.true_and] at q
      unfold wokB at q
      refine ⟨_, rfl, rfl, _, rfl, ?_⟩
      refine ⟨.int b, rfl, rfl, _, rfl, ?_⟩
      refine ite2 (fun hb => ?_) (fun hb => ?_)
      · have hb : b = 0 := V.int.inj (of_decide_eq_true hb)
        rw [if_pos hb] at q
        refine ⟨.int n, rfl, n, rfl, _, _, rfl, rfl, pow_c (by decide), _, _, rfl, rfl, ?_⟩
        rw [← abs_le] at q
        exact q
      · have hb : ¬ b = 0 := fun z => hb (decide_eq_true (congrArg V.int z))
        rw [if_neg hb] at q
        refine ⟨.int n, rfl, _, _, rfl, rfl, _, rfl, ?_⟩
        refine ite2 (fun h0 => ?_) (fun h0 => ?_)
        · have h0 : 0 ≤ n := of_decide_eq_true h0
          refine ⟨.int b, rfl, _, _, rfl, rfl, ?_⟩
          rw [decide_eq_true h0, Bool.true_and] at q
          exact q
        · have h0 : ¬ 0 ≤ n := of_decide_eq_false (Bool.eq_false_iff.mpr h0)
          rw [decide_eq_false h0, Bool.false_and] at q
          exact q
def spIsNumber : Sp := fun vs H Q _ => ∃ (w : Str) (b : Int), vs = [.str w, .int b] ∧ w.length ≤ 10000000 ∧ 0 ≤ b ∧ b ≤ 97 ∧ ∀ H', Same H H' → Q (.bl (numQ 14 (tl w) && wokB b (numV (tl w)))) H'
theorem num1314 {b : Int} {l : List Nat} (b97 : b ≤ 97) : (numQ 14 l && wokB b (numV l)) = (numQ 13 l && wokB b (numV l)) := by
  cases h : numQ 13 l with
  | true =>
    have := numQ_iff.mp h
    rw [numQ_iff.mpr (this.mono (k := 14) (Nat.le_trans this.fn (by decide)))]
  | false =>
    rw [Bool.false_and]
    cases h2 : numQ 14 l with
    | false => rfl
    | true =>
      rw [Bool.true_and]
      have n14 := numQ_iff.mp h2
      by_cases hw : (numV l).natAbs < 10 ^ 13
      · rw [numQ_iff.mpr (n14.small (by decide) hw)] at h
        cases h
      · have e : (10 : Nat) ^ 13 = 10000000000000 := by decide
        rw [e] at hw
        unfold wokB
        by_cases hb : b = 0
        · rw [if_pos hb, Bool.and_eq_false_iff, decide_eq_false_iff_not, decide_eq_false_iff_not]
          omega
        · rw [if_neg hb, Bool.and_eq_false_iff, decide_eq_false_iff_not, decide_eq_false_iff_not]
          omega
theorem ok_is_number (T : Txt K mg) : FnOk P w K mg base CX0 3 T.f_is_number T.fd_is_number ["word", "by"] (spIsNumber) := by
  refine T.F_is_number.ok sc_is_number (fun vs H Q E h => ?_) (fun cdv A outer s H vs Q E hr h => ?_)
  · obtain ⟨w, b, rfl, _⟩ := h
    rfl
  · obtain ⟨w, b, rfl, hl, b0, b97, q⟩ := h
    refine ⟨_, (pss_cons (ps_set (i := 2) sc_is_number.nd rfl (Or.inl rfl) (pe_call (ok_integer_of T) (hr.mono (by decide)) (by rfl) T.g_integer_of T.F_integer_of.kp T.b_integer_of .nil pass0 (pa_cons (pv 0) (pa_cons pe_int pa_nil))))
  (pss_cons (ps_if (pt_cmpR op_isN (pv 2) pe_non (nomark _)) (pss_one (ps_ret pe_bl)) pss_nil)
  (pss_one (ps_ret (pe_ifExp (pt_cmpR op_gt (pv 1) pe_int (nomark _)) (pe_chain op_le op_lt pe_int (pv 2) (pv 1)) (pe_cmpR op_le (pe_callB call_abs (by rfl) T.n_abs (by decide +kernel) (pa_cons (pv 2) pa_nil)) (C8.pe_gc (by rfl) T.m_GREATEST) (nomark _))))))), ?_⟩
    refine ⟨.str w, rfl, w, 13, rfl, hl, by decide, fun H1 s1 => ?_⟩
    have q := q H1 s1
    rw [num1314 b97] at q
    generalize numV (tl w) = n at *
    cases hc : numQ 13 (tl w) with
    | false =>
      rw [hc] at q
      exact ⟨_, rfl, rfl, _, rfl, q⟩
    | true =>
      rw [hc, Bool.true_and] at q
      unfold wokB at q
      refine ⟨_, rfl, rfl, _, rfl, ?_⟩
      refine ⟨.int b, rfl, _, _, rfl, rfl, _, rfl, ?_⟩
      refine ite2 (fun hb => ?_) (fun hb => ?_)
      · have hb : 0 < b := of_decide_eq_true hb
        rw [if_neg (show ¬ b = 0 by omega)] at q
        refine ⟨.int n, rfl, _, _, rfl, rfl, _, rfl, ?_⟩
        refine ite2 (fun h0 => ?_) (fun h0 => ?_)
        · have h0 : 0 ≤ n := of_decide_eq_true h0
          refine ⟨.int b, rfl, _, _, rfl, rfl, ?_⟩
          rw [decide_eq_true h0, Bool.true_and] at q
          exact q
        · have h0 : ¬ 0 ≤ n := of_decide_eq_false (Bool.eq_false_iff.mpr h0)
          rw [decide_eq_false h0, Bool.false_and] at q
          exact q
      · have hb : ¬ 0 < b := of_decide_eq_false (Bool.eq_false_iff.mpr hb)
        rw [if_pos (show b = 0 by omega)] at q
        refine ⟨.int n, rfl, n, rfl, _, _, rfl, rfl, ?_⟩
        rw [← abs_le] at q
        exact q
end
end OG
set_option Elab.async false
set_option linter.all false
set_option maxRecDepth 100000
set_option maxHeartbeats 4000000
namespace OG
open PySem PySem.Spec PyProof.Rows L2
theorem inV_str (z : Str) (ms : List Str) : inV (.str z) (ms.map V.str) = decide (z ∈ ms) := by
  unfold inV
  rw [List.any_map]
  by_cases h : z ∈ ms
  · rw [decide_eq_true h, List.any_eq_true]
    exact ⟨z, h, by show (z == z) = true; exact beq_self_eq_true z⟩
  · rw [decide_eq_false h, List.any_eq_false]
    intro y hy e
    have e : (y == z) = true := e
    exact h (by rw [← eq_of_beq e]; exact hy)
theorem inV_int (z : Int) (ms : List Int) : inV (.int z) (ms.map V.int) = decide (z ∈ ms) := by
  unfold inV
  rw [List.any_map]
  by_cases h : z ∈ ms
  · rw [decide_eq_true h, List.any_eq_true]
    exact ⟨z, h, by show (z == z) = true; exact beq_self_eq_true z⟩
  · rw [decide_eq_false h, List.any_eq_false]
    intro y hy e
    have e : (y == z) = true := e
    exact h (by rw [← eq_of_beq e]; exact hy)
theorem inV_non (ms : List Int) : inV .non (ms.map V.int) = false := by
  unfold inV
  rw [List.any_map, List.any_eq_false]
  intro y hy e
  cases e
theorem flat_strs (ms : List Str) : (ms.map V.str).all flatV = true := by
  rw [List.all_map, List.all_eq_true]
  intro y _
  rfl
theorem flat_ints (ms : List Int) : (ms.map V.int).all flatV = true := by
  rw [List.all_map, List.all_eq_true]
  intro y _
  rfl
theorem nm_abc {n : Nat} {z : Str} (h : isNmB n z = true) : 0 < z.length ∧ z.length ≤ n ∧ ∀ c ∈ tl z, c ∈ abc := by
  unfold isNmB isOf at h
  rw [Bool.and_eq_true, Bool.and_eq_true, decide_eq_true_eq, decide_eq_true_eq, List.all_eq_true] at h
  refine ⟨h.2.1, h.1, fun c hc => ?_⟩
  have := of_decide_eq_true (h.2.2 c hc)
  rwa [show tl ("abcdefghijklmnopqrstuvwxyz" : Str) = abc from abc_tl] at this
theorem dp_strs {K : PySem.W.Frag} {H : Hp} : ∀ ms : List Str, DpAll K H (ms.map V.str) (ms.map PyData.str)
  | [] => .nil
  | z :: r => .cons (.str z) (dp_strs r)
theorem depth_strs : ∀ ms : List Str, PyData.depthAll (ms.map PyData.str) = 0
  | [] => by simp [PyData.depthAll]
  | z :: r => by
    rw [List.map_cons]
    simp [PyData.depthAll, PyData.depth, depth_strs r]
theorem lay_strs : ∀ {ms : List Str}, (∀ z ∈ ms, PyData.strOk z = true) → PyData.canLayAll0 (ms.map PyData.str) = true
  | [], _ => by simp [PyData.canLayAll0]
  | z :: r, h => by
    rw [List.map_cons]
    simp [PyData.canLayAll0, PyData.canLay0, lay_strs fun y hy => h y (List.mem_cons_of_mem _ hy), h z List.mem_cons_self]
theorem shaped_strs {ms : List Str} (h : ∀ z ∈ ms, PyData.strOk z = true) : SeqAt.shaped (.list (ms.map PyData.str)) = true := by
  unfold SeqAt.shaped
  rw [Bool.and_eq_true]
  refine ⟨?_, decide_eq_true ?_⟩
  · simp only [PyData.canLay0]
    exact lay_strs h
  · simp only [PyData.depth, depth_strs]
    decide
theorem shaped_nil : SeqAt.shaped (.list []) = true := shaped_strs (ms := []) fun _ h => by cases h
theorem eqv_nil (ms : List Str) : PyData.eqv (.list (ms.map PyData.str)) (.list []) = decide (ms = []) := by
  cases ms with
  | nil => simp [PyData.eqv, PyData.eqvAll]
  | cons z r => simp [PyData.eqv, PyData.eqvAll]
theorem strOk_nm {n : Nat} {z : Str} (h : isNmB n z = true) : PyData.strOk z = true := by
  have h3 := (nm_abc h).2.2
  unfold PyData.strOk
  rw [← Array.all_toList, List.all_eq_true]
  intro c hc
  have := h3 c hc
  unfold abc at this
  refine decide_eq_true ?_
  simp only [List.mem_cons, List.mem_nil_iff, or_false] at this
  omega
/-! lines of books -/
def okLine (b : Int) (w1 : Str) (rest : List Str) : Bool := isNmB 4 w1 && rest.all fun z => numQ 14 (tl z) && wokB b (numV (tl z))
/-- one line more, behind marks ms and kinds ks -/
def stepM (b : Int) (ms ks : List Str) : List Str → Option (List Str × List Str)
  | w0 :: w1 :: rest =>
    if okLine b w1 rest = true then
      if w0 = "mark" ∧ ks = [] ∧ ms.length < 4 ∧ w1 ∉ ms ∧ rest.length = 1 then (if rest = [("0" : Str)] then none else some (ms ++ [w1], ks))
      else if w0 = "kind" ∧ rest.length = ms.length * ms.length ∧ ms ≠ [] ∧ ks.length < 3 ∧ w1 ∉ ks then some (ms, ks ++ [w1])
      else none
    else none
  | _ => none
/-- how marks and kinds are between two lines -/
structure MkOk (ms ks : List Str) : Prop where
  m4 : ms.length ≤ 4
  k3 : ks.length ≤ 3
  m : ∀ z ∈ ms, isNmB 4 z = true
  k : ∀ z ∈ ks, isNmB 4 z = true
theorem MkOk.nil : MkOk [] [] := ⟨by decide, by decide, fun _ h => by (cases h), fun _ h => by (cases h)⟩
theorem stepM_eq (b : Int) (ms ks : List Str) (w0 w1 : Str) (rest : List Str) : stepM b ms ks (w0 :: w1 :: rest) =
    if okLine b w1 rest = true then
      if w0 = "mark" ∧ ks = [] ∧ ms.length < 4 ∧ w1 ∉ ms ∧ rest.length = 1 then (if rest = [("0" : Str)] then none else some (ms ++ [w1], ks))
      else if w0 = "kind" ∧ rest.length = ms.length * ms.length ∧ ms ≠ [] ∧ ks.length < 3 ∧ w1 ∉ ks then some (ms, ks ++ [w1])
      else none
    else none := rfl
theorem MkOk.step {b : Int} {ms ks ms' ks' ws : List Str} (h : MkOk ms ks) (e : stepM b ms ks ws = some (ms', ks')) : MkOk ms' ks' := by
  cases ws with
  | nil => cases e
  | cons w0 t =>
    cases t with
    | nil => cases e
    | cons w1 rest =>
      rw [stepM_eq] at e
      by_cases ho : okLine b w1 rest = true
      · rw [if_pos ho] at e
        unfold okLine at ho
        rw [Bool.and_eq_true] at ho
        by_cases hm : w0 = "mark" ∧ ks = [] ∧ ms.length < 4 ∧ w1 ∉ ms ∧ rest.length = 1
        · rw [if_pos hm] at e
          by_cases h0 : rest = [("0" : Str)]
          · rw [if_pos h0] at e
            cases e
          · rw [if_neg h0] at e
            have e := Option.some.inj e
            cases e
            refine ⟨by rw [List.length_append, List.length_singleton]; omega, h.k3, fun z hz => ?_, h.k⟩
            rcases List.mem_append.mp hz with q | q
            · exact h.m z q
            · rw [List.mem_singleton.mp q]
              exact ho.1
        · rw [if_neg hm] at e
          by_cases hk : w0 = "kind" ∧ rest.length = ms.length * ms.length ∧ ms ≠ [] ∧ ks.length < 3 ∧ w1 ∉ ks
          · rw [if_pos hk] at e
            have e := Option.some.inj e
            cases e
            refine ⟨h.m4, by rw [List.length_append, List.length_singleton]; omega, h.m, fun z hz => ?_⟩
            rcases List.mem_append.mp hz with q | q
            · exact h.k z q
            · rw [List.mem_singleton.mp q]
              exact ho.1
          · rw [if_neg hk] at e
            cases e
      · rw [if_neg ho] at e
        cases e
theorem zero_word {n : Nat} {z : Str} (h : numQ n (tl z) = true) : numV (tl z) = 0 ↔ z = "0" := by
  constructor
  · intro e
    have := (numQ_iff.mp h).zero e
    exact TL.ext_tl (this.trans rfl)
  · intro e
    rw [e]
    rfl
end OG
set_option Elab.async false
set_option linter.all false
set_option maxRecDepth 100000
set_option maxHeartbeats 8000000
namespace OG
open PySem PySem.Spec PyProof.Rows L2
/-- all but two stay -/
def K2 (a b : Addr) (H H' : Hp) : Prop := ∀ x o, x ≠ a → x ≠ b → H x = some o → H' x = some o
theorem Same.k2 {a b : Addr} {H H' : Hp} (s : Same H H') : K2 a b H H' := fun x o _ _ h => s x o h
def fNum : V → V
  | .str z => oint (numQ 14 (tl z)) (numV (tl z))
  | v => v
def fWor (b : Int) : V → V
  | .int n => .bl (wokB b n)
  | _ => .bl false
theorem fWor_oint (b n : Int) (c : Bool) : fWor b (oint c n) = .bl (c && wokB b n) := by
  cases c
  · rfl
  · rfl
theorem okLine_no {b : Int} {w1 : Str} {rest : List Str} {w0 : Str} {ms ks : List Str} (h : okLine b w1 rest = false) : stepM b ms ks (w0 :: w1 :: rest) = none := by
  rw [stepM_eq, if_neg (by rw [h]; decide)]
theorem eq_word {a b : Str} : decide (V.str a = V.str b) = decide (a = b) := by
  by_cases h : a = b
  · rw [h, decide_eq_true rfl, decide_eq_true rfl]
  · rw [decide_eq_false h, decide_eq_false fun z => h (V.str.inj z)]
theorem ne_of_none' {H : Hp} {a b : Addr} {o : HO} (h : H a = some o) (n : H b = none) : b ≠ a := fun z => by
  rw [z, h] at n
  cases n
section
variable {P : Program} {w : World} {K : PySem.W.Frag} {mg : Str → Option Value} {base : Heap}
def spCan (K : PySem.W.Frag) : Sp := fun vs H Q _ => ∃ (b : Int) (am ak aw : Addr) (ms ks words : List Str), vs = [.int b, .ref am, .ref ak, .ref aw] ∧ H am = some (.lst (ms.map V.str)) ∧ H ak = some (.lst (ks.map V.str)) ∧ am ≠ ak ∧ H aw = some (.lst (words.map V.str)) ∧ words ≠ [] ∧
  words.length ≤ 1000000 ∧ (∀ z ∈ words, z.length ≤ 10000000) ∧ MkOk ms ks ∧ 0 ≤ b ∧ b ≤ 97 ∧
  (stepM b ms ks words = none → ∀ H', K2 am ak H H' → Q (.bl false) H') ∧
  (∀ ms' ks', stepM b ms ks words = some (ms', ks') → ∀ H', K2 am ak H H' → H' am = some (.lst (ms'.map V.str)) → H' ak = some (.lst (ks'.map V.str)) → Q (.bl true) H')
theorem ok_l_books_can_stand (T : Txt K mg) : FnOk P w K mg base CX0 2 T.f_l_books_can_stand T.fd_l_books_can_stand ["by", "marks", "kinds", "words"] (spCan K) := by
  refine T.F_l_books_can_stand.ok sc_l_books_can_stand (fun vs H Q E h => ?_) (fun cdv A outer s H vs Q E hr h => ?_)
  · obtain ⟨b, am, ak, aw, ms, ks, words, rfl, _⟩ := h
    rfl
  · obtain ⟨b, am, ak, aw, ms, ks, words, rfl, hM, hK, nmk, hW, wne, wl, wz, mk, b0, b97, qn, qs⟩ := h
    refine ⟨_, (pss_cons (ps_set (i := 4) sc_l_books_can_stand.nd rfl (Or.inl rfl) (pe_ifExp (pt_cmpR op_gt (pe_callB call_len_seq (by rfl) T.n_len PySem.boot_len (pa_cons (pv 3) pa_nil)) pe_int (nomark _)) (pe_ix ix_list (pv 3) pe_int (fun _ _ => rfl)) pe_str))
  (pss_cons (ps_setLc (i := 5) (own := [("word", 7)]) (g := gName 7) (by rfl) sc_l_books_can_stand.nd rfl rfl (sw_true rfl rfl rfl (by decide +kernel)) (pi_list (pe_slice sl_list (pv 3) (po_some pe_int) po_none)) (blkOk_by (own := [("word", 7)]) (by rfl)) (fun _ _ _ _ _ => (pg_name (i := 7) sc_l_books_can_stand.nd rfl (Or.inl rfl))) (fun _ _ _ _ _ => pts_nil) (fun _ _ _ _ _ => (pe_call (ok_l_books_number T) (hr.mono (by decide)) (by rfl) T.g_l_books_number T.F_l_books_number.kp T.b_l_books_number .nil pass0 (pa_cons (pv 7) pa_nil))))
  (pss_cons (ps_if (PW.pt (pw_or (pt_not (pt_val (pe_call (ok_l_books_is_name T) (hr.mono (by decide)) (by rfl) T.g_l_books_is_name T.F_l_books_is_name.kp T.b_l_books_is_name .nil pass0 (pa_cons (pv 4) pa_nil)))) (pw_or1 (pt_not (pt_val (pe_callB (cr_all rfl) (by rfl) T.n_all (by decide +kernel) (pa_cons (pe_lc (own := [("number", 8)]) (g := gName 8) (by rfl) sc_l_books_can_stand.nd (pi_list (pv 5)) (blkOk_by (own := [("number", 8)]) (by rfl)) (fun _ _ _ _ _ => (pg_name (i := 8) sc_l_books_can_stand.nd rfl (Or.inl rfl))) (fun _ _ _ _ _ => pts_nil) (fun _ _ _ _ _ => (pe_call (ok_l_books_is_worth T) (hr.mono (by decide)) (by rfl) T.g_l_books_is_worth T.F_l_books_is_worth.kp T.b_l_books_is_worth .nil pass0 (pa_cons (pv 0) (pa_cons (pv 8) pa_nil))))) pa_nil))))))) (pss_one (ps_ret pe_bl)) pss_nil)
  (pss_cons (ps_if (PW.pt (pw_and (pt_cmpR op_eq (pe_ix ix_list (pv 3) pe_int (fun _ _ => rfl)) pe_str (nomark _)) (pw_and (pt_cmpR (op_eqD hr.units) (pv 2) (pe_lst pa_nil) (nomark _)) (pw_and (pt_cmpR op_lt (pe_callB call_len_seq (by rfl) T.n_len PySem.boot_len (pa_cons (pv 1) pa_nil)) pe_int (nomark _)) (pw_and (pt_cmpR op_notIn_seq (pv 4) (pv 1) rfl) (pw_and1 (pt_cmpR op_eq (pe_callB call_len_seq (by rfl) T.n_len PySem.boot_len (pa_cons (pv 5) pa_nil)) pe_int (nomark _)))))))) (pss_cons (ps_expr (pe_bm PySem.F.plainAttrs_list PySem.F.slot_list_append PySem.F.type_list_append mt_append (pv 1) (pa_cons (pv 4) pa_nil)))
  (pss_one (ps_ret (pe_cmpR op_ne (pe_ix ix_list (pv 5) pe_int (fun _ _ => rfl)) pe_int (nomark _))))) pss_nil)
  (pss_cons (ps_set (i := 6) sc_l_books_can_stand.nd rfl (Or.inl rfl) (pe_and (pe_cmpR op_eq (pe_callB call_len_seq (by rfl) T.n_len PySem.boot_len (pa_cons (pv 5) pa_nil)) (pe_op op_mulW (pe_callB call_len_seq (by rfl) T.n_len PySem.boot_len (pa_cons (pv 1) pa_nil)) (pe_callB call_len_seq (by rfl) T.n_len PySem.boot_len (pa_cons (pv 1) pa_nil))) (nomark _)) (pe_and (pe_cmpR (op_neD hr.units) (pv 1) (pe_lst pa_nil) (nomark _)) (pe_and (pe_cmpR op_lt (pe_callB call_len_seq (by rfl) T.n_len PySem.boot_len (pa_cons (pv 2) pa_nil)) pe_int (nomark _)) (pe_one (pe_cmpR op_notIn_seq (pv 4) (pv 2) rfl))))))
  (pss_cons (ps_if (PW.pt (pw_and (pt_cmpR op_eq (pe_ix ix_list (pv 3) pe_int (fun _ _ => rfl)) pe_str (nomark _)) (pw_and1 (pt_val (pv 6))))) (pss_cons (ps_expr (pe_bm PySem.F.plainAttrs_list PySem.F.slot_list_append PySem.F.type_list_append mt_append (pv 2) (pa_cons (pv 4) pa_nil)))
  (pss_one (ps_ret pe_bl))) pss_nil)
  (pss_one (ps_ret pe_bl)))))))), ?_⟩
    cases words with
    | nil => exact absurd rfl wne
    | cons w0 t =>
      refine seq_fin (fun σ' H' => σ' = [some (.int b), some (.ref am), some (.ref ak), some (.ref aw), some (.str (t.head?.getD "")), none, none, none, none] ∧ H' = H) ?_ (fun fin => ?_)
      · rintro σ' H' ⟨rfl, rfl⟩
        have ec : cutV ((w0 :: t).map V.str) (some 2) none = (t.drop 1).map V.str := by
          rw [show (2 : Int) = ((2 : Nat) : Int) from rfl, cut_from, ← List.map_drop]
          rfl
        refine ⟨.ref aw, rfl, _, rfl, aw, _, rfl, SqL.of hW, fun sl hsl => ?_⟩
        have s1 := same_new (o := .lst (cutV ((w0 :: t).map V.str) (some 2) none)) hsl
        refine ⟨sl, rfl, ⟨_, SqL.of upd_same⟩, fun D hD => ?_⟩
        have tl1 : (t.drop 1).length ≤ 1000000 := by
          rw [List.length_drop]
          rw [List.length_cons] at wl
          omega
        refine lc_same (K := K) (xs := (t.drop 1).map V.str) fNum (by rw [List.length_map]; omega) (SqL.of (by rw [upd_same, ec])) hD (fun x H' Q' hx s' hq => ?_) (fun _ => rfl) (fun H6 s6 h6 => ?_)
        · obtain ⟨z, hz, rfl⟩ := List.mem_map.mp hx
          exact ⟨_, rfl, z, rfl, wz z (List.mem_cons_of_mem _ (List.mem_of_mem_drop hz)), fun H'' s'' => hq H'' s''⟩
        have s16 := s1.trans s6
        rw [List.map_map] at h6
        refine ⟨.str (t.head?.getD ""), rfl, _, rfl, ?_, fun H7 s7 => ?_⟩
        · cases t with
          | nil => exact Nat.zero_le _
          | cons w1 r => exact wz w1 (List.mem_cons_of_mem _ List.mem_cons_self)
        refine ⟨_, rfl, ?_⟩
        have s17 := s16.trans s7
        cases t with
        | nil => exact qn rfl H7 (Same.k2 s17)
        | cons w1 rest =>
          have h6 : H6 D = some (.lst (rest.map (fNum ∘ V.str))) := h6
          show (if (!isNmB 4 w1) = true then _ else _)
          cases hn : isNmB 4 w1 with
          | false =>
            refine qn (okLine_no ?_) H7 (Same.k2 s17)
            unfold okLine
            rw [hn, Bool.false_and]
          | true =>
            refine ⟨.ref D, rfl, D, rfl, ⟨_, SqL.of (s7 _ _ h6)⟩, fun D2 hD2 => ?_⟩
            refine lc_same (K := K) (xs := rest.map (fNum ∘ V.str)) (fWor b) (by rw [List.length_map]; exact Nat.le_trans tl1 (by decide)) (SqL.of (s7 _ _ h6)) hD2 (fun x H' Q' hx s' hq => ?_) (fun _ => rfl) (fun H8 s8 h8 => ?_)
            · obtain ⟨z, hz, rfl⟩ := List.mem_map.mp hx
              have hq : ∀ H'', Same H' H'' → Q' (fWor b (oint (numQ 14 (tl z)) (numV (tl z)))) H'' := hq
              rw [fWor_oint] at hq
              exact ⟨.int b, rfl, _, rfl, b, _, _, rfl, fun H'' s'' => hq H'' s''⟩
            have e8 : (rest.map (fNum ∘ V.str)).map (fWor b) = (rest.map fun z => numQ 14 (tl z) && wokB b (numV (tl z))).map V.bl := by
              rw [List.map_map, List.map_map]
              refine List.map_congr_left fun z _ => ?_
              exact fWor_oint b _ _
            rw [e8] at h8
            have s18 := s17.trans s8
            refine ⟨D2, _, rfl, SqL.of h8, _, rfl, ?_⟩
            rw [all_id]
            cases ha : rest.all fun z => numQ 14 (tl z) && wokB b (numV (tl z)) with
            | false =>
              refine qn (okLine_no ?_) H8 (Same.k2 s18)
              unfold okLine
              rw [ha, Bool.and_false]
            | true =>
              have ok : okLine b w1 rest = true := by
                unfold okLine
                rw [hn, ha]
                rfl
              have hM8 := s18 _ _ hM
              have hK8 := s18 _ _ hK
              have hW8 := s18 _ _ hW
              have hD8 : H8 D = some (.lst (rest.map (fNum ∘ V.str))) := s8 _ _ (s7 _ _ h6)
              have st : stepM b ms ks (w0 :: w1 :: rest) = if w0 = "mark" ∧ ks = [] ∧ ms.length < 4 ∧ w1 ∉ ms ∧ rest.length = 1 then (if rest = [("0" : Str)] then none else some (ms ++ [w1], ks)) else if w0 = "kind" ∧ rest.length = ms.length * ms.length ∧ ms ≠ [] ∧ ks.length < 3 ∧ w1 ∉ ks then some (ms, ks ++ [w1]) else none := by
                rw [stepM_eq, if_pos ok]
              have strM : ∀ z ∈ ms, PyData.strOk z = true := fun z hz => strOk_nm (mk.m z hz)
              have strK : ∀ z ∈ ks, PyData.strOk z = true := fun z hz => strOk_nm (mk.k z hz)
              refine iteF ?_
              dsimp only [tNext]
              refine seq_fin (fun σ' H' => ∃ v7 v8 : Option V, σ' = [some (.int b), some (.ref am), some (.ref ak), some (.ref aw), some (.str w1), some (.ref D), none, v7, v8] ∧ Same H8 H' ∧ ¬ (w0 = "mark" ∧ ks = [] ∧ ms.length < 4 ∧ w1 ∉ ms ∧ rest.length = 1)) ?_ (fun fin2 => ?_)
              · rintro σ' H9 ⟨v7, v8, rfl, s9, nm⟩
                rw [if_neg nm] at st
                have hM9 := s9 _ _ hM8
                have hK9 := s9 _ _ hK8
                have hW9 := s9 _ _ hW8
                have hD9 := s9 _ _ hD8
                have s19 := s18.trans s9
                refine seq_fin (fun σ' H' => ∃ v7 v8 : Option V, σ' = [some (.int b), some (.ref am), some (.ref ak), some (.ref aw), some (.str w1), some (.ref D), some (.bl (decide (rest.length = ms.length * ms.length ∧ ms ≠ [] ∧ ks.length < 3 ∧ w1 ∉ ks))), v7, v8] ∧ Same H9 H') ?_ (fun fin3 => ?_)
                · rintro σ' H10 ⟨v7, v8, rfl, s10⟩
                  have hK10 := s10 _ _ hK9
                  refine ⟨.ref aw, rfl, aw, _, ((0 : Nat) : Int), _, rfl, rfl, SqL.of (s10 _ _ hW9), atI_nat rfl, rfl, _, rfl, ?_⟩
                  rw [eq_word]
                  refine ite2 (fun hw => ?_) (fun hw => ?_)
                  · have hw : w0 = "kind" := of_decide_eq_true hw
                    refine ⟨_, rfl, _, rfl, ?_⟩
                    refine ite2 (fun hc => ?_) (fun hc => ?_)
                    · have hc := of_decide_eq_true hc
                      rw [if_pos ⟨hw, hc⟩] at st
                      refine ⟨.ref ak, rfl, .inl ⟨rfl, _, SqL.of hK10⟩, .str w1, rfl, ak, _, _, rfl, rfl, hK10, by rw [List.length_map]; exact small1000 (by have := mk.k3; omega), ?_⟩
                      refine qs _ _ st _ (fun x o n1 n2 ho => ?_) ?_ ?_
                      · rw [upd_ne n2]
                        exact s10 _ _ (s19 _ _ ho)
                      · rw [upd_ne nmk]
                        exact s10 _ _ hM9
                      · rw [upd_same, List.map_append]
                        rfl
                    · have hc : ¬ (rest.length = ms.length * ms.length ∧ ms ≠ [] ∧ ks.length < 3 ∧ w1 ∉ ks) := of_decide_eq_false (Bool.eq_false_iff.mpr hc)
                      rw [if_neg fun z => hc z.2] at st
                      exact qn st _ (Same.k2 (s19.trans s10))
                  · have hw : ¬ w0 = "kind" := of_decide_eq_false (Bool.eq_false_iff.mpr hw)
                    rw [if_neg fun z => hw z.1] at st
                    exact qn st _ (Same.k2 (s19.trans s10))
                · have hm2 : ms.length * ms.length ≤ 4 * 4 := Nat.mul_le_mul mk.m4 mk.m4
                  refine ⟨.ref D, rfl, D, _, rfl, .inl (SqL.of hD9), .ref am, rfl, am, _, rfl, .inl (SqL.of hM9), .ref am, rfl, am, _, rfl, .inl (SqL.of hM9), _, _, rfl, rfl, wide_mul (a := 10) (b := 10) (by rw [List.length_map]; have := mk.m4; omega) (by rw [List.length_map]; have := mk.m4; omega) (by decide) (by decide) (by decide), rfl, _, rfl, ?_⟩
                  rw [List.length_map, List.length_map]
                  refine ite2 (fun hc => ?_) (fun hc => ?_)
                  · have c1 : rest.length = ms.length * ms.length := by
                      have e := V.int.inj (of_decide_eq_true hc)
                      rw [← Int.natCast_mul] at e
                      exact Int.ofNat.inj e
                    refine ⟨.ref am, rfl, Nat.zero_le _, fun e he => ?_⟩
                    have se := same_new (o := .lst []) he
                    refine ⟨_, _, .lst (SqL.of (se _ _ hM9)) (dp_strs ms), .lst (SqL.of upd_same) .nil, shaped_strs strM, shaped_nil, _, rfl, ?_⟩
                    rw [eqv_nil]
                    cases hms : decide (ms = []) with
                    | true => exact fin3 _ _ ⟨_, _, by rw [decide_eq_false (fun z : (rest.length = ms.length * ms.length ∧ ms ≠ [] ∧ ks.length < 3 ∧ w1 ∉ ks) => z.2.1 (of_decide_eq_true hms))] <;> rfl, se⟩
                    | false =>
                      have c2 : ms ≠ [] := of_decide_eq_false hms
                      refine ⟨.ref ak, rfl, ak, _, rfl, .inl (SqL.of (se _ _ hK9)), _, _, rfl, rfl, _, rfl, ?_⟩
                      rw [List.length_map]
                      refine ite2 (fun hc => ?_) (fun hc => ?_)
                      · have c3 : ks.length < 3 := by
                          have := of_decide_eq_true hc
                          omega
                        refine ⟨.str w1, rfl, .ref ak, rfl, ak, _, rfl, .inl (SqL.of (se _ _ hK9)), rfl, flat_strs ks, ?_⟩
                        rw [inV_str]
                        refine fin3 _ _ ⟨v7, v8, ?_, se⟩
                        cases hk : decide (w1 ∈ ks) with
                        | true =>
                          rw [decide_eq_false (fun z : (rest.length = ms.length * ms.length ∧ ms ≠ [] ∧ ks.length < 3 ∧ w1 ∉ ks) => z.2.2.2 (of_decide_eq_true hk))]
                          rfl
                        | false =>
                          rw [decide_eq_true (show (rest.length = ms.length * ms.length ∧ ms ≠ [] ∧ ks.length < 3 ∧ w1 ∉ ks) from ⟨c1, c2, c3, of_decide_eq_false hk⟩)]
                          rfl
                      · have c3 : ¬ ks.length < 3 := by
                          have := of_decide_eq_false (Bool.eq_false_iff.mpr hc)
                          omega
                        exact fin3 _ _ ⟨_, _, by rw [decide_eq_false (fun z : (rest.length = ms.length * ms.length ∧ ms ≠ [] ∧ ks.length < 3 ∧ w1 ∉ ks) => c3 z.2.2.1)] <;> rfl, se⟩
                  · have c1 : ¬ rest.length = ms.length * ms.length := fun z => hc (by
                      rw [z]
                      refine decide_eq_true ?_
                      rw [Int.natCast_mul])
                    exact fin3 _ _ ⟨_, _, by rw [decide_eq_false (fun z : (rest.length = ms.length * ms.length ∧ ms ≠ [] ∧ ks.length < 3 ∧ w1 ∉ ks) => c1 z.1)] <;> rfl, Same.refl _⟩
              · refine ⟨.ref aw, rfl, aw, _, ((0 : Nat) : Int), _, rfl, rfl, SqL.of hW8, atI_nat rfl, rfl, _, rfl, ?_⟩
                rw [eq_word]
                refine ite2 (fun hw => ?_) (fun hw => ?_)
                · have c1 : w0 = "mark" := of_decide_eq_true hw
                  refine ⟨.ref ak, rfl, Nat.zero_le _, fun e he => ?_⟩
                  have se := same_new (o := .lst []) he
                  refine ⟨_, _, .lst (SqL.of (se _ _ hK8)) (dp_strs ks), .lst (SqL.of upd_same) .nil, shaped_strs strK, shaped_nil, _, rfl, ?_⟩
                  rw [eqv_nil]
                  refine ite2 (fun hk => ?_) (fun hk => ?_)
                  · have c2 : ks = [] := of_decide_eq_true hk
                    refine ⟨.ref am, rfl, am, _, rfl, .inl (SqL.of (se _ _ hM8)), _, _, rfl, rfl, _, rfl, ?_⟩
                    rw [List.length_map]
                    refine ite2 (fun hl => ?_) (fun hl => ?_)
                    · have c3 : ms.length < 4 := by
                        have := of_decide_eq_true hl
                        omega
                      refine ⟨.str w1, rfl, .ref am, rfl, am, _, rfl, .inl (SqL.of (se _ _ hM8)), rfl, flat_strs ms, _, rfl, ?_⟩
                      rw [inV_str]
                      cases hi : decide (w1 ∈ ms) with
                      | true => exact fin2 _ _ ⟨_, _, rfl, se, fun z => z.2.2.2.1 (of_decide_eq_true hi)⟩
                      | false =>
                        have c4 : w1 ∉ ms := of_decide_eq_false hi
                        refine ⟨.ref D, rfl, D, _, rfl, .inl (SqL.of (se _ _ hD8)), rfl, _, rfl, ?_⟩
                        rw [List.length_map]
                        refine ite2 (fun h1 => ?_) (fun h1 => ?_)
                        · have c5 : rest.length = 1 := by
                            have := V.int.inj (of_decide_eq_true h1)
                            omega
                          rw [if_pos ⟨c1, c2, c3, c4, c5⟩] at st
                          obtain ⟨z, rfl⟩ : ∃ z, rest = [z] := by
                            match rest, c5 with
                            | [z], _ => exact ⟨z, rfl⟩
                          have hz : numQ 14 (tl z) = true := by
                            rw [List.all_cons, Bool.and_eq_true, Bool.and_eq_true] at ha
                            exact ha.1.1
                          have nD : D ≠ am := ne_of_none' hM (s1.free hD) 
                          have hDz := se _ _ hD8
                          refine ⟨.ref am, rfl, .inl ⟨rfl, _, SqL.of (se _ _ hM8)⟩, .str w1, rfl, am, _, _, rfl, rfl, se _ _ hM8, by rw [List.length_map]; exact small1000 (by omega), ?_⟩
                          refine ⟨.ref D, rfl, D, _, ((0 : Nat) : Int), .int (numV (tl z)), rfl, rfl, SqL.of (by rw [upd_ne nD]; exact hDz), atI_nat (by show some (oint (numQ 14 (tl z)) (numV (tl z))) = _; rw [hz]; rfl), rfl, ?_⟩
                          have kp : K2 am ak H' (upd (upd H8 e (.lst [])) am (.lst (ms.map V.str ++ [.str w1]))) := fun x o n1 n2 ho => by
                            rw [upd_ne n1]
                            exact se _ _ (s18 _ _ ho)
                          by_cases h0 : numV (tl z) = 0
                          · rw [decide_eq_true (congrArg V.int h0)]
                            rw [if_pos (show [z] = [("0" : Str)] by rw [(zero_word hz).mp h0])] at st
                            exact qn st _ kp
                          · rw [decide_eq_false (fun q => h0 (V.int.inj q))]
                            rw [if_neg (fun q => h0 ((zero_word hz).mpr (List.cons.inj q).1))] at st
                            refine qs _ _ st _ kp ?_ ?_
                            · rw [upd_same, List.map_append]
                              rfl
                            · rw [upd_ne nmk.symm]
                              exact se _ _ hK8
                        · exact fin2 _ _ ⟨_, _, rfl, se, fun z => h1 (by rw [z.2.2.2.2]; rfl)⟩
                    · exact fin2 _ _ ⟨_, _, rfl, se, fun z => hl (decide_eq_true (by have := z.2.2.1; omega))⟩
                  · exact fin2 _ _ ⟨_, _, rfl, se, fun z => hk (decide_eq_true z.2.1)⟩
                · exact fin2 _ _ ⟨_, _, rfl, Same.refl _, fun z => hw (decide_eq_true z.1)⟩
      · cases t with
        | nil =>
          refine ⟨.ref aw, rfl, aw, _, rfl, .inl (SqL.of hW), _, _, rfl, rfl, _, rfl, ?_⟩
          exact fin _ _ ⟨rfl, rfl⟩
        | cons w1 rest =>
          refine ⟨.ref aw, rfl, aw, _, rfl, .inl (SqL.of hW), _, _, rfl, rfl, _, rfl, ?_⟩
          refine ite2 (fun _ => ?_) (fun h => ?_)
          · exact ⟨.ref aw, rfl, aw, _, ((1 : Nat) : Int), _, rfl, rfl, SqL.of hW, atI_nat rfl, fin _ _ ⟨rfl, rfl⟩⟩
          · refine absurd (decide_eq_true ?_) h
            rw [List.length_map, List.length_cons, List.length_cons]
            omega
end
end OG
set_option Elab.async false
set_option linter.all false
set_option maxRecDepth 100000
set_option maxHeartbeats 4000000
namespace OG
open PySem PySem.Spec PyProof.Rows L2
def primesL : List Int := [2, 3, 5, 7, 11, 13, 17, 19, 23, 29, 31, 37, 41, 43, 47, 53, 59, 61, 67, 71, 73, 79, 83, 89, 97]
theorem spl_ne (S : List Nat) (l : List Nat) : ∀ (k : Nat) (acc : List Nat), TL.spl S k acc l ≠ [] := by
  induction l with
  | nil =>
    intro k acc h
    unfold TL.spl at h
    cases h
  | cons c r ih =>
    intro k acc h
    cases k with
    | zero =>
      simp only [TL.spl] at h
      split at h
      · cases h
      · exact ih _ _ h
    | succ k =>
      simp only [TL.spl] at h
      exact ih _ _ h
theorem split_facts (z y : Str) (hy : y.length = 1) (h256 : y.cps.all (· < 256) = true) : Txt.split z y ≠ [] ∧ (Txt.split z y).length ≤ z.length + 1 ∧ ∀ p ∈ Txt.split z y, p.length ≤ z.length := by
  have hyn : TL.tl y ≠ [] := fun e => by
    have := TL.len_tl y
    rw [e, hy] at this
    cases this
  have e := TL.split_spl z y hyn (TL.kind_ok h256)
  have hne : Txt.split z y ≠ [] := fun n => by
    rw [n] at e
    exact spl_ne _ _ _ _ e.symm
  refine ⟨hne, ?_⟩
  have j := PySem.StrLaws.join_split z y
  have jt := congrArg TL.tl j
  rw [TL.tl_join] at jt
  have key : ∀ (S : List Nat) (ls : List (List Nat)), ls ≠ [] → S.length = 1 → (TL.joinL S ls).length + 1 = (ls.map fun l => l.length + 1).sum := by
    intro S ls
    induction ls with
    | nil => intro h _; exact absurd rfl h
    | cons p r ih =>
      intro _ hS
      cases r with
      | nil =>
        show p.length + 1 = _
        simp
      | cons q r' =>
        have ih := ih (by simp) hS
        show (p ++ (S ++ TL.joinL S (q :: r'))).length + 1 = _
        rw [List.length_append, List.length_append, List.map_cons, List.sum_cons, ← ih]
        omega
  have k := key (TL.tl y) ((Txt.split z y).map TL.tl) (by simpa using hne) (by rw [← TL.len_tl]; exact hy)
  rw [jt, ← TL.len_tl, List.map_map] at k
  have lens : ∀ ls : List Str, ls.length ≤ (ls.map ((fun l => l.length + 1) ∘ TL.tl)).sum ∧ ∀ p ∈ ls, p.length + 1 ≤ (ls.map ((fun l => l.length + 1) ∘ TL.tl)).sum := by
    intro ls
    induction ls with
    | nil => exact ⟨Nat.le_refl _, fun p h => by cases h⟩
    | cons p r ih =>
      rw [List.map_cons, List.sum_cons]
      have ep : ((fun l : List Nat => l.length + 1) ∘ TL.tl) p = p.length + 1 := by
        show (TL.tl p).length + 1 = _
        rw [← TL.len_tl]
      rw [ep]
      refine ⟨by rw [List.length_cons]; omega, fun q hq => ?_⟩
      rcases List.mem_cons.mp hq with e | e
      · rw [e]
        omega
      · have := ih.2 q e
        omega
  obtain ⟨l1, l2⟩ := lens (Txt.split z y)
  exact ⟨by omega, fun p hp => by have := l2 p hp; omega⟩
/-- by, from the words of the first line -/
def byM : List Str → Option Int
  | [w0, w1] => if w0 = "book" ∧ numQ 14 (tl w1) = true ∧ (numV (tl w1) = 0 ∨ numV (tl w1) ∈ primesL) then some (numV (tl w1)) else none
  | _ => none
theorem prime_le {n : Int} (h : n ∈ primesL) : 2 ≤ n ∧ n ≤ 97 := by
  unfold primesL at h
  simp only [List.mem_cons, List.mem_nil_iff, or_false] at h
  omega
theorem byM_ok {ws : List Str} {b : Int} (h : byM ws = some b) : 0 ≤ b ∧ b ≤ 97 := by
  unfold byM at h
  split at h
  · rename_i w0 w1
    by_cases c : w0 = "book" ∧ numQ 14 (tl w1) = true ∧ (numV (tl w1) = 0 ∨ numV (tl w1) ∈ primesL)
    · rw [if_pos c] at h
      have e := Option.some.inj h
      rw [← e]
      rcases c.2.2 with q | q
      · rw [q]
        decide
      · have := prime_le q
        omega
    · rw [if_neg c] at h
      cases h
  · cases h
def walkM (b : Int) : List Str → Nat → List Str → List Str → Nat ⊕ (List Str × List Str)
  | [], _, ms, ks => .inr (ms, ks)
  | l :: r, i, ms, ks => match stepM b ms ks (Txt.split l " ") with
    | none => .inl i
    | some mk => walkM b r (i + 1) mk.1 mk.2
/-- the number of the first wrong line -/
def wrongM (z : Str) : Option Nat :=
  match byM (Txt.split ((Txt.split z "\n").head?.getD "") " ") with
  | none => some 1
  | some b => match walkM b ((Txt.split z "\n").drop 1) 2 [] [] with
    | .inl i => some i
    | .inr mk => if mk.2 = [] then some ((Txt.split z "\n").length + 1) else none
def wV : Option Nat → V
  | none => .non
  | some n => .int (n : Int)
end OG
set_option Elab.async false
set_option linter.all false
set_option maxRecDepth 100000
set_option maxHeartbeats 8000000
namespace OG
open PySem PySem.Spec PyProof.Rows L2
/-- for i, x in enumerate(list): the pair is a new tuple at T -/
theorem for_enum {K : PySem.W.Frag} {a : Addr} {xs : List V} {g : TG} {tb : TS} {D : Ends} {σ : L2.St} {H : Hp} (Pv : Nat → L2.St → Hp → Prop) (h0 : Pv 0 σ H) (hq : ∀ i σ H, Pv i σ H → SqL K H a xs)
    (hs : ∀ (i : Nat) (x : V) (T : Addr) (σ : L2.St) (H : Hp), xs[i]? = some x → Pv i σ H → H T = none → g (.ref T) σ (upd H T (.tup [.int (i : Nat), x])) fun σ2 H2 => tb { D with nx := Pv (i + 1), ct := Pv (i + 1), bk := D.nx } σ2 H2) (hd : ∀ σ H, Pv xs.length σ H → D.nx σ H) :
    ∃ W : Nat → Nat → L2.St → Hp → Prop, (∃ m, W 0 m σ H) ∧ ∀ i m σ H, W i m σ H →
      ((Ite K a).stop i H ∧ D.nx σ H) ∨ ((Ite K a).go i H ∧ ∃ N : L2.St → Hp → Prop, (∀ σ' H', N σ' H' → ∃ m', m' < m ∧ W (i + 1) m' σ' H') ∧ ∀ v H', (Ite K a).yld i H v H' → g v σ H' fun σ2 H2 => tb { D with nx := N, ct := N, bk := D.nx } σ2 H2) := by
  refine ⟨fun i m σ H => m = xs.length - i ∧ i ≤ xs.length ∧ Pv i σ H, ⟨xs.length, rfl, Nat.zero_le _, h0⟩, ?_⟩
  rintro i m σ H ⟨rfl, hi, p⟩
  have q := hq i σ H p
  by_cases hlt : i < xs.length
  · refine .inr ⟨⟨xs, xs[i], q, List.getElem?_eq_getElem hlt⟩, Pv (i + 1), fun σ' H' p' => ⟨xs.length - (i + 1), by omega, rfl, hlt, p'⟩, fun v H' hy => ?_⟩
    obtain ⟨T, x, rfl, nT, rfl, f⟩ := hy
    exact hs i x T σ H (f xs q) p nT
  · have e : i = xs.length := by omega
    subst e
    exact .inl ⟨⟨xs, q, Nat.le_refl _⟩, hd σ H p⟩
/-- what a text or another value is -/
def NearV (H : Hp) : V → Prop
  | .non => True
  | .bl _ => True
  | .int _ => True
  | .str z => z.length ≤ 900000
  | .ref a => (∃ xs, H a = some (.lst xs)) ∨ (∃ xs, H a = some (.tup xs)) ∨ ∃ kvs, H a = some (.dK kvs)
  | _ => False
theorem NearV.same {H H' : Hp} (s : Same H H') : ∀ {v : V}, NearV H v → NearV H' v
  | .non, h => h
  | .bl _, h => h
  | .int _, h => h
  | .str _, h => h
  | .ref a, h => by
    rcases h with ⟨xs, h⟩ | ⟨xs, h⟩ | ⟨xs, h⟩
    · exact .inl ⟨xs, s _ _ h⟩
    · exact .inr (.inl ⟨xs, s _ _ h⟩)
    · exact .inr (.inr ⟨xs, s _ _ h⟩)
def isStr : V → Bool
  | .str _ => true
  | _ => false
/-- isinstance(v, str) -/
theorem isi_ty {K : PySem.W.Frag} {H : Hp} : ∀ {v : V}, NearV H v → ∃ t, TyX K H v t ∧ PySem.W.kitOne K t (.type "str") = some (isStr v)
  | .non, _ => ⟨_, .base .non, kit_ty (r := false) (by decide +kernel)⟩
  | .bl b, _ => ⟨_, .base (.bl b), kit_ty (r := false) (by decide +kernel)⟩
  | .int i, _ => ⟨_, .base (.int i), kit_ty (r := false) (by decide +kernel)⟩
  | .str z, _ => ⟨_, .base (.str z), kit_ty (r := true) (by decide +kernel)⟩
  | .ref a, h => by
    rcases h with ⟨xs, h⟩ | ⟨xs, h⟩ | ⟨xs, h⟩
    · exact ⟨_, .base (.lst h), kit_ty (r := false) (by decide +kernel)⟩
    · exact ⟨_, .base (.tup h), kit_ty (r := false) (by decide +kernel)⟩
    · exact ⟨_, .base (.dK h), kit_ty (r := false) (by decide +kernel)⟩
/-- what the law tells of a value: None, or a number of a line -/
def dueM : V → Option Nat
  | .str z => wrongM z
  | _ => some 0
section
variable {P : Program} {w : World} {K : PySem.W.Frag} {mg : Str → Option Value} {base : Heap}
def spPrimes : Sp := fun vs H Q _ => vs = [] ∧ ∀ (p : Addr) (H' : Hp), Same H H' → H' p = some (.lst (primesL.map V.int)) → Q (.ref p) H'
theorem ok_l_books_primes (T : Txt K mg) : FnOk P w K mg base CX0 1 T.f_l_books_primes T.fd_l_books_primes [] (spPrimes) := by
  refine T.F_l_books_primes.ok sc_l_books_primes (fun vs H Q E h => ?_) (fun cdv A outer s H vs Q E hr h => ?_)
  · obtain ⟨rfl, _⟩ := h
    rfl
  · obtain ⟨rfl, q⟩ := h
    refine ⟨_, (pss_one (ps_ret (pe_lst (pa_cons pe_int (pa_cons pe_int (pa_cons pe_int (pa_cons pe_int (pa_cons pe_int (pa_cons pe_int (pa_cons pe_int (pa_cons pe_int (pa_cons pe_int (pa_cons pe_int (pa_cons pe_int (pa_cons pe_int (pa_cons pe_int (pa_cons pe_int (pa_cons pe_int (pa_cons pe_int (pa_cons pe_int (pa_cons pe_int (pa_cons pe_int (pa_cons pe_int (pa_cons pe_int (pa_cons pe_int (pa_cons pe_int (pa_cons pe_int (pa_cons pe_int pa_nil)))))))))))))))))))))))))))), ?_⟩
    exact ⟨by decide, fun l hl => q l _ (same_new hl) upd_same⟩
def spWrong : Sp := fun vs H Q _ => ∃ (v : V), vs = [v] ∧ NearV H v ∧ ∀ H', Same H H' → Q (wV (dueM v)) H'
theorem ok_l_books_wrong (T : Txt K mg) : FnOk P w K mg base CX0 3 T.f_l_books_wrong T.fd_l_books_wrong ["text"] (spWrong) := by
  refine T.F_l_books_wrong.ok sc_l_books_wrong (fun vs H Q E h => ?_) (fun cdv A outer s H vs Q E hr h => ?_)
  · obtain ⟨v, rfl, _⟩ := h
    rfl
  · obtain ⟨v, rfl, hv, q⟩ := h
    refine ⟨_, (pss_cons (ps_if (pt_not (pt_val (pe_callB call_isi (by rfl) T.n_isinstance (by decide +kernel) (pa_cons (pv 0) (pa_cons (pe_bltn (v := .ty "str") (by rfl) T.n_str (by decide +kernel) rfl) pa_nil))))) (pss_one (ps_ret pe_int)) pss_nil)
  (pss_cons (ps_par3 (i := 1) (j := 2) (l := 3) (by rfl) sc_l_books_wrong.nd rfl rfl rfl (by decide) (by decide) (by decide) rfl rfl rfl (pa_cons (pe_split (pv 0) pe_str) (pa_cons (pe_lst pa_nil) (pa_cons (pe_lst pa_nil) pa_nil))) (by rfl))
  (pss_cons (ps_set (i := 4) sc_l_books_wrong.nd rfl (Or.inl rfl) (pe_split (pe_ix ix_list (pv 1) pe_int (fun _ _ => rfl)) pe_str))
  (pss_cons (ps_set (i := 5) sc_l_books_wrong.nd rfl (Or.inl rfl) (pe_ifExp (PW.pt (pw_and (pt_cmpR op_eq (pe_callB call_len_seq (by rfl) T.n_len PySem.boot_len (pa_cons (pv 4) pa_nil)) pe_int (nomark _)) (pw_and1 (pt_cmpR op_eq (pe_ix ix_list (pv 4) pe_int (fun _ _ => rfl)) pe_str (nomark _))))) (pe_call (ok_l_books_number T) (hr.mono (by decide)) (by rfl) T.g_l_books_number T.F_l_books_number.kp T.b_l_books_number .nil pass0 (pa_cons (pe_ix ix_list (pv 4) pe_int (fun _ _ => rfl)) pa_nil)) pe_non))
  (pss_cons (ps_if (PW.pt (pw_and (pt_cmpR op_ne (pv 5) pe_int (nomark _)) (pw_and1 (pt_cmpR op_notIn_seq (pv 5) (pe_call0 (ok_l_books_primes T) (hr.mono (by decide)) (by rfl) T.g_l_books_primes T.F_l_books_primes.kp T.b_l_books_primes .nil pass0) rfl)))) (pss_one (ps_ret pe_int)) pss_nil)
  (pss_cons (ps_for PassesOwn.never rfl (pi_enum (by rfl) T.n_enumerate (pa_cons (pe_slice sl_list (pv 1) (po_some pe_int) po_none) pa_nil)) (pg_tup (by rfl) (pgs_cons (pg_name (i := 6) sc_l_books_wrong.nd rfl (Or.inl rfl)) (pgs_cons (pg_name (i := 7) sc_l_books_wrong.nd rfl (Or.inl rfl)) pgs_nil))) (pss_one (ps_if (pt_not (pt_val (pe_call (ok_l_books_can_stand T) (hr.mono (by decide)) (by rfl) T.g_l_books_can_stand T.F_l_books_can_stand.kp T.b_l_books_can_stand .nil pass0 (pa_cons (pv 5) (pa_cons (pv 2) (pa_cons (pv 3) (pa_cons (pe_split (pv 7) pe_str) pa_nil))))))) (pss_one (ps_ret (pe_op op_add (pv 6) pe_int))) pss_nil)))
  (pss_one (ps_ret (pe_ifExp (pt_cmpR (op_neD hr.units) (pv 3) (pe_lst pa_nil) (nomark _)) pe_non (pe_op op_add (pe_callB call_len_seq (by rfl) T.n_len PySem.boot_len (pa_cons (pv 1) pa_nil)) pe_int)))))))))), ?_⟩
    obtain ⟨t, ty, kt⟩ := isi_ty (K := K) hv
    refine ⟨v, rfl, _, _, t, _, _, rfl, .ty _, ty, kt, ?_⟩
    refine ⟨_, rfl, ?_⟩
    by_cases hs : ∃ z, v = .str z
    · obtain ⟨z, rfl⟩ := hs
      have hz : z.length ≤ 900000 := hv
      refine iteF ?_
      dsimp only [tNext]
      have q : ∀ H', Same H H' → Q (wV (wrongM z)) H' := q
      obtain ⟨n1, l1, p1⟩ := split_facts z "\n" rfl (by decide +kernel)
      have em : wrongM z = match byM (Txt.split ((Txt.split z "\n").head?.getD "") " ") with
        | none => some 1
        | some b => match walkM b ((Txt.split z "\n").drop 1) 2 [] [] with
          | .inl i => some i
          | .inr mk => if mk.2 = [] then some ((Txt.split z "\n").length + 1) else none := rfl
      rw [em] at q
      obtain ⟨ls, hls⟩ : ∃ ls, Txt.split z "\n" = ls := ⟨_, rfl⟩
      rw [hls] at q n1 l1 p1
      refine ⟨.str z, rfl, ⟨_, rfl⟩, z, _, rfl, rfl, rfl, le_line (by omega), fun pl hpl => ?_⟩
      rw [hls]
      refine ⟨Nat.zero_le _, fun am ham => ?_⟩
      refine ⟨Nat.zero_le _, fun ak hak => ?_⟩
      refine ⟨_, _, _, rfl, ?_⟩
      have s1 := same_new (o := .lst (ls.map V.str)) hpl
      have s2 := same_new (o := .lst []) ham
      have s3 := same_new (o := .lst []) hak
      have sA := (s1.trans s2).trans s3
      have hpl3 : (upd (upd (upd H pl (.lst (ls.map V.str))) am (.lst [])) ak (.lst [])) pl = some (.lst (ls.map V.str)) := s3 _ _ (s2 _ _ upd_same)
      have ham3 : (upd (upd (upd H pl (.lst (ls.map V.str))) am (.lst [])) ak (.lst [])) am = some (.lst []) := s3 _ _ upd_same
      have hak3 : (upd (upd (upd H pl (.lst (ls.map V.str))) am (.lst [])) ak (.lst [])) ak = some (.lst []) := upd_same
      have nmk : am ≠ ak := fun e => by
        rw [← e, upd_same] at hak
        cases hak
      generalize upd (upd (upd H pl (.lst (ls.map V.str))) am (.lst [])) ak (.lst []) = H3 at *
      obtain ⟨l0, lr, rfl⟩ : ∃ l0 lr, ls = l0 :: lr := by
        cases ls with
        | nil => exact absurd rfl n1
        | cons a b => exact ⟨a, b, rfl⟩
      have hl0 : l0.length ≤ 900000 := Nat.le_trans (p1 l0 List.mem_cons_self) hz
      have q : ∀ H', Same H H' → Q (wV (match byM (Txt.split l0 " ") with
        | none => some 1
        | some b => match walkM b lr 2 [] [] with
          | .inl i => some i
          | .inr mk => if mk.2 = [] then some (lr.length + 1 + 1) else none)) H' := q
      refine ⟨.ref pl, rfl, pl, _, ((0 : Nat) : Int), _, rfl, rfl, SqL.of hpl3, atI_nat rfl, ⟨_, rfl⟩, l0, _, rfl, rfl, rfl, le_line (by omega), fun wl hwl => ?_⟩
      obtain ⟨m1, m2, m3⟩ := split_facts l0 " " rfl (by decide +kernel)
      obtain ⟨ws, hws⟩ : ∃ ws, Txt.split l0 " " = ws := ⟨_, rfl⟩
      rw [hws] at q m1 m2 m3
      rw [hws]
      have s4 := same_new (o := .lst (ws.map V.str)) hwl
      have hwl4 : (upd H3 wl (.lst (ws.map V.str))) wl = some (.lst (ws.map V.str)) := upd_same
      generalize upd H3 wl (.lst (ws.map V.str)) = H4 at *
      dsimp only [gName]
      refine seq_fin (fun σ' H' => ∃ (c : Bool) (n : Int), σ' = [some (.str z), some (.ref pl), some (.ref am), some (.ref ak), some (.ref wl), some (oint c n), none, none] ∧ Same H4 H' ∧ byM ws = (if c = true ∧ (n = 0 ∨ n ∈ primesL) then some n else none)) ?_ (fun fin => ?_)
      · rintro σ' H5 ⟨c, n, rfl, s5, hby⟩
        have sB := (sA.trans s4).trans s5
        have hpl5 := s5 _ _ (s4 _ _ hpl3)
        have ham5 := s5 _ _ (s4 _ _ ham3)
        have hak5 := s5 _ _ (s4 _ _ hak3)
        have namH : ∀ a o, H a = some o → a ≠ am := fun a o ho => ne_of_none (s1 _ _ ho) ham
        have nakH : ∀ a o, H a = some o → a ≠ ak := fun a o ho => ne_of_none (s2 _ _ (s1 _ _ ho)) hak
        have one : byM ws = none → ∀ H', Same H H' → Q (.int 1) H' := fun e H' s' => by
          have e2 := q H' s'
          rw [e] at e2
          exact e2
        refine seq_fin (fun σ' H' => ∃ b : Int, σ' = [some (.str z), some (.ref pl), some (.ref am), some (.ref ak), some (.ref wl), some (.int b), none, none] ∧ Same H5 H' ∧ byM ws = some b) ?_ (fun fin2 => ?_)
        · rintro σ' H6 ⟨b, rfl, s6, hb⟩
          rw [hb] at q
          obtain ⟨b0, b97⟩ := byM_ok hb
          have q : ∀ H', Same H H' → Q (wV (match walkM b lr 2 [] [] with
            | .inl i => some i
            | .inr mk => if mk.2 = [] then some (lr.length + 1 + 1) else none)) H' := q
          have s06 := sB.trans s6
          have ec : cutV ((l0 :: lr).map V.str) (some 1) none = lr.map V.str := by
            rw [show (1 : Int) = ((1 : Nat) : Int) from rfl, cut_from]
            rfl
          refine ⟨.ref pl, rfl, _, rfl, pl, _, rfl, SqL.of (s6 _ _ hpl5), fun sl hsl => ?_⟩
          have s7 := same_new (o := .lst (cutV ((l0 :: lr).map V.str) (some 1) none)) hsl
          refine ⟨sl, _, rfl, SqL.of upd_same, ?_⟩
          rw [ec] at s7 ⊢
          have hsl7 : (upd H6 sl (.lst (lr.map V.str))) sl = some (.lst (lr.map V.str)) := upd_same
          have s07 := s06.trans s7
          have ham7 := s7 _ _ (s6 _ _ ham5)
          have hak7 := s7 _ _ (s6 _ _ hak5)
          have nsm : sl ≠ am := fun e => by
            rw [e, s6 _ _ ham5] at hsl
            cases hsl
          have nsk : sl ≠ ak := fun e => by
            rw [e, s6 _ _ hak5] at hsl
            cases hsl
          have hpl7 := s7 _ _ (s6 _ _ hpl5)
          have npm : pl ≠ am := fun e => by
            rw [← e, upd_same] at ham
            cases ham
          have npk : pl ≠ ak := ne_of_none (s2 _ _ upd_same) hak
          generalize upd H6 sl (.lst (lr.map V.str)) = H7 at *
          refine for_enum (K := K) (a := sl) (xs := lr.map V.str) (fun i σ H' => ∃ (v6 v7 : Option V) (ms ks : List Str), σ = [some (.str z), some (.ref pl), some (.ref am), some (.ref ak), some (.ref wl), some (.int b), v6, v7] ∧ K2 am ak H7 H' ∧ H' am = some (.lst (ms.map V.str)) ∧ H' ak = some (.lst (ks.map V.str)) ∧ MkOk ms ks ∧ i ≤ lr.length ∧
              walkM b lr 2 [] [] = walkM b (lr.drop i) (i + 2) ms ks)
            ⟨none, none, [], [], rfl, fun _ _ _ _ h => h, ham7, hak7, MkOk.nil, Nat.zero_le _, rfl⟩ (fun i σ H' ⟨_, _, _, _, _, k2, _⟩ => SqL.of (k2 _ _ nsm nsk hsl7)) ?_ ?_
          · rintro i x T0 σ H8 hx ⟨v6, v7, ms, ks, rfl, k2, h1, h2, mk, hi, hw⟩ hT0
            obtain ⟨l, hl, rfl⟩ := str_at hx
            have hil : i < lr.length := (List.getElem?_eq_some_iff.mp hl).1
            have ll : l.length ≤ 900000 := Nat.le_trans (p1 l (List.mem_cons_of_mem _ (List.mem_of_getElem? hl))) hz
            have sT := same_new (o := .tup [.int (i : Nat), .str l]) hT0
            refine ⟨T0, _, rfl, SqT.of upd_same, rfl, _, _, rfl, _, _, rfl, rfl, ?_⟩
            refine ⟨_, rfl, .ref am, rfl, .ref ak, rfl, ⟨.str l, rfl, ⟨_, rfl⟩, l, _, rfl, rfl, rfl, le_line (by omega), fun aw haw => ?_⟩⟩
            obtain ⟨u1, u2, u3⟩ := split_facts l " " rfl (by decide +kernel)
            have sw := sT.trans (same_new (o := .lst ((Txt.split l " ").map V.str)) haw)
            have kH : ∀ H9, K2 am ak (upd (upd H8 T0 (.tup [.int (i : Nat), .str l])) aw (.lst ((Txt.split l " ").map V.str))) H9 → K2 am ak H7 H9 := fun H9 k9 a o n1 n2 ho => k9 a o n1 n2 (sw _ _ (k2 a o n1 n2 ho))
            have kS : ∀ H9, K2 am ak H7 H9 → Same H H9 := fun H9 k9 a o ho => k9 a o (namH a o ho) (nakH a o ho) (s07 _ _ ho)
            have wdrop : lr.drop i = l :: lr.drop (i + 1) := by
              rw [List.drop_eq_getElem_cons hil]
              have e := (List.getElem?_eq_some_iff.mp hl).2
              rw [e]
            rw [wdrop] at hw
            refine ⟨b, am, ak, aw, ms, ks, Txt.split l " ", rfl, sw _ _ h1, sw _ _ h2, nmk, upd_same, u1, by omega, fun y hy => Nat.le_trans (u3 y hy) (by omega), mk, b0, b97, fun hn H9 k9 => ?_, fun ms' ks' hs H9 k9 g1 g2 => ?_⟩
            · refine ⟨_, rfl, _, rfl, _, _, rfl, rfl, ?_⟩
              have e := q H9 (kS H9 (kH H9 k9))
              have ew : walkM b lr 2 [] [] = .inl (i + 2) := by
                rw [hw]
                show (match stepM b ms ks (Txt.split l " ") with
                  | none => Sum.inl (i + 2)
                  | some mk => walkM b (lr.drop (i + 1)) (i + 2 + 1) mk.1 mk.2) = _
                rw [hn]
              rw [ew] at e
              have e : Q (.int (((i + 2 : Nat)) : Int)) H9 := e
              rw [show (((i + 2 : Nat)) : Int) = ((i : Nat) : Int) + 2 by omega] at e
              exact e
            · refine ⟨_, rfl, _, _, ms', ks', rfl, kH H9 k9, g1, g2, mk.step hs, by omega, ?_⟩
              rw [hw]
              show (match stepM b ms ks (Txt.split l " ") with
                | none => Sum.inl (i + 2)
                | some mk => walkM b (lr.drop (i + 1)) (i + 2 + 1) mk.1 mk.2) = _
              rw [hs]
          · rintro σ H8 ⟨v6, v7, ms, ks, rfl, k2, h1, h2, mk, hi, hw⟩
            rw [List.length_map, List.drop_length] at hw
            have hw : walkM b lr 2 [] [] = .inr (ms, ks) := hw
            rw [hw] at q
            have kS : ∀ H9, K2 am ak H7 H9 → Same H H9 := fun H9 k9 a o ho => k9 a o (namH a o ho) (nakH a o ho) (s07 _ _ ho)
            have strK : ∀ y ∈ ks, PyData.strOk y = true := fun y hy => strOk_nm (mk.k y hy)
            refine ⟨.ref ak, rfl, Nat.zero_le _, fun e he => ?_⟩
            have se := same_new (o := .lst []) he
            refine ⟨_, _, .lst (SqL.of (se _ _ h2)) (dp_strs ks), .lst (SqL.of upd_same) .nil, shaped_strs strK, shaped_nil, _, rfl, ?_⟩
            rw [eqv_nil]
            have sF : Same H (upd H8 e (.lst [])) := (kS H8 k2).trans se
            have q9 := q _ sF
            by_cases hk : ks = []
            · rw [decide_eq_true hk]
              have q9 : Q (wV (if ks = [] then some (lr.length + 1 + 1) else none)) (upd H8 e (.lst [])) := q9
              rw [if_pos hk] at q9
              refine ⟨.ref pl, rfl, pl, _, rfl, .inl (SqL.of (se _ _ (k2 _ _ npm npk hpl7))), _, _, rfl, rfl, ?_⟩
              rw [List.length_map]
              exact q9
            · rw [decide_eq_false hk]
              have q9 : Q (wV (if ks = [] then some (lr.length + 1 + 1) else none)) (upd H8 e (.lst [])) := q9
              rw [if_neg hk] at q9
              exact q9
        · cases c with
          | false =>
            rw [if_neg (fun z => by cases z.1)] at hby
            refine ⟨_, rfl, rfl, _, rfl, ?_⟩
            refine ⟨_, rfl, rfl, fun pp H6 s6 h6 => ?_⟩
            refine ⟨pp, _, rfl, .inl (SqL.of h6), rfl, flat_ints _, _, rfl, ?_⟩
            have en : inV (oint false n) (primesL.map V.int) = false := inV_non _
            rw [en]
            exact one hby H6 (sB.trans s6)
          | true =>
            refine ⟨_, rfl, rfl, _, rfl, ?_⟩
            refine ite2 (fun h0 => ?_) (fun h0 => ?_)
            · have h0 : ¬ n = 0 := fun e => by
                rw [e] at h0
                cases h0
              refine ⟨_, rfl, rfl, fun pp H6 s6 h6 => ?_⟩
              refine ⟨pp, _, rfl, .inl (SqL.of h6), rfl, flat_ints _, _, rfl, ?_⟩
              have en : inV (oint true n) (primesL.map V.int) = decide (n ∈ primesL) := inV_int _ _
              rw [en]
              by_cases hp : n ∈ primesL
              · rw [decide_eq_true hp]
                rw [if_pos ⟨rfl, .inr hp⟩] at hby
                exact fin2 _ _ ⟨n, rfl, s6, hby⟩
              · rw [decide_eq_false hp]
                rw [if_neg (fun z => z.2.elim h0 hp)] at hby
                exact one hby H6 (sB.trans s6)
            · have h0 : n = 0 := by
                by_cases e : n = 0
                · exact e
                · refine absurd ?_ h0
                  show (!decide (V.int n = V.int 0)) = true
                  rw [decide_eq_false (fun z => e (V.int.inj z))]
                  rfl
              rw [if_pos ⟨rfl, .inl h0⟩] at hby
              exact fin2 _ _ ⟨n, rfl, Same.refl _, hby⟩
      · refine ⟨.ref wl, rfl, wl, _, rfl, .inl (SqL.of hwl4), rfl, _, rfl, ?_⟩
        rw [List.length_map]
        refine ite2 (fun h2 => ?_) (fun h2 => ?_)
        · have h2 : ws.length = 2 := by
            have := V.int.inj (of_decide_eq_true h2)
            omega
          obtain ⟨w0, w1, rfl⟩ : ∃ w0 w1, ws = [w0, w1] := by
            match ws, h2 with
            | [a, b], _ => exact ⟨a, b, rfl⟩
          refine ⟨.ref wl, rfl, wl, _, ((0 : Nat) : Int), _, rfl, rfl, SqL.of hwl4, atI_nat rfl, rfl, _, rfl, ?_⟩
          rw [eq_word]
          refine ite2 (fun hw => ?_) (fun hw => ?_)
          · have hw : w0 = "book" := of_decide_eq_true hw
            have l1 : w1.length ≤ 10000000 := Nat.le_trans (m3 w1 (by simp)) (by omega)
            refine ⟨.ref wl, rfl, wl, _, ((1 : Nat) : Int), _, rfl, rfl, SqL.of hwl4, atI_nat rfl, w1, rfl, l1, fun H5 s5 => ?_⟩
            refine fin _ _ ⟨numQ 14 (tl w1), numV (tl w1), rfl, s5, ?_⟩
            show (if w0 = "book" ∧ numQ 14 (tl w1) = true ∧ (numV (tl w1) = 0 ∨ numV (tl w1) ∈ primesL) then some (numV (tl w1)) else none) = _
            by_cases c : numQ 14 (tl w1) = true ∧ (numV (tl w1) = 0 ∨ numV (tl w1) ∈ primesL)
            · rw [if_pos ⟨hw, c⟩, if_pos c]
            · rw [if_neg fun z => c z.2, if_neg c]
          · refine fin _ _ ⟨false, 0, rfl, Same.refl _, ?_⟩
            have hw : ¬ w0 = "book" := of_decide_eq_false (Bool.eq_false_iff.mpr hw)
            show (if w0 = "book" ∧ numQ 14 (tl w1) = true ∧ (numV (tl w1) = 0 ∨ numV (tl w1) ∈ primesL) then some (numV (tl w1)) else none) = _
            rw [if_neg fun z => hw z.1]
            rfl
        · refine fin _ _ ⟨false, 0, rfl, Same.refl _, ?_⟩
          have h2 : ¬ ws.length = 2 := fun e => h2 (decide_eq_true (by rw [e]; rfl))
          unfold byM
          split
          · exact absurd rfl h2
          · rfl
    · have e : dueM v = some 0 := by
        cases v <;> first | rfl | exact absurd ⟨_, rfl⟩ hs
      have e2 : isStr v = false := by
        cases v <;> first | rfl | exact absurd ⟨_, rfl⟩ hs
      rw [e2]
      rw [e] at q
      exact q H (Same.refl H)
end
end OG
set_option Elab.async false
set_option linter.all false
set_option maxRecDepth 100000
set_option maxHeartbeats 4000000
namespace OGX
open PySem PySem.Spec PyProof.Rows L2
/-- at a: an exception of the class cls that is kept, its dict at d -/
def ExV (cls : Value) (d : Option Addr) (a : Addr) : HO := .ext fun h => ∃ (oe : Obj) (vs : Array Value), h.get? a = some oe ∧ Zc cls d oe ∧ oe.data = .fields vs
theorem exV_ok {P : Program} {w : World} {H : Hp} {h : Heap} {a : Addr} {cls : Value} {d : Option Addr} {oe : Obj} {vs : Array Value} (e : h.get? a = some oe) (z : Zc cls d oe) (dd : oe.data = .fields vs) : ObjOk P w H h a (ExV cls d a) :=
  ⟨⟨oe, vs, e, z, dd⟩, ⟨_, e⟩, fun h1 h2 z k => by
    obtain ⟨oe, vs, e, z, dd⟩ := z
    exact ⟨oe, vs, k _ e, z, dd⟩⟩
section
variable {X : Cx} {pins : List (Addr × Obj)} {σ : L2.St} {H : Hp} {s : Shared}
theorem keepX {a : Addr} {cls : Value} {d : Option Addr} {oe : Obj} {vs : Array Value} (I : Inv X pins σ H s) (ha : s.heap.get? a = some oe) (hz : Zc cls d oe) (hd : oe.data = .fields vs) (na : H a = none) (n0 : X.s_0.heap.get? a = none) (nL : a ≠ X.env.locals) (np : ∀ p ∈ X.pn ++ pins, p.1 ≠ a) :
    Inv X pins σ (upd H a (ExV cls d a)) s := by
  have ne : ∀ {b : Addr} {o : HO}, H b = some o → b ≠ a := fun {b o} e z => by
    rw [z, na] at e
    cases e
  have b0 := I.base
  refine ⟨I.ok, I.os, I.bare, ?_, I.loc, I.cell, ?_, fun x c e => ?_, fun p hp => ?_, fun b o q => ?_, I.len⟩
  · exact {
      keep := fun b o q n hf hx => b0.keep b o q n hf hx
      slot := fun b o q n hf hx => b0.slot b o q n hf hx
      free := fun b o q n hx => by
        rw [upd_ne (fun z => by rw [z, n0] at q; cases q)]
        exact b0.free b o q n hx
      there := fun b o q hx => b0.there b o q hx
      tups := fun b xs q => by
        have e := b0.tups b xs q
        rw [upd_ne (ne e)]
        exact e
      frzs := fun b o v q => by
        have e := b0.frzs b o v q
        rw [upd_ne (ne e)]
        exact e
      tbls := fun b ps q => by
        obtain ⟨more, e⟩ := b0.tbls b ps q
        exact ⟨more, by rw [upd_ne (ne e)]; exact e⟩ }
  · rw [upd_ne (Ne.symm nL)]
    exact I.free
  · rw [upd_ne (fun z => ?_)]
    · exact I.freeC x c e
    · obtain ⟨v, o, ho, hc⟩ := I.cell x c e
      rw [z, ha] at ho
      cases ho
      rw [hd] at hc
      cases hc
  · obtain ⟨p1, p2, p3⟩ := I.pin p hp
    exact ⟨p1, by rw [upd_ne (np p hp)]; exact p2, p3⟩
  · by_cases hb : b = a
    · subst hb
      rw [upd_same] at q
      cases q
      exact exV_ok ha hz hd
    · rw [upd_ne hb] at q
      exact (I.hok b o q).stay (fun c v hc z => z) (fun c hc => by rw [upd_ne (ne hc)]; exact hc) (fun c xs hc => by rw [upd_ne (ne hc)]; exact hc)
end
/-- what the clause 'except x as n' wishes, the exception kept behind the suite -/
def wKeep (K : PySem.W.Frag) (c : Value) (i : Nat) (ts : Addr → Value → Option Addr → TS) (Wout : WX) (D : Ends) : WX := fun cls d σ H =>
  ∃ b, PySem.W.exmOne K cls c = some b ∧ (b = true → ∀ a, H a = none → ts a cls d { nx := fun σ' H' => H' a = none → D.nx (σ'.set i none) (upd H' a (ExV cls d a)), rt := fun _ _ => False, bk := fun _ _ => False, ct := fun _ _ => False } (σ.set i (some (.ref a))) H) ∧
    (b = false → Wout cls d σ H)
section
variable {X : Cx} {x n : Str} {c : Value} {i : Nat} {body suite : List Stmt} {b₀ : Stmt} {np pos pos' : Pos} {tb : WX → TS} {ts : Addr → Value → Option Addr → TS} {Wout : WX}
theorem ps_try_keep (hex : X.ex = []) (hs : X.stack = X.env :: X.outer) (hf : X.env.frame = some X.env.locals) (hN : X.N.Nodup) (hi : X.N[i]? = some n) (hln : X.env.kindOf n = some .local) (hc : Names X x c) (tk : Takes X Wout)
    (hb : ∀ (W : WX) (pn : List (Addr × Obj)) (xe : Value → Shared → Prop), Takes (X.tr pn xe) W → PassesOwn (model X.prog X.w) X.A X.env xe → PSs (X.tr pn xe) body (tb W))
    (hsu : ∀ (a : Addr) (oe : Obj) (cls : Value) (d : Option Addr) (pn : List (Addr × Obj)), Zc cls d oe → (∃ vs, oe.data = .fields vs) → PSs (X.suite a ((a, oe) :: pn)) (b₀ :: suite) (ts a cls d)) :
    PS X (.Try body [.ExceptHandler (some (.Name x np)) (some n) (b₀ :: suite) pos'] [] [] pos) (fun D σ H => tb (wKeep X.K c i ts Wout D) D σ H) := by
  refine ⟨fun pins s σ H D I h => ?_⟩
  have ok := I.ok
  have hfr : X.A.frames = some (X.env :: X.outer) := by rw [ok.frames, hs]
  have hloc : Loc X.env.scope n := .inl hln
  refine wpAny_Try_except ?_
  refine wpAny_mono ((hb (wKeep X.K c i ts Wout D) (X.pn ++ pins) (fun e s₁ => wpAny (model X.prog X.w) X.A (noteFrame e X.env) (fun _ s₂ => wpAny (model X.prog X.w) X.A (setFlight e none) (fun _ s₃ =>
    wpAny (model X.prog X.w) X.A (handleBy e X.env [.ExceptHandler (some (.Name x np)) (some n) (b₀ :: suite) pos']) (SP X pins D) X.xe s₃) X.xe s₂) X.xe s₁) (fun u s' xx => ?_) PassesOwn.looking).run [] s σ H D (I.toTry _) h) (fun f s1 hsp => ?_) (fun e s1 he => he)
  · -- the catch
    obtain ⟨a, B, sI, pins', σ', H', cls, d, rfl, J', nb, up, sky, na, os, ag, b, hb1, hyes, hno⟩ := xx
    have J : Inv X pins σ' H' sI := J'.ofTry ok
    have sky' : Sky B (X.env :: X.outer) a (Zc cls d) X.env.locals s'.heap := by rw [← hs]; exact sky
    show wpAny (model X.prog X.w) X.A (noteFrame (.ref a) X.env) _ _ _
    refine Sky.land Zc.steady hfr hf sky' fun h3 fl3 up3 => ?_
    have J3 : Inv X pins σ' H' { s' with heap := h3 } := J.landed nb fl3.1 (up.trans up3) os ag
    obtain ⟨oe3, vs3, he3, hz3, hd3⟩ := fl3.there
    have notFr : ∀ {h : Heap} {o : Obj} {vs : Array Value}, h.FunFrames B (X.env :: X.outer) → h.get? a = some o → o.data = .fields vs → a ∉ frs (X.env :: X.outer) := fun {h o vs} ff e dd hm => by
      obtain ⟨_, o', e', hnf⟩ := ff.mem hm
      rw [e] at e'; cases e'
      exact hnf _ dd
    have nfr := notFr fl3.2.2.1 he3 hd3
    have hB : B.get? a = none := fl3.2.1
    have nI : sI.heap.get? a = none := by
      cases q : sI.heap.get? a with
      | none => rfl
      | some o =>
        have e := nb a o q (by rw [hs]; exact nfr)
        rw [hB] at e
        cases e
    have n0 : X.s_0.heap.get? a = none := by
      cases q : X.s_0.heap.get? a with
      | none => rfl
      | some o =>
        obtain ⟨o', e⟩ := J.base.there a o q (by rw [hex]; simp)
        rw [nI] at e
        cases e
    have npin : ∀ p ∈ X.pn ++ pins, p.1 ≠ a := fun p hp z => by
      have e := (J.pin p hp).1
      rw [z, nI] at e
      cases e
    have nL : a ≠ X.env.locals := fun z => nfr (List.mem_filterMap.mpr ⟨X.env, List.mem_cons_self, by rw [hf, z]⟩)
    have nF : a ∉ X.fs := fun hm => by
      obtain ⟨e, he, q⟩ := List.mem_filterMap.mp hm
      exact nfr (List.mem_filterMap.mpr ⟨e, List.mem_cons_of_mem _ he, q⟩)
    have S3 := J3.suite he3 hd3 na nL nF
    refine wpAny_handleBy_cons (codeAny_handlers_test ?_) (by intro q; cases q)
    have LT : PySem.W.Looks (model X.prog X.w) h3 (typeOf (.ref a)) cls := fun A Q E s k q => wpAny_typeOf_ref (k _ _ he3) (by rw [hz3.1]; exact q)
    have LM := PySem.W.exm_one (M := model X.prog X.w) (J3.kIn) LT hb1
    have test : ∀ {Q : Value → Shared → Prop} {E : Value → Shared → Prop}, Q c { s' with heap := h3 } → wpAny (model X.prog X.w) (X.A.mark (some (.ref a))) (eval (.Name x np) X.env) Q E { s' with heap := h3 } := fun {Q E} q => by
      obtain ⟨hg, hdbg, hm | ⟨hm, hv, hnn⟩⟩ := hc
      · exact ld_glob (X := X.suite a ((a, oe3) :: (X.pn ++ pins))) S3 hg hm q hdbg
      · exact ld_blt (X := X.suite a ((a, oe3) :: (X.pn ++ pins))) S3 hg hm hv q hnn hdbg
    refine test (LM.here ?_)
    cases b with
    | true =>
      refine codeAny_handlers_suite_as ?_
      refine HandSPX.lands_againZ fl3 fun h4 fl4 up4 => ?_
      have J4 : Inv X pins σ' H' { s' with heap := h4 } := J.landed nb fl4.1 ((up.trans up3).trans up4) os ag
      obtain ⟨oe4, vs4, he4, hz4, hd4⟩ := fl4.there
      have S4 := J4.suite he4 hd4 na nL nF
      refine store_ok (X := X.suite a ((a, oe4) :: (X.pn ++ pins))) (v := .ref a) S4 hN hi hloc rfl (fun s5 S5 => ?_) (.inr hln)
      refine wpAny_mono ((hsu a oe4 cls d (X.pn ++ pins) hz4 ⟨_, hd4⟩).run [] s5 _ H' _ S5 (hyes rfl a na)) (fun f s6 hsp => ?_) (fun _ _ z => False.elim z)
      cases f with
      | next =>
        obtain ⟨σ6, H6, S6, q6⟩ := hsp
        obtain ⟨p1, p2, _⟩ := S6.pin (a, oe4) (List.mem_append_left _ List.mem_cons_self)
        have J6 : Inv X pins σ6 (upd H6 a (ExV cls d a)) s6 := keepX (S6.unsuite ok) p1 hz4 hd4 p2 n0 nL npin
        exact gone_ok J6 hN hi hln fun s7 J7 => ⟨_, _, J7, q6 p2⟩
      | brk =>
        obtain ⟨σ6, H6, S6, q6⟩ := hsp
        exact False.elim q6
      | cont =>
        obtain ⟨σ6, H6, S6, q6⟩ := hsp
        exact False.elim q6
      | ret u =>
        obtain ⟨v6, σ6, H6, S6, r6, q6⟩ := hsp
        exact False.elim q6
    | false =>
      show wpAny _ X.A (handleBy (.ref a) X.env []) _ _ _
      refine wpAny_handleBy_nil ?_
      obtain ⟨k1, k2, k3, oe, vs, T, oT, ts', he, hz, hd, h1, hr⟩ := id fl3
      unfold PySem.passOn
      refine wpAny_bind (wpAny_field he hd h1 ?_)
      rw [if_neg (show ¬ ((Value.ref T == Value.none) = true) from by simp)]
      have fin : wpAny (model X.prog X.w) X.A (setFlight (.ref a) X.env.frame) (fun _ s4 => wpAny (model X.prog X.w) X.A (throw (.ref a) : Sem Flow) (SP X pins D) X.xe s4) X.xe { s' with heap := h3 } := by
        rw [hf]
        refine HandSPX.setFlight_upZ fl3 fun h4 hh4 up4 => wpAny_throw (tk _ _ ?_)
        exact ⟨a, B, sI, pins, σ', H', cls, d, rfl, J, nb, (up.trans up3).trans up4, .inr (.inr (by rw [hs]; exact hh4)), na, os, ag, hno rfl⟩
      first
        | exact wpAny_bind (wpAny_pure (wpAny_bind fin))
        | exact wpAny_bind fin
  · cases f with
    | next =>
      obtain ⟨σ', H', J', q⟩ := hsp
      exact wpAny_execs_nil ⟨σ', H', J'.ofTry ok, q⟩
    | brk =>
      obtain ⟨σ', H', J', q⟩ := hsp
      exact ⟨σ', H', J'.ofTry ok, q⟩
    | cont =>
      obtain ⟨σ', H', J', q⟩ := hsp
      exact ⟨σ', H', J'.ofTry ok, q⟩
    | ret u =>
      obtain ⟨v, σ', H', J', r, q⟩ := hsp
      exact ⟨v, σ', H', J'.ofTry ok, r, q⟩
end
/-- e.f, e a kept exception -/
def tXv (C : Addr) (f : Str) (te : TE) : TE := fun σ H Q => te σ H fun x H1 => ∃ (a dd : Addr) (fs : List (Str × V)) (v : V), x = .ref a ∧ H1 a = some (ExV (.ref C) (some dd) a) ∧ H1 dd = some (.xd fs) ∧ fs.lookup f = some v ∧ Q v H1
theorem pe_xv {X : Cx} {C : Addr} {e : Expr} {te : TE} {pos : Pos} {n : Str} (T : XfC X.K C) (hno : PySem.W.findIn X.K (.ref C) n = some none)
    (he : PE X e te) (hb : attributeBase e n X.env (eval e X.env) = eval e X.env := by rfl) :
    PE X (.Attribute e n pos) (tXv C n te) := by
  refine ⟨fun pins s σ H Q I h => ?_⟩
  refine attr_of hb (thn (he.run pins s σ H _ I h) fun u s1 hh => ?_)
  obtain ⟨x, H1, I1, rx, a, dd, fs, v, ex, eo, ea, l, q⟩ := hh
  subst ex
  obtain rfl : u = Value.ref a := rx
  obtain ⟨⟨oe, vs, ha, hz, hd⟩, _, _⟩ := I1.hok a _ eo
  have hx : ObjOk X.prog X.w H1 s1.heap dd (.xd fs) := I1.hok dd _ ea
  obtain ⟨mA, hns, hr⟩ := hx
  obtain ⟨od, ho, hl⟩ := lookIn_ns hns
  obtain ⟨u, hu, ru⟩ := RelO.some_of (v := v) (o := mA n) (by rw [← l]; exact hr n)
  have J : PySem.W.InstAt s1.heap a oe C (some od) := ⟨ha, hz.1, by unfold PySem.W.notCls; rw [hd] <;> rfl, by rw [hz.2]; exact ho⟩
  exact HandSPX.exc_get I1.kIn J T.ga T.gg T.exC (PySem.W.findObj_own T.hdC hno rfl (by rw [hl, hu])) (handed_of ru) ⟨v, H1, I1.tok _, ru, q⟩
/-- isinstance(e, c), e a kept exception -/
def rIsK (K : PySem.W.Frag) : List V → Hp → VK → Prop := fun xs H Q => ∃ (a D : Addr) (d : Addr) (fs : List (Str × V)) (c : V) (cv : Value) (b : Bool), xs = [.ref a, c] ∧ H a = some (ExV (.ref D) (some d) a) ∧ H d = some (.xd fs) ∧ ExcC K D ∧ (∀ u, RelV c u → u = cv) ∧ PySem.W.kitOne K (.ref D) cv = some b ∧ Q (.bl b) H
theorem call_isK {X : Cx} : CallR X (.builtin "isinstance") (rIsK X.K) := by
  intro pins s σ H xs us Q I r h
  obtain ⟨a, D, d, fs, c, cv, b, rfl, ha, hfs, C, hcv, e, q⟩ := h
  cases r with
  | cons rx rr =>
    cases rr with
    | cons rt rr =>
      cases rr
      cases rx
      have ec := hcv _ rt
      subst ec
      obtain ⟨⟨oe, vs, hget, hz, hd⟩, _, _⟩ := I.hok a _ ha
      have hx : ObjOk X.prog X.w H s.heap d (.xd fs) := I.hok d _ hfs
      obtain ⟨mA, hns, hr⟩ := hx
      obtain ⟨od, ho, hl⟩ := lookIn_ns hns
      have J : PySem.W.InstAt s.heap a oe D (some od) := ⟨hget, hz.1, by unfold PySem.W.notCls; rw [hd] <;> rfl, by rw [hz.2]; exact ho⟩
      obtain ⟨cdD, hcD, _⟩ := PySem.W.any_some C.hd
      exact PySem.W.kia_one (PySem.W.kitx_exc (by rw [hcD]; rfl) C.hg C.hk C.hs C.ha C.hn C.ht C.hm) I.kIn J e (fun z => nomatch z) fun tk => ⟨.bl b, H, I.kept (t' := tk) fun _ _ z => z, rfl, q⟩
end OGX
set_option Elab.async false
set_option linter.all false
set_option maxRecDepth 100000
set_option maxHeartbeats 4000000
namespace OGX
open PySem PySem.Spec PyProof.Rows L2
/-- the list at a as it stands at each turn, each item in a new pair behind its number from m on -/
def IteS (K : PySem.W.Frag) (a : Addr) (m : Nat) : It :=
  ⟨fun i H => ∃ (xs : List V) (x : V), SqL K H a xs ∧ xs[i]? = some x, fun i H v H' => ∃ T x, v = .ref T ∧ H T = none ∧ H' = upd H T (.tup [.int ((m + i : Nat) : Int), x]) ∧ ∀ xs, SqL K H a xs → xs[i]? = some x, fun i H => ∃ xs : List V, SqL K H a xs ∧ xs.length ≤ i⟩
theorem turn_enumS {P : Program} {w : World} {K : PySem.W.Frag} {elts : List Expr} {kk : Nat} {tpos : Pos} (m : Nat) (a e it : Addr) (hea : e ≠ a) (hia : a ≠ it) :
    Turn P w K (.Tuple elts kk tpos) (IteS K a m) [e, it] e (fun i h => (∃ old, IsEnum h e it ((m + i : Nat) : Int) old) ∧ h.IsListIter it a i ∧ e ≠ it) where
  mem := by simp
  obj := fun i h st b hb => by
    obtain ⟨⟨old, he⟩, ⟨o, ho, hc, hd⟩, _⟩ := st
    have e' : b = e ∨ b = it := by simpa using hb
    rcases e' with z | z
    · rw [z]; exact ⟨_, he, fun v q => nomatch q⟩
    · rw [z]; exact ⟨o, ho, fun v q => by rw [hd] at q; cases q⟩
  keep := fun i h h' st k => let ⟨⟨old, he⟩, hi, hne⟩ := st; ⟨⟨old, k e (by simp) _ he⟩, hi.at fun o q => k it (by simp) o q, hne⟩
  item := by
    intro X hP hw hK hc i pins s σ H E I hf st hg
    subst hP hw hK
    obtain ⟨⟨old, he⟩, hit, hne⟩ := st
    obtain ⟨xs, x, hq, hx⟩ := hg
    obtain ⟨its, rv, p, hz⟩ := I.list hq
    obtain ⟨u, hu, ru⟩ := rv.get hx
    have hel : e < s.heap.objs.size := Heap.lt_size he
    have hil : it < s.heap.objs.size := by obtain ⟨_, q, _⟩ := hit; exact Heap.lt_size q
    have hlt : i < its.toArray.size := by
      have := (List.getElem?_eq_some_iff.mp hu).1
      simpa using this
    refine wpAny_pyNext_enum_itemC (Draws.list (A := X.A.in1) (I.ok.hd hc) it a hia its.toArray) he ⟨hit, p.isList⟩ hlt hne (by simp [hne, hea]) fun u2 h' tk hu2 ho st' hT hsz hk => ?_
    have e2 : u2 = u := by
      have q : its.toArray[i]? = some u := by simpa using hu
      rw [q] at hu2
      exact (Option.some.inj hu2).symm
    subst e2
    obtain ⟨hit', _⟩ := st'
    refine ⟨_, rfl, wpAny_letOwnedTupleGo_enum (s := { s with heap := h', toks := tk + 1 }) ho fun h'' he' sb => ?_⟩
    have hT2 : h''.get? s.heap.objs.size = some { cls := .type "tuple", data := .seq #[.int ((m + i : Nat) : Int) tk, u2] } := (sb.2 _ (Nat.ne_of_gt hel)).trans hT
    have new : ObjOk X.prog X.w (upd H s.heap.objs.size (.tup [.int ((m + i : Nat) : Int), x])) h'' s.heap.objs.size (.tup [.int ((m + i : Nat) : Int), x]) :=
      ⟨by show 2 ≤ sizeLine; decide, [.int ((m + i : Nat) : Int) tk, u2], .cons ⟨_, rfl⟩ (.cons ru .nil), ⟨_, hT2, rfl, _, rfl⟩⟩
    have I1 : Inv X pins σ (upd H s.heap.objs.size (.tup [.int ((m + i : Nat) : Int), x])) { s with heap := h'', toks := tk + 1 } :=
      I.turnedNew (ch := [e, it]) (fun b ob hb q => (sb.2 b (fun z => hb (by simp [z]))).trans (hk b ob (fun z => hb (by simp [z])) (fun z => hb (by simp [z])) q)) hf (Nat.le_refl _) new
    refine ⟨.ref s.heap.objs.size, _, I1, rfl, ⟨_, x, rfl, I.hok.fresh (Nat.le_refl _), rfl, fun ys hy => by rw [I.list_inj hy hq]; exact hx⟩, ⟨⟨u2, ?_⟩, hit'.at fun o q => (sb.2 it (Ne.symm hne)).trans q, hne⟩, fun b hb => ?_⟩
    · have e1 : ((m + (i + 1) : Nat) : Int) = ((m + i : Nat) : Int) + 1 := by omega
      rw [e1]; exact he'
    · have hb' : b < s.heap.objs.size := by
        have e' : b = e ∨ b = it := by simpa using hb
        rcases e' with z | z
        · rw [z]; exact hel
        · rw [z]; exact hil
      rw [upd_ne (Nat.ne_of_lt hb')]
      exact (hf b hb).1
  done := by
    intro X hP hw hK hc i pins s σ H E I hf st hg
    subst hP hw hK
    obtain ⟨⟨old, he⟩, hit, hne⟩ := st
    obtain ⟨xs, hq, hx⟩ := hg
    obtain ⟨its, rv, p, hz⟩ := I.list hq
    obtain ⟨f0, f1, f2, f3, f4, f5⟩ := hf it (by simp)
    have hl := rv.length
    have hT : s.TypeIs (.ref e) "enumerate" := ⟨_, he, rfl⟩
    unfold pyNext
    refine wpAny_bind (wpAny_attempt (wpAny_callSpecial?_slot (name := Str.ofString "__next__") hT F.slot_enumerate_next
      (wpAny_call_entry F.slot_enumerate_next hT F.entry_enumerate_next ?_ (F.args_enumerate_next_1 _))))
    show wpAny _ _ (field (.ref e) 2 >>= _) _ _ _
    refine wpAny_bind (wpAny_field he rfl (x := .ref it) rfl ?_)
    refine wpAny_bind (wpAny_nextOf_list_end (I.ok.hd hc) hit p.isList (by simp; omega) fun h' x he' hx' => ?_)
    obtain ⟨o, ho, hcc⟩ := hx'
    refine wpAny_bind (wpAny_isInstance (T := "StopIteration") (b := true) ⟨o, ho, hcc⟩ isSubtype_stop ?_)
    exact wpAny_pure ⟨rfl, I.turned (t' := s.toks) (fun b o hb q => he' b o hb q) f0 f1 f3 f4 f5⟩
  self := fun A i s Q E st h => let ⟨⟨_, he⟩, _⟩ := st; wpAny_pyIter_enum he h
theorem callWith_type_kw {M : Model} {A : Around} {E : Value → Shared → Prop} {s : Shared} {env : Env} {pos : Pos} {id : String} {e : Expr} {rest : List Expr} {kws : List Keyword} {Q : Value → Shared → Prop}
    (h : wpAny M A (spliced (backTo pos (starEach (e :: rest) env))) (fun vs s₁ => wpAny M A (evalAll ((backToKw pos (keywordEach kws env)).map (·.2)))
      (fun kvs s₂ => wpAny M A (call (.type id) vs (((backToKw pos (keywordEach kws env)).filterMap (·.1)).zip kvs)) Q E s₂) E s₁) E s)
    (he : backTo pos (starEach (e :: rest) env) = (false, eval e env) :: backTo pos (starEach rest env) := by rfl)
    (hplain : (backTo pos (starEach (e :: rest) env)).any (·.1) = false := by rfl)
    (hall : (backToKw pos (keywordEach kws env)).all (·.1.isSome) = true := by rfl)
    (hkw : (backToKw pos (keywordEach kws env)).any (·.1.isNone) = false := by rfl) :
    wpAny M A (callWith pos (.type id) [] (backTo pos (starEach (e :: rest) env)) (backToKw pos (keywordEach kws env))) Q E s := by
  have key : wpAny M A (evalArgs (.type id) true (backTo pos (starEach (e :: rest) env)) (backToKw pos (keywordEach kws env))) (fun a s₁ => wpAny M A (call (.type id) ([] ++ a.pos) a.kw) Q E s₁) E s := by
    rw [he] at h ⊢
    exact evalArgs_kwB hall h
  unfold callWith
  refine wpAny_bind (wpAny_holding (wpAny_mono key (fun a s₁ h₁ => wpAny_bind (wpAny_standAt ?_)) fun _ _ x => x))
  simp only [hplain, hkw, Bool.or_false]
  refine wpAny_bind (wpAny_pure ?_)
  exact wpAny_bind (wpAny_mono h₁ (fun r s₂ hr => wpAny_bind (wpAny_holding (wpAny_point (wpAny_pure hr)))) fun _ _ x => x)
def iEnumS (K : PySem.W.Frag) (ta tk : TA) : TI := fun σ H R => ta σ H fun vs H1 => tk σ H1 fun zs H2 => ∃ a xs, ∃ m : Nat, vs = [.ref a] ∧ zs = [.int (m : Int)] ∧ m ≤ 1000 ∧ SqL K H2 a xs ∧ R (IteS K a m) H2
theorem pi_enumS {X : Cx} {e ke : Expr} {ta tk : TA} {p pos tpos kpos : Pos} {elts : List Expr} {kk : Nat} (hg : Gl X "enumerate") (hm : X.mg "enumerate" = none) (ha : PA X [e] ta) (hk : PK X [⟨some "start", ke, kpos⟩] tk)
    (he : backTo pos (starEach [e] X.env) = (false, eval e X.env) :: backTo pos (starEach [] X.env) := by rfl)
    (hall : (backToKw pos (keywordEach [⟨some "start", ke, kpos⟩] X.env)).all (·.1.isSome) = true := by rfl) (hks : (backToKw pos (keywordEach [⟨some "start", ke, kpos⟩] X.env)).filterMap (·.1) = [("start" : Str)] := by rfl) :
    PI X (.Tuple elts kk tpos) (.Call (.Name "enumerate" p) [e] [⟨some "start", ke, kpos⟩] pos) (iEnumS X.K ta tk) := by
  refine ⟨fun pins s σ H R I h => ?_⟩
  refine wpAny_Call_Name_kw (ld_blt I hg hm boot_enumerate (callWith_type_kw (thn (ha.run pos pins s σ H _ I h) fun us s1 ⟨vs, H1, I1, r1, q1⟩ => thn (hk.run pos pins s1 σ H1 _ I1 q1) fun ws s2 ⟨zs, H2, I2, r2, q2⟩ => ?_) he (by rw [he]; rfl) hall (by rfl)))
  obtain ⟨a, xs, m, ex, ez, hm1000, hq, q⟩ := q2
  subst ex
  subst ez
  rw [hks]
  cases r1 with
  | cons r rr =>
    cases rr
    cases r
    cases r2 with
    | cons rz rrz =>
      cases rrz
      obtain ⟨tz, rfl⟩ := rz
      obtain ⟨its, rv, p', hz⟩ := I2.list hq
      have hal : a < s2.heap.objs.size := by
        obtain ⟨o, ho, _⟩ := p'.isList
        exact Heap.lt_size ho
      refine enum_begins_start (k := (m : Int)) (t := tz) (begins_list a its.toArray) p'.isList (by rw [show (2:Int) ^ 63 = 9223372036854775808 by decide]; omega) (by rw [show (2:Int) ^ 63 = 9223372036854775808 by decide]; omega) fun h' he' hit hsz hkk => wpAny_pyIter_enum he' ?_
      have I3 : Inv X pins σ H2 { s2 with heap := h' } := I2.kept (t' := s2.toks) hkk
      have hit2 : h'.IsListIter s2.heap.objs.size a 0 := ⟨_, hit, rfl, rfl⟩
      refine ⟨s2.heap.objs.size + 1, [s2.heap.objs.size + 1, s2.heap.objs.size], _, _, H2, rfl, I3, turn_enumS m a (s2.heap.objs.size + 1) s2.heap.objs.size (Nat.ne_of_gt (Nat.lt_succ_of_lt hal)) (Nat.ne_of_lt hal), ⟨⟨.none, he'⟩, hit2, Nat.succ_ne_self _⟩, fun b hb => ?_, q⟩
      have e' : b = s2.heap.objs.size + 1 ∨ b = s2.heap.objs.size := by simpa using hb
      have hle : s2.heap.objs.size ≤ b := by
        rcases e' with z | z
        · rw [z]; exact Nat.le_add_right _ _
        · rw [z]; exact Nat.le_refl _
      exact I2.fpOk hle (I2.hok.fresh hle)
theorem for_enumS {K : PySem.W.Frag} {a : Addr} {xs : List V} {g : TG} {tb : TS} {D : Ends} {σ : L2.St} {H : Hp} {m0 : Nat} (Pv : Nat → L2.St → Hp → Prop) (h0 : Pv 0 σ H) (hq : ∀ i σ H, Pv i σ H → SqL K H a xs)
    (hs : ∀ (i : Nat) (x : V) (T : Addr) (σ : L2.St) (H : Hp), xs[i]? = some x → Pv i σ H → H T = none → g (.ref T) σ (upd H T (.tup [.int ((m0 + i : Nat) : Int), x])) fun σ2 H2 => tb { D with nx := Pv (i + 1), ct := Pv (i + 1), bk := D.nx } σ2 H2) (hd : ∀ σ H, Pv xs.length σ H → D.nx σ H) :
    ∃ W : Nat → Nat → L2.St → Hp → Prop, (∃ m, W 0 m σ H) ∧ ∀ i m σ H, W i m σ H →
      ((IteS K a m0).stop i H ∧ D.nx σ H) ∨ ((IteS K a m0).go i H ∧ ∃ N : L2.St → Hp → Prop, (∀ σ' H', N σ' H' → ∃ m', m' < m ∧ W (i + 1) m' σ' H') ∧ ∀ v H', (IteS K a m0).yld i H v H' → g v σ H' fun σ2 H2 => tb { D with nx := N, ct := N, bk := D.nx } σ2 H2) := by
  refine ⟨fun i m σ H => m = xs.length - i ∧ i ≤ xs.length ∧ Pv i σ H, ⟨xs.length, rfl, Nat.zero_le _, h0⟩, ?_⟩
  rintro i m σ H ⟨rfl, hi, p⟩
  have q := hq i σ H p
  by_cases hlt : i < xs.length
  · refine .inr ⟨⟨xs, xs[i], q, List.getElem?_eq_getElem hlt⟩, Pv (i + 1), fun σ' H' p' => ⟨xs.length - (i + 1), by omega, rfl, hlt, p'⟩, fun v H' hy => ?_⟩
    obtain ⟨T, x, rfl, nT, rfl, f⟩ := hy
    exact hs i x T σ H (f xs q) p nT
  · have e : i = xs.length := by omega
    subst e
    exact .inl ⟨⟨xs, q, Nat.le_refl _⟩, hd σ H p⟩
end OGX
set_option Elab.async false
set_option linter.all false
set_option maxRecDepth 100000
set_option maxHeartbeats 4000000
namespace L2
open PySem PySem.Spec PyProof.Rows
section
variable {prog : Program} {w : World} {A : Around} {E : Value → Shared → Prop} {s : Shared} {T : String} {r d : Addr} {n : Nat} {PP : Nat → Value → Prop} {OK : Heap → Prop}
theorem collect_kdl {Q : List Value → Shared → Prop} (K : PySem.W.KdlSrc prog w T r d n PP OK) (hh : A.handled = none) (hok : OK s.heap) (hlen : n ≤ sizeLine)
    (hQ : ∀ (h' : Heap) (tk : Nat) (acc : Array Value), (∀ b o, s.heap.get? b = some o → h'.get? b = some o) → ItemsOf PP acc n → Q acc.toList { s with heap := h', toks := tk }) :
    wpAny (model prog w) A (collect (.ref r)) Q E s := by
  unfold collect
  refine wpAny_bind (wpAny_runValue (codeAny_builtin F.entry_proto_collect ?_))
  rw [Around.under_plainId F.plain_proto_collect _]
  show wpAny _ A.in1 (newList [] >>= fun l => again (.builtin "list.__iadd__" ⟨[l, .ref r], []⟩)) _ _ s
  refine wpAny_bind (wpAny_newObj_type ?_)
  refine wpAny_pure ⟨plainId_quiet F.plain_list_iadd _, codeAny_builtin F.entry_list_iadd ?_⟩
  rw [Around.under_plainId F.plain_list_iadd _]
  show wpAny _ A.in1 (Builtin.List.listExtendWith (.ref s.heap.objs.size) (.ref r) (.ref s.heap.objs.size)) _ _ _
  have hS : (s.heap.push { cls := .type "list", data := .seq ([] : List Value).toArray }).get? s.heap.objs.size = some { cls := .type "list", data := .seq #[] 0 } := Heap.get?_push_size _ rfl
  have hlt := K.there _ hok
  refine wpAny_mono (PySem.W.kdl_extend (A := A) (R := fun rr s' => rr = .ok (.ret (.ref s.heap.objs.size)) ∧ ∃ (h' : Heap) (tk : Nat) (acc : Array Value) (c' : Nat), s' = { s with heap := h', toks := tk } ∧
      (∀ b o, s.heap.get? b = some o → h'.get? b = some o) ∧ h'.get? s.heap.objs.size = some { cls := .type "list", dict := none, data := .seq acc c', slots := #[] } ∧ ItemsOf PP acc n)
    (s := { s with heap := s.heap.push { cls := .type "list", data := .seq ([] : List Value).toArray } }) K hh (K.keep _ _ hok fun b _ o e => Heap.get?_push_of_some _ e) _ (Nat.ne_of_gt hlt.1) (Nat.ne_of_gt hlt.2) _ 0 hS
    (fun h' tk acc c' hk e hi => ⟨rfl, h', tk, acc, c', rfl, fun b o q => hk b o (Nat.ne_of_lt (Heap.lt_size q)) (Heap.get?_push_of_some _ q), e, hi⟩) hlen) (fun fin s' h => ?_) (fun e s' h => ?_)
  · cases fin with
    | done f =>
      obtain ⟨e, h', tk, acc, c', rfl, hk, hS', hi⟩ := h
      cases e
      show wpAny _ A (load s.heap.objs.size >>= _) _ _ _
      exact wpAny_bind (wpAny_load hS' (wpAny_pure (hQ h' tk acc hk hi)))
    | again c' =>
      refine ⟨h.1, codeAny_mono h.2 fun rr s'' hr' => ?_⟩
      obtain ⟨rfl, h', tk, acc, c', rfl, hk, hS', hi⟩ := hr'
      show wpAny _ A (load s.heap.objs.size >>= _) _ _ _
      exact wpAny_bind (wpAny_load hS' (wpAny_pure (hQ h' tk acc hk hi)))
  · exact absurd h.1 (by simp)
theorem code_tuple_new_kdl {Q₁ : Value → Shared → Prop} (K : PySem.W.KdlSrc prog w "dict" r d n PP OK) (hh : A.handled = none) (hok : OK s.heap) (hlen : n ≤ sizeLine)
    (h : ∀ (h' : Heap) (tk : Nat) (acc : Array Value), (∀ b o, s.heap.get? b = some o → h'.get? b = some o) → ItemsOf PP acc n →
      Q₁ (.ref h'.objs.size) { s with heap := h'.push { cls := .type "tuple", data := .seq acc }, toks := tk }) :
    codeAny (model prog w) A (.call (.builtin "tuple.__new__") ⟨[.type "tuple", .ref r], []⟩) (wants Q₁ E) s := by
  refine codeAny_of_tree ?_
  show wpAny _ A.in1 (do checkBuiltinCall "tuple.__new__" ⟨[.type "tuple", .ref r], []⟩; again (.builtin "tuple.__new__" ⟨[.type "tuple", .ref r], []⟩)) _ _ s
  refine wpAny_bind (wpAny_of_eq (F.newCall_tuple_1 _) (wpAny_pure ⟨plainId_quiet F.plain_tuple_new _, codeAny_builtin F.entry_tuple_new ?_⟩))
  rw [Around.under_plainId F.plain_tuple_new _]
  have hsub := sub_tuple_self
  have hinit := init_tuple_lookup
  have hmh := madeHere_tuple
  have hTI : s.TypeIs (.ref r) "dict" := K.type s hok
  have hh1 : A.in1.handled = none := hh
  wp_walk using wpAny_typeOf hTI, collect_kdl (A := A.in1) K hh1 hok hlen
  intro h' tk acc hk hacc
  show wpAny _ _ (Builtin.Tuple.tupleExact acc.toList.toArray >>= fun v => ret v) _ _ _
  unfold Builtin.Tuple.tupleExact
  refine wpAny_bind (wpAny_newObj_type ?_ (by show acc.toList.toArray.size ≤ sizeLine; simp only [Array.toArray_toList]; rw [hacc.1]; exact hlen))
  refine wpAny_pure ?_
  have e : acc.toList.toArray = acc := by simp
  rw [e]
  exact h h' tk acc hk hacc
theorem call_tuple_kdl {Q : Value → Shared → Prop} (K : PySem.W.KdlSrc prog w "dict" r d n PP OK) (hh : A.handled = none) (hok : OK s.heap) (hlen : n ≤ sizeLine)
    (hQ : ∀ (h' : Heap) (tk : Nat) (acc : Array Value), (∀ b o, s.heap.get? b = some o → h'.get? b = some o) → ItemsOf PP acc n →
      Q (.ref h'.objs.size) { s with heap := h'.push { cls := .type "tuple", data := .seq acc }, toks := tk }) :
    wpAny (model prog w) A (call (.type "tuple") [.ref r]) Q E s := by
  refine callType_codes (Q₁ := fun obj s₁ => s₁.TypeIs obj "tuple" ∧ Q obj s₁) F.called_tuple (F.typeCall_tuple_1 _) F.entry_object_init
    (code_tuple_new_kdl (A := A.in1) K hh hok hlen fun h' tk acc hk hacc => ⟨⟨_, Heap.get?_push_size _ rfl, rfl⟩, hQ h' tk acc hk hacc⟩) fun obj s₁ h₁ => ?_
  exact ⟨h₁.1, F.args_object_init_2 obj _, object_init_meets F.called_tuple.init.lookup F.called_tuple.made (by decide) prog w A.in1 _ s₁ ⟨h₁.1, rfl, h₁.2⟩⟩
end
def rTupleD : List V → Hp → VK → Prop := fun xs H Q => ∃ p kvs, xs = [.ref p] ∧ H p = some (.dK kvs) ∧ ∀ q, H q = none → Q (.ref q) (upd H q (.tup (kvs.map fun kv => kV kv.1)))
theorem call_tuple_dK {X : Cx} (hc : X.calm = true) : CallR X (.type "tuple") rTupleD := by
  intro pins s σ H xs us Q I r h
  obtain ⟨p, kvs, e, hk, q⟩ := h
  subst e
  obtain ⟨u, eu, rx⟩ := vals1 r
  subst eu
  obtain rfl : u = Value.ref p := rx
  obtain ⟨z, lo, vs, rk, hd⟩ := (show ObjOk X.prog X.w H s.heap p (.dK kvs) from I.hok p _ hk)
  obtain ⟨ep, hat⟩ := hd.dictAt
  have hl : kvs.length = vs.length := Paired.length rk
  refine call_tuple_kdl (PySem.W.kdl_dict (knd := mixKind X.prog X.w) (kvs := vs) (ep := ep) lo) (I.ok.hd hc) hat (by rw [← hl]; exact z) fun h' tk acc' hkeep hacc => ?_
  have I1 : Inv X pins σ H { s with heap := h', toks := tk } := I.kept (t' := tk) hkeep
  have hv : Vals (kvs.map fun kv => kV kv.1) acc'.toList := by
    have el : acc'.toList.length = acc'.size := by simp
    refine vals_of_at (by rw [List.length_map, el, hacc.1, hl]) fun j x w h1 h2 => ?_
    obtain ⟨k, y, hky, hi⟩ := hacc.2 j w (by rw [← Array.getElem?_toList]; exact h2)
    have e1 : (kvs.map (·.1))[j]? = some k := by
      rw [KV.keys rk, List.getElem?_map, hky] <;> rfl
    have e2 : (kvs.map fun kv => kV kv.1)[j]? = some (kV k) := by
      have e3 : (kvs.map fun kv => kV kv.1) = (kvs.map (·.1)).map kV := by rw [List.map_map] <;> rfl
      rw [e3, List.getElem?_map, e1] <;> rfl
    rw [e2] at h1
    cases h1
    exact keyIs_rel hi
  have I2 : Inv X pins σ (upd H h'.objs.size (.tup (kvs.map fun kv => kV kv.1))) { s with heap := h'.push { cls := .type "tuple", data := .seq acc' }, toks := tk } :=
    I1.laid (t' := tk) (fun b o e => Heap.get?_push_of_some _ e) (Nat.le_refl _) (show ObjOk X.prog X.w _ _ _ (.tup (kvs.map fun kv => kV kv.1)) from ⟨by rw [List.length_map]; exact z, acc'.toList, hv, by rw [Array.toArray_toList]; exact IsTup.new _ _⟩)
  exact ⟨.ref h'.objs.size, _, I2, rfl, q _ (I1.hok.fresh (Nat.le_refl _))⟩
/-- .. with the very object, which has no dict -/
def rTupleDF : List V → Hp → VK → Prop := fun xs H Q => ∃ p kvs, xs = [.ref p] ∧ H p = some (.dK kvs) ∧ ∀ q ob, H q = none → ob.dict = none → Q (.ref q) (upd H q (.frz ob (.tup (kvs.map fun kv => kV kv.1))))
theorem call_tuple_dKF {X : Cx} (hc : X.calm = true) : CallR X (.type "tuple") rTupleDF := by
  intro pins s σ H xs us Q I r h
  obtain ⟨p, kvs, e, hk, q⟩ := h
  subst e
  obtain ⟨u, eu, rx⟩ := vals1 r
  subst eu
  obtain rfl : u = Value.ref p := rx
  obtain ⟨z, lo, vs, rk, hd⟩ := (show ObjOk X.prog X.w H s.heap p (.dK kvs) from I.hok p _ hk)
  obtain ⟨ep, hat⟩ := hd.dictAt
  have hl : kvs.length = vs.length := Paired.length rk
  refine call_tuple_kdl (PySem.W.kdl_dict (knd := mixKind X.prog X.w) (kvs := vs) (ep := ep) lo) (I.ok.hd hc) hat (by rw [← hl]; exact z) fun h' tk acc' hkeep hacc => ?_
  have I1 : Inv X pins σ H { s with heap := h', toks := tk } := I.kept (t' := tk) hkeep
  have hv : Vals (kvs.map fun kv => kV kv.1) acc'.toList := by
    have el : acc'.toList.length = acc'.size := by simp
    refine vals_of_at (by rw [List.length_map, el, hacc.1, hl]) fun j x w h1 h2 => ?_
    obtain ⟨k, y, hky, hi⟩ := hacc.2 j w (by rw [← Array.getElem?_toList]; exact h2)
    have e1 : (kvs.map (·.1))[j]? = some k := by
      rw [KV.keys rk, List.getElem?_map, hky] <;> rfl
    have e2 : (kvs.map fun kv => kV kv.1)[j]? = some (kV k) := by
      have e3 : (kvs.map fun kv => kV kv.1) = (kvs.map (·.1)).map kV := by rw [List.map_map] <;> rfl
      rw [e3, List.getElem?_map, e1] <;> rfl
    rw [e2] at h1
    cases h1
    exact keyIs_rel hi
  have I2 : Inv X pins σ (upd H h'.objs.size (.frz { cls := .type "tuple", data := .seq acc' } (.tup (kvs.map fun kv => kV kv.1)))) { s with heap := h'.push { cls := .type "tuple", data := .seq acc' }, toks := tk } :=
    I1.laid (t' := tk) (fun b o e => Heap.get?_push_of_some _ e) (Nat.le_refl _) (show ObjOk X.prog X.w _ _ _ (.frz _ (.tup (kvs.map fun kv => kV kv.1))) from ⟨Heap.get?_push_size _ rfl, by rw [List.length_map]; exact z, acc'.toList, hv, by rw [Array.toArray_toList]; exact IsTup.new _ _⟩)
  exact ⟨.ref h'.objs.size, _, I2, rfl, q _ _ (I1.hok.fresh (Nat.le_refl _)) rfl⟩
end L2
set_option Elab.async false
set_option linter.all false
set_option maxRecDepth 100000
set_option maxHeartbeats 8000000
namespace OG
open PySem PySem.Spec PyProof.Rows L2
theorem num2 {l : List Nat} : (numQ 14 l = true ∧ (numV l = 0 ∨ numV l ∈ primesL)) ↔ (numQ 2 l = true ∧ (numV l = 0 ∨ numV l ∈ primesL)) := by
  constructor
  · rintro ⟨h, hv⟩
    refine ⟨numQ_iff.mpr ((numQ_iff.mp h).small (by decide) ?_), hv⟩
    have e : (10 : Nat) ^ 2 = 100 := by decide
    rw [e]
    rcases hv with q | q
    · rw [q]
      decide
    · have := prime_le q
      omega
  · rintro ⟨h, hv⟩
    have := numQ_iff.mp h
    exact ⟨numQ_iff.mpr (this.mono (Nat.le_trans this.fn (by decide))), hv⟩
theorem has_key : ∀ {kvs : List (Key × V)} {ms : List Str}, kvs.map (·.1) = ms.map Sum.inr → ∀ z : Str, (valV kvs (.inr z)).isSome = decide (z ∈ ms)
  | [], [], _, z => rfl
  | [], _ :: _, h, _ => by cases h
  | _ :: _, [], h, _ => by cases h
  | p :: r, m :: ms, h, z => by
    have h1 : p.1 = .inr m := (List.cons.inj h).1
    have h2 : r.map (·.1) = ms.map Sum.inr := (List.cons.inj h).2
    by_cases e : z = m
    · rw [valV_pos (by rw [h1, e]), decide_eq_true (by rw [e]; exact List.mem_cons_self)]
      rfl
    · rw [valV_neg (by rw [h1]; exact k_ne fun q => e q.symm), has_key h2 z]
      by_cases hz : z ∈ ms
      · rw [decide_eq_true hz, decide_eq_true (List.mem_cons_of_mem _ hz)]
      · rw [decide_eq_false hz, decide_eq_false fun q => (List.mem_cons.mp q).elim e hz]
theorem ne_nat (n k : Nat) : (!decide (V.int (n : Int) = V.int (k : Int))) = !decide (n = k) := by
  by_cases h : n = k
  · rw [h, decide_eq_true rfl, decide_eq_true rfl]
  · rw [decide_eq_false h, decide_eq_false (fun z : V.int (n : Int) = V.int (k : Int) => h (Int.ofNat.inj (V.int.inj z)))]
theorem eq_nat (n k : Nat) : decide (V.int (n : Int) = V.int (k : Int)) = decide (n = k) := by
  by_cases h : n = k
  · rw [h, decide_eq_true rfl, decide_eq_true rfl]
  · rw [decide_eq_false h, decide_eq_false (fun z : V.int (n : Int) = V.int (k : Int) => h (Int.ofNat.inj (V.int.inj z)))]
/-- a line of a mark -/
def MarkP (b : Int) (ms words : List Str) : Prop := ∃ w1 w2 : Str, words = [("mark" : Str), w1, w2] ∧ ms.length ≠ 4 ∧ isNmB 4 w1 = true ∧ w1 ∉ ms ∧ w2 ≠ "0" ∧ (numQ 14 (tl w2) && wokB b (numV (tl w2))) = true
/-- a line of a kind -/
def KindP (b : Int) (ks : List Str) (m : Nat) (words : List Str) : Prop := ∃ (w1 : Str) (rest : List Str), words = ("kind" : Str) :: w1 :: rest ∧ rest.length = m * m ∧ ks.length ≠ 3 ∧ isNmB 4 w1 = true ∧ w1 ∉ ks ∧ (rest.all fun z => numQ 14 (tl z) && wokB b (numV (tl z))) = true
section
variable {P : Program} {w : World} {K : PySem.W.Frag} {mg : Str → Option Value} {base : Heap}
def isIntV : V → Bool
  | .int _ => true
  | _ => false
def isByV : V → Bool
  | .int n => decide (n = 0) || decide (n ∈ primesL)
  | _ => false
def spIsInteger : Sp := fun vs H Q _ => ∃ v, vs = [v] ∧ (v = .non ∨ ∃ n : Int, v = .int n) ∧ Q (.bl (isIntV v)) H
theorem ok_is_integer (T : Txt K mg) : FnOk P w K mg base CX0 1 T.f_is_integer T.fd_is_integer ["value"] (spIsInteger) := by
  refine T.F_is_integer.ok sc_is_integer (fun vs H Q E h => ?_) (fun cdv A outer s H vs Q E hr h => ?_)
  · obtain ⟨v, rfl, _⟩ := h
    rfl
  · obtain ⟨v, rfl, hv, q⟩ := h
    refine ⟨_, (pss_one (ps_ret (pe_and (pe_callB call_isi (by rfl) T.n_isinstance (by decide +kernel) (pa_cons (pv 0) (pa_cons (pe_bltn (v := .ty "int") (by rfl) T.n_int (by decide +kernel) rfl) pa_nil))) (pe_one (pe_not (pe_callB call_isi (by rfl) T.n_isinstance (by decide +kernel) (pa_cons (pv 0) (pa_cons (pe_bltn (v := .ty "bool") (by rfl) T.n_bool (by decide +kernel) rfl) pa_nil)))))))), ?_⟩
    rcases hv with rfl | ⟨n, rfl⟩
    · refine ⟨.non, rfl, _, _, _, _, _, rfl, .ty _, .base .non, kit_ty (r := false) (by decide +kernel), _, rfl, iteF q⟩
    · refine ⟨.int n, rfl, _, _, _, _, _, rfl, .ty _, .base (.int n), kit_ty (r := true) (by decide +kernel), _, rfl, ?_⟩
      refine iteT ?_
      refine ⟨.int n, rfl, _, _, _, _, _, rfl, .ty _, .base (.int n), kit_ty (r := false) (by decide +kernel), _, rfl, q⟩
def spIsBy : Sp := fun vs H Q _ => ∃ v, vs = [v] ∧ (v = .non ∨ ∃ n : Int, v = .int n) ∧ Q (.bl (isByV v)) H
theorem ok_is_by (T : Txt K mg) : FnOk P w K mg base CX0 2 T.f_is_by T.fd_is_by ["value"] (spIsBy) := by
  refine T.F_is_by.ok sc_is_by (fun vs H Q E h => ?_) (fun cdv A outer s H vs Q E hr h => ?_)
  · obtain ⟨v, rfl, _⟩ := h
    rfl
  · obtain ⟨v, rfl, hv, q⟩ := h
    refine ⟨_, (pss_one (ps_ret (pe_and (pe_call (ok_is_integer T) (hr.mono (by decide)) (by rfl) T.g_is_integer T.F_is_integer.kp T.b_is_integer .nil pass0 (pa_cons (pv 0) pa_nil)) (pe_one (pe_or (pe_cmpR op_eq (pv 0) pe_int (nomark _)) (pe_one (pe_cmpR op_in_seq (pv 0) (C8.pe_gc (by rfl) T.m_PRIMES) rfl))))))), ?_⟩
    refine ⟨v, rfl, v, rfl, hv, _, rfl, ?_⟩
    rcases hv with rfl | ⟨n, rfl⟩
    · exact iteF q
    · refine iteT ?_
      refine ⟨.int n, rfl, rfl, _, rfl, ?_⟩
      show (if decide (V.int n = V.int 0) = true then _ else _)
      by_cases h0 : n = 0
      · rw [decide_eq_true (congrArg V.int h0)]
        have e : isByV (.int n) = true := by
          show (decide (n = 0) || decide (n ∈ primesL)) = _
          rw [decide_eq_true h0]
          rfl
        rw [e] at q
        exact q
      · rw [decide_eq_false (fun z => h0 (V.int.inj z))]
        have e : isByV (.int n) = decide (n ∈ primesL) := by
          show (decide (n = 0) || decide (n ∈ primesL)) = _
          rw [decide_eq_false h0, Bool.false_or]
        rw [e] at q
        refine ⟨.int n, rfl, _, _, rfl, .inr (T.sq_PRIMES _), rfl, flat_ints _, ?_⟩
        rw [inV_int]
        exact q
def spReadBy : Sp := fun vs H Q _ => ∃ (aw : Addr) (words : List Str), vs = [.ref aw] ∧ H aw = some (.lst (words.map V.str)) ∧ words ≠ [] ∧ (∀ z ∈ words, z.length ≤ 10000000) ∧
  ∀ H', Same H H' → Q (match byM words with | none => .non | some b => .int b) H'
theorem ok_read_by (T : Txt K mg) : FnOk P w K mg base CX0 3 T.f_read_by T.fd_read_by ["words"] (spReadBy) := by
  refine T.F_read_by.ok sc_read_by (fun vs H Q E h => ?_) (fun cdv A outer s H vs Q E hr h => ?_)
  · obtain ⟨aw, words, rfl, _⟩ := h
    rfl
  · obtain ⟨aw, words, rfl, hW, wne, wz, q⟩ := h
    refine ⟨_, (pss_cons (ps_if (PW.pt (pw_or (pt_cmpR op_ne (pe_callB call_len_seq (by rfl) T.n_len PySem.boot_len (pa_cons (pv 0) pa_nil)) pe_int (nomark _)) (pw_or1 (pt_cmpR op_ne (pe_ix ix_list (pv 0) pe_int (fun _ _ => rfl)) pe_str (nomark _))))) (pss_one (ps_ret pe_non)) pss_nil)
  (pss_cons (ps_set (i := 1) sc_read_by.nd rfl (Or.inl rfl) (pe_call (ok_integer_of T) (hr.mono (by decide)) (by rfl) T.g_integer_of T.F_integer_of.kp T.b_integer_of .nil pass0 (pa_cons (pe_ix ix_list (pv 0) pe_int (fun _ _ => rfl)) (pa_cons pe_int pa_nil))))
  (pss_one (ps_ret (pe_ifExp (pt_val (pe_call (ok_is_by T) (hr.mono (by decide)) (by rfl) T.g_is_by T.F_is_by.kp T.b_is_by .nil pass0 (pa_cons (pv 1) pa_nil))) (pv 1) pe_non))))), ?_⟩
    have no : byM words = none → Q .non H := fun e => by
      have := q H (Same.refl H)
      rw [e] at this
      exact this
    refine ⟨.ref aw, rfl, aw, _, rfl, .inl (SqL.of hW), rfl, _, rfl, ?_⟩
    rw [List.length_map]
    show (if (!decide (V.int (words.length : Int) = V.int ((2 : Nat) : Int))) = true then _ else _)
    rw [ne_nat]
    by_cases h : words.length = 2
    case neg =>
      rw [decide_eq_false h]
      refine no ?_
      unfold byM
      split
      · exact absurd rfl h
      · rfl
    case pos =>
      rw [decide_eq_true h]
      obtain ⟨w0, w1, rfl⟩ : ∃ w0 w1, words = [w0, w1] := by
        match words, h with
        | [a, b], _ => exact ⟨a, b, rfl⟩
      have em : byM [w0, w1] = if w0 = "book" ∧ numQ 14 (tl w1) = true ∧ (numV (tl w1) = 0 ∨ numV (tl w1) ∈ primesL) then some (numV (tl w1)) else none := rfl
      refine ⟨.ref aw, rfl, aw, _, ((0 : Nat) : Int), _, rfl, rfl, SqL.of hW, atI_nat rfl, rfl, _, rfl, ?_⟩
      show (if (!decide (V.str w0 = V.str "book")) = true then _ else _)
      rw [eq_word]
      by_cases hw : w0 = "book"
      · rw [decide_eq_true hw]
        refine ⟨.ref aw, rfl, aw, _, ((1 : Nat) : Int), .str w1, rfl, rfl, SqL.of hW, atI_nat rfl, w1, 2, rfl, wz w1 (by simp), by decide, fun H1 s1 => ?_⟩
        have q1 := fun H' (s' : Same H1 H') => q H' (s1.trans s')
        rw [em] at q1
        have e2 := num2 (l := tl w1)
        cases c : numQ 2 (tl w1) with
        | false =>
          rw [if_neg (fun z => by
            have := (e2.mp z.2).1
            rw [c] at this
            cases this)] at q1
          refine ⟨.non, rfl, .non, rfl, .inl rfl, ?_⟩
          exact ⟨_, rfl, iteF (q1 H1 (Same.refl _))⟩
        | true =>
          rw [c] at e2
          have e3 : (w0 = "book" ∧ numQ 14 (tl w1) = true ∧ (numV (tl w1) = 0 ∨ numV (tl w1) ∈ primesL)) ↔ (numV (tl w1) = 0 ∨ numV (tl w1) ∈ primesL) := ⟨fun z => z.2.2, fun z => ⟨hw, e2.mpr ⟨rfl, z⟩⟩⟩
          refine ⟨.int (numV (tl w1)), rfl, .int (numV (tl w1)), rfl, .inr ⟨_, rfl⟩, _, rfl, ?_⟩
          generalize numV (tl w1) = n at *
          have eb : isByV (.int n) = decide (n = 0 ∨ n ∈ primesL) := by
            show (decide (n = 0) || decide (n ∈ primesL)) = _
            exact (Bool.decide_or _ _).symm
          rw [eb]
          by_cases hc : n = 0 ∨ n ∈ primesL
          · rw [decide_eq_true hc]
            rw [if_pos (e3.mpr hc)] at q1
            exact iteT ⟨_, rfl, q1 H1 (Same.refl _)⟩
          · rw [decide_eq_false hc]
            rw [if_neg (fun z => hc (e3.mp z))] at q1
            exact iteF (q1 H1 (Same.refl _))
      · rw [decide_eq_false hw]
        refine no ?_
        rw [em, if_neg fun z => hw z.1]
def spMarkP : Sp := fun vs H Q _ => ∃ (aw d : Addr) (b : Int) (kvs : List (Key × V)) (ms words : List Str), vs = [.ref aw, .int b, .ref d] ∧ H aw = some (.lst (words.map V.str)) ∧ H d = some (.dK kvs) ∧ kvs.map (·.1) = ms.map Sum.inr ∧ words ≠ [] ∧ (∀ z ∈ words, z.length ≤ 10000000) ∧ 0 ≤ b ∧ b ≤ 97 ∧
  ∀ r : Bool, (r = true ↔ MarkP b ms words) → ∀ H', Same H H' → Q (.bl r) H'
theorem ok_is_mark (T : Txt K mg) : FnOk P w K mg base CX0 4 T.f_is_mark T.fd_is_mark ["words", "by", "weights"] (spMarkP) := by
  refine T.F_is_mark.ok sc_is_mark (fun vs H Q E h => ?_) (fun cdv A outer s H vs Q E hr h => ?_)
  · obtain ⟨aw, d, b, kvs, ms, words, rfl, _⟩ := h
    rfl
  · obtain ⟨aw, d, b, kvs, ms, words, rfl, hW, hd, hk, wne, wz, b0, b97, q⟩ := h
    refine ⟨_, (pss_cons (ps_if (PW.pt (pw_or (pt_cmpR op_ne (pe_callB call_len_seq (by rfl) T.n_len PySem.boot_len (pa_cons (pv 0) pa_nil)) pe_int (nomark _)) (pw_or (pt_cmpR op_ne (pe_ix ix_list (pv 0) pe_int (fun _ _ => rfl)) pe_str (nomark _)) (pw_or1 (pt_cmpR op_eq (pe_callB call_lenD (by rfl) T.n_len PySem.boot_len (pa_cons (pv 2) pa_nil)) (C8.pe_gc (by rfl) T.m_MOST_MARKS) (nomark _)))))) (pss_one (ps_ret pe_bl)) pss_nil)
  (pss_cons (ps_if (PW.pt (pw_or (pt_not (pt_val (pe_call (ok_is_letters T) (hr.mono (by decide)) (by rfl) T.g_is_letters T.F_is_letters.kp T.b_is_letters .nil pass0 (pa_cons (pe_ix ix_list (pv 0) pe_int (fun _ _ => rfl)) (pa_cons pe_int pa_nil))))) (pw_or1 (pt_cmp (pc_din (hu_of hr) (pe_ix ix_list (pv 0) pe_int (fun _ _ => rfl)) (pv 2)))))) (pss_one (ps_ret pe_bl)) pss_nil)
  (pss_one (ps_ret (pe_and (pe_cmpR op_ne (pe_ix ix_list (pv 0) pe_int (fun _ _ => rfl)) pe_str (nomark _)) (pe_one (pe_call (ok_is_number T) (hr.mono (by decide)) (by rfl) T.g_is_number T.F_is_number.kp T.b_is_number .nil pass0 (pa_cons (pe_ix ix_list (pv 0) pe_int (fun _ _ => rfl)) (pa_cons (pv 1) pa_nil))))))))), ?_⟩
    have no : ¬ MarkP b ms words → ∀ H', Same H H' → Q (.bl false) H' := fun n H' s' => q false ⟨fun z => Bool.noConfusion z, fun z => absurd z n⟩ H' s'
    have lk : kvs.length = ms.length := by
      have := congrArg List.length hk
      rwa [List.length_map, List.length_map] at this
    refine ⟨.ref aw, rfl, aw, _, rfl, .inl (SqL.of hW), rfl, _, rfl, ?_⟩
    rw [List.length_map]
    show (if (!decide (V.int (words.length : Int) = V.int ((3 : Nat) : Int))) = true then _ else _)
    rw [ne_nat]
    by_cases h : words.length = 3
    case neg =>
      rw [decide_eq_false h]
      exact no (fun ⟨_, _, e, _⟩ => h (by rw [e]; rfl)) _ (Same.refl _)
    case pos =>
      rw [decide_eq_true h]
      obtain ⟨w0, w1, w2, rfl⟩ : ∃ w0 w1 w2, words = [w0, w1, w2] := by
        match words, h with
        | [a, b, c], _ => exact ⟨a, b, c, rfl⟩
      refine ⟨.ref aw, rfl, aw, _, ((0 : Nat) : Int), _, rfl, rfl, SqL.of hW, atI_nat rfl, rfl, _, rfl, ?_⟩
      show (if (!decide (V.str w0 = V.str "mark")) = true then _ else _)
      rw [eq_word]
      by_cases hw : w0 = "mark"
      case neg =>
        rw [decide_eq_false hw]
        exact no (fun ⟨_, _, e, _⟩ => hw (List.cons.inj e).1) _ (Same.refl _)
      case pos =>
        rw [decide_eq_true hw]
        refine ⟨.ref d, rfl, d, kvs, rfl, hd, rfl, _, rfl, ?_⟩
        show (if decide (V.int (kvs.length : Int) = V.int ((4 : Nat) : Int)) = true then _ else _)
        rw [eq_nat, lk]
        by_cases h4 : ms.length = 4
        case pos =>
          rw [decide_eq_true h4]
          exact no (fun ⟨_, _, _, e, _⟩ => e h4) _ (Same.refl _)
        case neg =>
          rw [decide_eq_false h4]
          refine ⟨.ref aw, rfl, aw, _, ((1 : Nat) : Int), .str w1, rfl, rfl, SqL.of hW, atI_nat rfl, w1, 4, rfl, wz w1 (by simp), fun H1 s1 => ?_⟩
          refine ⟨_, rfl, ?_⟩
          show (if (!isNmB 4 w1) = true then _ else _)
          cases hn : isNmB 4 w1 with
          | false => exact no (fun ⟨a, c, e, _, e2, _⟩ => by
              have e := (List.cons.inj (List.cons.inj e).2).1
              rw [← e, hn] at e2
              cases e2) _ s1
          | true =>
            refine ⟨.ref aw, rfl, aw, _, ((1 : Nat) : Int), .str w1, rfl, rfl, SqL.of (s1 _ _ hW), atI_nat rfl, .ref d, rfl, d, _, rfl, .inl ⟨kvs, .inr w1, .inl (s1 _ _ hd), rfl, rfl⟩, _, rfl, ?_⟩
            rw [has_key hk]
            by_cases hm : w1 ∈ ms
            case pos =>
              rw [decide_eq_true hm]
              exact no (fun ⟨a, c, e, _, _, e2, _⟩ => by
                have e := (List.cons.inj (List.cons.inj e).2).1
                rw [← e] at e2
                exact e2 hm) _ s1
            case neg =>
              rw [decide_eq_false hm]
              refine ⟨.ref aw, rfl, aw, _, ((2 : Nat) : Int), .str w2, rfl, rfl, SqL.of (s1 _ _ hW), atI_nat rfl, rfl, _, rfl, ?_⟩
              show (if (!decide (V.str w2 = V.str "0")) = true then _ else _)
              rw [eq_word]
              by_cases h0 : w2 = "0"
              case pos =>
                rw [decide_eq_true h0]
                exact no (fun ⟨a, c, e, _, _, _, e2, _⟩ => by
                  have e := (List.cons.inj (List.cons.inj (List.cons.inj e).2).2).1
                  rw [← e] at e2
                  exact e2 h0) _ s1
              case neg =>
                rw [decide_eq_false h0]
                refine ⟨.ref aw, rfl, aw, _, ((2 : Nat) : Int), .str w2, rfl, rfl, SqL.of (s1 _ _ hW), atI_nat rfl, .int b, rfl, w2, b, rfl, wz w2 (by simp), b0, b97, fun H2 s2 => ?_⟩
                refine q _ ⟨fun z => ⟨w1, w2, by rw [hw], h4, hn, hm, h0, z⟩, fun ⟨a, c, e, _, _, _, _, z⟩ => ?_⟩ _ (s1.trans s2)
                have e := (List.cons.inj (List.cons.inj (List.cons.inj e).2).2).1
                rw [e]
                exact z
def spKindP (K : PySem.W.Frag) : Sp := fun vs H Q _ => ∃ (aw d : Addr) (b : Int) (m : Nat) (kvs : List (Key × V)) (ks words : List Str), vs = [.ref aw, .int b, .ref d, .int (m : Int)] ∧ H aw = some (.lst (words.map V.str)) ∧ H d = some (.dK kvs) ∧ kvs.map (·.1) = ks.map Sum.inr ∧ words ≠ [] ∧ words.length ≤ 1000000 ∧ (∀ z ∈ words, z.length ≤ 10000000) ∧ 0 ≤ b ∧ b ≤ 97 ∧ m ≤ 4 ∧
  ∀ r : Bool, (r = true ↔ KindP b ks m words) → ∀ H', Same H H' → Q (.bl r) H'
def fIsN (b : Int) : V → V
  | .str z => .bl (numQ 14 (tl z) && wokB b (numV (tl z)))
  | v => v
theorem ok_is_kind (T : Txt K mg) : FnOk P w K mg base CX0 4 T.f_is_kind T.fd_is_kind ["words", "by", "worths", "marks"] (spKindP K) := by
  refine T.F_is_kind.ok sc_is_kind (fun vs H Q E h => ?_) (fun cdv A outer s H vs Q E hr h => ?_)
  · obtain ⟨aw, d, b, m, kvs, ks, words, rfl, _⟩ := h
    rfl
  · obtain ⟨aw, d, b, m, kvs, ks, words, rfl, hW, hd, hk, wne, wl, wz, b0, b97, m4, q⟩ := h
    refine ⟨_, (pss_cons (ps_if (PW.pt (pw_or (pt_cmpR op_ne (pe_callB call_len_seq (by rfl) T.n_len PySem.boot_len (pa_cons (pv 0) pa_nil)) (pe_op op_add pe_int (pe_op op_mulW (pv 3) (pv 3))) (nomark _)) (pw_or (pt_cmpR op_ne (pe_ix ix_list (pv 0) pe_int (fun _ _ => rfl)) pe_str (nomark _)) (pw_or1 (pt_cmpR op_eq (pe_callB call_lenD (by rfl) T.n_len PySem.boot_len (pa_cons (pv 2) pa_nil)) (C8.pe_gc (by rfl) T.m_MOST_KINDS) (nomark _)))))) (pss_one (ps_ret pe_bl)) pss_nil)
  (pss_cons (ps_if (PW.pt (pw_or (pt_not (pt_val (pe_call (ok_is_letters T) (hr.mono (by decide)) (by rfl) T.g_is_letters T.F_is_letters.kp T.b_is_letters .nil pass0 (pa_cons (pe_ix ix_list (pv 0) pe_int (fun _ _ => rfl)) (pa_cons pe_int pa_nil))))) (pw_or1 (pt_cmp (pc_din (hu_of hr) (pe_ix ix_list (pv 0) pe_int (fun _ _ => rfl)) (pv 2)))))) (pss_one (ps_ret pe_bl)) pss_nil)
  (pss_one (ps_ret (pe_callB (cr_all rfl) (by rfl) T.n_all (by decide +kernel) (pa_cons (pe_lc (own := [("word", 4)]) (g := gName 4) (by rfl) sc_is_kind.nd (pi_list (pe_slice sl_list (pv 0) (po_some pe_int) po_none)) (blkOk_by (own := [("word", 4)]) (by rfl)) (fun _ _ _ _ _ => (pg_name (i := 4) sc_is_kind.nd rfl (Or.inl rfl))) (fun _ _ _ _ _ => pts_nil) (fun _ _ _ _ _ => (pe_call (ok_is_number T) (hr.mono (by decide)) (by rfl) T.g_is_number T.F_is_number.kp T.b_is_number .nil pass0 (pa_cons (pv 4) (pa_cons (pv 1) pa_nil))))) pa_nil)))))), ?_⟩
    have no : ¬ KindP b ks m words → ∀ H', Same H H' → Q (.bl false) H' := fun n H' s' => q false ⟨fun z => Bool.noConfusion z, fun z => absurd z n⟩ H' s'
    have lk : kvs.length = ks.length := by
      have := congrArg List.length hk
      rwa [List.length_map, List.length_map] at this
    refine ⟨.ref aw, rfl, aw, _, rfl, .inl (SqL.of hW), .int (m : Int), rfl, .int (m : Int), rfl, _, _, rfl, rfl, wide_mul (a := 10) (b := 10) (by omega) (by omega) (by decide) (by decide) (by decide), _, _, rfl, rfl, rfl, _, rfl, ?_⟩
    rw [List.length_map]
    have em : (2 : Int) + (m : Int) * (m : Int) = ((2 + m * m : Nat) : Int) := by
      rw [Int.natCast_add, Int.natCast_mul]
      rfl
    show (if (!decide (V.int (words.length : Int) = V.int (2 + (m : Int) * (m : Int)))) = true then _ else _)
    rw [em, ne_nat]
    by_cases h : words.length = 2 + m * m
    case neg =>
      rw [decide_eq_false h]
      exact no (fun ⟨_, _, e, e2, _⟩ => h (by rw [e, List.length_cons, List.length_cons, e2]; omega)) _ (Same.refl _)
    case pos =>
      rw [decide_eq_true h]
      obtain ⟨w0, w1, rest, rfl⟩ : ∃ w0 w1 rest, words = w0 :: w1 :: rest := by
        match words, h with
        | [], h => exact absurd rfl wne
        | [a], h =>
          rw [List.length_singleton] at h
          omega
        | a :: b :: r, _ => exact ⟨a, b, r, rfl⟩
      have hl : rest.length = m * m := by
        rw [List.length_cons, List.length_cons] at h
        omega
      refine ⟨.ref aw, rfl, aw, _, ((0 : Nat) : Int), _, rfl, rfl, SqL.of hW, atI_nat rfl, rfl, _, rfl, ?_⟩
      show (if (!decide (V.str w0 = V.str "kind")) = true then _ else _)
      rw [eq_word]
      by_cases hw : w0 = "kind"
      case neg =>
        rw [decide_eq_false hw]
        exact no (fun ⟨_, _, e, _⟩ => hw (List.cons.inj e).1) _ (Same.refl _)
      case pos =>
        rw [decide_eq_true hw]
        refine ⟨.ref d, rfl, d, kvs, rfl, hd, rfl, _, rfl, ?_⟩
        show (if decide (V.int (kvs.length : Int) = V.int ((3 : Nat) : Int)) = true then _ else _)
        rw [eq_nat, lk]
        by_cases h4 : ks.length = 3
        case pos =>
          rw [decide_eq_true h4]
          exact no (fun ⟨_, _, _, _, e, _⟩ => e h4) _ (Same.refl _)
        case neg =>
          rw [decide_eq_false h4]
          refine ⟨.ref aw, rfl, aw, _, ((1 : Nat) : Int), .str w1, rfl, rfl, SqL.of hW, atI_nat rfl, w1, 4, rfl, wz w1 (by simp), fun H1 s1 => ?_⟩
          refine ⟨_, rfl, ?_⟩
          show (if (!isNmB 4 w1) = true then _ else _)
          cases hn : isNmB 4 w1 with
          | false => exact no (fun ⟨a, c, e, _, _, e2, _⟩ => by
              have e := (List.cons.inj (List.cons.inj e).2).1
              rw [← e, hn] at e2
              cases e2) _ s1
          | true =>
            refine ⟨.ref aw, rfl, aw, _, ((1 : Nat) : Int), .str w1, rfl, rfl, SqL.of (s1 _ _ hW), atI_nat rfl, .ref d, rfl, d, _, rfl, .inl ⟨kvs, .inr w1, .inl (s1 _ _ hd), rfl, rfl⟩, _, rfl, ?_⟩
            rw [has_key hk]
            by_cases hm : w1 ∈ ks
            case pos =>
              rw [decide_eq_true hm]
              exact no (fun ⟨a, c, e, _, _, _, e2, _⟩ => by
                have e := (List.cons.inj (List.cons.inj e).2).1
                rw [← e] at e2
                exact e2 hm) _ s1
            case neg =>
              rw [decide_eq_false hm]
              have ec : cutV ((w0 :: w1 :: rest).map V.str) (some 2) none = rest.map V.str := by
                rw [show (2 : Int) = ((2 : Nat) : Int) from rfl, cut_from]
                rfl
              refine ⟨.ref aw, rfl, _, rfl, aw, _, rfl, SqL.of (s1 _ _ hW), fun sl hsl => ?_⟩
              have s2 := same_new (o := .lst (cutV ((w0 :: w1 :: rest).map V.str) (some 2) none)) hsl
              refine ⟨sl, rfl, ⟨_, SqL.of upd_same⟩, fun D hD => ?_⟩
              refine lc_same (K := K) (xs := rest.map V.str) (fIsN b) (by rw [List.length_map, hl]; exact Nat.le_trans (Nat.mul_le_mul m4 m4) (by decide)) (SqL.of (by rw [upd_same, ec])) hD (fun x H' Q' hx s' hq => ?_) (fun _ => rfl) (fun H6 s6 h6 => ?_)
              · obtain ⟨z, hz, rfl⟩ := List.mem_map.mp hx
                exact ⟨_, rfl, .int b, rfl, z, b, rfl, wz z (List.mem_cons_of_mem _ (List.mem_cons_of_mem _ hz)), b0, b97, fun H'' s'' => hq H'' s''⟩
              have e6 : (rest.map V.str).map (fIsN b) = (rest.map fun z => numQ 14 (tl z) && wokB b (numV (tl z))).map V.bl := by
                rw [List.map_map, List.map_map]
                rfl
              rw [e6] at h6
              refine ⟨D, _, rfl, SqL.of h6, ?_⟩
              rw [all_id]
              refine q _ ⟨fun z => ⟨w1, rest, by rw [hw], hl, h4, hn, hm, z⟩, fun ⟨a, c, e, _, _, _, _, z⟩ => ?_⟩ _ ((s1.trans s2).trans s6)
              have e := (List.cons.inj (List.cons.inj e).2).2
              rw [e]
              exact z
/-! what a line does, by the two -/
theorem step_mark {b : Int} {ms ks words : List Str} (mk : MkOk ms ks) (hk : ks = []) (h : MarkP b ms words) : ∃ w1 w2 : Str, words = [("mark" : Str), w1, w2] ∧ w1 ∉ ms ∧ numQ 14 (tl w2) = true ∧ stepM b ms ks words = some (ms ++ [w1], ks) := by
  obtain ⟨w1, w2, rfl, h4, hn, hm, h0, hz⟩ := h
  have m4 := mk.m4
  refine ⟨w1, w2, rfl, hm, (Bool.and_eq_true_iff.mp hz).1, ?_⟩
  rw [stepM_eq, if_pos (by unfold okLine; rw [hn, List.all_cons, hz]; rfl), if_pos ⟨rfl, hk, by omega, hm, rfl⟩, if_neg fun z => h0 (List.cons.inj z).1]
theorem step_kind {b : Int} {ms ks words : List Str} (mk : MkOk ms ks) (hm : ms ≠ []) (h : KindP b ks ms.length words) : ∃ (w1 : Str) (rest : List Str), words = ("kind" : Str) :: w1 :: rest ∧ w1 ∉ ks ∧ (rest.all fun z => numQ 14 (tl z) && wokB b (numV (tl z))) = true ∧ rest.length = ms.length * ms.length ∧ stepM b ms ks words = some (ms, ks ++ [w1]) := by
  obtain ⟨w1, rest, rfl, hl, h3, hn, hk, hz⟩ := h
  have k3 := mk.k3
  refine ⟨w1, rest, rfl, hk, hz, hl, ?_⟩
  rw [stepM_eq, if_pos (by unfold okLine; rw [hn, hz]; rfl), if_neg fun z => absurd z.1 (by decide +kernel), if_pos ⟨rfl, hl, hm, by omega, hk⟩]
theorem step_none {b : Int} {ms ks words : List Str} (h1 : ¬ (ks = [] ∧ MarkP b ms words)) (h2 : ¬ (ms ≠ [] ∧ KindP b ks ms.length words)) : stepM b ms ks words = none := by
  match words with
  | [] => rfl
  | [_] => rfl
  | w0 :: w1 :: rest =>
    rw [stepM_eq]
    by_cases ho : okLine b w1 rest = true
    · rw [if_pos ho]
      unfold okLine at ho
      obtain ⟨hn, hz⟩ := Bool.and_eq_true_iff.mp ho
      by_cases hm : w0 = "mark" ∧ ks = [] ∧ ms.length < 4 ∧ w1 ∉ ms ∧ rest.length = 1
      · rw [if_pos hm]
        obtain ⟨e0, ek, e4, em, el⟩ := hm
        obtain ⟨z, rfl⟩ : ∃ z, rest = [z] := by
          match rest, el with
          | [z], _ => exact ⟨z, rfl⟩
        by_cases h0 : z = "0"
        · rw [if_pos (by rw [h0])]
        · refine absurd ⟨ek, w1, z, by rw [e0], by omega, hn, em, h0, ?_⟩ h1
          rw [List.all_cons, Bool.and_eq_true] at hz
          exact hz.1
      · rw [if_neg hm]
        by_cases hk : w0 = "kind" ∧ rest.length = ms.length * ms.length ∧ ms ≠ [] ∧ ks.length < 3 ∧ w1 ∉ ks
        · obtain ⟨e0, el, em, e3, ek⟩ := hk
          exact absurd ⟨em, w1, rest, by rw [e0], el, by omega, hn, ek, hz⟩ h2
        · rw [if_neg hk]
    · rw [if_neg ho]
end
end OG
set_option Elab.async false
set_option linter.all false
set_option maxRecDepth 100000
set_option maxHeartbeats 8000000
namespace OG
open PySem PySem.Spec PyProof.Rows L2
/-- the classes -/
structure TxtX (K : PySem.W.Frag) (mg : Str → Option Value) (T : Txt K mg) : Prop where
  exB : OexC K T.c_BadBook
  inB : PySem.W.findIn K (.ref T.c_BadBook) "__init__" = some (some (.ref T.f_GateError_init))
  tyI : PySem.W.typeIn K (.ref T.f_GateError_init) = some (.type "function")
  noV : PySem.W.findIn K (.ref T.c_BadBook) "value" = some none
  xf : XfC K T.c_BadBook
  ec : ExcC K T.c_BadBook
  te : PySem.W.exmOne K (.ref T.c_BadBook) (.ref T.c_GateError) = some true
  kt : PySem.W.kitOne K (.ref T.c_BadBook) (.ref T.c_BadBook) = some true
  cl : Cls K T.c_Book
  mkB : Mk K T.c_Book T.f_Book_init
  na1 : NoAttr K T.c_Book "text"
  na2 : NoAttr K T.c_Book "by"
  na3 : NoAttr K T.c_Book "marks"
  na4 : NoAttr K T.c_Book "kinds"
  na5 : NoAttr K T.c_Book "_weight_by_mark"
  na6 : NoAttr K T.c_Book "_worths_by_kind"
  ca : PySem.W.findIn K (.ref T.c_Book) "__class__" = some (some (.builtin "object.__class__"))
  ob : PySem.W.mroIn K T.c_Book (.type "object") = some true
  kb : PySem.W.kitOne K (.ref T.c_Book) (.ref T.c_Book) = some true
def spGateInit (K : PySem.W.Frag) : Sp := fun vs H Q _ => ∃ (a C : Addr) (y : V), vs = [.ref a, y] ∧ OexC K C ∧ PySem.W.findIn K (.ref C) "value" = some none ∧ H a = some (exo a C none) ∧
  ∀ dx, H dx = none → dx ≠ a → Q .non (upd (upd H dx (exd dx [("value", y)])) a (exo a C (some dx)))
section
variable {P : Program} {w : World} {K : PySem.W.Frag} {mg : Str → Option Value} {base : Heap}
theorem ok_GateError_init (T : Txt K mg) : FnOk P w K mg base CX0 1 T.f_GateError_init T.fd_GateError_init ["self", "value"] (spGateInit K) := by
  refine T.F_GateError_init.ok sc_GateError_init (fun vs H Q E h => ?_) (fun cdv A outer s H vs Q E hr h => ?_)
  · obtain ⟨a, C, y, rfl, _⟩ := h
    rfl
  · obtain ⟨a, C, y, rfl, hC, hno, ha, q⟩ := h
    refine ⟨_, pss_one (ps_ost (pv 0) (pv 1)), ?_⟩
    exact ⟨y, rfl, .ref a, rfl, a, C, rfl, hC, hno, .inl ⟨ha, fun dx n ne => q dx n ne⟩⟩
theorem raised_same {H : Hp} {a dx : Addr} {u1 u2 u3 u4 : HO} (ha : H a = none) (hd : upd H a u1 dx = none) : Same H (upd (del (upd (upd (upd H a u1) dx u2) a u3) a) dx u4) := fun b o e => by
  have n1 : b ≠ a := ne_of_none e ha
  have e1 : upd H a u1 b = some o := by
    rw [upd_ne n1]
    exact e
  have n2 : b ≠ dx := ne_of_none e1 hd
  rw [upd_ne n2, del_ne n1, upd_ne n1, upd_ne n2]
  exact e1
theorem bad_made {T : Txt K mg} (XT : TxtX K mg T) {H : Hp} {y : V} {Qx : XK} (q : ∀ d H', Same H H' → H' d = some (.xd [("value", y)]) → Qx (.ref T.c_BadBook) (some d) H') :
    [y].length ≤ 1000 ∧ ∀ a, H a = none → spGateInit K (.ref a :: ([y] ++ [])) (upd H a (exo a T.c_BadBook none))
      (fun v H2 => v = .non ∧ ∃ (d : Addr) (fs : List (Str × V)), H2 a = some (exo a T.c_BadBook (some d)) ∧ H2 d = some (exd d fs) ∧ H d = none ∧ Qx (.ref T.c_BadBook) (some d) (upd (del H2 a) d (.xd fs))) (fun _ _ _ => False) := by
  refine ⟨by show 1 ≤ 1000; decide, fun a ha => ⟨a, T.c_BadBook, y, rfl, XT.exB, XT.noV, upd_same, fun dx hdx hne => ⟨rfl, dx, [("value", y)], upd_same, ?_, ?_, ?_⟩⟩⟩
  · rw [upd_ne hne, upd_same]
  · rw [upd_ne hne] at hdx
    exact hdx
  · exact q dx _ (raised_same ha hdx) upd_same
theorem ifs_else {c : TT} {t u : TS} {D : Ends} {σ : L2.St} {H : Hp} (R : Hp → Prop) (he : ∀ H', R H' → u D σ H') (h : (∀ H', R H' → u D σ H') → c σ H fun b H1 => if b = true then t D σ H1 else u D σ H1) : tIfS c t u D σ H := h he
def fIntS : V → V
  | .str z => .int (numV (tl z))
  | v => v
def spRead (T : Txt K mg) : Sp := fun vs H Q E => ∃ z : Str, vs = [.str z] ∧ z.length ≤ 900000 ∧
  (∀ n : Nat, wrongM z = some n → ∀ (d : Addr) (H' : Hp), Same H H' → H' d = some (.xd [("value", .int (n : Int))]) → E (.ref T.c_BadBook) (some d) H') ∧
  (wrongM z = none → ∀ (t a1 a2 : Addr) (b : Int) (kv1 kv2 : List (Key × V)) (H' : Hp), Same H H' → H' t = some (.tup [.int b, .ref a1, .ref a2]) → H' a1 = some (.dK kv1) → H' a2 = some (.dK kv2) → Q (.ref t) H')
theorem ok_read_book (T : Txt K mg) (XT : TxtX K mg T) : FnOk P w K mg base (L2.CX P w) 5 T.f_read_book T.fd_read_book ["text"] (spRead T) := by
  refine T.F_read_book.okX sc_read_book (fun vs H Q E h => ?_) (fun cdv A outer s H vs Q E hr h => ?_)
  · obtain ⟨z, rfl, _⟩ := h
    rfl
  · obtain ⟨z, rfl, hz, qe, qn⟩ := h
    refine ⟨_, (pss_cons (ps_set (i := 1) sc_read_book.nd rfl (Or.inl rfl) (pe_split (pv 0) pe_str))
  (pss_cons (ps_set (i := 2) sc_read_book.nd rfl (Or.inl rfl) (pe_call (ok_read_by T) (hr.mono (by decide)) (by rfl) T.g_read_by T.F_read_by.kp T.b_read_by .nil pass0 (pa_cons (pe_split (pe_ix ix_list (pv 1) pe_int (fun _ _ => rfl)) pe_str) pa_nil)))
  (pss_cons (ps_if (pt_cmpR op_isN (pv 2) pe_non (nomark _)) (pss_one (ps_raise rfl (takes_of rfl rfl rfl rfl) (pmk_oex XT.exB XT.inB XT.tyI (ok_GateError_init T) (hr.mono (by decide)) T.b_GateError_init .nil pass0 (by rfl) T.g_BadBook (pa_cons pe_int pa_nil)))) pss_nil)
  (pss_cons (ps_set (i := 3) sc_read_book.nd rfl (Or.inl rfl) pe_dnewK)
  (pss_cons (ps_set (i := 4) sc_read_book.nd rfl (Or.inl rfl) pe_dnewK)
  (pss_cons (ps_for (passes_of rfl) rfl (OGX.pi_enumS (by rfl) T.n_enumerate (pa_cons (pe_slice sl_list (pv 1) (po_some pe_int) po_none) pa_nil) (pk_cons pe_int pk_nil)) (pg_tup (by rfl) (pgs_cons (pg_name (i := 5) sc_read_book.nd rfl (Or.inl rfl)) (pgs_cons (pg_name (i := 6) sc_read_book.nd rfl (Or.inl rfl)) pgs_nil))) (pss_cons (ps_set (i := 7) sc_read_book.nd rfl (Or.inl rfl) (pe_split (pv 6) pe_str))
  (pss_one (ps_if (PW.pt (pw_and (pt_not (pt_truth (pv 4) (by intro _; rfl))) (pw_and1 (pt_val (pe_call (ok_is_mark T) (hr.mono (by decide)) (by rfl) T.g_is_mark T.F_is_mark.kp T.b_is_mark .nil pass0 (pa_cons (pv 7) (pa_cons (pv 2) (pa_cons (pv 3) pa_nil)))))))) (pss_one (ps_dput (hu_of hr) (pv 3) (pe_ix ix_list (pv 7) pe_int (fun _ _ => rfl)) (pe_callTy call_int_str (by rfl) T.n_int (by decide +kernel) (pa_cons (pe_ix ix_list (pv 7) pe_int (fun _ _ => rfl)) pa_nil)) rfl)) (pss_one (ps_if (PW.pt (pw_and (pt_truth (pv 3) (by intro _; rfl)) (pw_and1 (pt_val (pe_call (ok_is_kind T) (hr.mono (by decide)) (by rfl) T.g_is_kind T.F_is_kind.kp T.b_is_kind .nil pass0 (pa_cons (pv 7) (pa_cons (pv 2) (pa_cons (pv 4) (pa_cons (pe_callB call_lenD (by rfl) T.n_len PySem.boot_len (pa_cons (pv 3) pa_nil)) pa_nil))))))))) (pss_one (ps_dput (hu_of hr) (pv 4) (pe_ix ix_list (pv 7) pe_int (fun _ _ => rfl)) (pe_callTy call_tuple_of (by rfl) T.n_tuple (by decide +kernel) (pa_cons (pe_lc (own := [("word", 8)]) (g := gName 8) (by rfl) sc_read_book.nd (pi_list (pe_slice sl_list (pv 7) (po_some pe_int) po_none)) (blkOk_by (own := [("word", 8)]) (by rfl)) (fun _ _ _ _ _ => (pg_name (i := 8) sc_read_book.nd rfl (Or.inl rfl))) (fun _ _ _ _ _ => pts_nil) (fun _ _ _ _ _ => (pe_callTy call_int_str (by rfl) T.n_int (by decide +kernel) (pa_cons (pv 8) pa_nil)))) pa_nil)) rfl)) (pss_one (ps_raise rfl (takes_of rfl rfl rfl rfl) (pmk_oex XT.exB XT.inB XT.tyI (ok_GateError_init T) (hr.mono (by decide)) T.b_GateError_init .nil pass0 (by rfl) T.g_BadBook (pa_cons (pv 5) pa_nil))))))))))
  (pss_cons (ps_if (pt_not (pt_truth (pv 4) (by intro _; rfl))) (pss_one (ps_raise rfl (takes_of rfl rfl rfl rfl) (pmk_oex XT.exB XT.inB XT.tyI (ok_GateError_init T) (hr.mono (by decide)) T.b_GateError_init .nil pass0 (by rfl) T.g_BadBook (pa_cons (pe_op op_add (pe_callB call_len_seq (by rfl) T.n_len PySem.boot_len (pa_cons (pv 1) pa_nil)) pe_int) pa_nil)))) pss_nil)
  (pss_one (ps_ret (pe_tup (pa_cons (pv 2) (pa_cons (pv 3) (pa_cons (pv 4) pa_nil))))))))))))), ?_⟩
    obtain ⟨n1, l1, p1⟩ := split_facts z "\n" rfl (by decide +kernel)
    have em : wrongM z = match byM (Txt.split ((Txt.split z "\n").head?.getD "") " ") with
      | none => some 1
      | some b => match walkM b ((Txt.split z "\n").drop 1) 2 [] [] with
        | .inl i => some i
        | .inr mk => if mk.2 = [] then some ((Txt.split z "\n").length + 1) else none := rfl
    rw [em] at qe qn
    obtain ⟨ls, hls⟩ : ∃ ls, Txt.split z "\n" = ls := ⟨_, rfl⟩
    rw [hls] at qe qn n1 l1 p1
    refine ⟨.str z, rfl, ⟨_, rfl⟩, z, _, rfl, rfl, rfl, le_line (by omega), fun pl hpl => ?_⟩
    rw [hls]
    have s1 := same_new (o := .lst (ls.map V.str)) hpl
    have hpl1 : (upd H pl (.lst (ls.map V.str))) pl = some (.lst (ls.map V.str)) := upd_same
    generalize upd H pl (.lst (ls.map V.str)) = H1 at *
    obtain ⟨l0, lr, rfl⟩ : ∃ l0 lr, ls = l0 :: lr := by
      cases ls with
      | nil => exact absurd rfl n1
      | cons a b => exact ⟨a, b, rfl⟩
    have hl0 : l0.length ≤ 900000 := Nat.le_trans (p1 l0 List.mem_cons_self) hz
    refine ⟨.ref pl, rfl, pl, _, ((0 : Nat) : Int), _, rfl, rfl, SqL.of hpl1, atI_nat rfl, ⟨_, rfl⟩, l0, _, rfl, rfl, rfl, le_line (by omega), fun wl hwl => ?_⟩
    obtain ⟨m1, m2, m3⟩ := split_facts l0 " " rfl (by decide +kernel)
    have s2 := same_new (o := .lst ((Txt.split l0 " ").map V.str)) hwl
    refine ⟨wl, Txt.split l0 " ", rfl, upd_same, m1, fun y hy => Nat.le_trans (m3 y hy) (by omega), fun H2 s3 => ?_⟩
    have sA := (s1.trans s2).trans s3
    have hpl2 := s3 _ _ (s2 _ _ hpl1)
    have qe : ∀ n : Nat, (match byM (Txt.split l0 " ") with
      | none => some 1
      | some b => match walkM b lr 2 [] [] with
        | .inl i => some i
        | .inr mk => if mk.2 = [] then some (lr.length + 1 + 1) else none) = some n → ∀ (d : Addr) (H' : Hp), Same H H' → H' d = some (.xd [("value", .int (n : Int))]) → E (.ref T.c_BadBook) (some d) H' := qe
    have qn : (match byM (Txt.split l0 " ") with
      | none => some 1
      | some b => match walkM b lr 2 [] [] with
        | .inl i => some i
        | .inr mk => if mk.2 = [] then some (lr.length + 1 + 1) else none) = none → ∀ (t a1 a2 : Addr) (b : Int) (kv1 kv2 : List (Key × V)) (H' : Hp), Same H H' → H' t = some (.tup [.int b, .ref a1, .ref a2]) → H' a1 = some (.dK kv1) → H' a2 = some (.dK kv2) → Q (.ref t) H' := qn
    cases hb : byM (Txt.split l0 " ") with
    | none =>
      rw [hb] at qe
      refine ⟨_, rfl, rfl, _, rfl, ?_⟩
      refine bad_made XT fun d H' s' hd => ?_
      exact qe 1 rfl d H' (sA.trans s') hd
    | some b =>
      rw [hb] at qe qn
      obtain ⟨b0, b97⟩ := byM_ok hb
      refine ⟨.int b, rfl, rfl, _, rfl, ?_⟩
      refine iteF ?_
      dsimp only [tNext]
      refine fun a1 ha1 => ?_
      refine fun a2 ha2 => ?_
      have n12 : a1 ≠ a2 := fun e => by
        rw [← e, upd_same] at ha2
        cases ha2
      have t1 := same_new (o := .dK []) ha1
      have t2 := same_new (o := .dK []) ha2
      have h1 : (upd (upd H2 a1 (.dK [])) a2 (.dK [])) a1 = some (.dK []) := t2 _ _ upd_same
      have h2 : (upd (upd H2 a1 (.dK [])) a2 (.dK [])) a2 = some (.dK []) := upd_same
      have nH1 : ∀ x o, H x = some o → x ≠ a1 := fun x o e => ne_of_none (sA _ _ e) ha1
      have nH2 : ∀ x o, H x = some o → x ≠ a2 := fun x o e => ne_of_none (t1 _ _ (sA _ _ e)) ha2
      have hpl3 := t2 _ _ (t1 _ _ hpl2)
      have sB := (sA.trans t1).trans t2
      have npl1 : pl ≠ a1 := ne_of_none hpl2 ha1
      have npl2 : pl ≠ a2 := ne_of_none (t1 _ _ hpl2) ha2
      generalize upd (upd H2 a1 (.dK [])) a2 (.dK []) = H3 at *
      have ec : cutV ((l0 :: lr).map V.str) (some 1) none = lr.map V.str := by
        rw [show (1 : Int) = ((1 : Nat) : Int) from rfl, cut_from]
        rfl
      refine ⟨.ref pl, rfl, _, rfl, pl, _, rfl, SqL.of hpl3, fun sl hsl => ?_⟩
      have s4 := same_new (o := .lst (cutV ((l0 :: lr).map V.str) (some 1) none)) hsl
      refine ⟨sl, _, 2, rfl, rfl, by decide, SqL.of upd_same, ?_⟩
      rw [ec] at s4 ⊢
      have hsl4 : (upd H3 sl (.lst (lr.map V.str))) sl = some (.lst (lr.map V.str)) := upd_same
      have nsl1 : sl ≠ a1 := ne_of_none' h1 hsl
      have nsl2 : sl ≠ a2 := ne_of_none' h2 hsl
      have h1 := s4 _ _ h1
      have h2 := s4 _ _ h2
      have hpl4 := s4 _ _ hpl3
      have sC := sB.trans s4
      generalize upd H3 sl (.lst (lr.map V.str)) = H4 at *
      have kS : ∀ H9, K2 a1 a2 H4 H9 → Same H H9 := fun H9 k9 a o ho => k9 a o (nH1 a o ho) (nH2 a o ho) (sC _ _ ho)
      refine OGX.for_enumS (K := K) (a := sl) (xs := lr.map V.str) (m0 := 2) (fun i σ H' => ∃ (v5 v6 v7 : Option V) (ms ks : List Str) (kv1 kv2 : List (Key × V)), σ = [some (.str z), some (.ref pl), some (.int b), some (.ref a1), some (.ref a2), v5, v6, v7, none] ∧ K2 a1 a2 H4 H' ∧
          H' a1 = some (.dK kv1) ∧ H' a2 = some (.dK kv2) ∧ kv1.map (·.1) = ms.map Sum.inr ∧ kv2.map (·.1) = ks.map Sum.inr ∧ MkOk ms ks ∧ i ≤ lr.length ∧ walkM b lr 2 [] [] = walkM b (lr.drop i) (i + 2) ms ks)
        ⟨none, none, none, [], [], [], [], rfl, fun _ _ _ _ h => h, h1, h2, rfl, rfl, MkOk.nil, Nat.zero_le _, rfl⟩ (fun i σ H' ⟨_, _, _, _, _, _, _, _, k2, _⟩ => SqL.of (k2 _ _ nsl1 nsl2 hsl4)) ?_ ?_
      · rintro i x T0 σ H5 hx ⟨v5, v6, v7, ms, ks, kv1, kv2, rfl, k2, g1, g2, e1, e2, mk, hi, hw⟩ hT0
        obtain ⟨l, hl, rfl⟩ := str_at hx
        have hil : i < lr.length := (List.getElem?_eq_some_iff.mp hl).1
        have ll : l.length ≤ 900000 := Nat.le_trans (p1 l (List.mem_cons_of_mem _ (List.mem_of_getElem? hl))) hz
        have u1 := same_new (o := .tup [.int ((2 + i : Nat) : Int), .str l]) hT0
        refine ⟨T0, _, rfl, SqT.of upd_same, rfl, _, _, rfl, _, _, rfl, rfl, ?_⟩
        refine ⟨.str l, rfl, ⟨_, rfl⟩, l, _, rfl, rfl, rfl, le_line (by omega), fun aw haw => ?_⟩
        obtain ⟨c1, c2, c3⟩ := split_facts l " " rfl (by decide +kernel)
        have u2 := same_new (o := .lst ((Txt.split l " ").map V.str)) haw
        have hW : (upd (upd H5 T0 (.tup [.int ((2 + i : Nat) : Int), .str l])) aw (.lst ((Txt.split l " ").map V.str))) aw = some (.lst ((Txt.split l " ").map V.str)) := upd_same
        have k3 := (u1.trans u2)
        generalize upd (upd H5 T0 (.tup [.int ((2 + i : Nat) : Int), .str l])) aw (.lst ((Txt.split l " ").map V.str)) = H6 at *
        have g1 := k3 _ _ g1
        have g2 := k3 _ _ g2
        have k6 : K2 a1 a2 H4 H6 := fun x o n1 n2 ho => k3 _ _ (k2 x o n1 n2 ho)
        have wdrop : lr.drop i = l :: lr.drop (i + 1) := by
          rw [List.drop_eq_getElem_cons hil]
          have e := (List.getElem?_eq_some_iff.mp hl).2
          rw [e]
        rw [wdrop] at hw
        have hw : walkM b lr 2 [] [] = match stepM b ms ks (Txt.split l " ") with
          | none => Sum.inl (i + 2)
          | some mk => walkM b (lr.drop (i + 1)) (i + 2 + 1) mk.1 mk.2 := hw
        generalize Txt.split l " " = words at *
        have wz : ∀ y ∈ words, y.length ≤ 10000000 := fun y hy => Nat.le_trans (c3 y hy) (by omega)
        dsimp only [gName]
        have lk1 : kv1.length = ms.length := by
          have := congrArg List.length e1
          rwa [List.length_map, List.length_map] at this
        have lk2 : kv2.length = ks.length := by
          have := congrArg List.length e2
          rwa [List.length_map, List.length_map] at this
        refine ifs_else (fun H7 => Same H6 H7 ∧ ¬ (ks = [] ∧ MarkP b ms words)) ?_ (fun fin => ?_)
        · rintro H7 ⟨s7, nm⟩
          have g1 := s7 _ _ g1
          have g2 := s7 _ _ g2
          have hW := s7 _ _ hW
          have k7 : K2 a1 a2 H4 H7 := fun x o n1 n2 ho => s7 _ _ (k6 x o n1 n2 ho)
          refine ifs_else (fun H8 => Same H7 H8 ∧ ¬ (ms ≠ [] ∧ KindP b ks ms.length words)) ?_ (fun fin2 => ?_)
          · rintro H8 ⟨s8, nk⟩
            have k8 : K2 a1 a2 H4 H8 := fun x o n1 n2 ho => s8 _ _ (k7 x o n1 n2 ho)
            have en := step_none nm nk
            rw [en] at hw
            refine ⟨.int ((2 + i : Nat) : Int), rfl, ?_⟩
            refine bad_made XT fun d H' s' hd => ?_
            refine qe (i + 2) ?_ d H' ((kS _ k8).trans s') ?_
            · show (match walkM b lr 2 [] [] with
                | .inl i => some i
                | .inr mk => if mk.2 = [] then some (lr.length + 1 + 1) else none) = _
              rw [hw]
            · rw [show i + 2 = 2 + i by omega]
              exact hd
          · refine ⟨.ref a1, rfl, _, .inr (.inr ⟨kv1, g1, rfl⟩), ?_⟩
            by_cases hms : ms = []
            case pos =>
              have e0 : kv1 = [] := List.length_eq_zero_iff.mp (by rw [lk1, hms]; rfl)
              rw [e0]
              exact fin2 _ ⟨Same.refl _, fun z => z.1 hms⟩
            case neg =>
              have e0 : kv1.isEmpty = false := by
                cases kv1 with
                | nil => exact absurd (List.length_eq_zero_iff.mp (by rw [← lk1]; rfl)) hms
                | cons a b => rfl
              rw [e0]
              refine ⟨.ref aw, rfl, .int b, rfl, .ref a2, rfl, .ref a1, rfl, a1, kv1, rfl, g1, aw, a2, b, ms.length, kv2, ks, words, (by rw [lk1]; rfl), hW, g2, e2, c1, by omega, wz, b0, b97, mk.m4, fun r hrr H8 s8 => ?_⟩
              refine ⟨_, rfl, ?_⟩
              cases r with
              | false => exact fin2 _ ⟨s8, fun z => by
                  have := hrr.mpr z.2
                  cases this⟩
              | true =>
                obtain ⟨w1, rest, rfl, hwk, hz', hlr, est⟩ := step_kind mk hms (hrr.mp rfl)
                rw [est] at hw
                have hW := s8 _ _ hW
                have k8 : K2 a1 a2 H4 H8 := fun x o n1 n2 ho => s8 _ _ (k7 x o n1 n2 ho)
                have ec2 : cutV ((("kind" : Str) :: w1 :: rest).map V.str) (some 2) none = rest.map V.str := by
                  rw [show (2 : Int) = ((2 : Nat) : Int) from rfl, cut_from]
                  rfl
                refine ⟨.ref aw, rfl, _, rfl, aw, _, rfl, SqL.of hW, fun sl2 hsl2 => ?_⟩
                have v1 := same_new (o := .lst (cutV ((("kind" : Str) :: w1 :: rest).map V.str) (some 2) none)) hsl2
                refine ⟨sl2, rfl, ⟨_, SqL.of upd_same⟩, fun D hD => ?_⟩
                refine lc_same (K := K) (xs := rest.map V.str) fIntS (by rw [List.length_map, hlr]; exact Nat.le_trans (Nat.mul_le_mul mk.m4 mk.m4) (by decide)) (SqL.of (by rw [upd_same, ec2])) hD (fun x H' Q' hx s' hq => ?_) (fun _ => rfl) (fun H9 s9 h9 => ?_)
                · obtain ⟨y, hy, rfl⟩ := List.mem_map.mp hx
                  have hy2 := List.all_eq_true.mp hz' y hy
                  have nq := numQ_iff.mp (Bool.and_eq_true_iff.mp hy2).1
                  exact ⟨.str y, rfl, y, numV (tl y), rfl, intText_num nq (Nat.le_trans nq.len (by decide)), Nat.le_trans nq.len (by decide), hq H' (Same.refl _)⟩
                refine ⟨D, _, rfl, .inl ⟨SqL.of h9, fun t ht => ?_⟩⟩
                have v2 := same_new (o := .tup ((rest.map V.str).map fIntS)) ht
                have sF := ((s8.trans v1).trans s9).trans v2
                have sG := (v1.trans s9).trans v2
                refine ⟨.ref a2, rfl, .ref aw, rfl, aw, _, ((1 : Nat) : Int), .str w1, rfl, rfl, SqL.of (sG _ _ hW), atI_nat rfl, a2, _, rfl, .inl ⟨kv2, .inr w1, sF _ _ g2, rfl, Nat.lt_of_le_of_lt (show kv2.length ≤ 3 by rw [lk2]; exact mk.k3) (by decide), rfl⟩, ?_⟩
                have hkn : valV kv2 (.inr w1) = none := by
                  have := has_key e2 w1
                  rw [decide_eq_false hwk] at this
                  exact Option.isNone_iff_eq_none.mp (by rw [← Option.not_isSome, this]; rfl)
                refine ⟨_, _, _, ms, ks ++ [w1], kv1, putK kv2 (.inr w1) (.ref t), rfl, fun x o n1 n2 ho => ?_, ?_, upd_same, e1, ?_, mk.step est, by omega, hw⟩
                · rw [upd_ne n2]
                  exact sG _ _ (k8 x o n1 n2 ho)
                · rw [upd_ne n12]
                  exact sF _ _ g1
                · rw [putK_new _ hkn, List.map_append, e2, List.map_append]
                  rfl
        · refine ⟨.ref a2, rfl, _, .inr (.inr ⟨kv2, g2, rfl⟩), ?_⟩
          by_cases hks : ks = []
          case neg =>
            have e0 : kv2.isEmpty = false := by
              cases kv2 with
              | nil => exact absurd (List.length_eq_zero_iff.mp (by rw [← lk2]; rfl)) hks
              | cons a b => rfl
            rw [e0]
            exact fin _ ⟨Same.refl _, fun z => hks z.1⟩
          case pos =>
            have e0 : kv2 = [] := List.length_eq_zero_iff.mp (by rw [lk2, hks]; rfl)
            rw [e0]
            refine ⟨.ref aw, rfl, .int b, rfl, .ref a1, rfl, aw, a1, b, kv1, ms, words, rfl, hW, g1, e1, c1, wz, b0, b97, fun r hrr H8 s8 => ?_⟩
            refine ⟨_, rfl, ?_⟩
            cases r with
            | false => exact fin _ ⟨s8, fun z => by
                have := hrr.mpr z.2
                cases this⟩
            | true =>
              obtain ⟨w1, w2, rfl, hwk, hq2, est⟩ := step_mark mk hks (hrr.mp rfl)
              rw [est] at hw
              have hW := s8 _ _ hW
              have k8 : K2 a1 a2 H4 H8 := fun x o n1 n2 ho => s8 _ _ (k6 x o n1 n2 ho)
              have nq := numQ_iff.mp hq2
              refine ⟨.ref aw, rfl, aw, _, ((2 : Nat) : Int), .str w2, rfl, rfl, SqL.of hW, atI_nat rfl, w2, numV (tl w2), rfl, intText_num nq (Nat.le_trans nq.len (by decide)), Nat.le_trans nq.len (by decide), ?_⟩
              refine ⟨.ref a1, rfl, .ref aw, rfl, aw, _, ((1 : Nat) : Int), .str w1, rfl, rfl, SqL.of hW, atI_nat rfl, a1, _, rfl, .inl ⟨kv1, .inr w1, s8 _ _ g1, rfl, Nat.lt_of_le_of_lt (show kv1.length ≤ 4 by rw [lk1]; exact mk.m4) (by decide), rfl⟩, ?_⟩
              have hkn : valV kv1 (.inr w1) = none := by
                have := has_key e1 w1
                rw [decide_eq_false hwk] at this
                exact Option.isNone_iff_eq_none.mp (by rw [← Option.not_isSome, this]; rfl)
              refine ⟨_, _, _, ms ++ [w1], ks, putK kv1 (.inr w1) (.int (numV (tl w2))), kv2, rfl, fun x o n1 n2 ho => ?_, upd_same, ?_, ?_, e2, mk.step est, by omega, hw⟩
              · rw [upd_ne n1]
                exact k8 x o n1 n2 ho
              · rw [upd_ne n12.symm]
                exact s8 _ _ g2
              · rw [putK_new _ hkn, List.map_append, e1, List.map_append]
                rfl
      · rintro σ H5 ⟨v5, v6, v7, ms, ks, kv1, kv2, rfl, k2, g1, g2, e1, e2, mk, hi, hw⟩
        rw [List.length_map, List.drop_length] at hw
        have hw : walkM b lr 2 [] [] = .inr (ms, ks) := hw
        have sF := kS _ k2
        have lk2 : kv2.length = ks.length := by
          have := congrArg List.length e2
          rwa [List.length_map, List.length_map] at this
        refine ⟨.ref a2, rfl, _, .inr (.inr ⟨kv2, g2, rfl⟩), ?_⟩
        by_cases hks : ks = []
        case pos =>
          have e0 : kv2 = [] := List.length_eq_zero_iff.mp (by rw [lk2, hks]; rfl)
          rw [e0]
          refine ⟨.ref pl, rfl, pl, _, rfl, .inl (SqL.of (k2 _ _ npl1 npl2 hpl4)), _, _, rfl, rfl, ?_⟩
          refine bad_made XT fun d H' s' hd => ?_
          refine qe (lr.length + 1 + 1) ?_ d H' (sF.trans s') ?_
          · show (match walkM b lr 2 [] [] with
              | .inl i => some i
              | .inr mk => if mk.2 = [] then some (lr.length + 1 + 1) else none) = _
            rw [hw]
            exact if_pos hks
          · rw [List.length_map, List.length_cons] at hd
            exact hd
        case neg =>
          have e0 : kv2.isEmpty = false := by
            cases kv2 with
            | nil => exact absurd (List.length_eq_zero_iff.mp (by rw [← lk2]; rfl)) hks
            | cons a b => rfl
          rw [e0]
          refine ⟨.int b, rfl, .ref a1, rfl, .ref a2, rfl, Nat.le_trans (show 3 ≤ 1000 by decide) (by decide), fun t ht => ?_⟩
          have st := same_new (o := .tup [.int b, .ref a1, .ref a2]) ht
          refine qn ?_ t a1 a2 b kv1 kv2 _ (sF.trans st) upd_same (st _ _ g1) (st _ _ g2)
          show (match walkM b lr 2 [] [] with
            | .inl i => some i
            | .inr mk => if mk.2 = [] then some (lr.length + 1 + 1) else none) = _
          rw [hw]
          exact if_neg hks
end
end OG
set_option Elab.async false
set_option linter.all false
set_option maxRecDepth 100000
set_option maxHeartbeats 8000000
namespace OG
open PySem PySem.Spec PyProof.Rows L2
theorem putF_le (f : Str) (y : V) : ∀ fs : List (Str × V), (putF f y fs).length ≤ fs.length + 1
  | [] => Nat.le_refl _
  | p :: r => by
    unfold putF
    have ih := putF_le f y r
    split
    · exact Nat.le_succ _
    · rw [List.length_cons, List.length_cons]
      omega
theorem Same.put {H0 H : Hp} {x : Addr} {o : HO} (s : Same H0 H) (h : H0 x = none) : Same H0 (upd H x o) := fun b u e => by
  rw [upd_ne (ne_of_none e h)]
  exact s _ _ e
section
variable {P : Program} {w : World} {K : PySem.W.Frag} {mg : Str → Option Value} {base : Heap}
def spBookInit (T : Txt K mg) : Sp := fun vs H Q E => ∃ (x dx : Addr) (v : V) (H0 : Hp), vs = [.ref x, v] ∧ Same H0 H ∧ H0 x = none ∧ NearV H0 v ∧ H x = some (.ins T.c_Book dx []) ∧
  (∀ n : Nat, dueM v = some n → ∀ (d : Addr) (H' : Hp), Same H0 H' → H' d = some (.xd [("value", .int (n : Int))]) → E (.ref T.c_BadBook) (some d) H') ∧
  (dueM v = none → ∀ (fs : List (Str × V)) (H' : Hp), Same H0 H' → H' x = some (.ins T.c_Book dx fs) → fs.lookup ("text" : Str) = some v → Q .non H')
theorem ok_Book_init (T : Txt K mg) (XT : TxtX K mg T) : FnOk P w K mg base (L2.CX P w) 6 T.f_Book_init T.fd_Book_init ["self", "text"] (spBookInit T) := by
  refine T.F_Book_init.okX sc_Book_init (fun vs H Q E h => ?_) (fun cdv A outer s H vs Q E hr h => ?_)
  · obtain ⟨x, dx, v, H0, rfl, _⟩ := h
    rfl
  · obtain ⟨x, dx, v, H0, rfl, s0, hx0, hv0, hx, qe, qn⟩ := h
    refine ⟨_, (pss_cons (ps_if (pt_not (pt_val (pe_callB call_isi (by rfl) T.n_isinstance (by decide +kernel) (pa_cons (pv 1) (pa_cons (pe_bltn (v := .ty "str") (by rfl) T.n_str (by decide +kernel) rfl) pa_nil))))) (pss_one (ps_raise rfl (takes_of rfl rfl rfl rfl) (pmk_oex XT.exB XT.inB XT.tyI (ok_GateError_init T) (hr.mono (by decide)) T.b_GateError_init .nil pass0 (by rfl) T.g_BadBook (pa_cons pe_int pa_nil)))) pss_nil)
  (pss_cons (ps_asg (pe_call (ok_read_book T XT) (hr.mono (by decide)) (by rfl) T.g_read_book T.F_read_book.kp T.b_read_book .nil (passes_call (takes_of rfl rfl rfl rfl) (fun _ _ _ _ h => h)) (pa_cons (pv 1) pa_nil)) (pg_tup (by rfl) (pgs_cons (pg_name (i := 2) sc_Book_init.nd rfl (Or.inl rfl)) (pgs_cons (pg_name (i := 3) sc_Book_init.nd rfl (Or.inl rfl)) (pgs_cons (pg_name (i := 4) sc_Book_init.nd rfl (Or.inl rfl)) pgs_nil)))))
  (pss_cons (ps_fld (pv 0) (pv 1) rfl)
  (pss_cons (ps_fld (pv 0) (pv 2) rfl)
  (pss_cons (ps_fld (pv 0) (pe_callTy (call_tuple_dK rfl) (by rfl) T.n_tuple (by decide +kernel) (pa_cons (pv 3) pa_nil)) rfl)
  (pss_cons (ps_fld (pv 0) (pe_callTy (call_tuple_dK rfl) (by rfl) T.n_tuple (by decide +kernel) (pa_cons (pv 4) pa_nil)) rfl)
  (pss_cons (ps_fld (pv 0) (pv 3) rfl)
  (pss_one (ps_fld (pv 0) (pv 4) rfl))))))))), ?_⟩
    have hv := hv0.same s0
    obtain ⟨t, ty, kt⟩ := isi_ty (K := K) hv
    refine ⟨v, rfl, _, _, t, _, _, rfl, .ty _, ty, kt, ?_⟩
    refine ⟨_, rfl, ?_⟩
    by_cases hs : ∃ z, v = .str z
    case neg =>
      have e : dueM v = some 0 := by
        cases v <;> first | rfl | exact absurd ⟨_, rfl⟩ hs
      have e2 : isStr v = false := by
        cases v <;> first | rfl | exact absurd ⟨_, rfl⟩ hs
      rw [e2]
      refine bad_made XT fun d H' s' hd => ?_
      exact qe 0 e d H' (s0.trans s') hd
    case pos =>
      obtain ⟨z, rfl⟩ := hs
      have hz : z.length ≤ 900000 := hv
      refine iteF ?_
      dsimp only [tNext]
      refine ⟨.str z, rfl, z, rfl, hz, fun n hn d H' s' hd => qe n hn d H' (s0.trans s') hd, fun hn t0 a1 a2 b kv1 kv2 H1 s1 ht h1 h2 => ?_⟩
      refine ⟨t0, _, rfl, SqT.of ht, rfl, _, _, rfl, _, _, rfl, _, _, rfl, rfl, ?_⟩
      have hx1 := s1 _ _ hx
      have sA := s0.trans s1
      have nx : ∀ a o, H1 a = some (.dK o) → a ≠ x := fun a o e z => by
        rw [z, hx1] at e
        cases e
      have n1 := nx _ _ h1
      have n2 := nx _ _ h2
      obtain ⟨f1, hf1⟩ : ∃ f, f = putF "text" (V.str z) [] := ⟨_, rfl⟩
      have l1 : f1.length ≤ 1 := by rw [hf1]; exact putF_le _ _ []
      have t1 : f1.lookup ("text" : Str) = some (.str z) := by
        rw [hf1, lookup_putF]
        exact if_pos rfl
      refine ⟨.str z, rfl, .ref x, rfl, x, T.c_Book, dx, [], rfl, hx1, XT.cl, XT.na1, by show 0 < 1000; decide, ?_⟩
      rw [← hf1]
      obtain ⟨f2, hf2⟩ : ∃ f, f = putF "by" (V.int b) f1 := ⟨_, rfl⟩
      have l2 : f2.length ≤ 2 := by rw [hf2]; exact Nat.le_trans (putF_le _ _ _) (Nat.succ_le_succ l1)
      have t2 : f2.lookup ("text" : Str) = some (.str z) := by
        rw [hf2, lookup_putF, if_neg (by decide +kernel)]
        exact t1
      refine ⟨.int b, rfl, .ref x, rfl, x, T.c_Book, dx, _, rfl, upd_same, XT.cl, XT.na2, by omega, ?_⟩
      rw [← hf2]
      have k1 : ∀ {a : Addr} {o : List (Key × V)} {u1 u2 : HO}, H1 a = some (.dK o) → a ≠ x → upd (upd H1 x u1) x u2 a = some (.dK o) := fun {a o u1 u2} e n => by
        rw [upd_ne n, upd_ne n]
        exact e
      refine ⟨.ref a1, rfl, a1, kv1, rfl, k1 h1 n1, fun q1 hq1 => ?_⟩
      have hxq : upd (upd H1 x (.ins T.c_Book dx f1)) x (.ins T.c_Book dx f2) x = some (.ins T.c_Book dx f2) := upd_same
      have k2 := k1 (u1 := .ins T.c_Book dx f1) (u2 := .ins T.c_Book dx f2) h1 n1
      have k3 := k1 (u1 := .ins T.c_Book dx f1) (u2 := .ins T.c_Book dx f2) h2 n2
      have sB : Same H0 (upd (upd H1 x (.ins T.c_Book dx f1)) x (.ins T.c_Book dx f2)) := Same.put (Same.put sA hx0) hx0
      generalize upd (upd H1 x (.ins T.c_Book dx f1)) x (.ins T.c_Book dx f2) = H2 at *
      have sq := same_new (o := .tup (kv1.map fun kv => kV kv.1)) hq1
      have hxq := sq _ _ hxq
      have k2 := sq _ _ k2
      have k3 := sq _ _ k3
      have sB := sB.trans sq
      generalize upd H2 q1 (.tup (kv1.map fun kv => kV kv.1)) = H3 at *
      obtain ⟨f3, hf3⟩ : ∃ f, f = putF "marks" (V.ref q1) f2 := ⟨_, rfl⟩
      have l3 : f3.length ≤ 3 := by rw [hf3]; exact Nat.le_trans (putF_le _ _ _) (Nat.succ_le_succ l2)
      have t3 : f3.lookup ("text" : Str) = some (.str z) := by
        rw [hf3, lookup_putF, if_neg (by decide +kernel)]
        exact t2
      refine ⟨.ref x, rfl, x, T.c_Book, dx, _, rfl, hxq, XT.cl, XT.na3, by omega, ?_⟩
      rw [← hf3]
      refine ⟨.ref a2, rfl, a2, kv2, rfl, by rw [upd_ne n2]; exact k3, fun q2 hq2 => ?_⟩
      have sC := Same.put (o := .ins T.c_Book dx f3) sB hx0
      have hx3 : upd H3 x (.ins T.c_Book dx f3) x = some (.ins T.c_Book dx f3) := upd_same
      generalize upd H3 x (.ins T.c_Book dx f3) = H4 at *
      have sq2 := same_new (o := .tup (kv2.map fun kv => kV kv.1)) hq2
      have hx3 := sq2 _ _ hx3
      have sC := sC.trans sq2
      generalize upd H4 q2 (.tup (kv2.map fun kv => kV kv.1)) = H5 at *
      obtain ⟨f4, hf4⟩ : ∃ f, f = putF "kinds" (V.ref q2) f3 := ⟨_, rfl⟩
      have l4 : f4.length ≤ 4 := by rw [hf4]; exact Nat.le_trans (putF_le _ _ _) (Nat.succ_le_succ l3)
      have t4 : f4.lookup ("text" : Str) = some (.str z) := by
        rw [hf4, lookup_putF, if_neg (by decide +kernel)]
        exact t3
      refine ⟨.ref x, rfl, x, T.c_Book, dx, _, rfl, hx3, XT.cl, XT.na4, by omega, ?_⟩
      rw [← hf4]
      obtain ⟨f5, hf5⟩ : ∃ f, f = putF "_weight_by_mark" (V.ref a1) f4 := ⟨_, rfl⟩
      have l5 : f5.length ≤ 5 := by rw [hf5]; exact Nat.le_trans (putF_le _ _ _) (Nat.succ_le_succ l4)
      have t5 : f5.lookup ("text" : Str) = some (.str z) := by
        rw [hf5, lookup_putF, if_neg (by decide +kernel)]
        exact t4
      refine ⟨.ref a1, rfl, .ref x, rfl, x, T.c_Book, dx, _, rfl, upd_same, XT.cl, XT.na5, by omega, ?_⟩
      rw [← hf5]
      refine ⟨.ref a2, rfl, .ref x, rfl, x, T.c_Book, dx, _, rfl, upd_same, XT.cl, XT.na6, by omega, ?_⟩
      refine qn hn _ _ (Same.put (Same.put (Same.put sC hx0) hx0) hx0) upd_same ?_
      rw [lookup_putF, if_neg (by decide +kernel)]
      exact t5
end
end OG
set_option Elab.async false
set_option linter.all false
set_option maxRecDepth 100000
set_option maxHeartbeats 4000000
namespace OGX
open PySem PySem.Spec PyProof.Rows L2 LamX
section
variable {X : Cx} {pins : List (Addr × Obj)} {σ : L2.St} {H HZ : Hp} {s s1 : Shared}
/-- x() in the def that got the lambda, its slots told: what is let out is told of these very slots -/
theorem pe_actS {CXg : CXT} {Eg : XK} {Ng : List Str} {qg : Str} {sg : Scope} {g f c' : Addr} {cdg pm ctv : Value} {params : Arguments} {body : Expr} {scope : Scope} {k i : Nat} {a : Str} {pn : List (Addr × Obj)} {xe : Value → Shared → Prop} {W : WX} {E : XK} {tb : TE} {p1 p2 : Pos} {σ0 : L2.St}
    (I : Inv X pins σ H s) (L : LamS X.env.scope scope) (hf : s.heap.get? f = some (PySem.W.kla_obj "<lambda>" (X.env.qual ++ "<lambda>") params body scope (cloFrom X.env.cells scope.names []) pm c' ctv)) (hfn : H f = none) (hfr : f ∉ frs X.stack)
    (hbind : bindArgs (PySem.W.kla_fn "<lambda>" (X.env.qual ++ "<lambda>") params body scope (cloFrom X.env.cells scope.names []) pm (.ref c') ctv) ⟨[], []⟩ = pure [])
    (tk : Takes ((cxOf CXg X.prog X.w X.K X.mg X.base Ng qg sg g cdg X.A X.stack s H Eg).tr pn xe) W) (hW : ∀ cls d H', E cls d H' → W cls d σ0 H') (hr : Room (k + 1) (X.A.deeper (envOfC qg sg s.heap.objs.size g cdg)))
    (hbody : ∀ (A : Around) (outer : List Env) (s : Shared) (H : Hp), Room k (A.deeper (lamEnv X scope s.heap.objs.size f c')) → PE (lamCx X A outer s H E scope f c') body tb)
    (hN : Ng[i]? = some a) (hv : Vis sg a) (hd : (a == ("__debug__" : Str)) = false := by decide) (hcd : (a == ("__classdict__" : Str)) = false := by decide) :
    PE ((cxOf CXg X.prog X.w X.K X.mg X.base Ng qg sg g cdg X.A X.stack s H Eg).tr pn xe) (.Call (.Name a p1) [] [] p2)
      (fun σZ HZ Q => σZ = σ0 ∧ σZ[i]? = some (some (.ref f)) ∧ HZ c' = some (CodeO c' (X.env.qual ++ "<lambda>")) ∧ tb σ HZ Q) := by
  refine ⟨fun pinsZ sZ σZ HZ Q IZ h => ?_⟩
  obtain ⟨e0, hs, hc, ht⟩ := h
  subst e0
  refine wpAny_Call_Name_kw (thn ((pe_var (pos := p1) (i := i) hN hv hd hcd).run pinsZ sZ σZ HZ (fun v H1 => v = .ref f ∧ H1 = HZ) IZ ⟨.ref f, hs, rfl, rfl⟩) fun u s1 ⟨v, H1, I1, r1, q1⟩ => ?_)
  obtain ⟨ev, eH⟩ := q1
  subst ev
  rw [eH] at I1
  obtain rfl : u = Value.ref f := r1
  have of1 : s1.heap.get? f = some (PySem.W.kla_obj "<lambda>" (X.env.qual ++ "<lambda>") params body scope (cloFrom X.env.cells scope.names []) pm c' ctv) := I1.base.keep f _ hf hfn hfr (fun z => nomatch (show f ∈ ([] : List Addr) from z))
  refine PySem.W.callWith_F0 ⟨_, _, _, _, of1⟩ ?_
  have un : Un (frs X.stack) [] H HZ s.heap s1.heap := I1.base
  obtain ⟨⟨oc, vs, t, hoc, hdc, hvc⟩, _, _⟩ := I1.hok c' _ hc
  have rc : codeAny (model X.prog X.w) (X.A.deeper (envOfC qg sg s.heap.objs.size g cdg)) (.call (.ref f) ⟨[], []⟩) (CR (L2.CX X.prog X.w) (envOfC qg sg s.heap.objs.size g cdg :: X.stack) X.prog X.w HZ s1 Q E) s1 := by
    refine PySem.W.kla_callFunE hr.depth of1 rfl L.co L.gen rfl ⟨c', oc, vs, t, rfl, hoc, hdc, hvc⟩ ?_
    rw [hbind]
    refine wpAny_pure (wpAny_newFunctionEnv (fun y hy => (L.own y hy).2) (fun y hy => absurd hy (by simp)) (fun h₁ hns hsb => ⟨I1.nolimit.fresh _ hsb, ?_⟩) L.kind)
    show codeAny _ _ (.expr body (lamEnv X scope s1.heap.objs.size f c')) _ _
    have kp : ∀ b o, s1.heap.get? b = some o → h₁.get? b = some o := fun b o e => hsb.extBut b o (Nat.ne_of_lt (Heap.lt_size e)) (Heap.get?_push_of_some _ e)
    have J : Inv (lamCx X (X.A.deeper (envOfC qg sg s.heap.objs.size g cdg)) (envOfC qg sg s.heap.objs.size g cdg :: X.stack) s1 HZ E scope f c') [] σ HZ { s1 with heap := h₁, toks := s1.toks + ([] : List (Str × Value)).length } :=
      lam_start2 I L I1.env0 hr.hd un hns kp
    refine PySem.W.kla_codeExpr (wpAny_mono ((hbody _ _ s1 HZ (hr.deeper _)).run [] _ _ HZ Q J ht) (fun v s' hq => ?_) fun e s' hq => hq)
    obtain ⟨w', H', J', rv, q⟩ := hq
    exact ⟨w', H', J'.os, J'.bare, J'.base, J'.hok, rv, q⟩
  refine wpAny_call (codeAny_mono rc fun r s' hq => ?_)
  cases r with
  | error e => exact tk e s' (XE.of_call I1 hW hq)
  | ok fl =>
    cases fl with
    | ret u => exact I1.after hq
    | next => exact False.elim hq
    | brk => exact False.elim hq
    | cont => exact False.elim hq
end
def GivesToS (X : Cx) (Ng : List Str) (x : Str) (sg : Scope) (g : Addr) (cdg : Value) (bg : List Stmt) (a : Str) (q : Str) (TT : (XK → Hp → VK → Prop) → Hp → VK → Prop) : Prop :=
  ∀ (f c' : Addr) (s : Shared) (H : Hp) (Q : VK) (tl : XK → Hp → VK → Prop),
    (∀ (W : WX) (pn : List (Addr × Obj)) (xe : Value → Shared → Prop) (E : XK) (σ0 : L2.St) (p1 p2 : Pos), Takes ((cxOf C8.CX0 X.prog X.w X.K X.mg X.base Ng x sg g cdg X.A X.stack s H C8.E0).tr pn xe) W → (∀ cls d H', E cls d H' → W cls d σ0 H') →
      PE ((cxOf C8.CX0 X.prog X.w X.K X.mg X.base Ng x sg g cdg X.A X.stack s H C8.E0).tr pn xe) (.Call (.Name a p1) [] [] p2) (fun σZ HZ Q => σZ = σ0 ∧ σZ[0]? = some (some (.ref f)) ∧ HZ c' = some (CodeO c' q) ∧ tl E HZ Q)) →
    H c' = some (CodeO c' q) → TT tl H Q →
    ∃ t, PSs (cxOf C8.CX0 X.prog X.w X.K X.mg X.base Ng x sg g cdg X.A X.stack s H C8.E0).nox bg t ∧ t { nx := fun _ H' => Q .non H', rt := Q } (L2.start Ng [.ref f]) H
section
variable {X : Cx}
/-- x(lambda: body) -/
theorem pe_lamcallS {T : List (Addr × Str)} {TT : (XK → Hp → VK → Prop) → Hp → VK → Prop} {x a : Str} {g c P : Addr} {k : Nat} {pg : Arguments} {bg : List Stmt} {sg : Scope} {dV kV doc pm cdv ct oc : Value} {an od : Option Addr} {osl : Array (Option Value)} {Ng : List Str}
    {params : Arguments} {body : Expr} {scope : Scope} {t : XK → TE} {p lpos pos : Pos} (hg : Gl X x) (hm : X.mg x = some (.ref g)) (hk : PySem.W.keepIn X.K (.ref g) = true)
    (lk : X.K.lookup g = some ⟨oc, od, .func (PySem.W.fnOf x x pg bg sg dV kV doc pm an cdv ct), osl⟩) (hcg : PySem.W.codeIn X.K cdv x = true) (hb : L2.Binds X.K (PySem.W.fnOf x x pg bg sg dV kV doc pm an cdv ct) [a] []) (Sg : FnScope Ng [a] sg) (hNg : Ng[0]? = some a) (hva : Vis sg a)
    (hG : GivesToS X Ng x sg g cdv bg a (X.env.qual ++ "<lambda>") TT)
    (TB : TabB X.base X.mg c P) (hcode : X.env.code = .ref c) (hmT : (P, X.env.qual ++ "<lambda>") ∈ T) (hu : ∀ p ∈ T, p.1 = P → p.2 = X.env.qual ++ "<lambda>") (hr : Room (k + 2) X.A) (L : LamS X.env.scope scope) (hdef : defaultsOf params X.env = ([], []))
    (hbind : ∀ (q : Str) (cl : List (Str × Addr)) (pm cv ctv : Value), bindArgs (PySem.W.kla_fn "<lambda>" q params body scope cl pm cv ctv) ⟨[], []⟩ = pure [])
    (hbody : ∀ (A : Around) (outer : List Env) (s : Shared) (H : Hp) (E : XK) (f c' : Addr), Room k (A.deeper (lamEnv X scope s.heap.objs.size f c')) → PE (lamCx X A outer s H E scope f c') body (t E))
    (hdb : (x == ("__debug__" : Str)) = false := by decide) (hd : (a == ("__debug__" : Str)) = false := by decide) (hcd : (a == ("__classdict__" : Str)) = false := by decide) :
    PE X (.Call (.Name x p) [.Lambda params body scope lpos] [] pos) (tLam T TT t) := by
  refine ⟨fun pins s σ H Q I h => ?_⟩
  obtain ⟨hT, h⟩ := h
  refine wpAny_Call_Name_kw (ld_glob I hg hm ?_ hdb)
  refine PySem.W.callWith_K (h₀ := X.base) I.ok.mod.kin hk ?_ (by rfl) (by rfl)
  show wpAny _ _ (spliced ((false, eval (.Lambda params body scope lpos) X.env) :: backTo pos (starEach [] X.env))) _ _ s
  refine Calls.spliced_cons (lam_make2 I TB hcode hmT hu hT hdef (L.has I.ok) fun f c' pm' ctv H1 s' I1 eN T1 hf hfn hfr hco => ?_)
  refine Calls.spliced_nil ⟨I1.kIn, ?_⟩
  have rc : codeAny (model X.prog X.w) X.A (.call (.ref g) ⟨[.ref f], []⟩) (CR C8.CX0 X.stack X.prog X.w H1 s' Q C8.E0) s' := by
    refine run_ofS (N := Ng) (ps := [a]) (us := [.ref f]) (vs := [.ref f]) lk hcg Sg hr I1.env0 (hb s' [.ref f] I1.kIn rfl) (.cons rfl .nil) rfl fun hr' => ?_
    obtain ⟨t', ht', hq'⟩ := hG f c' s' H1 Q (fun E H' Q' => t E σ H' Q') (fun W pn xe E σ0 p1 p2 tk hW => pe_actS (i := 0) I1 L hf hfn hfr (hbind _ _ _ _ _) tk hW hr' (fun A outer s H hr2 => hbody A outer s H E f c' hr2) hNg hva hd hcd) hco (h H1 eN T1)
    exact ⟨t', ht'.nox, hq'⟩
  refine wpAny_call (codeAny_mono rc fun r s2 hq => ?_)
  cases r with
  | error e => exact (show False from hq).elim
  | ok fl =>
    cases fl with
    | ret u => exact I1.after hq
    | next => exact False.elim hq
    | brk => exact False.elim hq
    | cont => exact False.elim hq
end
end OGX
set_option Elab.async false
set_option linter.all false
set_option maxRecDepth 100000
set_option maxHeartbeats 8000000
namespace OG
open PySem PySem.Spec PyProof.Rows L2 LamX
theorem walk_le : ∀ {l : List Str} {b : Int} {i j : Nat} {ms ks : List Str}, walkM b l i ms ks = .inl j → j ≤ i + l.length
  | [], b, i, j, ms, ks, h => by cases h
  | x :: r, b, i, j, ms, ks, h => by
    have h : (match stepM b ms ks (Txt.split x " ") with
      | none => Sum.inl i
      | some mk => walkM b r (i + 1) mk.1 mk.2) = .inl j := h
    rw [List.length_cons]
    cases e : stepM b ms ks (Txt.split x " ") with
    | none =>
      rw [e] at h
      have := Sum.inl.inj h
      omega
    | some mk =>
      rw [e] at h
      have := walk_le h
      omega
theorem due_le {H : Hp} {v : V} (hv : NearV H v) {n : Nat} (h : dueM v = some n) : n ≤ 1000000 := by
  by_cases hs : ∃ z, v = .str z
  case neg =>
    have e : dueM v = some 0 := by
      cases v <;> first | rfl | exact absurd ⟨_, rfl⟩ hs
    rw [e] at h
    have := Option.some.inj h
    omega
  case pos =>
    obtain ⟨z, rfl⟩ := hs
    have hz : z.length ≤ 900000 := hv
    obtain ⟨n1, l1, p1⟩ := split_facts z "\n" rfl (by decide +kernel)
    have em : dueM (.str z) = match byM (Txt.split ((Txt.split z "\n").head?.getD "") " ") with
      | none => some 1
      | some b => match walkM b ((Txt.split z "\n").drop 1) 2 [] [] with
        | .inl i => some i
        | .inr mk => if mk.2 = [] then some ((Txt.split z "\n").length + 1) else none := rfl
    rw [em] at h
    generalize Txt.split z "\n" = ls at *
    cases hb : byM (Txt.split (ls.head?.getD "") " ") with
    | none =>
      rw [hb] at h
      have := Option.some.inj h
      omega
    | some b =>
      rw [hb] at h
      have h : (match walkM b (ls.drop 1) 2 [] [] with
        | .inl i => some i
        | .inr mk => if mk.2 = [] then some (ls.length + 1) else none) = some n := h
      cases hw : walkM b (ls.drop 1) 2 [] [] with
      | inl i =>
        rw [hw] at h
        have e := Option.some.inj h
        have := walk_le hw
        rw [List.length_drop] at this
        omega
      | inr mk =>
        rw [hw] at h
        have h : (if mk.2 = [] then some (ls.length + 1) else none) = some n := h
        by_cases c : mk.2 = []
        · rw [if_pos c] at h
          have e := Option.some.inj h
          omega
        · rw [if_neg c] at h
          cases h
theorem NearV.ext {H H' : Hp} (s : ExtN H H') : ∀ {v : V}, NearV H v → NearV H' v
  | .non, h => h
  | .bl _, h => h
  | .int _, h => h
  | .str _, h => h
  | .ref a, h => by
    rcases h with ⟨xs, h⟩ | ⟨xs, h⟩ | ⟨xs, h⟩
    · exact .inl ⟨xs, s _ _ h fun _ z => by cases z⟩
    · exact .inr (.inl ⟨xs, s _ _ h fun _ z => by cases z⟩)
    · exact .inr (.inr ⟨xs, s _ _ h fun _ z => by cases z⟩)
/-- the lambda's name -/
def jq : Str := (envOfC "_law_is_judged" (defScope s_l_is_judged) (0 : Nat) (0 : Nat) .none).qual ++ "<lambda>"
/-- the judge's code object -/
structure JAt (K : PySem.W.Frag) (mg : Str → Option Value) (T : Txt K mg) (c : Addr) : Prop where
  ex : ∃ (oc : Value) (od : Option Addr) (kV doc pm : Value) (an : Option Addr) (ct : Value) (osl : Array (Option Value)),
    T.fd_l_is_judged = PySem.W.fnOf "_law_is_judged" "_law_is_judged" (defArgs s_l_is_judged) (defBody s_l_is_judged) (defScope s_l_is_judged) .none kV doc pm an (.ref c) ct ∧ K.lookup T.f_l_is_judged = some ⟨oc, od, .func T.fd_l_is_judged, osl⟩ ∧ PySem.W.codeIn K (.ref c) "_law_is_judged" = true
/-- what is made of the call that is heard -/
def THeard (K : PySem.W.Frag) (CS : Addr) : (XK → Hp → VK → Prop) → Hp → VK → Prop := fun tl H Q => ∀ H1, Same H H1 →
  tl (fun cls d H' => ∃ b, PySem.W.exmOne K cls (.ref CS) = some b ∧ (b = true → ∀ a, H' a = none → ∀ t, upd H' a (OGX.ExV cls d a) t = none → Q (.ref t) (upd (upd H' a (OGX.ExV cls d a)) t (.tup [.ref a, .non]))) ∧ (b = false → False)) H1
    (fun v H' => ∀ t, H' t = none → Q (.ref t) (upd H' t (.tup [.non, v])))
theorem pe_weak {X : Cx} {e : Expr} {te : TE} (h : PE X e te) : PE X e (fun σ H Q => ∃ Qs : VK, (∀ v H', Qs v H' → Q v H') ∧ te σ H Qs) := by
  refine ⟨fun pins s σ H Q I hh => ?_⟩
  obtain ⟨Qs, hq, ht⟩ := hh
  refine wpAny_mono (h.run pins s σ H Qs I ht) (fun u s1 hu => ?_) fun _ _ x => x
  obtain ⟨v, H1, I1, r1, q1⟩ := hu
  exact ⟨v, H1, I1, r1, hq v H1 q1⟩
section
variable {P : Program} {w : World} {K : PySem.W.Frag} {mg : Str → Option Value} {base : Heap}
theorem heard_gives {T : Txt K mg} {X : Cx} (hK : X.K = K) (hmg : X.mg = mg) {g : Addr} {cdg : Value} {q : Str} : OGX.GivesToS X ["call", "caught", "back", "error"] "_law_heard" (defScope s_l_heard) g cdg (defBody s_l_heard) "call" q (THeard K T.c_GateError) := by
  subst hK hmg
  intro f c' s H Q tl act hc h
  refine ⟨_, pss_cons (ps_asg (pe_tup (pa_cons pe_non (pa_cons pe_non pa_nil))) (pg_tup (by rfl) (pgs_cons (pg_name (i := 1) sc_l_heard.nd rfl (Or.inl rfl)) (pgs_cons (pg_name (i := 2) sc_l_heard.nd rfl (Or.inl rfl)) pgs_nil))))
    (pss_cons (OGX.ps_try_keep (i := 3) (c := .ref T.c_GateError)
      (tb := fun W D σ H => ∃ Ech : XK, (∀ cls d H', Ech cls d H' → W cls d σ H') ∧ σ[0]? = some (some (.ref f)) ∧ H c' = some (CodeO c' q) ∧ ∃ Qs : VK, (∀ v H', Qs v H' → D.nx (σ.set 2 (some v)) H') ∧ tl Ech H Qs)
      rfl rfl rfl sc_l_heard.nd rfl rfl ⟨by rfl, by decide, .inl T.g_GateError⟩ L2.takes0 (fun W pn xe tk _ => ?_) (fun a oe cls d pn _ _ => pss_one (ps_set (i := 1) sc_l_heard.nd rfl (Or.inl rfl) (pv 3))))
    (pss_one (ps_ret (pe_tup (pa_cons (pv 1) (pa_cons (pv 2) pa_nil)))))), ?_⟩
  · refine ⟨fun pins s' σ H' D I h' => ?_⟩
    obtain ⟨Ech, hW, h1, h2, Qs, hQ, h3⟩ := h'
    exact (pss_one (ps_set (i := 2) sc_l_heard.nd rfl (Or.inl rfl) (pe_weak (act W pn xe Ech σ _ _ tk hW)))).run pins s' σ H' D I ⟨Qs, hQ, rfl, h1, h2, h3⟩
  · refine ⟨Nat.le_trans (show 2 ≤ 1000 by decide) (by decide), fun t0 ht0 => ?_⟩
    have s0 := same_new (o := .tup [.non, .non]) ht0
    refine ⟨t0, _, rfl, SqT.of upd_same, rfl, _, _, rfl, _, _, rfl, rfl, ?_⟩
    refine ⟨_, ?_, rfl, s0 _ _ hc, _, ?_, h _ s0⟩
    · rintro cls d H' ⟨b, e1, e2, e3⟩
      refine ⟨b, e1, fun hb a ha => ?_, fun hb => e3 hb⟩
      refine ⟨.ref a, rfl, fun na => ?_⟩
      exact ⟨_, rfl, _, rfl, Nat.le_trans (show 2 ≤ 1000 by decide) (by decide), fun t ht => e2 hb a ha t ht⟩
    · intro v H' hv
      exact ⟨_, rfl, _, rfl, Nat.le_trans (show 2 ≤ 1000 by decide) (by decide), fun t ht => hv t ht⟩
theorem TabS.single {H : Hp} {Pt : Addr} {q : Str} (h : TabS H Pt q) : Tabs [(Pt, q)] H := fun p hp => by
  rw [List.mem_singleton.mp hp]
  exact h
def spJudge (Pt : Addr) : Sp := fun vs H Q _ => ∃ v : V, vs = [v] ∧ NearV H v ∧ TabS H Pt jq ∧ ∀ H', ExtN H H' → TabS H' Pt jq → Q (.bl true) H'
theorem ok_l_is_judged (T : Txt K mg) (XT : TxtX K mg T) {c Pt : Addr} (J : JAt K mg T c) (TB : TabB base mg c Pt) : FnOk P w K mg base CX0 10 T.f_l_is_judged T.fd_l_is_judged ["text"] (spJudge Pt) := by
  obtain ⟨oc, od, kV, doc, pm, an, ct, osl, efd, lk, hcd⟩ := J.ex
  rw [efd] at lk ⊢
  refine fn_of lk hcd sc_l_is_judged (fun vs H Q E h => ?_) fun A outer s H vs Q E hr h => ?_
  · obtain ⟨v, rfl, _⟩ := h
    rfl
  obtain ⟨v, rfl, hv, hT, q⟩ := h
  obtain ⟨och, odh, kVh, doch, pmh, anh, cdvh, cth, oslh, efh, lkh, hch⟩ := T.F_l_heard.ex
  have bh := T.b_l_heard
  rw [efh] at lkh bh
  suffices hh : ∃ t, PSs (cxOf CX0 P w K mg base ["text", "due", "caught", "back"] "_law_is_judged" (defScope s_l_is_judged) T.f_l_is_judged (.ref c) A outer s H E).nox (defBody s_l_is_judged) t ∧ t { nx := fun _ H' => Q .non H', rt := Q } (L2.start ["text", "due", "caught", "back"] [v]) H by
    obtain ⟨t, h1, h2⟩ := hh
    exact ⟨t, h1.nox, h2⟩
  refine ⟨_, (pss_cons (ps_set (i := 1) sc_l_is_judged.nd rfl (Or.inl rfl) (pe_call (ok_l_books_wrong T) (hr.mono (by decide)) (by rfl) T.g_l_books_wrong T.F_l_books_wrong.kp T.b_l_books_wrong .nil pass0 (pa_cons (pv 0) pa_nil)))
  (pss_cons (ps_asg (OGX.pe_lamcallS (T := [(Pt, jq)]) (TT := THeard K T.c_GateError) (k := 7) (by rfl) T.g_l_heard T.F_l_heard.kp lkh hch bh sc_l_heard rfl (Or.inl rfl) (heard_gives rfl rfl) TB rfl List.mem_cons_self (fun p hp _ => by rw [List.mem_singleton.mp hp]; rfl) (hr.mono (by decide)) (lamS_by (by show lamSB (defScope s_l_is_judged) _ = true; decide +kernel)) rfl (fun _ _ _ _ _ => rfl)
      (fun A outer s H E f c' hr2 => pe_make XT.mkB (ok_Book_init T XT) hr2 (by rfl) T.g_Book T.b_Book_init .nil (passes_call (takes_of rfl rfl rfl rfl) (fun _ _ _ _ h => h)) (pa_cons (pv 0) pa_nil)))
    (pg_tup (by rfl) (pgs_cons (pg_name (i := 2) sc_l_is_judged.nd rfl (Or.inl rfl)) (pgs_cons (pg_name (i := 3) sc_l_is_judged.nd rfl (Or.inl rfl)) pgs_nil))))
  (pss_cons (ps_if (pt_cmpR op_isN (pv 1) pe_non (nomark _)) (pss_one (ps_ret (pe_and (pe_cmpR op_isN (pv 2) pe_non (nomark _)) (pe_and (pe_callB call_isi (by rfl) T.n_isinstance (by decide +kernel) (pa_cons (pv 3) (pa_cons (C8.pe_gc (v := .ref T.c_Book) (by rfl) ⟨_, T.g_Book, rfl⟩) pa_nil))) (pe_one (pe_cmpR op_eq (pe_fld (pv 3) rfl) (pv 0) (nomark _))))))) pss_nil)
  (pss_one (ps_ret (pe_and (pe_callB OGX.call_isK (by rfl) T.n_isinstance (by decide +kernel) (pa_cons (pv 2) (pa_cons (C8.pe_gc (v := .ref T.c_BadBook) (by rfl) ⟨_, T.g_BadBook, rfl⟩) pa_nil))) (pe_one (pe_cmpR op_eq (pe_callB SkE.call_repr_int (by rfl) T.n_repr (by decide +kernel) (pa_cons (OGX.pe_xv XT.xf XT.noV (pv 2)) pa_nil)) (pe_callB SkE.call_repr_int (by rfl) T.n_repr (by decide +kernel) (pa_cons (pv 1) pa_nil)) (nomark _))))))))), ?_⟩
  refine ⟨v, rfl, v, rfl, hv, fun H1 s1 => ?_⟩
  refine ⟨TabS.single (hT.ext s1), fun H2 e2 hT2 => ?_⟩
  have x2 : ExtN H H2 := (ExtN.of s1).trans e2
  have hv2 : NearV H2 v := hv.ext x2
  have tb2 : TabS H2 Pt jq := hT2 _ List.mem_cons_self
  refine fun H3 s3 => ?_
  have hv3 := hv2.same s3
  have x3 : ExtN H H3 := x2.trans (ExtN.of s3)
  have tb3 : TabS H3 Pt jq := tb2.ext s3
  refine ⟨v, rfl, fun x dx hx hdx hne => ?_⟩
  have nxd : x ≠ dx := Ne.symm hne
  refine ⟨x, dx, v, H3, rfl, fun b o e => ?_, hx, hv3, upd_same, fun n hn d H' s' hd => ?_, fun hn fs H' s' hx' hfs => ?_⟩
  · rw [upd_ne (ne_of_none e hx), upd_ne (ne_of_none e hdx)]
    exact e
  · -- refused
    refine ⟨true, XT.te, fun _ a ha t ht => ?_, fun z => by cases z⟩
    have sE := same_new (o := OGX.ExV (.ref T.c_BadBook) (some d) a) ha
    have sT := same_new (o := .tup [.ref a, .non]) ht
    have hA : (upd (upd H' a (OGX.ExV (.ref T.c_BadBook) (some d) a)) t (.tup [.ref a, .non])) a = some (OGX.ExV (.ref T.c_BadBook) (some d) a) := sT _ _ upd_same
    have hD : (upd (upd H' a (OGX.ExV (.ref T.c_BadBook) (some d) a)) t (.tup [.ref a, .non])) d = some (.xd [("value", .int (n : Int))]) := sT _ _ (sE _ _ hd)
    have hTt : (upd (upd H' a (OGX.ExV (.ref T.c_BadBook) (some d) a)) t (.tup [.ref a, .non])) t = some (.tup [.ref a, .non]) := upd_same
    have sF := (s'.trans sE).trans sT
    generalize upd (upd H' a (OGX.ExV (.ref T.c_BadBook) (some d) a)) t (.tup [.ref a, .non]) = H5 at *
    refine ⟨t, _, rfl, SqT.of hTt, rfl, _, _, rfl, _, _, rfl, rfl, ?_⟩
    have hn1 := due_le hv hn
    have lg : (n : Int).natAbs.log2 < 1920 := PySem.Flt.log2_lt_of (by decide) (Nat.lt_of_le_of_lt (show (n : Int).natAbs ≤ 1000000000000 by omega) (Nat.lt_of_lt_of_le (show 1000000000000 < 2 ^ 60 by decide) (Nat.pow_le_pow_right (by decide) (by decide))))
    rw [hn]
    refine ⟨.int (n : Int), rfl, rfl, _, rfl, ?_⟩
    refine iteF ?_
    dsimp only [tNext]
    refine ⟨.ref a, rfl, a, T.c_BadBook, d, _, .ref T.c_BadBook, .ref T.c_BadBook, true, rfl, hA, hD, XT.ec, fun u r => r, XT.kt, ?_⟩
    refine ⟨_, rfl, ?_⟩
    refine iteT ?_
    refine ⟨.ref a, rfl, a, d, _, .int (n : Int), rfl, hA, hD, rfl, (n : Int), rfl, lg, ?_⟩
    refine ⟨.int (n : Int), rfl, (n : Int), rfl, lg, ?_⟩
    refine ⟨rfl, ?_⟩
    show Q (.bl (decide _)) H5
    rw [decide_eq_true rfl]
    exact q H5 (x3.trans (ExtN.of sF)) (tb3.ext sF)
  · -- made
    refine ⟨rfl, fun t ht => ?_⟩
    have sT := same_new (o := .tup [.non, .ref x]) ht
    have hX : (upd H' t (.tup [.non, .ref x])) x = some (.ins T.c_Book dx fs) := sT _ _ hx'
    have hTt : (upd H' t (.tup [.non, .ref x])) t = some (.tup [.non, .ref x]) := upd_same
    have sF := s'.trans sT
    generalize upd H' t (.tup [.non, .ref x]) = H5 at *
    refine ⟨t, _, rfl, SqT.of hTt, rfl, _, _, rfl, _, _, rfl, rfl, ?_⟩
    rw [hn]
    refine ⟨.non, rfl, rfl, _, rfl, ?_⟩
    refine iteT ?_
    refine ⟨.non, rfl, rfl, _, rfl, ?_⟩
    refine iteT ?_
    refine ⟨.ref x, rfl, _, _, _, _, true, rfl, .own T.c_Book, .base (.ins hX XT.cl XT.ca XT.ec.hn XT.ec.ht XT.ob), XT.kb, ?_⟩
    refine ⟨_, rfl, ?_⟩
    refine iteT ?_
    obtain ⟨z, rfl⟩ : ∃ z, v = .str z := by
      cases v <;> first | exact ⟨_, rfl⟩ | cases hn
    refine ⟨.ref x, rfl, x, T.c_Book, dx, fs, _, rfl, hX, XT.cl, XT.na1, hfs, .str z, rfl, rfl, ?_⟩
    show Q (.bl (decide _)) H5
    rw [decide_eq_true rfl]
    exact q H5 (x3.trans (ExtN.of sF)) (tb3.ext sF)
end
end OG
set_option Elab.async false
set_option linter.all false
set_option maxRecDepth 100000
set_option maxHeartbeats 4000000
namespace OGX
open PySem PySem.Spec PyProof.Rows L2
section
variable {X : Cx} {a o e : Expr} {ta to te : TE} {t u : TS}
/-- a test behind which a token is out -/
def PT1 (X : Cx) (c : Expr) (tc : TT) : Prop := ∀ (pins : List (Addr × Obj)) (s : Shared) (σ : L2.St) (H : Hp) (Q : Bool → Hp → Prop), Inv X pins σ H s → tc σ H Q →
  wpAny (model X.prog X.w) X.A (isTrue c X.env (eval c X.env)) (fun d s' => 1 ≤ s'.toks ∧ TP X pins σ Q d s') X.xe s
theorem pt1_cmpI {op : CmpOp} {r : R2} {i : Int} {j : Nat} {cp pos : Pos} (ho : OpR X (compareOp op) r) (ha : PE X a ta) (hm : behindInMarks op (.Constant (.int i) j cp) = false) : PT1 X (.Compare a [op] [.Constant (.int i) j cp] pos) (tTest (tOp r ta (tC (.int i)))) := by
  intro pins s σ H Q I h
  refine wpAny_isTrue_Compare1 (thn (ha.run pins s σ H _ I h) fun v s1 ⟨x, H1, I1, r1, q1⟩ => wpAny_Constant_int ?_) hm
  refine wpAny_mono (PySem.wpAny_toks (ho pins { s1 with toks := s1.toks + 1 } σ H1 x (.int i) v (.int i s1.toks) _ (I1.tok _) r1 ⟨_, rfl⟩ q1)) (fun c s3 q => ?_) fun _ _ z => z.2
  obtain ⟨hk, z, H3, I3, r3, k, e, q3⟩ := q
  have hk : s1.toks + 1 ≤ s3.toks := hk
  subst e
  cases r3
  exact wpAny_truthy_bool ⟨by omega, H3, I3, q3⟩
theorem ps_if1 {c : Expr} {x y : List Stmt} {tc : TT} {pos : Pos} (hc : PT1 X c tc) (ha : PSsT X x t) (hb : PSs X y u) : PS X (.If c x y pos) (tIfS tc t u) := by
  refine ⟨fun pins s σ H D I h => ?_⟩
  refine wpAny_If (wpAny_mono (hc pins s σ H _ I h) (fun d s1 q => ?_) fun _ _ z => z)
  obtain ⟨hk, H1, I1, q1⟩ := q
  cases d with
  | true => exact ha pins s1 σ H1 D hk I1 q1
  | false => exact hb.run pins s1 σ H1 D I1 q1
theorem pst_set {i : Nat} {x : Str} {pos' pos : Pos} (hN : X.N.Nodup) (hi : X.N[i]? = some x) (hx : Loc X.env.scope x) (he : PET X e te) (hs : swapsWith e (some (.Name x pos')) pos.line X.env = pure false := by rfl) (hf : X.fn x = true ∨ X.env.scope.names.lookup x = some .local := by first | exact .inl rfl | exact .inr rfl | assumption) :
    PST X (.Assign [.Name x pos'] e pos) (tAsg te (gName i)) := by
  intro pins s σ H D h0 I h
  refine wpAny_Assign_Name (thn (he pins s σ H _ h0 I h) fun v s1 ⟨y, H1, I1, r1, q1⟩ => ?_) hs
  exact store_ok I1 hN hi hx r1 (fun s2 I2 => ⟨_, H1, I2, q1⟩) hf
theorem pet_split {apos pos : Pos} (ho : PET X o to) (he : PE X e te) (hs : starEach [e] X.env = [(false, eval e X.env)] := by rfl) (hbase : attributeBase o "split" X.env (eval o X.env) = eval o X.env := by rfl) (hline : (apos.endLine == pos.line) = true := by rfl) :
    PET X (.Call (.Attribute o "split" apos) [e] [] pos) (tM1 (fun x xs H Q => ∃ a b, x = .str a ∧ xs = [.str b] ∧ (b.length == 0) = false ∧ a.length + 2 ≤ sizeLine ∧ rNewStrs (Txt.split a b) H Q) to te) := by
  intro pins s σ H Q h0 I h
  refine PySem.Call_method1 hbase hs hline (thn (ho pins s σ H _ h0 I h) fun v s1 ⟨x, H1, I1, r1, q1⟩ => ?_)
  obtain ⟨⟨a, rfl⟩, q1⟩ := q1
  obtain ⟨t, rfl⟩ := _root_.id r1
  refine ⟨"str", _, F.plainAttrs_str, F.slot_str_split, F.type_str_split, typeIs_str _ _ _, (fun _ e => nomatch e), Calls.callWith_builtin rfl (Calls.evalArgs_plain (Calls.spliced_cons ?_))⟩
  exact thn (he.run pins s1 σ H1 _ I1 q1) fun u s2 ⟨y, H2, I2, r2, q2⟩ => Calls.spliced_nil (mt_split pins s2 σ H2 _ [y] _ [u] Q I2 r1 (.cons r2 .nil) q2)
end
end OGX
set_option Elab.async false
set_option linter.all false
set_option maxRecDepth 100000
set_option maxHeartbeats 8000000
namespace OG
open PySem PySem.Spec PyProof.Rows L2
theorem fold_size (a : Array Nat) : ∀ (k : Nat) (acc : Array Nat), ((List.replicate k a).foldl (· ++ ·) acc).size = acc.size + k * a.size
  | 0, acc => by simp
  | k + 1, acc => by
    rw [List.replicate_succ, List.foldl_cons, fold_size a k, Array.size_append, Nat.add_mul]
    omega
theorem repS_len (z : Str) (n : Nat) : (repS z (n : Int)).length ≤ (n + 1) * z.length := by
  unfold repS
  split
  · exact Nat.zero_le _
  · split
    · rw [Nat.add_mul]
      omega
    · show ((List.replicate (n : Int).toNat z.cps).foldl (· ++ ·) #[]).size ≤ _
      rw [fold_size, Int.toNat_natCast]
      show 0 + n * z.length ≤ _
      rw [Nat.add_mul]
      omega
/-- strings, none longer -/
def StrL (L : Nat) (xs : List V) : Prop := ∀ x ∈ xs, ∃ z : Str, x = .str z ∧ z.length ≤ L
theorem StrL.nil (L : Nat) : StrL L [] := fun _ h => by cases h
theorem StrL.cons {L : Nat} {z : Str} {xs : List V} (h : z.length ≤ L) (r : StrL L xs) : StrL L (.str z :: xs) := fun x hx => by
  rcases List.mem_cons.mp hx with e | e
  · exact ⟨z, e, h⟩
  · exact r x e
theorem StrL.app {L : Nat} {xs ys : List V} (a : StrL L xs) (b : StrL L ys) : StrL L (xs ++ ys) := fun x hx => (List.mem_append.mp hx).elim (a x) (b x)
theorem StrL.of {L : Nat} {zs : List Str} (h : ∀ z ∈ zs, z.length ≤ L) : StrL L (zs.map V.str) := fun x hx => by
  obtain ⟨z, hz, e⟩ := List.mem_map.mp hx
  exact ⟨z, e.symm, h z hz⟩
theorem StrL.mono {L M : Nat} {xs : List V} (a : StrL L xs) (h : L ≤ M) : StrL M xs := fun x hx => by
  obtain ⟨z, e, k⟩ := a x hx
  exact ⟨z, e, Nat.le_trans k h⟩
def wl1 : List V := [.str "0", .str "1", .str "-1", .str "-0", .str "00", .str "01", .str "+1", .str "1.0", .str "", .str "2", .str "4", .str "6", .str "9", .str "97", .str "101", .str (repS "1" 4301)]
def wl2 : List V := [.str ("-" ++ repS "7" 5000), .str "1000000000000", .str "-1000000000000", .str "1000000000001", .str "-1000000000001", .str "1_0", .str "0x1", .str " "]
def wl3 : List V := [.str "a", .str "zzzz", .str "zzzzz", .str "A", .str "a1", .str "a-b", .str "book", .str "mark", .str "kind", .str (repS "mark" 2), .str "x"]
theorem rl1 : (repS "1" 4301).length ≤ 6000 + 3000 := Nat.le_trans (repS_len "1" 4301) (by decide +kernel)
theorem rl2 : ("-" ++ repS "7" 5000 : Str).length ≤ 6000 + 6000 := by
  rw [app_len]
  exact Nat.add_le_add (show ("-" : Str).length ≤ 6000 by decide +kernel) (Nat.le_trans (repS_len "7" 5000) (by decide +kernel))
theorem rl3 : (repS "mark" 2).length ≤ 6000 + 6000 := Nat.le_trans (repS_len "mark" 2) (by decide +kernel)
theorem wl1_ok : StrL 12000 wl1 := by
  unfold wl1
  refine StrL.cons (by decide +kernel) ?_
  refine StrL.cons (by decide +kernel) ?_
  refine StrL.cons (by decide +kernel) ?_
  refine StrL.cons (by decide +kernel) ?_
  refine StrL.cons (by decide +kernel) ?_
  refine StrL.cons (by decide +kernel) ?_
  refine StrL.cons (by decide +kernel) ?_
  refine StrL.cons (by decide +kernel) ?_
  refine StrL.cons (by decide +kernel) ?_
  refine StrL.cons (by decide +kernel) ?_
  refine StrL.cons (by decide +kernel) ?_
  refine StrL.cons (by decide +kernel) ?_
  refine StrL.cons (by decide +kernel) ?_
  refine StrL.cons (by decide +kernel) ?_
  refine StrL.cons (by decide +kernel) ?_
  exact StrL.cons (Nat.le_trans rl1 (by decide)) (StrL.nil _)
theorem wl2_ok : StrL 12000 wl2 := by
  unfold wl2
  refine StrL.cons rl2 ?_
  refine StrL.cons (by decide +kernel) ?_
  refine StrL.cons (by decide +kernel) ?_
  refine StrL.cons (by decide +kernel) ?_
  refine StrL.cons (by decide +kernel) ?_
  refine StrL.cons (by decide +kernel) ?_
  refine StrL.cons (by decide +kernel) ?_
  refine StrL.cons (by decide +kernel) ?_
  exact StrL.nil _
theorem wl3_ok : StrL 12000 wl3 := by
  unfold wl3
  refine StrL.cons (by decide +kernel) ?_
  refine StrL.cons (by decide +kernel) ?_
  refine StrL.cons (by decide +kernel) ?_
  refine StrL.cons (by decide +kernel) ?_
  refine StrL.cons (by decide +kernel) ?_
  refine StrL.cons (by decide +kernel) ?_
  refine StrL.cons (by decide +kernel) ?_
  refine StrL.cons (by decide +kernel) ?_
  refine StrL.cons (by decide +kernel) ?_
  exact StrL.cons rl3 (StrL.cons (by decide +kernel) (StrL.nil _))
section
variable {P : Program} {w : World} {K : PySem.W.Frag} {mg : Str → Option Value} {base : Heap}
def spWord : Sp := fun vs H Q _ => ∃ (p aw : Addr) (words : List Str) (k L : Nat), vs = [.ref p, .ref aw] ∧ Pot (k + 1) H p ∧ H aw = some (.lst (words.map V.str)) ∧ words.length ≤ 90000 ∧ (∀ z ∈ words, z.length ≤ L) ∧ 12000 ≤ L ∧
  ∀ (z : Str) (H' : Hp), Dr p k H H' → z.length ≤ L → Q (.str z) H'
theorem ok_l_books_word (T : Txt K mg) : FnOk P w K mg base CX0 3 T.f_l_books_word T.fd_l_books_word ["pot", "words"] (spWord) := by
  refine T.F_l_books_word.ok sc_l_books_word (fun vs H Q E h => ?_) (fun cdv A outer s H vs Q E hr h => ?_)
  · obtain ⟨p, aw, words, k, L, rfl, _⟩ := h
    rfl
  · obtain ⟨p, aw, words, k, L, rfl, hP, hW, wl, wz, hL, q⟩ := h
    refine ⟨_, (pss_cons (ps_set (i := 2) sc_l_books_word.nd rfl (Or.inl rfl) (pe_lst (pa_cons pe_str (pa_cons pe_str (pa_cons pe_str (pa_cons pe_str (pa_cons pe_str (pa_cons pe_str (pa_cons pe_str (pa_cons pe_str (pa_cons pe_str (pa_cons pe_str (pa_cons pe_str (pa_cons pe_str (pa_cons pe_str (pa_cons pe_str (pa_cons pe_str (pa_cons (pe_op op_mulS pe_str pe_int) pa_nil))))))))))))))))))
  (pss_cons (ps_set (i := 2) sc_l_books_word.nd rfl (Or.inl rfl) (pe_op op_cat (pv 2) (pe_lst (pa_cons (pe_op op_add_str pe_str (pe_op op_mulS pe_str pe_int)) (pa_cons pe_str (pa_cons pe_str (pa_cons pe_str (pa_cons pe_str (pa_cons pe_str (pa_cons pe_str (pa_cons pe_str pa_nil)))))))))))
  (pss_cons (ps_set (i := 2) sc_l_books_word.nd rfl (Or.inl rfl) (pe_op op_cat (pv 2) (pe_lst (pa_cons pe_str (pa_cons pe_str (pa_cons pe_str (pa_cons pe_str (pa_cons pe_str (pa_cons pe_str (pa_cons pe_str (pa_cons pe_str (pa_cons pe_str (pa_cons (pe_op op_mulS pe_str pe_int) (pa_cons pe_str pa_nil))))))))))))))
  (pss_one (ps_ret (pe_call (ok_l_of T) (hr.mono (by decide)) (by rfl) T.g_l_of T.F_l_of.kp T.b_l_of .nil pass0 (pa_cons (pv 0) (pa_cons (pe_op op_cat (pv 2) (pe_callTy call_list_of (by rfl) T.n_list (by decide +kernel) (pa_cons (pv 1) pa_nil))) pa_nil)))))))), ?_⟩
    refine ⟨"1", 4301, rfl, rfl, by decide, by decide, by decide +kernel, Nat.le_trans (show 16 ≤ 1000 by decide) (by decide), fun l1 hl1 => ?_⟩
    have s1 := same_new (o := .lst wl1) hl1
    have h1 : (upd H l1 (.lst wl1)) l1 = some (.lst wl1) := upd_same
    refine ⟨.ref l1, rfl, "7", 5000, rfl, rfl, by decide, by decide, by decide +kernel, "-", _, rfl, rfl, le_line (Nat.le_trans (Nat.add_le_add (show ("-" : Str).length ≤ 1000 by decide +kernel) (Nat.le_trans (repS_len "7" 5000) (show (5000 + 1) * ("7" : Str).length ≤ 10000 by decide +kernel))) (by decide)), Nat.le_trans (show 8 ≤ 1000 by decide) (by decide), fun l2 hl2 => ?_⟩
    have s2 := same_new (o := .lst wl2) hl2
    have h2 : (upd (upd H l1 (.lst wl1)) l2 (.lst wl2)) l2 = some (.lst wl2) := upd_same
    have h1 := s2 _ _ h1
    refine ⟨l1, l2, wl1, wl2, rfl, rfl, h1, h2, Nat.le_trans (show 16 + 8 ≤ 1000 by decide) (by decide), fun l3 hl3 => ?_⟩
    have s12 := s1.trans s2
    have s3 := same_new (o := .lst (wl1 ++ wl2)) hl3
    have h3 : (upd (upd (upd H l1 (.lst wl1)) l2 (.lst wl2)) l3 (.lst (wl1 ++ wl2))) l3 = some (.lst (wl1 ++ wl2)) := upd_same
    have s13 := s12.trans s3
    refine ⟨.ref l3, rfl, "mark", 2, rfl, rfl, by decide, by decide, by decide +kernel, Nat.le_trans (show 11 ≤ 1000 by decide) (by decide), fun l4 hl4 => ?_⟩
    have s4 := same_new (o := .lst wl3) hl4
    have h4 : (upd (upd (upd (upd H l1 (.lst wl1)) l2 (.lst wl2)) l3 (.lst (wl1 ++ wl2))) l4 (.lst wl3)) l4 = some (.lst wl3) := upd_same
    have h3 := s4 _ _ h3
    have s14 := s13.trans s4
    refine ⟨l3, l4, wl1 ++ wl2, wl3, rfl, rfl, h3, h4, Nat.le_trans (show 24 + 11 ≤ 1000 by decide) (by decide), fun l5 hl5 => ?_⟩
    have s5 := same_new (o := .lst (wl1 ++ wl2 ++ wl3)) hl5
    have h5 : (upd (upd (upd (upd (upd H l1 (.lst wl1)) l2 (.lst wl2)) l3 (.lst (wl1 ++ wl2))) l4 (.lst wl3)) l5 (.lst (wl1 ++ wl2 ++ wl3))) l5 = some (.lst (wl1 ++ wl2 ++ wl3)) := upd_same
    have s15 := s14.trans s5
    refine ⟨.ref p, rfl, .ref l5, rfl, .ref aw, rfl, aw, _, rfl, .inl (SqL.of (s15 _ _ hW)), fun l6 hl6 => ?_⟩
    have s6 := same_new (o := .lst (words.map V.str)) hl6
    have h6 : (upd (upd (upd (upd (upd (upd H l1 (.lst wl1)) l2 (.lst wl2)) l3 (.lst (wl1 ++ wl2))) l4 (.lst wl3)) l5 (.lst (wl1 ++ wl2 ++ wl3))) l6 (.lst (words.map V.str))) l6 = some (.lst (words.map V.str)) := upd_same
    have h5 := s6 _ _ h5
    have s16 := s15.trans s6
    have hlen : (wl1 ++ wl2 ++ wl3).length = 35 := rfl
    refine ⟨l5, l6, _, _, rfl, rfl, h5, h6, by rw [hlen, List.length_map]; exact le_line (by omega), fun l7 hl7 => ?_⟩
    have s7 := same_new (o := .lst (wl1 ++ wl2 ++ wl3 ++ words.map V.str)) hl7
    have s17 := s16.trans s7
    have hP7 := hP.same s17
    refine ⟨p, l7, _, k, rfl, hP7, SqL.of upd_same, (hP.same s16).ne hl7, by rw [List.length_append, hlen]; omega, by rw [List.length_append, hlen, List.length_map]; omega, fun i x H' hx d => ?_⟩
    have ok : StrL L (wl1 ++ wl2 ++ wl3 ++ words.map V.str) := (((wl1_ok.app wl2_ok).app wl3_ok).mono hL).app (StrL.of wz)
    obtain ⟨z, rfl, hz⟩ := ok x (List.mem_of_getElem? hx)
    refine q z H' ⟨(Same.kp s17).trans d.1, d.2⟩ hz
end
end OG
set_option Elab.async false
set_option linter.all false
set_option maxRecDepth 100000
set_option maxHeartbeats 8000000
namespace OG
open PySem PySem.Spec PyProof.Rows L2
def mL (ls : List Str) : Nat := (ls.map fun l => l.length + 1).sum
theorem mL_nil : mL [] = 0 := rfl
theorem mL_cons (x : Str) (r : List Str) : mL (x :: r) = x.length + 1 + mL r := by
  unfold mL
  rw [List.map_cons, List.sum_cons]
theorem mL_app (a b : List Str) : mL (a ++ b) = mL a + mL b := by
  unfold mL
  rw [List.map_append, List.sum_append]
theorem mL_take (n : Nat) (l : List Str) : mL (l.take n) ≤ mL l := by
  have e := mL_app (l.take n) (l.drop n)
  rw [List.take_append_drop] at e
  omega
theorem mL_drop (n : Nat) (l : List Str) : mL (l.drop n) ≤ mL l := by
  have e := mL_app (l.take n) (l.drop n)
  rw [List.take_append_drop] at e
  omega
theorem mL_rev : ∀ l : List Str, mL l.reverse = mL l
  | [] => rfl
  | x :: r => by
    rw [List.reverse_cons, mL_app, mL_cons, mL_cons, mL_nil, mL_rev r]
    omega
theorem mL_mem : ∀ {l : List Str} {x : Str}, x ∈ l → x.length + 1 ≤ mL l
  | [], x, h => by cases h
  | y :: r, x, h => by
    rw [mL_cons]
    rcases List.mem_cons.mp h with e | e
    · rw [e]
      omega
    · have := mL_mem e
      omega
theorem mL_len : ∀ l : List Str, l.length ≤ mL l
  | [] => Nat.le_refl _
  | y :: r => by
    rw [mL_cons, List.length_cons]
    have := mL_len r
    omega
theorem mL_sum : ∀ l : List Str, (l.map (·.length)).sum + l.length * 1 = mL l
  | [] => rfl
  | y :: r => by
    rw [mL_cons, List.map_cons, List.sum_cons, List.length_cons, ← mL_sum r]
    omega
theorem mL_set (x : Str) : ∀ (l : List Str) (i : Nat), mL (l.set i x) ≤ mL l + x.length + 1
  | [], _ => by
    rw [List.set_nil]
    omega
  | y :: r, 0 => by
    rw [List.set_cons_zero, mL_cons, mL_cons]
    omega
  | y :: r, i + 1 => by
    rw [List.set_cons_succ, mL_cons, mL_cons]
    have := mL_set x r i
    omega
theorem mL_rep (z : Str) : ∀ n : Nat, mL (List.replicate n z) = n * (z.length + 1)
  | 0 => by
    rw [List.replicate_zero, Nat.zero_mul]
    rfl
  | n + 1 => by
    rw [List.replicate_succ, mL_cons, mL_rep z n, Nat.succ_mul]
    omega
theorem flat_rep (z : Str) : ∀ n : Nat, (List.replicate n [V.str z]).flatten = (List.replicate n z).map V.str
  | 0 => rfl
  | n + 1 => by
    rw [List.replicate_succ, List.flatten_cons, flat_rep z n, List.replicate_succ, List.map_cons]
    rfl
theorem join_mL {a : Str} (ha : a.length = 1) (ys : List Str) : (Txt.join a ys).length ≤ mL ys := by
  have h := join_len a ys
  rw [ha] at h
  exact h
theorem split_mL (z y : Str) (hy : y.length = 1) (h256 : y.cps.all (· < 256) = true) : mL (Txt.split z y) = z.length + 1 := by
  have hyn : TL.tl y ≠ [] := fun e => by
    have := TL.len_tl y
    rw [e, hy] at this
    cases this
  have e := TL.split_spl z y hyn (TL.kind_ok h256)
  have hne : Txt.split z y ≠ [] := fun n => by
    rw [n] at e
    exact spl_ne _ _ _ _ e.symm
  have j := PySem.StrLaws.join_split z y
  have jt := congrArg TL.tl j
  rw [TL.tl_join] at jt
  have key : ∀ (S : List Nat) (ls : List (List Nat)), ls ≠ [] → S.length = 1 → (TL.joinL S ls).length + 1 = (ls.map fun l => l.length + 1).sum := by
    intro S ls
    induction ls with
    | nil => intro h _; exact absurd rfl h
    | cons p r ih =>
      intro _ hS
      cases r with
      | nil =>
        show p.length + 1 = _
        simp
      | cons q r' =>
        have ih := ih (by simp) hS
        show (p ++ (S ++ TL.joinL S (q :: r'))).length + 1 = _
        rw [List.length_append, List.length_append, List.map_cons, List.sum_cons, ← ih]
        omega
  have k := key (TL.tl y) ((Txt.split z y).map TL.tl) (by simpa using hne) (by rw [← TL.len_tl]; exact hy)
  rw [jt, ← TL.len_tl, List.map_map] at k
  rw [show z.length + 1 = _ from k]
  unfold mL
  refine congrArg List.sum (List.map_congr_left fun l _ => ?_)
  show l.length + 1 = (TL.tl l).length + 1
  rw [← TL.len_tl]
theorem cut_strs (ls : List Str) (lo hi : Option Int) : ∃ ys : List Str, cutV (ls.map V.str) lo hi = ys.map V.str ∧ mL ys ≤ mL ls := by
  obtain ⟨a, b, e⟩ : ∃ a b, cutV (ls.map V.str) lo hi = ((ls.map V.str).drop a).take b := ⟨_, _, rfl⟩
  refine ⟨(ls.drop a).take b, ?_, Nat.le_trans (mL_take _ _) (mL_drop _ _)⟩
  rw [e, List.map_take, List.map_drop]
theorem sl_st {K : PySem.W.Frag} {a : Addr} {ls : List Str} {lo hi : Option Int} {H : Hp} {Q : VK} (h : H a = some (.lst (ls.map V.str))) (q : ∀ (c : Addr) (ys : List Str) (H2 : Hp), Same H H2 → H c = none → H2 c = some (.lst (ys.map V.str)) → mL ys ≤ mL ls → Q (.ref c) H2) : rSlL K (.ref a) lo hi H Q := by
  refine ⟨a, _, rfl, SqL.of h, fun c hc => ?_⟩
  obtain ⟨ys, e, m⟩ := cut_strs ls lo hi
  exact q c ys _ (same_new hc) hc (by rw [upd_same, e]) m
theorem cat_st {a b : Addr} {xs ys : List Str} {H : Hp} {Q : VK} (h1 : H a = some (.lst (xs.map V.str))) (h2 : H b = some (.lst (ys.map V.str))) (m1 : mL xs ≤ 4000000) (m2 : mL ys ≤ 4000000) (q : ∀ (c : Addr) (H2 : Hp), Same H H2 → H c = none → H2 c = some (.lst ((xs ++ ys).map V.str)) → Q (.ref c) H2) : rCat (.ref a) (.ref b) H Q := by
  refine ⟨a, b, _, _, rfl, rfl, h1, h2, ?_, fun c hc => ?_⟩
  · rw [List.length_map, List.length_map]
    have := mL_len xs
    have := mL_len ys
    exact le_line (by omega)
  · exact q c _ (same_new hc) hc (by rw [upd_same, List.map_append])
theorem ml2 (a b : List Str) {n m : Nat} (h1 : mL a ≤ n) (h2 : mL b ≤ m) : mL (a ++ b) ≤ n + m := by
  rw [mL_app]
  omega
section
variable {P : Program} {w : World} {K : PySem.W.Frag} {mg : Str → Option Value} {base : Heap}
def spBent : Sp := fun vs H Q _ => ∃ (p : Addr) (z : Str) (k : Nat), vs = [.ref p, .str z] ∧ Pot (k + 5) H p ∧ z.length ≤ 40000 ∧
  ∀ (z' : Str) (H' : Hp), Dr p k H H' → z'.length ≤ 5 * (z.length + 1) + 13010 → Q (.str z') H'
theorem ok_l_books_bent (T : Txt K mg) : FnOk P w K mg base CX0 4 T.f_l_books_bent T.fd_l_books_bent ["pot", "text"] (spBent) := by
  refine T.F_l_books_bent.ok sc_l_books_bent (fun vs H Q E h => ?_) (fun cdv A outer s H vs Q E hr h => ?_)
  · obtain ⟨p, z, k, rfl, _⟩ := h
    rfl
  · obtain ⟨p, z, k, rfl, hP, hz, q⟩ := h
    refine ⟨_, (pss_cons (ps_par (i := 2) (j := 3) (by rfl) sc_l_books_bent.nd rfl rfl (by decide) rfl rfl (pa_cons (pe_split (pv 1) pe_str) (pa_cons (pe_call (ok_l_take T) (hr.mono (by decide)) (by rfl) T.g_l_take T.F_l_take.kp T.b_l_take .nil pass0 (pa_cons (pv 0) (pa_cons pe_int pa_nil))) pa_nil)) (by rfl))
  (pss_cons (ps_par (i := 4) (j := 5) (by rfl) sc_l_books_bent.nd rfl rfl (by decide) rfl rfl (pa_cons (pe_call (ok_l_take T) (hr.mono (by decide)) (by rfl) T.g_l_take T.F_l_take.kp T.b_l_take .nil pass0 (pa_cons (pv 0) (pa_cons (pe_callB call_len_seq (by rfl) T.n_len PySem.boot_len (pa_cons (pv 2) pa_nil)) pa_nil))) (pa_cons (pe_call (ok_l_take T) (hr.mono (by decide)) (by rfl) T.g_l_take T.F_l_take.kp T.b_l_take .nil pass0 (pa_cons (pv 0) (pa_cons pe_int pa_nil))) pa_nil)) (by rfl))
  (pss_cons (ps_set (i := 6) sc_l_books_bent.nd rfl (Or.inl rfl) (pe_split (pe_ix ix_list (pv 2) (pv 4) (fun _ _ => rfl)) pe_str))
  (pss_cons (ps_set (i := 7) sc_l_books_bent.nd rfl (Or.inl rfl) (pe_op op_mod (pe_callTy call_int1 (by rfl) T.n_int (by decide +kernel) (pa_cons (pv 5) pa_nil)) (pe_callB call_len_seq (by rfl) T.n_len PySem.boot_len (pa_cons (pv 6) pa_nil))))
  (pss_cons (ps_if (pt_cmpR op_eq (pv 3) pe_int (nomark _)) (pss_one (ps_set (i := 2) sc_l_books_bent.nd rfl (Or.inl rfl) (pe_op op_cat (pe_slice sl_list (pv 2) po_none (po_some (pv 4))) (pe_slice sl_list (pv 2) (po_some (pe_op op_add (pv 4) pe_int)) po_none)))) (pss_one (ps_if (pt_cmpR op_eq (pv 3) pe_int (nomark _)) (pss_one (ps_set (i := 2) sc_l_books_bent.nd rfl (Or.inl rfl) (pe_op op_cat (pe_slice sl_list (pv 2) po_none (po_some (pe_op op_add (pv 4) pe_int))) (pe_slice sl_list (pv 2) (po_some (pv 4)) po_none)))) (pss_one (ps_if (pt_cmpR op_eq (pv 3) pe_int (nomark _)) (pss_one (ps_set (i := 2) sc_l_books_bent.nd rfl (Or.inl rfl) (pe_slice sl_list (pv 2) po_none (po_some (pe_op op_add (pv 4) pe_int))))) (pss_one (ps_if (pt_cmpR op_eq (pv 3) pe_int (nomark _)) (pss_one (ps_set (i := 2) sc_l_books_bent.nd rfl (Or.inl rfl) (pe_op op_cat (pe_op op_cat (pe_slice sl_list (pv 2) po_none (po_some (pv 4))) (pe_revL (pe_slice sl_list (pv 2) (po_some (pv 4)) (po_some (pe_op op_add (pv 4) pe_int))))) (pe_slice sl_list (pv 2) (po_some (pe_op op_add (pv 4) pe_int)) po_none)))) (pss_one (ps_if (pt_cmpR op_eq (pv 3) pe_int (nomark _)) (pss_one (ps_asg (pe_join pe_str (pe_op op_cat (pe_slice sl_list (pv 6) po_none (po_some (pv 7))) (pe_slice sl_list (pv 6) (po_some (pe_op op_add (pv 7) pe_int)) po_none))) (pg_sub (pv 2) (pv 4) set_list))) (pss_one (ps_if (pt_cmpR op_eq (pv 3) pe_int (nomark _)) (pss_one (ps_asg (pe_join pe_str (pe_op op_cat (pe_slice sl_list (pv 6) po_none (po_some (pe_op op_add (pv 7) pe_int))) (pe_slice sl_list (pv 6) (po_some (pv 7)) po_none))) (pg_sub (pv 2) (pv 4) set_list))) (pss_one (OGX.ps_if1 (OGX.pt1_cmpI op_lt (pv 3) (nomark _)) (psst_cons (OGX.pst_set (i := 8) sc_l_books_bent.nd rfl (Or.inl rfl) (OGX.pet_split (CwR.pet_replC (pv 1)) pe_str)) (PSsT.of (pss_one (ps_asg (pe_join pe_str (pe_op op_cat (pe_op op_cat (pe_slice sl_list (pv 6) po_none (po_some (pv 7))) (pe_lst (pa_cons (pe_call (ok_l_books_word T) (hr.mono (by decide)) (by rfl) T.g_l_books_word T.F_l_books_word.kp T.b_l_books_word .nil pass0 (pa_cons (pv 0) (pa_cons (pv 8) pa_nil))) pa_nil))) (pe_slice sl_list (pv 6) (po_some (pe_op op_add (pv 7) pe_int)) po_none))) (pg_sub (pv 2) (pv 4) set_list))))) (pss_cons (ps_set (i := 9) sc_l_books_bent.nd rfl (Or.inl rfl) (pe_lst (pa_cons pe_str (pa_cons pe_str (pa_cons pe_str (pa_cons pe_str (pa_cons pe_str (pa_cons (pe_op op_add_str pe_str (pe_join pe_str (pe_op op_rep (pe_lst (pa_cons pe_str pa_nil)) (pe_op op_add (pv 5) pe_int)))) pa_nil))))))))
  (pss_one (ps_set (i := 2) sc_l_books_bent.nd rfl (Or.inl rfl) (pe_op op_cat (pe_op op_cat (pe_slice sl_list (pv 2) po_none (po_some (pe_op op_add (pv 4) pe_int))) (pe_lst (pa_cons (pe_call (ok_l_of T) (hr.mono (by decide)) (by rfl) T.g_l_of T.F_l_of.kp T.b_l_of .nil pass0 (pa_cons (pv 0) (pa_cons (pv 9) pa_nil))) pa_nil))) (pe_slice sl_list (pv 2) (po_some (pe_op op_add (pv 4) pe_int)) po_none))))))))))))))))))
  (pss_one (ps_ret (pe_join pe_str (pv 2))))))))), ?_⟩
    have e1 := split_mL z "\n" rfl (by decide +kernel)
    obtain ⟨n1, l1, p1⟩ := split_facts z "\n" rfl (by decide +kernel)
    refine ⟨.str z, rfl, ⟨_, rfl⟩, z, _, rfl, rfl, rfl, le_line (by omega), fun pl hpl => ?_⟩
    generalize Txt.split z "\n" = ls at *
    have d0 : Dr p (k + 5) H (upd H pl (.lst (ls.map V.str))) := (Dr.start hP (Nat.le_refl _)).new hpl
    have hpl0 : (upd H pl (.lst (ls.map V.str))) pl = some (.lst (ls.map V.str)) := upd_same
    have npl : pl ≠ p := hP.ne hpl
    refine ⟨.ref p, rfl, p, 12, k + 4, rfl, d0.2, by decide, by decide, fun way H1 w0 w1 d1 => ?_⟩
    refine ⟨_, _, rfl, ?_⟩
    have hpl1 := d1.st npl hpl0
    have d01 := d0.trans d1
    refine ⟨.ref p, rfl, .ref pl, rfl, pl, _, rfl, .inl (SqL.of hpl1), p, _, k + 3, rfl, d1.2, ?_, ?_, fun at_ H2 a0 a1 d2 => ?_⟩
    · rw [List.length_map]
      have := List.length_pos_iff.mpr n1
      omega
    · rw [List.length_map]
      refine Int.lt_of_le_of_lt (show (ls.length : Int) ≤ 1000000 by omega) (by decide)
    have hpl2 := d2.st npl hpl1
    refine ⟨.ref p, rfl, p, 30, k + 2, rfl, d2.2, by decide, by decide, fun spot H3 p0 p1' d3 => ?_⟩
    refine ⟨_, _, rfl, ?_⟩
    have hpl3 := d3.st npl hpl2
    have d03 := (d01.trans d2).trans d3
    obtain ⟨at', rfl⟩ := Int.eq_ofNat_of_zero_le a0
    have hat : at' < ls.length := by
      rw [List.length_map] at a1
      omega
    obtain ⟨l, hl⟩ : ∃ l, ls[at']? = some l := ⟨_, List.getElem?_eq_getElem hat⟩
    have hll : l.length + 1 ≤ mL ls := mL_mem (List.mem_of_getElem? hl)
    have hz1 : mL ls ≤ 40001 := by omega
    refine ⟨.ref pl, rfl, .int ((at' : Nat) : Int), rfl, pl, _, ((at' : Nat) : Int), .str l, rfl, rfl, SqL.of hpl3, atI_nat (by rw [List.getElem?_map, hl]; rfl), ⟨_, rfl⟩, l, _, rfl, rfl, rfl, le_line (by omega), fun wl hwl => ?_⟩
    have f1 := split_mL l " " rfl (by decide +kernel)
    obtain ⟨f2, f3, f4⟩ := split_facts l " " rfl (by decide +kernel)
    generalize Txt.split l " " = ws at *
    have s4 := same_new (o := .lst (ws.map V.str)) hwl
    have hwl4 : (upd H3 wl (.lst (ws.map V.str))) wl = some (.lst (ws.map V.str)) := upd_same
    have hpl4 := s4 _ _ hpl3
    have d04 : Dr p (k + 2) H (upd H3 wl (.lst (ws.map V.str))) := d03.sm s4
    generalize upd H3 wl (.lst (ws.map V.str)) = H4 at *
    have mw : mL ws ≤ mL ls := by omega
    refine ⟨.int spot, rfl, .inl ⟨spot, rfl, ?_⟩⟩
    refine ⟨.ref wl, rfl, wl, _, rfl, .inl (SqL.of hwl4), spot, _, rfl, rfl, ?_, ?_⟩
    · rw [List.length_map]
      have := List.length_pos_iff.mpr f2
      omega
    dsimp only [gName]
    obtain ⟨pc, hpc⟩ : ∃ pc : Int, pc = spot % ((ws.map V.str).length : Int) := ⟨_, rfl⟩
    rw [← hpc]
    refine seq_fin (fun σ' H' => ∃ (v8 v9 : Option V) (l' : Addr) (ys : List Str), σ' = [some (.ref p), some (.str z), some (.ref l'), some (.int way), some (.int ((at' : Nat) : Int)), some (.int spot), some (.ref wl), some (.int pc), v8, v9] ∧ Dr p k H H' ∧ H' l' = some (.lst (ys.map V.str)) ∧ mL ys ≤ 5 * (z.length + 1) + 13010) ?_ (fun fin => ?_)
    · rintro σ' H' ⟨v8, v9, l', ys, rfl, d, hl', hb⟩
      refine ⟨⟨_, rfl⟩, .ref l', rfl, "\n", l', ys, rfl, rfl, .inl (SqL.of hl'), ?_, q _ H' d (Nat.le_trans (join_mL rfl ys) hb)⟩
      rw [show ("\n" : Str).length = 1 from rfl, mL_sum]
      omega
    · have dk : ∀ {H' : Hp}, Same H4 H' → Dr p k H H' := fun s => (d04.sm s).mono (by omega)
      have nplp : pl ≠ p := npl
      refine ⟨.int way, rfl, rfl, _, rfl, ?_⟩
      refine ite2 (fun _ => ?_) (fun _ => ?_)
      · refine ⟨.ref pl, rfl, .int ((at' : Nat) : Int), rfl, _, rfl, sl_st hpl4 fun c1 ys1 H5 s5 _ g1 m1 => ?_⟩
        refine ⟨.ref pl, rfl, .int ((at' : Nat) : Int), rfl, _, _, rfl, rfl, _, rfl, ?_⟩
        dsimp only [tNoPart]
        refine sl_st (s5 _ _ hpl4) fun c2 ys2 H6 s6 _ g2 m2 => ?_
        refine cat_st (s6 _ _ g1) g2 (by omega) (by omega) fun c3 H7 s7 _ g3 => ?_
        exact fin _ _ ⟨none, none, c3, ys1 ++ ys2, rfl, dk ((s5.trans s6).trans s7), g3, Nat.le_trans (ml2 _ _ m1 m2) (by omega)⟩
      refine ⟨.int way, rfl, rfl, _, rfl, ?_⟩
      refine ite2 (fun _ => ?_) (fun _ => ?_)
      · refine ⟨.ref pl, rfl, .int ((at' : Nat) : Int), rfl, _, _, rfl, rfl, _, rfl, sl_st hpl4 fun c1 ys1 H5 s5 _ g1 m1 => ?_⟩
        refine ⟨.ref pl, rfl, .int ((at' : Nat) : Int), rfl, _, rfl, ?_⟩
        dsimp only [tNoPart]
        refine sl_st (s5 _ _ hpl4) fun c2 ys2 H6 s6 _ g2 m2 => ?_
        refine cat_st (s6 _ _ g1) g2 (by omega) (by omega) fun c3 H7 s7 _ g3 => ?_
        exact fin _ _ ⟨none, none, c3, ys1 ++ ys2, rfl, dk ((s5.trans s6).trans s7), g3, Nat.le_trans (ml2 _ _ m1 m2) (by omega)⟩
      refine ⟨.int way, rfl, rfl, _, rfl, ?_⟩
      refine ite2 (fun _ => ?_) (fun _ => ?_)
      · refine ⟨.ref pl, rfl, .int ((at' : Nat) : Int), rfl, _, _, rfl, rfl, _, rfl, sl_st hpl4 fun c1 ys1 H5 s5 _ g1 m1 => ?_⟩
        exact fin _ _ ⟨none, none, c1, ys1, rfl, dk s5, g1, by omega⟩
      refine ⟨.int way, rfl, rfl, _, rfl, ?_⟩
      refine ite2 (fun _ => ?_) (fun _ => ?_)
      · refine ⟨.ref pl, rfl, .int ((at' : Nat) : Int), rfl, _, rfl, sl_st hpl4 fun c1 ys1 H5 s5 _ g1 m1 => ?_⟩
        refine ⟨.ref pl, rfl, .int ((at' : Nat) : Int), rfl, _, rfl, .int ((at' : Nat) : Int), rfl, _, _, rfl, rfl, _, rfl, sl_st (s5 _ _ hpl4) fun c2 ys2 H6 s6 _ g2 m2 => ?_⟩
        refine ⟨c2, _, rfl, SqL.of g2, fun c3 hc3 => ?_⟩
        have s7 := same_new (o := .lst (ys2.map V.str).reverse) hc3
        have g3 : (upd H6 c3 (.lst (ys2.map V.str).reverse)) c3 = some (.lst (ys2.reverse.map V.str)) := by rw [upd_same, List.map_reverse]
        have m3 : mL ys2.reverse ≤ mL ls := by rw [mL_rev]; exact m2
        have g1 := s7 _ _ (s6 _ _ g1)
        have gp := s7 _ _ (s6 _ _ (s5 _ _ hpl4))
        have s47 := (s5.trans s6).trans s7
        refine cat_st g1 g3 (by omega) (by omega) fun c4 H8 s8 _ g4 => ?_
        have m4 := ml2 _ _ m1 m3
        refine ⟨.ref pl, rfl, .int ((at' : Nat) : Int), rfl, _, _, rfl, rfl, _, rfl, ?_⟩
        dsimp only [tNoPart]
        refine sl_st (s8 _ _ gp) fun c5 ys5 H9 s9 _ g5 m5 => ?_
        refine cat_st (s9 _ _ g4) g5 (by omega) (by omega) fun c6 H10 s10 _ g6 => ?_
        exact fin _ _ ⟨none, none, c6, _, rfl, dk (((s47.trans s8).trans s9).trans s10), g6, Nat.le_trans (ml2 _ _ m4 m5) (by omega)⟩
      have setL : ∀ {H' H'' : Hp} {x : Str}, Same H4 H' → Dr p k H H' → H' pl = some (.lst (ls.map V.str)) → x.length ≤ 2 * mL ls + (2 * z.length + 13001) → Dr p k H (upd H' pl (.lst ((ls.map V.str).set at' (.str x)))) ∧ (upd H' pl (.lst ((ls.map V.str).set at' (.str x)))) pl = some (.lst ((ls.set at' x).map V.str)) ∧ mL (ls.set at' x) ≤ 5 * (z.length + 1) + 13010 := by
        intro H' H'' x s d h hx
        refine ⟨d.mut hpl npl, ?_, Nat.le_trans (mL_set x ls at') (by omega)⟩
        rw [upd_same, List.map_set]
      have ixA : ixN (ls.map V.str).length ((at' : Nat) : Int) = some at' := by
        unfold ixN
        rw [if_pos (by omega), if_pos (by rw [List.length_map]; omega), Int.toNat_natCast]
      refine ⟨.int way, rfl, rfl, _, rfl, ?_⟩
      refine ite2 (fun _ => ?_) (fun _ => ?_)
      · refine ⟨⟨_, rfl⟩, .ref wl, rfl, .int pc, rfl, _, rfl, sl_st hwl4 fun c1 ys1 H5 s5 _ g1 m1 => ?_⟩
        refine ⟨.ref wl, rfl, .int pc, rfl, _, _, rfl, rfl, _, rfl, ?_⟩
        dsimp only [tNoPart]
        refine sl_st (s5 _ _ hwl4) fun c2 ys2 H6 s6 _ g2 m2 => ?_
        refine cat_st (s6 _ _ g1) g2 (by omega) (by omega) fun c3 H7 s7 _ g3 => ?_
        have s47 := (s5.trans s6).trans s7
        have mm := ml2 _ _ m1 m2
        have hx := join_mL (a := " ") rfl (ys1 ++ ys2)
        obtain ⟨t1, t2, t3⟩ := setL (H'' := H7) (x := Txt.join " " (ys1 ++ ys2)) s47 (dk s47) (s47 _ _ hpl4) (by omega)
        refine ⟨" ", c3, _, rfl, rfl, .inl (SqL.of g3), by rw [show (" " : Str).length = 1 from rfl, mL_sum]; omega, .ref pl, rfl, .int ((at' : Nat) : Int), rfl, pl, _, _, at', rfl, rfl, s47 _ _ hpl4, ixA, ?_⟩
        exact fin _ _ ⟨none, none, pl, _, rfl, t1, t2, t3⟩
      refine ⟨.int way, rfl, rfl, _, rfl, ?_⟩
      refine ite2 (fun _ => ?_) (fun _ => ?_)
      · refine ⟨⟨_, rfl⟩, .ref wl, rfl, .int pc, rfl, _, _, rfl, rfl, _, rfl, sl_st hwl4 fun c1 ys1 H5 s5 _ g1 m1 => ?_⟩
        refine ⟨.ref wl, rfl, .int pc, rfl, _, rfl, ?_⟩
        dsimp only [tNoPart]
        refine sl_st (s5 _ _ hwl4) fun c2 ys2 H6 s6 _ g2 m2 => ?_
        refine cat_st (s6 _ _ g1) g2 (by omega) (by omega) fun c3 H7 s7 _ g3 => ?_
        have s47 := (s5.trans s6).trans s7
        have mm := ml2 _ _ m1 m2
        have hx := join_mL (a := " ") rfl (ys1 ++ ys2)
        obtain ⟨t1, t2, t3⟩ := setL (H'' := H7) (x := Txt.join " " (ys1 ++ ys2)) s47 (dk s47) (s47 _ _ hpl4) (by omega)
        refine ⟨" ", c3, _, rfl, rfl, .inl (SqL.of g3), by rw [show (" " : Str).length = 1 from rfl, mL_sum]; omega, .ref pl, rfl, .int ((at' : Nat) : Int), rfl, pl, _, _, at', rfl, rfl, s47 _ _ hpl4, ixA, ?_⟩
        exact fin _ _ ⟨none, none, pl, _, rfl, t1, t2, t3⟩
      refine ⟨.int way, rfl, _, _, rfl, rfl, _, rfl, ?_⟩
      refine ite2 (fun _ => ?_) (fun _ => ?_)
      · have rl := TK.replace_len z "\n" " "
        have rl2 : (Txt.replace z "\n" " ").length ≤ 2 * z.length + 1 := by
          have e : (" " : Str).length = 1 := rfl
          rw [e] at rl
          omega
        refine ⟨.str z, rfl, z, rfl, by rw [show (" " : Str).length = 1 from rfl]; omega, ⟨_, rfl⟩, _, _, rfl, rfl, rfl, le_line (by omega), fun el hel => ?_⟩
        obtain ⟨v1, v2, v3⟩ := split_facts (Txt.replace z "\n" " ") " " rfl (by decide +kernel)
        generalize Txt.split (Txt.replace z "\n" " ") " " = es at *
        have s5 := same_new (o := .lst (es.map V.str)) hel
        have hel5 : (upd H4 el (.lst (es.map V.str))) el = some (.lst (es.map V.str)) := upd_same
        generalize upd H4 el (.lst (es.map V.str)) = H5 at *
        refine ⟨⟨_, rfl⟩, .ref wl, rfl, .int pc, rfl, _, rfl, sl_st (s5 _ _ hwl4) fun c1 ys1 H6 s6 _ g1 m1 => ?_⟩
        have s46 := s5.trans s6
        refine ⟨.ref p, rfl, .ref el, rfl, p, el, es, k + 1, 2 * z.length + 13000, rfl, (d04.sm s46).2, s6 _ _ hel5, by omega, fun y hy => Nat.le_trans (v3 y hy) (by omega), by omega, fun y H7 d7 hy => ?_⟩
        refine ⟨Nat.le_trans (show 1 ≤ 1000 by decide) (by decide), fun c2 hc2 => ?_⟩
        have d47 := (d04.sm s46).trans d7
        have s8 := same_new (o := .lst [.str y]) hc2
        have g2 : (upd H7 c2 (.lst [.str y])) c2 = some (.lst ([y].map V.str)) := upd_same
        have nc1 : c1 ≠ p := (d04.sm s5).2.ne (by assumption)
        have g1 := s8 _ _ (d7.st nc1 g1)
        have nwl : wl ≠ p := d03.2.ne hwl
        have gw := s8 _ _ (d7.st nwl (s46 _ _ hwl4))
        have gp := s8 _ _ (d7.st npl (s46 _ _ hpl4))
        have d48 := d47.sm s8
        generalize upd H7 c2 (.lst [.str y]) = H8 at *
        have m2 : mL [y] ≤ 2 * z.length + 13001 := by
          rw [mL_cons, mL_nil]
          omega
        refine cat_st g1 g2 (by omega) (by omega) fun c3 H9 s9 _ g3 => ?_
        have m3 := ml2 _ _ m1 m2
        refine ⟨.ref wl, rfl, .int pc, rfl, _, _, rfl, rfl, _, rfl, ?_⟩
        dsimp only [tNoPart]
        refine sl_st (s9 _ _ gw) fun c4 ys4 H10 s10 _ g4 m4 => ?_
        refine cat_st (s10 _ _ g3) g4 (by omega) (by omega) fun c5 H11 s11 _ g5 => ?_
        have m5 := ml2 _ _ m3 m4
        have s811 := (s9.trans s10).trans s11
        have d411 : Dr p k H H11 := (d48.sm s811).mono (by omega)
        have hx := join_mL (a := " ") rfl (ys1 ++ [y] ++ ys4)
        have gp := s811 _ _ gp
        have t1 : Dr p k H (upd H11 pl (.lst ((ls.map V.str).set at' (.str (Txt.join " " (ys1 ++ [y] ++ ys4)))))) := d411.mut hpl npl
        refine ⟨" ", c5, _, rfl, rfl, .inl (SqL.of g5), by rw [show (" " : Str).length = 1 from rfl, mL_sum]; omega, .ref pl, rfl, .int ((at' : Nat) : Int), rfl, pl, _, _, at', rfl, rfl, gp, ixA, ?_⟩
        refine fin _ _ ⟨some (.ref el), none, pl, ls.set at' (Txt.join " " (ys1 ++ [y] ++ ys4)), rfl, t1, by rw [upd_same, List.map_set], Nat.le_trans (mL_set _ _ _) (by omega)⟩
      · refine ⟨⟨_, rfl⟩, Nat.le_trans (show 1 ≤ 1000 by decide) (by decide), fun o1 ho1 => ?_⟩
        have s5 := same_new (o := .lst [.str "1"]) ho1
        have go1 : (upd H4 o1 (.lst [.str "1"])) o1 = some (.lst [.str "1"]) := upd_same
        refine ⟨.int spot, rfl, _, _, rfl, rfl, o1, spot + 1, [.str "1"], rfl, rfl, go1, by rw [show (2 : Int) ^ 63 = 9223372036854775808 by decide]; omega, by rw [show (2 : Int) ^ 63 = 9223372036854775808 by decide]; omega, le_line (by show 1 * (spot + 1).toNat ≤ 16000000; omega), fun o2 ho2 => ?_⟩
        obtain ⟨n, hn⟩ : ∃ n, n = (spot + 1).toNat := ⟨_, rfl⟩
        have n30 : n ≤ 30 := by omega
        rw [← hn]
        have s6 := same_new (o := .lst (List.replicate n [V.str "1"]).flatten) ho2
        have go2 : (upd (upd H4 o1 (.lst [.str "1"])) o2 (.lst (List.replicate n [V.str "1"]).flatten)) o2 = some (.lst ((List.replicate n ("1" : Str)).map V.str)) := by rw [upd_same, flat_rep]
        have s46 := s5.trans s6
        generalize upd (upd H4 o1 (.lst [.str "1"])) o2 (.lst (List.replicate n [V.str "1"]).flatten) = H6 at *
        have mr : mL (List.replicate n ("1" : Str)) ≤ 60 := by
          rw [mL_rep, show ("1" : Str).length = 1 from rfl]
          omega
        have hj := join_mL (a := " ") rfl (List.replicate n ("1" : Str))
        refine ⟨" ", o2, _, rfl, rfl, .inl (SqL.of go2), by rw [show (" " : Str).length = 1 from rfl, mL_sum]; omega, "kind q ", _, rfl, rfl, le_line (by rw [show ("kind q " : Str).length = 7 from rfl]; omega), Nat.le_trans (show 6 ≤ 1000 by decide) (by decide), fun ml hml => ?_⟩
        obtain ⟨mo, hmo⟩ : ∃ mo : List V, mo = [.str "", .str "kind q 1", .str "mark q 1", .str "book 0", .str " ", .str ("kind q " ++ Txt.join " " (List.replicate n ("1" : Str)))] := ⟨_, rfl⟩
        rw [← hmo]
        have okm : StrL 100 mo := by
          rw [hmo]
          refine StrL.cons (by decide +kernel) (StrL.cons (by decide +kernel) (StrL.cons (by decide +kernel) (StrL.cons (by decide +kernel) (StrL.cons (by decide +kernel) (StrL.cons ?_ (StrL.nil _))))))
          rw [app_len, show ("kind q " : Str).length = 7 from rfl]
          omega
        have lmo : mo.length = 6 := by
          rw [hmo]
          rfl
        have s7 := same_new (o := .lst mo) hml
        have gml : (upd H6 ml (.lst mo)) ml = some (.lst mo) := upd_same
        have s47 := s46.trans s7
        have nml : ml ≠ p := (d04.sm s46).2.ne hml
        generalize upd H6 ml (.lst mo) = H7 at *
        have gp := s47 _ _ hpl4
        refine ⟨.ref pl, rfl, .int ((at' : Nat) : Int), rfl, _, _, rfl, rfl, _, rfl, sl_st gp fun c1 ys1 H8 s8 n8 g1 m1 => ?_⟩
        have d8 := (d04.sm s47).sm s8
        refine ⟨.ref p, rfl, .ref ml, rfl, p, ml, mo, k + 1, rfl, d8.2, SqL.of (s8 _ _ gml), nml, by omega, by omega, fun i x H9 hx d9 => ?_⟩
        obtain ⟨y, rfl, hy⟩ := okm x (List.mem_of_getElem? hx)
        have nc1 : c1 ≠ p := (d04.sm s47).2.ne n8
        refine ⟨Nat.le_trans (show 1 ≤ 1000 by decide) (by decide), fun c2 hc2 => ?_⟩
        have s10 := same_new (o := .lst [.str y]) hc2
        have g2 : (upd H9 c2 (.lst [.str y])) c2 = some (.lst ([y].map V.str)) := upd_same
        have g1 := s10 _ _ (d9.st nc1 g1)
        have gp := s10 _ _ (d9.st npl (s8 _ _ gp))
        have d10 := (d8.trans d9).sm s10
        generalize upd H9 c2 (.lst [.str y]) = H10 at *
        have m2 : mL [y] ≤ 101 := by
          rw [mL_cons, mL_nil]
          omega
        refine cat_st g1 g2 (by omega) (by omega) fun c3 H11 s11 _ g3 => ?_
        have m3 := ml2 _ _ m1 m2
        refine ⟨.ref pl, rfl, .int ((at' : Nat) : Int), rfl, _, _, rfl, rfl, _, rfl, ?_⟩
        dsimp only [tNoPart]
        refine sl_st (s11 _ _ gp) fun c4 ys4 H12 s12 _ g4 m4 => ?_
        refine cat_st (s12 _ _ g3) g4 (by omega) (by omega) fun c5 H13 s13 _ g5 => ?_
        have m5 := ml2 _ _ m3 m4
        exact fin _ _ ⟨none, some (.ref ml), c5, _, rfl, (d10.sm ((s11.trans s12).trans s13)).mono (by omega), g5, by omega⟩
end
end OG
set_option Elab.async false
set_option linter.all false
set_option maxRecDepth 100000
set_option maxHeartbeats 8000000
namespace OG
open PySem PySem.Spec PyProof.Rows L2
def Nears (H : Hp) (xs : List V) : Prop := ∀ x ∈ xs, NearV H x
theorem Nears.nil (H : Hp) : Nears H [] := fun _ h => by cases h
theorem Nears.cons {H : Hp} {x : V} {xs : List V} (h : NearV H x) (r : Nears H xs) : Nears H (x :: xs) := fun y hy => by
  rcases List.mem_cons.mp hy with e | e
  · rw [e]
    exact h
  · exact r y e
theorem Nears.app {H : Hp} {xs ys : List V} (a : Nears H xs) (b : Nears H ys) : Nears H (xs ++ ys) := fun x hx => (List.mem_append.mp hx).elim (a x) (b x)
theorem Nears.same {H H' : Hp} {xs : List V} (a : Nears H xs) (s : Same H H') : Nears H' xs := fun x hx => NearV.same s (a x hx)
def NearO (o : HO) : Prop := (∃ xs, o = .lst xs) ∨ (∃ xs, o = .tup xs) ∨ ∃ kvs, o = .dK kvs
theorem near_new {H : Hp} {a : Addr} {o : HO} {xs : List V} (n : H a = none) (N : Nears H xs) (ho : NearO o) : Nears (upd H a o) (.ref a :: xs) := by
  refine Nears.cons ?_ (N.same (same_new n))
  rcases ho with ⟨ys, rfl⟩ | ⟨ys, rfl⟩ | ⟨ys, rfl⟩
  · exact .inl ⟨ys, upd_same⟩
  · exact .inr (.inl ⟨ys, upd_same⟩)
  · exact .inr (.inr ⟨ys, upd_same⟩)
theorem NearV.dr {H H' : Hp} {p : Addr} {k : Nat} (d : Dr p k H H') : ∀ {v : V}, NearV H v → NearV H' v
  | .non, h => h
  | .bl _, h => h
  | .int _, h => h
  | .str _, h => h
  | .ref a, h => by
    by_cases e : a = p
    · rw [e]
      obtain ⟨x, y, c, h1, _⟩ := d.2
      exact .inl ⟨_, h1⟩
    · rcases h with ⟨xs, h⟩ | ⟨xs, h⟩ | ⟨xs, h⟩
      · exact .inl ⟨xs, d.1 _ _ e h⟩
      · exact .inr (.inl ⟨xs, d.1 _ _ e h⟩)
      · exact .inr (.inr ⟨xs, d.1 _ _ e h⟩)
theorem nsc {H : Hp} {z : Str} (h : z.length ≤ 900000) : NearV H (.str z) := h
theorem nnew {H : Hp} {a : Addr} {xs : List V} (o : HO) (ho : NearO o) (n : H a = none) (N : Nears H xs ∧ True) : Nears (upd H a o) (.ref a :: xs) ∧ Same H (upd H a o) := ⟨near_new n N.1 ho, same_new n⟩
theorem nearT (xs : List V) : NearO (.tup xs) := .inr (.inl ⟨xs, rfl⟩)
theorem nearL (xs : List V) : NearO (.lst xs) := .inl ⟨xs, rfl⟩
theorem nearD (xs : List (Key × V)) : NearO (.dK xs) := .inr (.inr ⟨xs, rfl⟩)
theorem near_put {H : Hp} {a : Addr} {xs : List V} {u o : HO} (n : H a = none) (N : Nears H xs) (ho : NearO o) : Nears (upd (upd H a u) a o) (.ref a :: xs) := by
  have e : upd (upd H a u) a o = upd H a o := by
    funext b
    by_cases hb : b = a
    · rw [hb, upd_same, upd_same]
    · rw [upd_ne hb, upd_ne hb, upd_ne hb]
  rw [e]
  exact near_new n N ho
theorem same_put {H : Hp} {a : Addr} {u o : HO} (n : H a = none) : Same H (upd (upd H a u) a o) := fun b x e => by
  rw [upd_ne (ne_of_none e n), upd_ne (ne_of_none e n)]
  exact e
section
variable {P : Program} {w : World} {K : PySem.W.Frag} {mg : Str → Option Value} {base : Heap}
def spOdd : Sp := fun vs H Q _ => ∃ (p : Addr) (k : Nat), vs = [.ref p] ∧ Pot (k + 1) H p ∧ ∀ (v : V) (H' : Hp), Dr p k H H' → NearV H' v → Q v H'
theorem ok_l_odd (T : Txt K mg) : FnOk P w K mg base CX0 3 T.f_l_odd T.fd_l_odd ["pot"] (spOdd) := by
  refine T.F_l_odd.ok sc_l_odd (fun vs H Q E h => ?_) (fun cdv A outer s H vs Q E hr h => ?_)
  · obtain ⟨p, k, rfl, _⟩ := h
    rfl
  · obtain ⟨p, k, rfl, hP, q⟩ := h
    refine ⟨_, (pss_cons (ps_set (i := 1) sc_l_odd.nd rfl (Or.inl rfl) (pe_lst (pa_cons pe_non (pa_cons pe_bl (pa_cons pe_bl (pa_cons pe_int (pa_cons pe_int (pa_cons (pe_un un_neg pe_int) (pa_cons pe_int (pa_cons (pe_op op_powW pe_int pe_int) (pa_cons pe_str (pa_cons pe_str (pa_cons pe_str (pa_cons pe_str (pa_cons pe_str (pa_cons pe_str (pa_cons (pe_tup pa_nil) (pa_cons (pe_lst pa_nil) (pa_cons pe_dnewK (pa_cons (pe_tup (pa_cons pe_int pa_nil)) pa_nil))))))))))))))))))))
  (pss_cons (ps_set (i := 1) sc_l_odd.nd rfl (Or.inl rfl) (pe_op op_cat (pv 1) (pe_lst (pa_cons (pe_tup (pa_cons pe_int (pa_cons pe_int pa_nil))) (pa_cons (pe_tup (pa_cons pe_int (pa_cons pe_int pa_nil))) (pa_cons (pe_tup (pa_cons pe_int (pa_cons pe_int pa_nil))) (pa_cons (pe_tup (pa_cons (pe_tup pa_nil) pa_nil)) (pa_cons (pe_lst (pa_cons pe_int pa_nil)) (pa_cons (pe_tup (pa_cons pe_non pa_nil)) (pa_cons (pe_disp (pps_cons pe_str pe_int pps_nil) (by rfl) (by rfl) (fun z => by cases z) (by decide)) (pa_cons (pe_tup (pa_cons pe_bl pa_nil)) (pa_cons (pe_tup (pa_cons pe_str pa_nil)) (pa_cons (pe_tup (pa_cons pe_str (pa_cons pe_str pa_nil))) (pa_cons pe_str (pa_cons pe_str pa_nil)))))))))))))))
  (pss_one (ps_ret (pe_call (ok_l_of T) (hr.mono (by decide)) (by rfl) T.g_l_of T.F_l_of.kp T.b_l_of .nil pass0 (pa_cons (pv 0) (pa_cons (pv 1) pa_nil))))))), ?_⟩
    refine ⟨_, rfl, _, _, rfl, rfl, pow_c (by decide), ?_⟩
    refine ⟨Nat.zero_le _, fun a1 n1 => ⟨Nat.zero_le _, fun a2 n2 => fun a3 n3 => ⟨Nat.le_trans (show 1 ≤ 1000 by decide) (by decide), fun a4 n4 => ⟨Nat.le_trans (show 18 ≤ 1000 by decide) (by decide), fun l1 hl1 => ?_⟩⟩⟩⟩
    have N1 := near_new (o := .tup []) n1 (Nears.nil H) (nearT _)
    have N2 := near_new (o := .lst []) n2 N1 (nearL _)
    have N3 := near_new (o := .dK []) n3 N2 (nearD _)
    have N4 := near_new (o := .tup [.int 0]) n4 N3 (nearT _)
    have s4 := (same_new (o := .tup []) n1).trans ((same_new (o := .lst []) n2).trans ((same_new (o := .dK []) n3).trans (same_new (o := .tup [.int 0]) n4)))
    obtain ⟨xs1, hxs1⟩ : ∃ xs : List V, xs = [.non, .bl true, .bl false, .int 0, .int 1, .int (-1), .int 7, .int (10 ^ (8 : Int).toNat), .str "", .str "a", .str "x", .str "script", .str "script\nx = one", .str "same", .ref a1, .ref a2, .ref a3, .ref a4] := ⟨_, rfl⟩
    have h1 : (upd (upd (upd (upd (upd H a1 (.tup [])) a2 (.lst [])) a3 (.dK [])) a4 (.tup [.int 0])) l1 (.lst xs1)) l1 = some (.lst xs1) := upd_same
    rw [← hxs1]
    have r4 : ∀ {x}, x ∈ [V.ref a4, .ref a3, .ref a2, .ref a1] → NearV _ x := fun {x} hx => N4 x hx
    have A1 : Nears (upd (upd (upd (upd H a1 (.tup [])) a2 (.lst [])) a3 (.dK [])) a4 (.tup [.int 0])) xs1 := by
      rw [hxs1]
      refine .cons trivial (.cons trivial (.cons trivial (.cons trivial (.cons trivial (.cons trivial (.cons trivial (.cons trivial (.cons (nsc (by decide +kernel)) (.cons (nsc (by decide +kernel)) (.cons (nsc (by decide +kernel)) (.cons (nsc (by decide +kernel)) (.cons (nsc (by decide +kernel)) (.cons (nsc (by decide +kernel)) ?_)))))))))))))
      exact .cons (r4 (by simp)) (.cons (r4 (by simp)) (.cons (r4 (by simp)) (.cons (r4 (by simp)) (.nil _))))
    have lx1 : xs1.length = 18 := by
      rw [hxs1]
      rfl
    have s5 := same_new (o := .lst xs1) hl1
    have A1 := A1.same s5
    have sA := s4.trans s5
    generalize upd (upd (upd (upd (upd H a1 (.tup [])) a2 (.lst [])) a3 (.dK [])) a4 (.tup [.int 0])) l1 (.lst xs1) = H1 at *
    refine ⟨.ref l1, rfl, ⟨Nat.le_trans (show 2 ≤ 1000 by decide) (by decide), fun b1 m1 => ⟨Nat.le_trans (show 2 ≤ 1000 by decide) (by decide), fun b2 m2 => ⟨Nat.le_trans (show 2 ≤ 1000 by decide) (by decide), fun b3 m3 => ⟨Nat.zero_le _, fun b4 m4 => ⟨Nat.le_trans (show 1 ≤ 1000 by decide) (by decide), fun b5 m5 => ⟨Nat.le_trans (show 1 ≤ 1000 by decide) (by decide), fun b6 m6 => ⟨Nat.le_trans (show 1 ≤ 1000 by decide) (by decide), fun b7 m7 => ?_⟩⟩⟩⟩⟩⟩⟩⟩
    have M1 := near_new (o := .tup [.int 0, .int 1]) m1 (Nears.nil H1) (nearT _)
    have M2 := near_new (o := .tup [.int 1, .int 0]) m2 M1 (nearT _)
    have M3 := near_new (o := .tup [.int 1, .int 1]) m3 M2 (nearT _)
    have M4 := near_new (o := .tup []) m4 M3 (nearT _)
    have M5 := near_new (o := .tup [.ref b4]) m5 M4 (nearT _)
    have M6 := near_new (o := .lst [.int 0]) m6 M5 (nearL _)
    have M7 := near_new (o := .tup [.non]) m7 M6 (nearT _)
    have t7 := (same_new (o := .tup [.int 0, .int 1]) m1).trans ((same_new (o := .tup [.int 1, .int 0]) m2).trans ((same_new (o := .tup [.int 1, .int 1]) m3).trans ((same_new (o := .tup []) m4).trans ((same_new (o := .tup [.ref b4]) m5).trans ((same_new (o := .lst [.int 0]) m6).trans (same_new (o := .tup [.non]) m7))))))
    refine fun b8 m8 => ⟨upd_same, [(.inr "a", .int 1)], rfl, by decide, ?_⟩
    have M8 := near_put (u := .dK []) (o := .dK (mergeK [] [(.inr "a", .int 1)])) m8 M7 (nearD _)
    have t8 := t7.trans (same_put (u := .dK []) (o := .dK (mergeK [] [(.inr "a", .int 1)])) m8)
    refine ⟨Nat.le_trans (show 1 ≤ 1000 by decide) (by decide), fun b9 m9 => ⟨Nat.le_trans (show 1 ≤ 1000 by decide) (by decide), fun b10 m10 => ⟨Nat.le_trans (show 2 ≤ 1000 by decide) (by decide), fun b11 m11 => ⟨Nat.le_trans (show 12 ≤ 1000 by decide) (by decide), fun l2 hl2 => ?_⟩⟩⟩⟩
    have M9 := near_new (o := .tup [.bl true]) m9 M8 (nearT _)
    have M10 := near_new (o := .tup [.str "a"]) m10 M9 (nearT _)
    have M11 := near_new (o := .tup [.str "a", .str "b"]) m11 M10 (nearT _)
    have t11 := t8.trans ((same_new (o := .tup [.bl true]) m9).trans ((same_new (o := .tup [.str "a"]) m10).trans (same_new (o := .tup [.str "a", .str "b"]) m11)))
    obtain ⟨xs2, hxs2⟩ : ∃ xs : List V, xs = [.ref b1, .ref b2, .ref b3, .ref b5, .ref b6, .ref b7, .ref b8, .ref b9, .ref b10, .ref b11, .str "parts", .str "rows"] := ⟨_, rfl⟩
    rw [← hxs2]
    have A2' := Nears.cons (M11 (.ref b1) (by simp)) (Nears.cons (M11 (.ref b2) (by simp)) (Nears.cons (M11 (.ref b3) (by simp)) (Nears.cons (M11 (.ref b5) (by simp)) (Nears.cons (M11 (.ref b6) (by simp)) (Nears.cons (M11 (.ref b7) (by simp)) (Nears.cons (M11 (.ref b8) (by simp)) (Nears.cons (M11 (.ref b9) (by simp)) (Nears.cons (M11 (.ref b10) (by simp)) (Nears.cons (M11 (.ref b11) (by simp)) (Nears.cons (nsc (z := "parts") (by decide +kernel)) (Nears.cons (nsc (z := "rows") (by decide +kernel)) (Nears.nil _))))))))))))
    rw [← hxs2] at A2'
    have lx2 : xs2.length = 12 := by
      rw [hxs2]
      rfl
    have s12 := same_new (o := .lst xs2) hl2
    refine ⟨l1, l2, xs1, xs2, rfl, rfl, s12 _ _ (t11 _ _ h1), upd_same, by rw [lx1, lx2]; exact Nat.le_trans (show 30 ≤ 1000 by decide) (by decide), fun l3 hl3 => ?_⟩
    have s13 := same_new (o := .lst (xs1 ++ xs2)) hl3
    have sF := ((sA.trans t11).trans s12).trans s13
    have B := (((A1.same t11).app A2').same s12).same s13
    refine ⟨.ref p, rfl, .ref l3, rfl, p, l3, xs1 ++ xs2, k, rfl, hP.same sF, SqL.of upd_same, (hP.same ((sA.trans t11).trans s12)).ne hl3, by rw [List.length_append, lx1, lx2]; decide, by rw [List.length_append, lx1, lx2]; decide, fun i x H' hx d => ?_⟩
    exact q x H' ⟨(Same.kp sF).trans d.1, d.2⟩ (NearV.dr d (B x (List.mem_of_getElem? hx)))
end
end OG
set_option Elab.async false
set_option linter.all false
set_option maxRecDepth 100000
set_option maxHeartbeats 8000000
namespace OG
open PySem PySem.Spec PyProof.Rows L2
section
variable {P : Program} {w : World} {K : PySem.W.Frag} {mg : Str → Option Value} {base : Heap}
def spPot (K : PySem.W.Frag) : Sp := fun vs H Q _ => ∃ (a : Addr) (ns : List Int), vs = [.ref a, .int 0] ∧ SqL K H a (ns.map V.int) ∧ ns.length ≤ 63 ∧ (∀ z ∈ ns, Builtin.Int.intBits z ≤ 1048576) ∧ ∀ (q : Addr) (H' : Hp), Same H H' → H q = none → Pot 900000 H' q → Q (.ref q) H'
theorem ok_l_pot (T : Txt K mg) : FnOk P w K mg base CX0 1 T.f_l_pot T.fd_l_pot ["script", "place"] (spPot K) := by
  refine T.F_l_pot.ok sc_l_pot (fun vs H Q E h => ?_) (fun cdv A outer s H vs Q E hr h => ?_)
  · obtain ⟨a, ns, rfl, _⟩ := h
    rfl
  · obtain ⟨a, ns, rfl, hS, hl, hb, q⟩ := h
    refine ⟨_, (pss_cons (ps_set (i := 2) sc_l_pot.nd rfl (Or.inl rfl) (pe_ifExp (pt_cmpR op_lt (pv 1) (pe_callB call_len_seq (by rfl) T.n_len PySem.boot_len (pa_cons (pv 0) pa_nil)) (nomark _)) (pe_ix ix_list (pv 0) (pv 1) (fun _ _ => rfl)) (pe_op op_add (pe_op op_add (pe_op op_mod (pe_callB (cr_sum rfl) (by rfl) T.n_sum (by decide +kernel) (pa_cons (pe_slice sl_list (pv 0) po_none (po_some pe_int)) pa_nil)) pe_int) (pe_op op_mulW pe_int (pv 1))) pe_int)))
  (pss_cons (ps_set (i := 3) sc_l_pot.nd rfl (Or.inl rfl) (pe_op op_mulW (pe_op op_mod (pe_callTy call_int1 (by rfl) T.n_int (by decide +kernel) (pa_cons (pe_callB call_abs (by rfl) T.n_abs (by decide +kernel) (pa_cons (pv 2) pa_nil)) pa_nil)) (pe_op op_powW (pe_op op_powW pe_int pe_int) pe_int)) (pe_callTy call_int1 (by rfl) T.n_int (by decide +kernel) (pa_cons (pe_cmpR op_ge (pe_callB call_abs (by rfl) T.n_abs (by decide +kernel) (pa_cons (pv 2) pa_nil)) (pe_op op_powW pe_int pe_int) (nomark _)) pa_nil))))
  (pss_cons (ps_set (i := 4) sc_l_pot.nd rfl (Or.inl rfl) (pe_op op_mod (pe_callTy call_int1 (by rfl) T.n_int (by decide +kernel) (pa_cons (pv 2) pa_nil)) pe_int))
  (pss_one (ps_ret (pe_lst (pa_cons (pv 3) (pa_cons (pe_op op_mod (pe_callTy call_int1 (by rfl) T.n_int (by decide +kernel) (pa_cons (pe_op op_add (pe_op op_add (pe_op op_mulW (pv 4) pe_int) (pe_op op_mulW (pe_op op_mulW pe_int (pv 1)) (pv 1))) pe_int) pa_nil)) pe_int) (pa_cons pe_int pa_nil))))))))), ?_⟩
    refine seq_fin (fun σ' H' => ∃ c : Int, σ' = [some (.ref a), some (.int 0), some (.int c), none, none] ∧ Same H H') ?_ (fun fin => ?_)
    · rintro σ' H' ⟨c, rfl, s1⟩
      refine ⟨.int c, rfl, c, rfl, .inl ⟨_, rfl, ?_⟩⟩
      refine ⟨_, _, rfl, rfl, pow_c (by decide), _, _, rfl, rfl, pow_c (by decide +kernel), _, _, rfl, rfl, (show (0 : Int) < ((10 : Int) ^ (60 : Int).toNat) ^ (5 : Int).toNat by decide +kernel), ?_⟩
      refine ⟨.int c, rfl, c, rfl, _, _, rfl, rfl, pow_c (by decide), _, _, rfl, rfl, .inr ⟨_, rfl, ?_⟩⟩
      obtain ⟨ac, hac⟩ : ∃ ac : Int, ac = (if c < 0 then -c else c) := ⟨_, rfl⟩
      rw [← hac]
      have m0 : 0 ≤ ac % ((10 : Int) ^ (60 : Int).toNat) ^ (5 : Int).toNat := Int.emod_nonneg _ (by decide +kernel)
      have m1 : ac % ((10 : Int) ^ (60 : Int).toNat) ^ (5 : Int).toNat < 2 ^ 1000 := Int.lt_trans (Int.emod_lt_of_pos _ (by decide +kernel)) (by decide +kernel)
      obtain ⟨bo, hbo⟩ : ∃ bo : Int, bo = (if decide ((10 : Int) ^ (18 : Int).toNat ≤ ac) = true then 1 else 0) := ⟨_, rfl⟩
      rw [← hbo]
      have b01 : bo = 0 ∨ bo = 1 := by
        rw [hbo]
        split
        · exact .inr rfl
        · exact .inl rfl
      have e1000 : (2 : Int) ^ 1000 = ((2 ^ 1000 : Nat) : Int) := by decide +kernel
      have key : ∀ mo : Int, 0 ≤ mo → mo < 2 ^ 1000 → mo.natAbs < 2 ^ 1000 ∧ 0 ≤ mo * bo ∧ mo * bo < 2 ^ 1000 := by
        intro mo m0 m1
        refine ⟨by omega, ?_, ?_⟩
        · rcases b01 with e | e
          · rw [e, Int.mul_zero]
            exact Int.le_refl _
          · rw [e, Int.mul_one]
            exact m0
        · rcases b01 with e | e
          · rw [e, Int.mul_zero]
            decide +kernel
          · rw [e, Int.mul_one]
            exact m1
      obtain ⟨k1, o0, o1⟩ := key _ m0 m1
      have bn : bo.natAbs < 2 ^ 2 := by omega
      refine ⟨_, _, rfl, rfl, wide_mul (a := 1000) (b := 2) k1 bn (by decide) (by decide) (by decide), ?_⟩
      refine ⟨.int c, rfl, .inl ⟨c, rfl, _, _, rfl, rfl, (show (0 : Int) < 2305843009213693951 by decide), ?_⟩⟩
      have p0 : 0 ≤ c % 2305843009213693951 := Int.emod_nonneg _ (by decide)
      have p1 : c % 2305843009213693951 < 2305843009213693951 := Int.emod_lt_of_pos _ (by decide)
      have e61 : (2 : Nat) ^ 61 = 2305843009213693952 := by decide
      have p2 : (c % 2305843009213693951).natAbs < 2 ^ 61 := by omega
      refine ⟨_, rfl, _, rfl, _, _, rfl, rfl, wide_mul (a := 61) (b := 20) p2 (by decide) (by decide) (by decide) (by decide), ?_⟩
      refine ⟨_, rfl, _, _, rfl, rfl, wide_mul (a := 20) (b := 2) (by decide) (by decide) (by decide) (by decide) (by decide), _, rfl, _, _, rfl, rfl, wide_mul (a := 20) (b := 2) (by decide) (by decide) (by decide) (by decide) (by decide), ?_⟩
      refine ⟨_, _, rfl, rfl, _, _, rfl, rfl, .inl ⟨_, rfl, _, _, rfl, rfl, (show (0 : Int) < 2305843009213693921 by decide), ?_⟩⟩
      refine ⟨Nat.le_trans (show 3 ≤ 1000 by decide) (by decide), fun qa hqa => ?_⟩
      refine q qa _ (s1.trans (same_new hqa)) (s1.free hqa) ⟨_, (c % 2305843009213693951 * 70730 + 7254 * 0 * 0 + 368) % 2305843009213693921, 0, upd_same, o0, o1, Int.emod_nonneg _ (by decide), ?_, by decide, by decide⟩
      exact Int.lt_trans (Int.emod_lt_of_pos _ (by decide)) (by decide)
    · refine ⟨.int 0, rfl, .ref a, rfl, a, _, rfl, .inl hS, _, _, rfl, rfl, _, rfl, ?_⟩
      rw [List.length_map]
      refine ite2 (fun h => ?_) (fun h => ?_)
      · have h : 0 < ns.length := by
          have := of_decide_eq_true h
          omega
        refine ⟨.ref a, rfl, .int 0, rfl, a, _, ((0 : Nat) : Int), .int ns[0], rfl, rfl, hS, atI_nat (by rw [List.getElem?_map, List.getElem?_eq_getElem h]; rfl), ?_⟩
        exact fin _ _ ⟨_, rfl, Same.refl _⟩
      · refine ⟨.ref a, rfl, _, rfl, a, _, rfl, hS, fun l1 hl1 => ?_⟩
        have s1 := same_new (o := .lst (cutV (ns.map V.int) none (some 1))) hl1
        have e0 : cutV (ns.map V.int) none (some 1) = ([] : List Int).map V.int := by
          have : ns = [] := List.length_eq_zero_iff.mp (by
            by_cases z : ns.length = 0
            · exact z
            · exact absurd (decide_eq_true (show (0 : Int) < (ns.length : Int) by omega)) h)
          rw [this]
          rfl
        refine ⟨l1, [], rfl, SqL.of (by rw [upd_same, e0]), _, _, rfl, rfl, (show (0 : Int) < 1000003 by decide), ?_⟩
        refine ⟨.int 0, rfl, _, _, rfl, rfl, wide_mul (a := 20) (b := 2) (by decide) (by decide) (by decide) (by decide) (by decide), _, _, rfl, rfl, _, _, rfl, rfl, ?_⟩
        exact fin _ _ ⟨_, rfl, s1⟩
end
end OG
set_option Elab.async false
set_option linter.all false
set_option maxRecDepth 100000
set_option maxHeartbeats 8000000
namespace OG
open PySem PySem.Spec PyProof.Rows L2 LamX
theorem book_len {H : Hp} {o : Addr} {b : Int} {m : Nat} {ms ks : List Str} {ws : List Int} {Ms : List (List (List Int))} (hB : BookAt H o b m ms ws ks Ms) (ok : BkOk b m ms ws ks Ms) : (bookText b ms ws ks Ms).length ≤ 5100 := by
  have hm4 := ok.m4
  have hml := ok.nm.len
  have hwl := ok.wl
  have hk3 := ok.k3
  have hMl := ok.ml
  have hb0 := ok.b0
  have hb97 := ok.b97
  obtain ⟨kvs, tm, tw, tk, td, hO, hl10, v1, v2, hT2, v3, hT3, v4, hT4, v5, tkvs, hTd, tnd, tln, tabs⟩ := id hB
  have lb := istr_len (i := b) (by omega) (by omega)
  refine join_le (c := 254) (n := 20) (fun y hy => ?_) ?_ rfl
  · unfold bookLines at hy
    rcases List.mem_cons.mp hy with rfl | hy
    · rw [app_len]
      exact Nat.le_trans (Nat.add_le_add_left lb 5) (by decide)
    · rcases List.mem_append.mp hy with hy | hy
      · obtain ⟨i, hi⟩ := List.getElem?_of_mem hy
        rw [List.getElem?_zipWith] at hi
        cases e1 : ms[i]? with
        | none =>
          rw [e1] at hi
          cases hi
        | some z =>
          cases e2 : ws[i]? with
          | none =>
            rw [e1, e2] at hi
            cases hi
          | some wt =>
            rw [e1, e2] at hi
            have ey := Option.some.inj hi
            obtain ⟨_, w1, w2, _⟩ := ok.w wt (List.mem_of_getElem? e2)
            rw [← ey]
            exact Nat.le_trans (markL_len (ok.nm.is z (List.mem_of_getElem? e1)).2.1 w1 w2) (by decide)
      · obtain ⟨i, hi⟩ := List.getElem?_of_mem hy
        rw [List.getElem?_zipWith] at hi
        cases e1 : ks[i]? with
        | none =>
          rw [e1] at hi
          cases hi
        | some k =>
          cases e2 : Ms[i]? with
          | none =>
            rw [e1, e2] at hi
            cases hi
          | some M =>
            rw [e1, e2] at hi
            have ey := Option.some.inj hi
            obtain ⟨t, M', a1, a2, a3⟩ := tabs i k e1
            rw [e2] at a2
            have eM := Option.some.inj a2
            subst eM
            obtain ⟨rs, t1, t2, t3, t4, t5⟩ := a3
            rw [← ey]
            exact kindL_len (ok.nk.is k (List.mem_of_getElem? e1)).2.1 (fun row hr => ⟨by rw [(t5 row hr).1]; exact hm4, fun z hz => ⟨((t5 row hr).2 z hz).1, ((t5 row hr).2 z hz).2.1⟩⟩) (by omega)
  · unfold bookLines
    rw [List.length_cons, List.length_append, List.length_zipWith, List.length_zipWith]
    omega
/-- the tables stay where lists are written -/
theorem tabS_kp {H H' : Hp} {p Pt : Addr} {q : Str} (t : TabS H Pt q) (hp : ∃ xs, H p = some (.lst xs)) (k : Kp p H H') : TabS H' Pt q := by
  obtain ⟨ys, hp⟩ := hp
  have ne : ∀ {b o}, H b = some o → (∀ xs, o ≠ .lst xs) → b ≠ p := fun {b o} e n z => by
    rw [z, hp] at e
    exact n ys (Option.some.inj e).symm
  obtain ⟨ps, h1, h2, h3⟩ := t
  refine ⟨ps, k _ _ (ne h1 fun xs z => by cases z) h1, h2, fun pos cv hc => ?_⟩
  obtain ⟨c, e1, e2⟩ := h3 pos cv hc
  exact ⟨c, e1, k _ _ (ne e2 fun xs z => by
    unfold CodeO at z
    cases z) e2⟩
theorem Pot.lst {k : Nat} {H : Hp} {p : Addr} (h : Pot k H p) : ∃ xs, H p = some (.lst xs) := by
  obtain ⟨a, b, c, h1, _⟩ := h
  exact ⟨_, h1⟩
theorem Nears.dr {H H' : Hp} {p : Addr} {k : Nat} {xs : List V} (a : Nears H xs) (d : Dr p k H H') : Nears H' xs := fun x hx => NearV.dr d (a x hx)
theorem Nears.ext {H H' : Hp} {xs : List V} (a : Nears H xs) (e : ExtN H H') : Nears H' xs := fun x hx => NearV.ext e (a x hx)
theorem nearV_upd {H : Hp} {a : Addr} {ys : List V} : ∀ {v : V}, NearV H v → NearV (upd H a (.lst ys)) v
  | .non, h => h
  | .bl _, h => h
  | .int _, h => h
  | .str _, h => h
  | .ref b, h => by
    by_cases e : b = a
    · rw [e]
      exact .inl ⟨ys, upd_same⟩
    · rcases h with ⟨xs, h⟩ | ⟨xs, h⟩ | ⟨xs, h⟩
      · exact .inl ⟨xs, by rw [upd_ne e]; exact h⟩
      · exact .inr (.inl ⟨xs, by rw [upd_ne e]; exact h⟩)
      · exact .inr (.inr ⟨xs, by rw [upd_ne e]; exact h⟩)
theorem near_app {H : Hp} {a : Addr} {xs ys : List V} {z : Str} (A : Nears H xs) (hz : z.length ≤ 900000) : Nears (upd H a (.lst ys)) (xs ++ [.str z]) :=
  Nears.app (fun x hx => nearV_upd (A x hx)) (.cons (nsc hz) (.nil _))
theorem pot_upd {H : Hp} {p a : Addr} {k : Nat} {o : HO} (h : Pot k H p) (n : a ≠ p) : Pot k (upd H a o) p := by
  obtain ⟨x, y, c, e1, e2⟩ := h
  exact ⟨x, y, c, by rw [upd_ne (Ne.symm n)]; exact e1, e2⟩
section
variable {P : Program} {w : World} {K : PySem.W.Frag} {mg : Str → Option Value} {base : Heap}
def spRight (Pt : Addr) : Sp := fun vs H Q _ => ∃ p : Addr, vs = [.ref p] ∧ Pot 900000 H p ∧ TabS H Pt jq ∧ ∀ H', Q (.bl true) H'
theorem ok_l_right (T : Txt K mg) (XT : TxtX K mg T) {c Pt : Addr} (J : JAt K mg T c) (TB : TabB base mg c Pt) : FnOk P w K mg base CX0 11 T.f_l_right T.fd_l_right ["pot"] (spRight Pt) := by
  refine T.F_l_right.ok sc_l_right (fun vs H Q E h => ?_) (fun cdv A outer s H vs Q E hr h => ?_)
  · obtain ⟨p, rfl, _⟩ := h
    rfl
  · obtain ⟨p, rfl, hP, hT, q⟩ := h
    refine ⟨_, (pss_cons (ps_set (i := 1) sc_l_right.nd rfl (Or.inl rfl) (pe_call (ok_l_book_drawn T) (hr.mono (by decide)) (by rfl) T.g_l_book_drawn T.F_l_book_drawn.kp T.b_l_book_drawn .nil pass0 (pa_cons (pv 0) (pa_cons (pe_lst (pa_cons pe_int (pa_cons pe_int (pa_cons pe_int (pa_cons pe_int (pa_cons pe_int (pa_cons pe_int (pa_cons pe_int pa_nil)))))))) (pa_cons (pe_lst (pa_cons pe_int (pa_cons pe_int (pa_cons pe_int (pa_cons pe_int pa_nil))))) (pa_cons pe_int (pa_cons pe_bl pa_nil)))))))
  (pss_cons (ps_set (i := 2) sc_l_right.nd rfl (Or.inl rfl) (pe_call (ok_l_book_text T) (hr.mono (by decide)) (by rfl) T.g_l_book_text T.F_l_book_text.kp T.b_l_book_text .nil pass0 (pa_cons (pv 1) pa_nil)))
  (pss_cons (ps_set (i := 3) sc_l_right.nd rfl (Or.inl rfl) (pe_lst (pa_cons (pv 2) (pa_cons (pe_lst (pa_cons (pv 2) pa_nil)) (pa_cons (pe_split (pv 2) pe_str) (pa_cons (pe_call (ok_l_odd T) (hr.mono (by decide)) (by rfl) T.g_l_odd T.F_l_odd.kp T.b_l_odd .nil pass0 (pa_cons (pv 0) pa_nil)) (pa_cons (pe_op op_add_str (pv 2) pe_str) (pa_cons (pe_op op_add_str pe_str (pv 2)) (pa_cons (pe_upper (pv 2)) pa_nil)))))))))
  (pss_cons (ps_for PassesOwn.never rfl (pi_range1 (by rfl) T.n_range (pa_cons pe_int pa_nil)) (pg_name (i := 4) sc_l_right.nd rfl (Or.inl rfl)) (pss_cons (ps_set (i := 5) sc_l_right.nd rfl (Or.inl rfl) (pe_call (ok_l_books_bent T) (hr.mono (by decide)) (by rfl) T.g_l_books_bent T.F_l_books_bent.kp T.b_l_books_bent .nil pass0 (pa_cons (pv 0) (pa_cons (pv 2) pa_nil))))
  (pss_one (ps_expr (pe_bm PySem.F.plainAttrs_list PySem.F.slot_list_append PySem.F.type_list_append mt_append (pv 3) (pa_cons (pe_ifExp (pt_cmpR op_gt (pe_call (ok_l_take T) (hr.mono (by decide)) (by rfl) T.g_l_take T.F_l_take.kp T.b_l_take .nil pass0 (pa_cons (pv 0) (pa_cons pe_int pa_nil))) pe_int (nomark _)) (pv 5) (pe_call (ok_l_books_bent T) (hr.mono (by decide)) (by rfl) T.g_l_books_bent T.F_l_books_bent.kp T.b_l_books_bent .nil pass0 (pa_cons (pv 0) (pa_cons (pv 5) pa_nil)))) pa_nil))))))
  (pss_cons (ps_if (pt_not (pt_val (pe_callB (cr_all rfl) (by rfl) T.n_all (by decide +kernel) (pa_cons (pe_lc (own := [("value", 6)]) (g := gName 6) (by rfl) sc_l_right.nd (pi_list (pv 3)) (blkOk_by (own := [("value", 6)]) (by rfl)) (fun _ _ _ _ _ => (pg_name (i := 6) sc_l_right.nd rfl (Or.inl rfl))) (fun _ _ _ _ _ => pts_nil) (fun _ _ _ _ _ => (pe_call (ok_l_is_judged T XT J TB) (hr.mono (by decide)) (by rfl) T.g_l_is_judged T.F_l_is_judged.kp T.b_l_is_judged .nil pass0 (pa_cons (pv 6) pa_nil)))) pa_nil)))) (pss_one (ps_ret pe_bl)) pss_nil)
  (pss_one (ps_ret (pe_call (ok_l_is_judged T XT J TB) (hr.mono (by decide)) (by rfl) T.g_l_is_judged T.F_l_is_judged.kp T.b_l_is_judged .nil pass0 (pa_cons (pv 2) pa_nil))))))))), ?_⟩
    refine ⟨.ref p, rfl, Nat.le_trans (show 7 ≤ 1000 by decide) (by decide), fun lb hlb => ⟨Nat.le_trans (show 4 ≤ 1000 by decide) (by decide), fun lm hlm => ?_⟩⟩
    have s1 := same_new (o := .lst ([0, 0, 0, 2, 3, 7, 97].map V.int)) hlb
    have s2 := same_new (o := .lst ([1, 2, 3, 4].map V.int)) hlm
    have g1 := s2 _ _ (upd_same (H := H) (a := lb) (o := .lst ([0, 0, 0, 2, 3, 7, 97].map V.int)))
    have s12 := s1.trans s2
    refine ⟨p, lb, lm, [0, 0, 0, 2, 3, 7, 97], [1, 2, 3, 4], 3, 800000, false, rfl, (hP.mono (by decide)).same s12, SqL.of g1, hP.ne hlb, by decide, by decide, by decide, SqL.of upd_same, (hP.same s1).ne hlm, by decide, by decide, by decide, by decide, by decide, ?_⟩
    intro o b m ms ks ws Ms H1 hb hm d1 no nop hB ok
    have tb1 := tabS_kp (hT.ext s12) (hP.same s12).lst d1.1
    have z5100 := book_len hB ok
    refine ⟨.ref o, rfl, o, b, m, ms, ks, ws, Ms, rfl, hB, ok, fun H2 s3 => ?_⟩
    generalize bookText b ms ws ks Ms = z at *
    have tb2 := tb1.ext s3
    have hP2 := d1.2.same s3
    have wide : ∀ {n : Nat}, n ≤ 1000 → n ≤ sizeLine := fun h => Nat.le_trans h (by decide)
    refine ⟨.str z, rfl, .str z, rfl, wide (show 1 ≤ 1000 by decide), fun l1 hl1 => ?_⟩
    have N0 := near_new (o := .lst [.str z]) hl1 (Nears.nil H2) (nearL _)
    have s4 := same_new (o := .lst [.str z]) hl1
    have tb4 := tb2.ext s4
    have hP4 := hP2.same s4
    refine ⟨.str z, rfl, ⟨_, rfl⟩, z, _, rfl, rfl, rfl, le_line (by omega), fun l2 hl2 => ?_⟩
    have N1 := near_new (o := .lst ((Txt.split z "\n").map V.str)) hl2 N0 (nearL _)
    have s5 := same_new (o := .lst ((Txt.split z "\n").map V.str)) hl2
    have tb5 := tb4.ext s5
    have hP5 := hP4.same s5
    refine ⟨.ref p, rfl, p, 700000, rfl, hP5.mono (by decide), fun v H3 d3 nv => ?_⟩
    have N2 := Nears.cons nv (Nears.dr N1 d3)
    have tb6 := tabS_kp tb5 hP5.lst d3.1
    refine ⟨.str z, rfl, _, _, rfl, rfl, le_line (by rw [show ("\n" : Str).length = 1 from rfl]; omega), .str z, rfl, _, _, rfl, rfl, le_line (by rw [show (" " : Str).length = 1 from rfl]; omega), ?_⟩
    have up := len_upper z
    refine ⟨.str z, rfl, ⟨_, rfl⟩, z, rfl, rfl, by omega, wide (show 7 ≤ 1000 by decide), fun ln hln => ?_⟩
    obtain ⟨xs0, hxs0⟩ : ∃ xs : List V, xs = [.str z, .ref l1, .ref l2, v, .str (z ++ "\n"), .str (" " ++ z), .str (Txt.upper z)] := ⟨_, rfl⟩
    have A0 : Nears H3 xs0 := by
      rw [hxs0]
      refine .cons (nsc (by omega)) (.cons (N2 _ (by simp)) (.cons (N2 _ (by simp)) (.cons nv (.cons (nsc ?_) (.cons (nsc ?_) (.cons (nsc (by omega)) (.nil _)))))))
      · rw [app_len, show ("\n" : Str).length = 1 from rfl]
        omega
      · rw [app_len, show (" " : Str).length = 1 from rfl]
        omega
    have lx0 : xs0.length = 7 := by
      rw [hxs0]
      rfl
    rw [← hxs0]
    have s6 := same_new (o := .lst xs0) hln
    have A1 := A0.same s6
    have hln7 : (upd H3 ln (.lst xs0)) ln = some (.lst xs0) := upd_same
    have tb7 := tb6.ext s6
    have hP7 := d3.2.same s6
    have nlp : ln ≠ p := d3.2.ne hln
    generalize upd H3 ln (.lst xs0) = H7 at *
    refine ⟨9, rfl, by decide, by decide, ?_⟩
    rw [show ((9 : Int)).toNat = 9 from rfl]
    refine for_range (n := 9) (fun i σ H' => ∃ (v4 v5 : Option V) (xs : List V), σ = [some (.ref p), some (.ref o), some (.str z), some (.ref ln), v4, v5, none] ∧ xs.length = 7 + i ∧ Pot (1000 + 20 * (9 - i)) H' p ∧ H' ln = some (.lst xs) ∧ Nears H' xs ∧ TabS H' Pt jq)
      ⟨none, none, xs0, rfl, lx0, hP7.mono (by decide), hln7, A1, tb7⟩ ?_ ?_
    · rintro i σ H8 hi ⟨v4, v5, xs, rfl, lx, hP8, h1, A, tb⟩
      refine ⟨.ref p, rfl, .str z, rfl, p, z, 1000 + 20 * (9 - i) - 5, rfl, hP8.mono (by omega), by omega, fun z1 H9 d9 hz1 => ?_⟩
      have h2 := d9.st nlp h1
      have A2 := Nears.dr A d9
      have tb9 := tabS_kp tb hP8.lst d9.1
      refine ⟨.ref ln, rfl, .inl ⟨rfl, _, SqL.of h2⟩, ?_⟩
      refine ⟨.ref p, rfl, p, 3, 1000 + 20 * (9 - i) - 6, rfl, d9.2.mono (by omega), by decide, by decide, fun r H10 r0 r1 d10 => ?_⟩
      have h3 := d10.st nlp h2
      have A3 := Nears.dr A2 d10
      have tb10 := tabS_kp tb9 d9.2.lst d10.1
      refine ⟨_, _, rfl, rfl, _, rfl, ?_⟩
      refine ite2 (fun _ => ?_) (fun _ => ?_)
      · refine ⟨.str z1, rfl, ln, xs, _, rfl, rfl, h3, small1000 (by omega), ?_⟩
        exact ⟨_, _, xs ++ [.str z1], rfl, by rw [List.length_append, lx]; rfl, pot_upd (d10.2.mono (by omega)) nlp, upd_same, near_app A3 (by omega), tabS_kp tb10 ⟨xs, h3⟩ kp_self⟩
      · refine ⟨.ref p, rfl, .str z1, rfl, p, z1, 1000 + 20 * (9 - i) - 11, rfl, d10.2.mono (by omega), by omega, fun z2 H11 d11 hz2 => ?_⟩
        have h4 := d11.st nlp h3
        have A4 := Nears.dr A3 d11
        have tb11 := tabS_kp tb10 d10.2.lst d11.1
        refine ⟨ln, xs, _, rfl, rfl, h4, small1000 (by omega), ?_⟩
        exact ⟨_, _, xs ++ [.str z2], rfl, by rw [List.length_append, lx]; rfl, pot_upd (d11.2.mono (by omega)) nlp, upd_same, near_app A4 (by omega), tabS_kp tb11 ⟨xs, h4⟩ kp_self⟩
    · rintro σ H8 ⟨v4, v5, xs, rfl, lx, hP8, h1, A, tb⟩
      have lx : xs.length = 16 := lx
      refine ⟨.ref ln, rfl, ln, rfl, ⟨_, SqL.of h1⟩, fun D hD => ?_⟩
      have nlD : ln ≠ D := ne_of_none h1 hD
      have nl : ∀ {ys : List V} (ps : Array Value), HO.lst ys ≠ .tbl ps := fun ps z => by cases z
      refine lc_list (K := K) (a := ln) (xs := xs) (fun i H' => H' ln = some (.lst xs) ∧ Nears H' xs ∧ TabS H' Pt jq ∧ H' D = some (.lst ((List.replicate i true).map V.bl)))
        ⟨by rw [upd_ne nlD]; exact h1, A.same (same_new hD), tb.ext (same_new hD), upd_same⟩ (fun i H' _ ⟨g, _⟩ => SqL.of g) ?_ ?_
      · rintro i x H' hx ⟨g1, g2, g3, g4⟩
        have hi := (List.getElem?_eq_some_iff.mp hx).1
        refine ⟨rfl, ?_⟩
        dsimp only [tYes]
        rw [if_pos rfl]
        refine ⟨x, rfl, x, rfl, g2 x (List.mem_of_getElem? hx), g3, fun H'' e tb' => ?_⟩
        have k1 := e _ _ g1 nl
        have k4 := e _ _ g4 nl
        refine ⟨_, k4, by rw [List.length_map, List.length_replicate]; exact small1000 (by omega), by rw [upd_ne nlD]; exact k1, fun y hy => nearV_upd (NearV.ext e (g2 y hy)), tabS_kp tb' ⟨_, k4⟩ kp_self, ?_⟩
        rw [upd_same, List.replicate_succ', List.map_append]
        rfl
      · rintro H' ⟨g1, g2, g3, g4⟩
        refine ⟨D, _, rfl, SqL.of g4, _, rfl, ?_⟩
        rw [show (List.replicate xs.length true).all id = true from by rw [lx]; rfl]
        refine iteF ?_
        dsimp only [tNext]
        exact ⟨.str z, rfl, .str z, rfl, nsc (by omega), g3, fun H'' _ _ => q H''⟩
end
end OG
set_option Elab.async false
set_option linter.all false
set_option maxRecDepth 100000
set_option maxHeartbeats 8000000
namespace OG
open PySem PySem.Spec PyProof.Rows L2 LamX
section
variable {P : Program} {w : World} {K : PySem.W.Frag} {mg : Str → Option Value} {base : Heap}
def spLaw (K : PySem.W.Frag) (Pt : Addr) : Sp := fun vs H Q _ => ∃ (a : Addr) (ns : List Int), vs = [.ref a] ∧ SqL K H a (ns.map V.int) ∧ ns.length ≤ 63 ∧ (∀ z ∈ ns, Builtin.Int.intBits z ≤ 1048576) ∧ TabS H Pt jq ∧ ∀ H', Q (.bl true) H'
theorem ok_law (T : Txt K mg) (XT : TxtX K mg T) {c Pt : Addr} (J : JAt K mg T c) (TB : TabB base mg c Pt) : FnOk P w K mg base CX0 12 T.f_law T.fd_law ["script"] (spLaw K Pt) := by
  refine T.F_law.ok sc_law (fun vs H Q E h => ?_) (fun cdv A outer s H vs Q E hr h => ?_)
  · obtain ⟨a, ns, rfl, _⟩ := h
    rfl
  · obtain ⟨a, ns, rfl, hS, hl, hb, hT, q⟩ := h
    refine ⟨_, (pss_one (ps_ret (pe_call (ok_l_right T XT J TB) (hr.mono (by decide)) (by rfl) T.g_l_right T.F_l_right.kp T.b_l_right .nil pass0 (pa_cons (pe_call (ok_l_pot T) (hr.mono (by decide)) (by rfl) T.g_l_pot T.F_l_pot.kp T.b_l_pot .nil pass0 (pa_cons (pv 0) (pa_cons pe_int pa_nil))) pa_nil)))), ?_⟩
    exact ⟨.ref a, rfl, a, ns, rfl, hS, hl, hb, fun q1 H1 s1 _ hP => ⟨q1, rfl, hP, hT.ext s1, q⟩⟩
end
end OG
set_option Elab.async false
set_option linter.all false
set_option maxRecDepth 100000
set_option maxHeartbeats 0
namespace OG
open PySem PySem.Spec PyProof.Rows L2 LamX
/-- the end, with what stands loose -/
theorem walkX {l : PySem.W.OpenLaw} {n k : Nat} {q : Program} {loose : List Str} {XP : (Str → Option Value) → Heap → Prop} {YP : World → Heap → Prop} {d : DefRec} {K : Params → PySem.W.Frag} {CX : World → CXT} {x : Str}
    (h1 : l.most = some n) (h2 : n ≤ sizeLine) (h3 : d.params.defaults = []) (h4 : Room k callerA) (h5 : ∀ (w : World) (h : Heap), YP w h → (K w.params).In h)
    (h6 : ∀ (w : World) (mg : Str → Option Value) (fa : Addr) (h : Heap), YP w h → XP mg h → (K w.params).In h → h.Ns mainGlobals mg → mg d.name = some (.ref fa) → LawAtS l w (K w.params) (CX w) k n x mg fa h)
    (h7 : ∀ (w : World) (H : Hp) (s : Shared) (e : Value) (s' : Shared), CX w [] H s (fun _ _ _ => False) e s' → False) :
    PySem.W.WalkO q loose XP YP l.row.toRowW d [] (fun f vs => PySem.call f vs) := by
  refine Att.attach_callB h1 h3 fun w a0 a1 mg mb fa o pm cd doc a vs ns G Y b1 b2 b3 b4 b5 b6 b7 b8 b9 => ?_
  have X := h5 w _ Y
  obtain ⟨fd, cs, sp, c1, c2, c3, c4, c5, c6⟩ := h6 w mg fa _ Y G.X X G.T.g b4
  exact law_callTs X G.T.g G.T.b G.T.builtins G.T.nolimit b9 c1 c2 c3 G.T.bmain b5 b6 (Nat.le_trans b7 h2) h4 c6 c4 (fun H hH hS => c5 H a ns b7 b8 hH hS) fun H e s' => h7 w H a1 e s'
theorem all_mk {l : PySem.W.OpenLaw} {w : World} {K : PySem.W.Frag} {h : Heap} {mg : Str → Option Value} {fa Pt : Addr} (X : K.In h) (G : h.Ns mainGlobals mg) (hfa : mg "law" = some (.ref fa))
    (hG : ∃ v, mg "GREATEST" = some v ∧ PySem.W.ReadsLit h v (.int 1000000000000) []) (hPt : h.get? Pt = some { cls := .none, data := .fields #[] })
    {c_BadBook c_GateError c_Book aP Nn cJ f_is_integer f_is_by f_GateError_init f_integer_of f_is_letters f_is_of f_Book_init f_read_book f_read_by f_is_mark f_is_kind f_is_number f_l_pot f_l_take f_l_of f_l_some f_l_heard f_l_odd f_l_book_names f_l_book_weights f_l_book_table f_l_book_twinned f_l_book_of f_l_book_drawn f_l_book_text f_l_books_primes f_l_books_number f_l_books_is_name f_l_books_is_worth f_l_books_can_stand f_l_books_wrong f_l_books_word f_l_books_bent f_l_is_judged f_l_right f_law : Addr}
    {dP dd od_is_integer od_is_by od_GateError_init od_integer_of od_is_letters od_is_of od_Book_init od_read_book od_read_by od_is_mark od_is_kind od_is_number od_l_pot od_l_take od_l_of od_l_some od_l_heard od_l_odd od_l_book_names od_l_book_weights od_l_book_table od_l_book_twinned od_l_book_of od_l_book_drawn od_l_book_text od_l_books_primes od_l_books_number od_l_books_is_name od_l_books_is_worth od_l_books_can_stand od_l_books_wrong od_l_books_word od_l_books_bent od_l_is_judged od_l_right od_law an_is_integer an_is_by an_GateError_init an_integer_of an_is_letters an_is_of an_Book_init an_read_book an_read_by an_is_mark an_is_kind an_is_number an_l_pot an_l_take an_l_of an_l_some an_l_heard an_l_odd an_l_book_names an_l_book_weights an_l_book_table an_l_book_twinned an_l_book_of an_l_book_drawn an_l_book_text an_l_books_primes an_l_books_number an_l_books_is_name an_l_books_is_worth an_l_books_can_stand an_l_books_wrong an_l_books_word an_l_books_bent an_l_is_judged an_l_right an_law : Option Addr}
    {slP sl_is_integer sl_is_by sl_GateError_init sl_integer_of sl_is_letters sl_is_of sl_Book_init sl_read_book sl_read_by sl_is_mark sl_is_kind sl_is_number sl_l_pot sl_l_take sl_l_of sl_l_some sl_l_heard sl_l_odd sl_l_book_names sl_l_book_weights sl_l_book_table sl_l_book_twinned sl_l_book_of sl_l_book_drawn sl_l_book_text sl_l_books_primes sl_l_books_number sl_l_books_is_name sl_l_books_is_worth sl_l_books_can_stand sl_l_books_wrong sl_l_books_word sl_l_books_bent sl_l_is_judged sl_l_right sl_law : Array (Option Value)}
    {oc_is_integer kV_is_integer dc_is_integer pm_is_integer ct_is_integer oc_is_by kV_is_by dc_is_by pm_is_by ct_is_by oc_GateError_init kV_GateError_init dc_GateError_init pm_GateError_init ct_GateError_init oc_integer_of kV_integer_of dc_integer_of pm_integer_of ct_integer_of oc_is_letters kV_is_letters dc_is_letters pm_is_letters ct_is_letters oc_is_of kV_is_of dc_is_of pm_is_of ct_is_of oc_Book_init kV_Book_init dc_Book_init pm_Book_init ct_Book_init oc_read_book kV_read_book dc_read_book pm_read_book ct_read_book oc_read_by kV_read_by dc_read_by pm_read_by ct_read_by oc_is_mark kV_is_mark dc_is_mark pm_is_mark ct_is_mark oc_is_kind kV_is_kind dc_is_kind pm_is_kind ct_is_kind oc_is_number kV_is_number dc_is_number pm_is_number ct_is_number oc_l_pot kV_l_pot dc_l_pot pm_l_pot ct_l_pot oc_l_take kV_l_take dc_l_take pm_l_take ct_l_take oc_l_of kV_l_of dc_l_of pm_l_of ct_l_of oc_l_some kV_l_some dc_l_some pm_l_some ct_l_some oc_l_heard kV_l_heard dc_l_heard pm_l_heard ct_l_heard oc_l_odd kV_l_odd dc_l_odd pm_l_odd ct_l_odd oc_l_book_names kV_l_book_names dc_l_book_names pm_l_book_names ct_l_book_names oc_l_book_weights kV_l_book_weights dc_l_book_weights pm_l_book_weights ct_l_book_weights oc_l_book_table kV_l_book_table dc_l_book_table pm_l_book_table ct_l_book_table oc_l_book_twinned kV_l_book_twinned dc_l_book_twinned pm_l_book_twinned ct_l_book_twinned oc_l_book_of kV_l_book_of dc_l_book_of pm_l_book_of ct_l_book_of oc_l_book_drawn kV_l_book_drawn dc_l_book_drawn pm_l_book_drawn ct_l_book_drawn oc_l_book_text kV_l_book_text dc_l_book_text pm_l_book_text ct_l_book_text oc_l_books_primes kV_l_books_primes dc_l_books_primes pm_l_books_primes ct_l_books_primes oc_l_books_number kV_l_books_number dc_l_books_number pm_l_books_number ct_l_books_number oc_l_books_is_name kV_l_books_is_name dc_l_books_is_name pm_l_books_is_name ct_l_books_is_name oc_l_books_is_worth kV_l_books_is_worth dc_l_books_is_worth pm_l_books_is_worth ct_l_books_is_worth oc_l_books_can_stand kV_l_books_can_stand dc_l_books_can_stand pm_l_books_can_stand ct_l_books_can_stand oc_l_books_wrong kV_l_books_wrong dc_l_books_wrong pm_l_books_wrong ct_l_books_wrong oc_l_books_word kV_l_books_word dc_l_books_word pm_l_books_word ct_l_books_word oc_l_books_bent kV_l_books_bent dc_l_books_bent pm_l_books_bent ct_l_books_bent oc_l_is_judged kV_l_is_judged dc_l_is_judged pm_l_is_judged ct_l_is_judged oc_l_right kV_l_right dc_l_right pm_l_right ct_l_right oc_law kV_law dc_law pm_law ct_law cd_is_integer cd_is_by cd_GateError_init cd_integer_of cd_is_letters cd_is_of cd_Book_init cd_read_book cd_read_by cd_is_mark cd_is_kind cd_is_number cd_l_pot cd_l_take cd_l_of cd_l_some cd_l_heard cd_l_odd cd_l_book_names cd_l_book_weights cd_l_book_table cd_l_book_twinned cd_l_book_of cd_l_book_drawn cd_l_book_text cd_l_books_primes cd_l_books_number cd_l_books_is_name cd_l_books_is_worth cd_l_books_can_stand cd_l_books_wrong cd_l_books_word cd_l_books_bent cd_l_right cd_law : Value}
    {t_LETTERS t_FIGURES t_MOST_MARKS t_MOST_KINDS : Tok} {uP : Array Value} {nP : Nat} {nm qn : Str} {bs : List Value} {sn : List Str} {sub : List Value} {ab : Bool} {col : Option Bool} {x0 x1 x2 x3 x5 : Option Value}
    (a_BadBook : PySem.W.nsIn K mainGlobals "BadBook" = some (some (.ref c_BadBook)))
    (a_GateError : PySem.W.nsIn K mainGlobals "GateError" = some (some (.ref c_GateError)))
    (a_Book : PySem.W.nsIn K mainGlobals "Book" = some (some (.ref c_Book)))
    (a_is_integer : PySem.W.nsIn K mainGlobals "is_integer" = some (some (.ref f_is_integer)))
    (l_is_integer : K.lookup f_is_integer = some ⟨oc_is_integer, od_is_integer, .func (PySem.W.fnOf "is_integer" "is_integer" (defArgs s_is_integer) (defBody s_is_integer) (defScope s_is_integer) .none kV_is_integer dc_is_integer pm_is_integer an_is_integer cd_is_integer ct_is_integer), sl_is_integer⟩)
    (c_is_integer : PySem.W.codeIn K cd_is_integer "is_integer" = true)
    (k_is_integer : PySem.W.keepIn K (.ref f_is_integer) = true)
    (a_is_by : PySem.W.nsIn K mainGlobals "is_by" = some (some (.ref f_is_by)))
    (l_is_by : K.lookup f_is_by = some ⟨oc_is_by, od_is_by, .func (PySem.W.fnOf "is_by" "is_by" (defArgs s_is_by) (defBody s_is_by) (defScope s_is_by) .none kV_is_by dc_is_by pm_is_by an_is_by cd_is_by ct_is_by), sl_is_by⟩)
    (c_is_by : PySem.W.codeIn K cd_is_by "is_by" = true)
    (k_is_by : PySem.W.keepIn K (.ref f_is_by) = true)
    (a_GateError_init : PySem.W.findIn K (.ref c_GateError) "__init__" = some (some (.ref f_GateError_init)))
    (l_GateError_init : K.lookup f_GateError_init = some ⟨oc_GateError_init, od_GateError_init, .func (PySem.W.fnOf "__init__" "GateError.__init__" (defArgs s_GateError_init) (defBody s_GateError_init) (defScope s_GateError_init) .none kV_GateError_init dc_GateError_init pm_GateError_init an_GateError_init cd_GateError_init ct_GateError_init), sl_GateError_init⟩)
    (c_GateError_init : PySem.W.codeIn K cd_GateError_init "GateError.__init__" = true)
    (k_GateError_init : PySem.W.keepIn K (.ref f_GateError_init) = true)
    (a_integer_of : PySem.W.nsIn K mainGlobals "integer_of" = some (some (.ref f_integer_of)))
    (l_integer_of : K.lookup f_integer_of = some ⟨oc_integer_of, od_integer_of, .func (PySem.W.fnOf "integer_of" "integer_of" (defArgs s_integer_of) (defBody s_integer_of) (defScope s_integer_of) .none kV_integer_of dc_integer_of pm_integer_of an_integer_of cd_integer_of ct_integer_of), sl_integer_of⟩)
    (c_integer_of : PySem.W.codeIn K cd_integer_of "integer_of" = true)
    (k_integer_of : PySem.W.keepIn K (.ref f_integer_of) = true)
    (a_is_letters : PySem.W.nsIn K mainGlobals "is_letters" = some (some (.ref f_is_letters)))
    (l_is_letters : K.lookup f_is_letters = some ⟨oc_is_letters, od_is_letters, .func (PySem.W.fnOf "is_letters" "is_letters" (defArgs s_is_letters) (defBody s_is_letters) (defScope s_is_letters) .none kV_is_letters dc_is_letters pm_is_letters an_is_letters cd_is_letters ct_is_letters), sl_is_letters⟩)
    (c_is_letters : PySem.W.codeIn K cd_is_letters "is_letters" = true)
    (k_is_letters : PySem.W.keepIn K (.ref f_is_letters) = true)
    (a_is_of : PySem.W.nsIn K mainGlobals "_is_of" = some (some (.ref f_is_of)))
    (l_is_of : K.lookup f_is_of = some ⟨oc_is_of, od_is_of, .func (PySem.W.fnOf "_is_of" "_is_of" (defArgs s_is_of) (defBody s_is_of) (defScope s_is_of) .none kV_is_of dc_is_of pm_is_of an_is_of cd_is_of ct_is_of), sl_is_of⟩)
    (c_is_of : PySem.W.codeIn K cd_is_of "_is_of" = true)
    (k_is_of : PySem.W.keepIn K (.ref f_is_of) = true)
    (a_Book_init : PySem.W.findIn K (.ref c_Book) "__init__" = some (some (.ref f_Book_init)))
    (l_Book_init : K.lookup f_Book_init = some ⟨oc_Book_init, od_Book_init, .func (PySem.W.fnOf "__init__" "Book.__init__" (defArgs s_Book_init) (defBody s_Book_init) (defScope s_Book_init) .none kV_Book_init dc_Book_init pm_Book_init an_Book_init cd_Book_init ct_Book_init), sl_Book_init⟩)
    (c_Book_init : PySem.W.codeIn K cd_Book_init "Book.__init__" = true)
    (k_Book_init : PySem.W.keepIn K (.ref f_Book_init) = true)
    (a_read_book : PySem.W.nsIn K mainGlobals "_read_book" = some (some (.ref f_read_book)))
    (l_read_book : K.lookup f_read_book = some ⟨oc_read_book, od_read_book, .func (PySem.W.fnOf "_read_book" "_read_book" (defArgs s_read_book) (defBody s_read_book) (defScope s_read_book) .none kV_read_book dc_read_book pm_read_book an_read_book cd_read_book ct_read_book), sl_read_book⟩)
    (c_read_book : PySem.W.codeIn K cd_read_book "_read_book" = true)
    (k_read_book : PySem.W.keepIn K (.ref f_read_book) = true)
    (a_read_by : PySem.W.nsIn K mainGlobals "_read_by" = some (some (.ref f_read_by)))
    (l_read_by : K.lookup f_read_by = some ⟨oc_read_by, od_read_by, .func (PySem.W.fnOf "_read_by" "_read_by" (defArgs s_read_by) (defBody s_read_by) (defScope s_read_by) .none kV_read_by dc_read_by pm_read_by an_read_by cd_read_by ct_read_by), sl_read_by⟩)
    (c_read_by : PySem.W.codeIn K cd_read_by "_read_by" = true)
    (k_read_by : PySem.W.keepIn K (.ref f_read_by) = true)
    (a_is_mark : PySem.W.nsIn K mainGlobals "_is_mark" = some (some (.ref f_is_mark)))
    (l_is_mark : K.lookup f_is_mark = some ⟨oc_is_mark, od_is_mark, .func (PySem.W.fnOf "_is_mark" "_is_mark" (defArgs s_is_mark) (defBody s_is_mark) (defScope s_is_mark) .none kV_is_mark dc_is_mark pm_is_mark an_is_mark cd_is_mark ct_is_mark), sl_is_mark⟩)
    (c_is_mark : PySem.W.codeIn K cd_is_mark "_is_mark" = true)
    (k_is_mark : PySem.W.keepIn K (.ref f_is_mark) = true)
    (a_is_kind : PySem.W.nsIn K mainGlobals "_is_kind" = some (some (.ref f_is_kind)))
    (l_is_kind : K.lookup f_is_kind = some ⟨oc_is_kind, od_is_kind, .func (PySem.W.fnOf "_is_kind" "_is_kind" (defArgs s_is_kind) (defBody s_is_kind) (defScope s_is_kind) .none kV_is_kind dc_is_kind pm_is_kind an_is_kind cd_is_kind ct_is_kind), sl_is_kind⟩)
    (c_is_kind : PySem.W.codeIn K cd_is_kind "_is_kind" = true)
    (k_is_kind : PySem.W.keepIn K (.ref f_is_kind) = true)
    (a_is_number : PySem.W.nsIn K mainGlobals "_is_number" = some (some (.ref f_is_number)))
    (l_is_number : K.lookup f_is_number = some ⟨oc_is_number, od_is_number, .func (PySem.W.fnOf "_is_number" "_is_number" (defArgs s_is_number) (defBody s_is_number) (defScope s_is_number) .none kV_is_number dc_is_number pm_is_number an_is_number cd_is_number ct_is_number), sl_is_number⟩)
    (c_is_number : PySem.W.codeIn K cd_is_number "_is_number" = true)
    (k_is_number : PySem.W.keepIn K (.ref f_is_number) = true)
    (a_l_pot : PySem.W.nsIn K mainGlobals "_law_pot" = some (some (.ref f_l_pot)))
    (l_l_pot : K.lookup f_l_pot = some ⟨oc_l_pot, od_l_pot, .func (PySem.W.fnOf "_law_pot" "_law_pot" (defArgs s_l_pot) (defBody s_l_pot) (defScope s_l_pot) .none kV_l_pot dc_l_pot pm_l_pot an_l_pot cd_l_pot ct_l_pot), sl_l_pot⟩)
    (c_l_pot : PySem.W.codeIn K cd_l_pot "_law_pot" = true)
    (k_l_pot : PySem.W.keepIn K (.ref f_l_pot) = true)
    (a_l_take : PySem.W.nsIn K mainGlobals "_law_take" = some (some (.ref f_l_take)))
    (l_l_take : K.lookup f_l_take = some ⟨oc_l_take, od_l_take, .func (PySem.W.fnOf "_law_take" "_law_take" (defArgs s_l_take) (defBody s_l_take) (defScope s_l_take) .none kV_l_take dc_l_take pm_l_take an_l_take cd_l_take ct_l_take), sl_l_take⟩)
    (c_l_take : PySem.W.codeIn K cd_l_take "_law_take" = true)
    (k_l_take : PySem.W.keepIn K (.ref f_l_take) = true)
    (a_l_of : PySem.W.nsIn K mainGlobals "_law_of" = some (some (.ref f_l_of)))
    (l_l_of : K.lookup f_l_of = some ⟨oc_l_of, od_l_of, .func (PySem.W.fnOf "_law_of" "_law_of" (defArgs s_l_of) (defBody s_l_of) (defScope s_l_of) .none kV_l_of dc_l_of pm_l_of an_l_of cd_l_of ct_l_of), sl_l_of⟩)
    (c_l_of : PySem.W.codeIn K cd_l_of "_law_of" = true)
    (k_l_of : PySem.W.keepIn K (.ref f_l_of) = true)
    (a_l_some : PySem.W.nsIn K mainGlobals "_law_some" = some (some (.ref f_l_some)))
    (l_l_some : K.lookup f_l_some = some ⟨oc_l_some, od_l_some, .func (PySem.W.fnOf "_law_some" "_law_some" (defArgs s_l_some) (defBody s_l_some) (defScope s_l_some) .none kV_l_some dc_l_some pm_l_some an_l_some cd_l_some ct_l_some), sl_l_some⟩)
    (c_l_some : PySem.W.codeIn K cd_l_some "_law_some" = true)
    (k_l_some : PySem.W.keepIn K (.ref f_l_some) = true)
    (a_l_heard : PySem.W.nsIn K mainGlobals "_law_heard" = some (some (.ref f_l_heard)))
    (l_l_heard : K.lookup f_l_heard = some ⟨oc_l_heard, od_l_heard, .func (PySem.W.fnOf "_law_heard" "_law_heard" (defArgs s_l_heard) (defBody s_l_heard) (defScope s_l_heard) .none kV_l_heard dc_l_heard pm_l_heard an_l_heard cd_l_heard ct_l_heard), sl_l_heard⟩)
    (c_l_heard : PySem.W.codeIn K cd_l_heard "_law_heard" = true)
    (k_l_heard : PySem.W.keepIn K (.ref f_l_heard) = true)
    (a_l_odd : PySem.W.nsIn K mainGlobals "_law_odd" = some (some (.ref f_l_odd)))
    (l_l_odd : K.lookup f_l_odd = some ⟨oc_l_odd, od_l_odd, .func (PySem.W.fnOf "_law_odd" "_law_odd" (defArgs s_l_odd) (defBody s_l_odd) (defScope s_l_odd) .none kV_l_odd dc_l_odd pm_l_odd an_l_odd cd_l_odd ct_l_odd), sl_l_odd⟩)
    (c_l_odd : PySem.W.codeIn K cd_l_odd "_law_odd" = true)
    (k_l_odd : PySem.W.keepIn K (.ref f_l_odd) = true)
    (a_l_book_names : PySem.W.nsIn K mainGlobals "_law_book_names" = some (some (.ref f_l_book_names)))
    (l_l_book_names : K.lookup f_l_book_names = some ⟨oc_l_book_names, od_l_book_names, .func (PySem.W.fnOf "_law_book_names" "_law_book_names" (defArgs s_l_book_names) (defBody s_l_book_names) (defScope s_l_book_names) .none kV_l_book_names dc_l_book_names pm_l_book_names an_l_book_names cd_l_book_names ct_l_book_names), sl_l_book_names⟩)
    (c_l_book_names : PySem.W.codeIn K cd_l_book_names "_law_book_names" = true)
    (k_l_book_names : PySem.W.keepIn K (.ref f_l_book_names) = true)
    (a_l_book_weights : PySem.W.nsIn K mainGlobals "_law_book_weights" = some (some (.ref f_l_book_weights)))
    (l_l_book_weights : K.lookup f_l_book_weights = some ⟨oc_l_book_weights, od_l_book_weights, .func (PySem.W.fnOf "_law_book_weights" "_law_book_weights" (defArgs s_l_book_weights) (defBody s_l_book_weights) (defScope s_l_book_weights) .none kV_l_book_weights dc_l_book_weights pm_l_book_weights an_l_book_weights cd_l_book_weights ct_l_book_weights), sl_l_book_weights⟩)
    (c_l_book_weights : PySem.W.codeIn K cd_l_book_weights "_law_book_weights" = true)
    (k_l_book_weights : PySem.W.keepIn K (.ref f_l_book_weights) = true)
    (a_l_book_table : PySem.W.nsIn K mainGlobals "_law_book_table" = some (some (.ref f_l_book_table)))
    (l_l_book_table : K.lookup f_l_book_table = some ⟨oc_l_book_table, od_l_book_table, .func (PySem.W.fnOf "_law_book_table" "_law_book_table" (defArgs s_l_book_table) (defBody s_l_book_table) (defScope s_l_book_table) .none kV_l_book_table dc_l_book_table pm_l_book_table an_l_book_table cd_l_book_table ct_l_book_table), sl_l_book_table⟩)
    (c_l_book_table : PySem.W.codeIn K cd_l_book_table "_law_book_table" = true)
    (k_l_book_table : PySem.W.keepIn K (.ref f_l_book_table) = true)
    (a_l_book_twinned : PySem.W.nsIn K mainGlobals "_law_book_twinned" = some (some (.ref f_l_book_twinned)))
    (l_l_book_twinned : K.lookup f_l_book_twinned = some ⟨oc_l_book_twinned, od_l_book_twinned, .func (PySem.W.fnOf "_law_book_twinned" "_law_book_twinned" (defArgs s_l_book_twinned) (defBody s_l_book_twinned) (defScope s_l_book_twinned) .none kV_l_book_twinned dc_l_book_twinned pm_l_book_twinned an_l_book_twinned cd_l_book_twinned ct_l_book_twinned), sl_l_book_twinned⟩)
    (c_l_book_twinned : PySem.W.codeIn K cd_l_book_twinned "_law_book_twinned" = true)
    (k_l_book_twinned : PySem.W.keepIn K (.ref f_l_book_twinned) = true)
    (a_l_book_of : PySem.W.nsIn K mainGlobals "_law_book_of" = some (some (.ref f_l_book_of)))
    (l_l_book_of : K.lookup f_l_book_of = some ⟨oc_l_book_of, od_l_book_of, .func (PySem.W.fnOf "_law_book_of" "_law_book_of" (defArgs s_l_book_of) (defBody s_l_book_of) (defScope s_l_book_of) .none kV_l_book_of dc_l_book_of pm_l_book_of an_l_book_of cd_l_book_of ct_l_book_of), sl_l_book_of⟩)
    (c_l_book_of : PySem.W.codeIn K cd_l_book_of "_law_book_of" = true)
    (k_l_book_of : PySem.W.keepIn K (.ref f_l_book_of) = true)
    (a_l_book_drawn : PySem.W.nsIn K mainGlobals "_law_book_drawn" = some (some (.ref f_l_book_drawn)))
    (l_l_book_drawn : K.lookup f_l_book_drawn = some ⟨oc_l_book_drawn, od_l_book_drawn, .func (PySem.W.fnOf "_law_book_drawn" "_law_book_drawn" (defArgs s_l_book_drawn) (defBody s_l_book_drawn) (defScope s_l_book_drawn) .none kV_l_book_drawn dc_l_book_drawn pm_l_book_drawn an_l_book_drawn cd_l_book_drawn ct_l_book_drawn), sl_l_book_drawn⟩)
    (c_l_book_drawn : PySem.W.codeIn K cd_l_book_drawn "_law_book_drawn" = true)
    (k_l_book_drawn : PySem.W.keepIn K (.ref f_l_book_drawn) = true)
    (a_l_book_text : PySem.W.nsIn K mainGlobals "_law_book_text" = some (some (.ref f_l_book_text)))
    (l_l_book_text : K.lookup f_l_book_text = some ⟨oc_l_book_text, od_l_book_text, .func (PySem.W.fnOf "_law_book_text" "_law_book_text" (defArgs s_l_book_text) (defBody s_l_book_text) (defScope s_l_book_text) .none kV_l_book_text dc_l_book_text pm_l_book_text an_l_book_text cd_l_book_text ct_l_book_text), sl_l_book_text⟩)
    (c_l_book_text : PySem.W.codeIn K cd_l_book_text "_law_book_text" = true)
    (k_l_book_text : PySem.W.keepIn K (.ref f_l_book_text) = true)
    (a_l_books_primes : PySem.W.nsIn K mainGlobals "_law_books_primes" = some (some (.ref f_l_books_primes)))
    (l_l_books_primes : K.lookup f_l_books_primes = some ⟨oc_l_books_primes, od_l_books_primes, .func (PySem.W.fnOf "_law_books_primes" "_law_books_primes" (defArgs s_l_books_primes) (defBody s_l_books_primes) (defScope s_l_books_primes) .none kV_l_books_primes dc_l_books_primes pm_l_books_primes an_l_books_primes cd_l_books_primes ct_l_books_primes), sl_l_books_primes⟩)
    (c_l_books_primes : PySem.W.codeIn K cd_l_books_primes "_law_books_primes" = true)
    (k_l_books_primes : PySem.W.keepIn K (.ref f_l_books_primes) = true)
    (a_l_books_number : PySem.W.nsIn K mainGlobals "_law_books_number" = some (some (.ref f_l_books_number)))
    (l_l_books_number : K.lookup f_l_books_number = some ⟨oc_l_books_number, od_l_books_number, .func (PySem.W.fnOf "_law_books_number" "_law_books_number" (defArgs s_l_books_number) (defBody s_l_books_number) (defScope s_l_books_number) .none kV_l_books_number dc_l_books_number pm_l_books_number an_l_books_number cd_l_books_number ct_l_books_number), sl_l_books_number⟩)
    (c_l_books_number : PySem.W.codeIn K cd_l_books_number "_law_books_number" = true)
    (k_l_books_number : PySem.W.keepIn K (.ref f_l_books_number) = true)
    (a_l_books_is_name : PySem.W.nsIn K mainGlobals "_law_books_is_name" = some (some (.ref f_l_books_is_name)))
    (l_l_books_is_name : K.lookup f_l_books_is_name = some ⟨oc_l_books_is_name, od_l_books_is_name, .func (PySem.W.fnOf "_law_books_is_name" "_law_books_is_name" (defArgs s_l_books_is_name) (defBody s_l_books_is_name) (defScope s_l_books_is_name) .none kV_l_books_is_name dc_l_books_is_name pm_l_books_is_name an_l_books_is_name cd_l_books_is_name ct_l_books_is_name), sl_l_books_is_name⟩)
    (c_l_books_is_name : PySem.W.codeIn K cd_l_books_is_name "_law_books_is_name" = true)
    (k_l_books_is_name : PySem.W.keepIn K (.ref f_l_books_is_name) = true)
    (a_l_books_is_worth : PySem.W.nsIn K mainGlobals "_law_books_is_worth" = some (some (.ref f_l_books_is_worth)))
    (l_l_books_is_worth : K.lookup f_l_books_is_worth = some ⟨oc_l_books_is_worth, od_l_books_is_worth, .func (PySem.W.fnOf "_law_books_is_worth" "_law_books_is_worth" (defArgs s_l_books_is_worth) (defBody s_l_books_is_worth) (defScope s_l_books_is_worth) .none kV_l_books_is_worth dc_l_books_is_worth pm_l_books_is_worth an_l_books_is_worth cd_l_books_is_worth ct_l_books_is_worth), sl_l_books_is_worth⟩)
    (c_l_books_is_worth : PySem.W.codeIn K cd_l_books_is_worth "_law_books_is_worth" = true)
    (k_l_books_is_worth : PySem.W.keepIn K (.ref f_l_books_is_worth) = true)
    (a_l_books_can_stand : PySem.W.nsIn K mainGlobals "_law_books_can_stand" = some (some (.ref f_l_books_can_stand)))
    (l_l_books_can_stand : K.lookup f_l_books_can_stand = some ⟨oc_l_books_can_stand, od_l_books_can_stand, .func (PySem.W.fnOf "_law_books_can_stand" "_law_books_can_stand" (defArgs s_l_books_can_stand) (defBody s_l_books_can_stand) (defScope s_l_books_can_stand) .none kV_l_books_can_stand dc_l_books_can_stand pm_l_books_can_stand an_l_books_can_stand cd_l_books_can_stand ct_l_books_can_stand), sl_l_books_can_stand⟩)
    (c_l_books_can_stand : PySem.W.codeIn K cd_l_books_can_stand "_law_books_can_stand" = true)
    (k_l_books_can_stand : PySem.W.keepIn K (.ref f_l_books_can_stand) = true)
    (a_l_books_wrong : PySem.W.nsIn K mainGlobals "_law_books_wrong" = some (some (.ref f_l_books_wrong)))
    (l_l_books_wrong : K.lookup f_l_books_wrong = some ⟨oc_l_books_wrong, od_l_books_wrong, .func (PySem.W.fnOf "_law_books_wrong" "_law_books_wrong" (defArgs s_l_books_wrong) (defBody s_l_books_wrong) (defScope s_l_books_wrong) .none kV_l_books_wrong dc_l_books_wrong pm_l_books_wrong an_l_books_wrong cd_l_books_wrong ct_l_books_wrong), sl_l_books_wrong⟩)
    (c_l_books_wrong : PySem.W.codeIn K cd_l_books_wrong "_law_books_wrong" = true)
    (k_l_books_wrong : PySem.W.keepIn K (.ref f_l_books_wrong) = true)
    (a_l_books_word : PySem.W.nsIn K mainGlobals "_law_books_word" = some (some (.ref f_l_books_word)))
    (l_l_books_word : K.lookup f_l_books_word = some ⟨oc_l_books_word, od_l_books_word, .func (PySem.W.fnOf "_law_books_word" "_law_books_word" (defArgs s_l_books_word) (defBody s_l_books_word) (defScope s_l_books_word) .none kV_l_books_word dc_l_books_word pm_l_books_word an_l_books_word cd_l_books_word ct_l_books_word), sl_l_books_word⟩)
    (c_l_books_word : PySem.W.codeIn K cd_l_books_word "_law_books_word" = true)
    (k_l_books_word : PySem.W.keepIn K (.ref f_l_books_word) = true)
    (a_l_books_bent : PySem.W.nsIn K mainGlobals "_law_books_bent" = some (some (.ref f_l_books_bent)))
    (l_l_books_bent : K.lookup f_l_books_bent = some ⟨oc_l_books_bent, od_l_books_bent, .func (PySem.W.fnOf "_law_books_bent" "_law_books_bent" (defArgs s_l_books_bent) (defBody s_l_books_bent) (defScope s_l_books_bent) .none kV_l_books_bent dc_l_books_bent pm_l_books_bent an_l_books_bent cd_l_books_bent ct_l_books_bent), sl_l_books_bent⟩)
    (c_l_books_bent : PySem.W.codeIn K cd_l_books_bent "_law_books_bent" = true)
    (k_l_books_bent : PySem.W.keepIn K (.ref f_l_books_bent) = true)
    (a_l_is_judged : PySem.W.nsIn K mainGlobals "_law_is_judged" = some (some (.ref f_l_is_judged)))
    (l_l_is_judged : K.lookup f_l_is_judged = some ⟨oc_l_is_judged, od_l_is_judged, .func (PySem.W.fnOf "_law_is_judged" "_law_is_judged" (defArgs s_l_is_judged) (defBody s_l_is_judged) (defScope s_l_is_judged) .none kV_l_is_judged dc_l_is_judged pm_l_is_judged an_l_is_judged (.ref cJ) ct_l_is_judged), sl_l_is_judged⟩)
    (c_l_is_judged : PySem.W.codeIn K (.ref cJ) "_law_is_judged" = true)
    (k_l_is_judged : PySem.W.keepIn K (.ref f_l_is_judged) = true)
    (a_l_right : PySem.W.nsIn K mainGlobals "_law_right" = some (some (.ref f_l_right)))
    (l_l_right : K.lookup f_l_right = some ⟨oc_l_right, od_l_right, .func (PySem.W.fnOf "_law_right" "_law_right" (defArgs s_l_right) (defBody s_l_right) (defScope s_l_right) .none kV_l_right dc_l_right pm_l_right an_l_right cd_l_right ct_l_right), sl_l_right⟩)
    (c_l_right : PySem.W.codeIn K cd_l_right "_law_right" = true)
    (k_l_right : PySem.W.keepIn K (.ref f_l_right) = true)
    (a_law : PySem.W.nsIn K mainGlobals "law" = some (some (.ref f_law)))
    (l_law : K.lookup f_law = some ⟨oc_law, od_law, .func (PySem.W.fnOf "law" "law" (defArgs s_law) (defBody s_law) (defScope s_law) .none kV_law dc_law pm_law an_law cd_law ct_law), sl_law⟩)
    (c_law : PySem.W.codeIn K cd_law "law" = true)
    (k_law : PySem.W.keepIn K (.ref f_law) = true)
    (n_ValueError : PySem.W.nsIn K mainGlobals "ValueError" = some none)
    (n_abs : PySem.W.nsIn K mainGlobals "abs" = some none)
    (n_all : PySem.W.nsIn K mainGlobals "all" = some none)
    (n_bool : PySem.W.nsIn K mainGlobals "bool" = some none)
    (n_dict : PySem.W.nsIn K mainGlobals "dict" = some none)
    (n_enumerate : PySem.W.nsIn K mainGlobals "enumerate" = some none)
    (n_int : PySem.W.nsIn K mainGlobals "int" = some none)
    (n_isinstance : PySem.W.nsIn K mainGlobals "isinstance" = some none)
    (n_len : PySem.W.nsIn K mainGlobals "len" = some none)
    (n_list : PySem.W.nsIn K mainGlobals "list" = some none)
    (n_max : PySem.W.nsIn K mainGlobals "max" = some none)
    (n_min : PySem.W.nsIn K mainGlobals "min" = some none)
    (n_range : PySem.W.nsIn K mainGlobals "range" = some none)
    (n_repr : PySem.W.nsIn K mainGlobals "repr" = some none)
    (n_str : PySem.W.nsIn K mainGlobals "str" = some none)
    (n_sum : PySem.W.nsIn K mainGlobals "sum" = some none)
    (n_tuple : PySem.W.nsIn K mainGlobals "tuple" = some none)
    (n_zip : PySem.W.nsIn K mainGlobals "zip" = some none)
    (m_LETTERS : PySem.W.nsIn K mainGlobals "LETTERS" = some (some (.str "abcdefghijklmnopqrstuvwxyz" t_LETTERS)))
    (m_FIGURES : PySem.W.nsIn K mainGlobals "FIGURES" = some (some (.str "0123456789" t_FIGURES)))
    (m_MOST_MARKS : PySem.W.nsIn K mainGlobals "MOST_MARKS" = some (some (.int 4 t_MOST_MARKS)))
    (m_MOST_KINDS : PySem.W.nsIn K mainGlobals "MOST_KINDS" = some (some (.int 3 t_MOST_KINDS)))
    (m_PRIMES : PySem.W.nsIn K mainGlobals "PRIMES" = some (some (.ref aP)))
    (l_PRIMES : K.lookup aP = some ⟨.type "tuple", dP, .seq uP nP, slP⟩)
    (v_PRIMES : Vals ([2, 3, 5, 7, 11, 13, 17, 19, 23, 29, 31, 37, 41, 43, 47, 53, 59, 61, 67, 71, 73, 79, 83, 89, 97].map V.int) uP.toList)
    (z_PRIMES : uP.size ≤ 1000)
    (xL : K.lookup c_BadBook = some (excClassObj nm qn c_BadBook Nn bs [.ref c_GateError, .type "ValueError", .type "Exception", .type "BaseException", .type "object"] true sn sub ab col dd x0 x1 x2 x3 x5 "ValueError.__new__"))
    (e_sa : PySem.W.findIn K (.ref c_BadBook) "__setattr__" = some (some (.builtin "object.__setattr__")))
    (e_ex : PySem.W.subIn K (.ref c_BadBook) (.type "BaseException") = some true)
    (e_ty : PySem.W.typeIn K (.ref c_BadBook) = some (.type "type"))
    (e_kp : PySem.W.keepIn K (.ref c_BadBook) = true)
    (e_in : PySem.W.findIn K (.ref c_BadBook) "__init__" = some (some (.ref f_GateError_init)))
    (e_tI : PySem.W.typeIn K (.ref f_GateError_init) = some (.type "function"))
    (e_no : PySem.W.findIn K (.ref c_BadBook) "value" = some none)
    (e_ga : PySem.W.findIn K (.ref c_BadBook) "__getattribute__" = some (some (.builtin "BaseException.__getattribute__")))
    (e_gg : PySem.W.findIn K (.ref c_BadBook) "__getattr__" = some none)
    (e_hd : PySem.W.hasDictIn K c_BadBook = true)
    (e_ha : PySem.W.findIn K (.ref c_BadBook) "__class__" = some (some (.builtin "object.__class__")))
    (e_hn : PySem.W.specialIn K (.builtin "object.__class__") "__get__" = some (some (.builtin "getset_descriptor.__get__")))
    (e_ht : PySem.W.takesIn K (.builtin "object.__class__") = some true)
    (e_hm : PySem.W.mroIn K c_BadBook (.type "object") = some true)
    (g_ex : PySem.W.subIn K (.ref c_GateError) (.type "BaseException") = some true)
    (g_hd : PySem.W.hasDictIn K c_GateError = true)
    (g_ty : PySem.W.typeIn K (.ref c_GateError) = some (.type "type"))
    (g_sb : PySem.W.subIn K (.ref c_BadBook) (.ref c_GateError) = some true)
    (b_pg : PySem.W.plainGet K c_Book Str.empty = true)
    (b_hd : PySem.W.hasDictIn K c_Book = true)
    (b_po : PySem.W.plainOver K c_Book = true)
    (b_sa : PySem.W.findIn K (.ref c_Book) "__setattr__" = some (some (.builtin "object.__setattr__")))
    (b_mk : PySem.W.makesIn K c_Book = true)
    (b_fn : PySem.W.isFn K (.ref f_Book_init) = true)
    (b_kp : PySem.W.keepIn K (.ref c_Book) = true)
    (b_n1 : PySem.W.findIn K (.ref c_Book) "text" = some none)
    (b_n2 : PySem.W.findIn K (.ref c_Book) "by" = some none)
    (b_n3 : PySem.W.findIn K (.ref c_Book) "marks" = some none)
    (b_n4 : PySem.W.findIn K (.ref c_Book) "kinds" = some none)
    (b_n5 : PySem.W.findIn K (.ref c_Book) "_weight_by_mark" = some none)
    (b_n6 : PySem.W.findIn K (.ref c_Book) "_worths_by_kind" = some none)
    (b_ca : PySem.W.findIn K (.ref c_Book) "__class__" = some (some (.builtin "object.__class__")))
    (b_ob : PySem.W.mroIn K c_Book (.type "object") = some true)
    (j_hd : PySem.W.codeHdIn K cJ Pt = true)
    (j_no : K.lookup Pt = none)
    : LawAtS l w K CX0 12 63 "script" mg fa h := by
  have e := hfa.symm.trans (PySem.W.mg_of X G a_law)
  cases e
  have F_is_integer := fun_mk (st := s_is_integer) l_is_integer c_is_integer k_is_integer
  have b_is_integer := F_is_integer.binds (ps := ["value"]) fun _ _ _ _ _ _ us hl => match us, hl with | [_], _ => rfl
  have F_is_by := fun_mk (st := s_is_by) l_is_by c_is_by k_is_by
  have b_is_by := F_is_by.binds (ps := ["value"]) fun _ _ _ _ _ _ us hl => match us, hl with | [_], _ => rfl
  have F_GateError_init := fun_mk (st := s_GateError_init) l_GateError_init c_GateError_init k_GateError_init
  have b_GateError_init := F_GateError_init.binds (ps := ["self", "value"]) fun _ _ _ _ _ _ us hl => match us, hl with | [_, _], _ => rfl
  have F_integer_of := fun_mk (st := s_integer_of) l_integer_of c_integer_of k_integer_of
  have b_integer_of := F_integer_of.binds (ps := ["word", "most"]) fun _ _ _ _ _ _ us hl => match us, hl with | [_, _], _ => rfl
  have F_is_letters := fun_mk (st := s_is_letters) l_is_letters c_is_letters k_is_letters
  have b_is_letters := F_is_letters.binds (ps := ["word", "most"]) fun _ _ _ _ _ _ us hl => match us, hl with | [_, _], _ => rfl
  have F_is_of := fun_mk (st := s_is_of) l_is_of c_is_of k_is_of
  have b_is_of := F_is_of.binds (ps := ["word", "signs"]) fun _ _ _ _ _ _ us hl => match us, hl with | [_, _], _ => rfl
  have F_Book_init := fun_mk (st := s_Book_init) l_Book_init c_Book_init k_Book_init
  have b_Book_init := F_Book_init.binds (ps := ["self", "text"]) fun _ _ _ _ _ _ us hl => match us, hl with | [_, _], _ => rfl
  have F_read_book := fun_mk (st := s_read_book) l_read_book c_read_book k_read_book
  have b_read_book := F_read_book.binds (ps := ["text"]) fun _ _ _ _ _ _ us hl => match us, hl with | [_], _ => rfl
  have F_read_by := fun_mk (st := s_read_by) l_read_by c_read_by k_read_by
  have b_read_by := F_read_by.binds (ps := ["words"]) fun _ _ _ _ _ _ us hl => match us, hl with | [_], _ => rfl
  have F_is_mark := fun_mk (st := s_is_mark) l_is_mark c_is_mark k_is_mark
  have b_is_mark := F_is_mark.binds (ps := ["words", "by", "weights"]) fun _ _ _ _ _ _ us hl => match us, hl with | [_, _, _], _ => rfl
  have F_is_kind := fun_mk (st := s_is_kind) l_is_kind c_is_kind k_is_kind
  have b_is_kind := F_is_kind.binds (ps := ["words", "by", "worths", "marks"]) fun _ _ _ _ _ _ us hl => match us, hl with | [_, _, _, _], _ => rfl
  have F_is_number := fun_mk (st := s_is_number) l_is_number c_is_number k_is_number
  have b_is_number := F_is_number.binds (ps := ["word", "by"]) fun _ _ _ _ _ _ us hl => match us, hl with | [_, _], _ => rfl
  have F_l_pot := fun_mk (st := s_l_pot) l_l_pot c_l_pot k_l_pot
  have b_l_pot := F_l_pot.binds (ps := ["script", "place"]) fun _ _ _ _ _ _ us hl => match us, hl with | [_, _], _ => rfl
  have F_l_take := fun_mk (st := s_l_take) l_l_take c_l_take k_l_take
  have b_l_take := F_l_take.binds (ps := ["pot", "upto"]) fun _ _ _ _ _ _ us hl => match us, hl with | [_, _], _ => rfl
  have F_l_of := fun_mk (st := s_l_of) l_l_of c_l_of k_l_of
  have b_l_of := F_l_of.binds (ps := ["pot", "some"]) fun _ _ _ _ _ _ us hl => match us, hl with | [_, _], _ => rfl
  have F_l_some := fun_mk (st := s_l_some) l_l_some c_l_some k_l_some
  have b_l_some := F_l_some.binds (ps := ["pot", "pool", "many"]) fun _ _ _ _ _ _ us hl => match us, hl with | [_, _, _], _ => rfl
  have F_l_heard := fun_mk (st := s_l_heard) l_l_heard c_l_heard k_l_heard
  have b_l_heard := F_l_heard.binds (ps := ["call"]) fun _ _ _ _ _ _ us hl => match us, hl with | [_], _ => rfl
  have F_l_odd := fun_mk (st := s_l_odd) l_l_odd c_l_odd k_l_odd
  have b_l_odd := F_l_odd.binds (ps := ["pot"]) fun _ _ _ _ _ _ us hl => match us, hl with | [_], _ => rfl
  have F_l_book_names := fun_mk (st := s_l_book_names) l_l_book_names c_l_book_names k_l_book_names
  have b_l_book_names := F_l_book_names.binds (ps := ["pot", "many"]) fun _ _ _ _ _ _ us hl => match us, hl with | [_, _], _ => rfl
  have F_l_book_weights := fun_mk (st := s_l_book_weights) l_l_book_weights c_l_book_weights k_l_book_weights
  have b_l_book_weights := F_l_book_weights.binds (ps := ["pot", "by", "many", "is_above"]) fun _ _ _ _ _ _ us hl => match us, hl with | [_, _, _, _], _ => rfl
  have F_l_book_table := fun_mk (st := s_l_book_table) l_l_book_table c_l_book_table k_l_book_table
  have b_l_book_table := F_l_book_table.binds (ps := ["pot", "by", "many"]) fun _ _ _ _ _ _ us hl => match us, hl with | [_, _, _], _ => rfl
  have F_l_book_twinned := fun_mk (st := s_l_book_twinned) l_l_book_twinned c_l_book_twinned k_l_book_twinned
  have b_l_book_twinned := F_l_book_twinned.binds (ps := ["own", "one", "other"]) fun _ _ _ _ _ _ us hl => match us, hl with | [_, _, _], _ => rfl
  have F_l_book_of := fun_mk (st := s_l_book_of) l_l_book_of c_l_book_of k_l_book_of
  have b_l_book_of := F_l_book_of.binds (ps := ["pot", "by", "many", "kinds", "is_above"]) fun _ _ _ _ _ _ us hl => match us, hl with | [_, _, _, _, _], _ => rfl
  have F_l_book_drawn := fun_mk (st := s_l_book_drawn) l_l_book_drawn c_l_book_drawn k_l_book_drawn
  have b_l_book_drawn := F_l_book_drawn.binds (ps := ["pot", "bys", "manys", "kinds", "is_above"]) fun _ _ _ _ _ _ us hl => match us, hl with | [_, _, _, _, _], _ => rfl
  have F_l_book_text := fun_mk (st := s_l_book_text) l_l_book_text c_l_book_text k_l_book_text
  have b_l_book_text := F_l_book_text.binds (ps := ["own"]) fun _ _ _ _ _ _ us hl => match us, hl with | [_], _ => rfl
  have F_l_books_primes := fun_mk (st := s_l_books_primes) l_l_books_primes c_l_books_primes k_l_books_primes
  have b_l_books_primes := F_l_books_primes.binds (ps := []) fun _ _ _ _ _ _ us hl => match us, hl with | [], _ => rfl
  have F_l_books_number := fun_mk (st := s_l_books_number) l_l_books_number c_l_books_number k_l_books_number
  have b_l_books_number := F_l_books_number.binds (ps := ["word"]) fun _ _ _ _ _ _ us hl => match us, hl with | [_], _ => rfl
  have F_l_books_is_name := fun_mk (st := s_l_books_is_name) l_l_books_is_name c_l_books_is_name k_l_books_is_name
  have b_l_books_is_name := F_l_books_is_name.binds (ps := ["word"]) fun _ _ _ _ _ _ us hl => match us, hl with | [_], _ => rfl
  have F_l_books_is_worth := fun_mk (st := s_l_books_is_worth) l_l_books_is_worth c_l_books_is_worth k_l_books_is_worth
  have b_l_books_is_worth := F_l_books_is_worth.binds (ps := ["by", "number"]) fun _ _ _ _ _ _ us hl => match us, hl with | [_, _], _ => rfl
  have F_l_books_can_stand := fun_mk (st := s_l_books_can_stand) l_l_books_can_stand c_l_books_can_stand k_l_books_can_stand
  have b_l_books_can_stand := F_l_books_can_stand.binds (ps := ["by", "marks", "kinds", "words"]) fun _ _ _ _ _ _ us hl => match us, hl with | [_, _, _, _], _ => rfl
  have F_l_books_wrong := fun_mk (st := s_l_books_wrong) l_l_books_wrong c_l_books_wrong k_l_books_wrong
  have b_l_books_wrong := F_l_books_wrong.binds (ps := ["text"]) fun _ _ _ _ _ _ us hl => match us, hl with | [_], _ => rfl
  have F_l_books_word := fun_mk (st := s_l_books_word) l_l_books_word c_l_books_word k_l_books_word
  have b_l_books_word := F_l_books_word.binds (ps := ["pot", "words"]) fun _ _ _ _ _ _ us hl => match us, hl with | [_, _], _ => rfl
  have F_l_books_bent := fun_mk (st := s_l_books_bent) l_l_books_bent c_l_books_bent k_l_books_bent
  have b_l_books_bent := F_l_books_bent.binds (ps := ["pot", "text"]) fun _ _ _ _ _ _ us hl => match us, hl with | [_, _], _ => rfl
  have F_l_is_judged := fun_mk (st := s_l_is_judged) l_l_is_judged c_l_is_judged k_l_is_judged
  have b_l_is_judged := F_l_is_judged.binds (ps := ["text"]) fun _ _ _ _ _ _ us hl => match us, hl with | [_], _ => rfl
  have F_l_right := fun_mk (st := s_l_right) l_l_right c_l_right k_l_right
  have b_l_right := F_l_right.binds (ps := ["pot"]) fun _ _ _ _ _ _ us hl => match us, hl with | [_], _ => rfl
  have F_law := fun_mk (st := s_law) l_law c_law k_law
  have b_law := F_law.binds (ps := ["script"]) fun _ _ _ _ _ _ us hl => match us, hl with | [_], _ => rfl
  let T : Txt K mg := {
    f_is_integer := f_is_integer, fd_is_integer := _, F_is_integer := F_is_integer, b_is_integer := b_is_integer
    g_is_integer := PySem.W.mg_of X G a_is_integer
    f_is_by := f_is_by, fd_is_by := _, F_is_by := F_is_by, b_is_by := b_is_by
    g_is_by := PySem.W.mg_of X G a_is_by
    f_GateError_init := f_GateError_init, fd_GateError_init := _, F_GateError_init := F_GateError_init, b_GateError_init := b_GateError_init
    f_integer_of := f_integer_of, fd_integer_of := _, F_integer_of := F_integer_of, b_integer_of := b_integer_of
    g_integer_of := PySem.W.mg_of X G a_integer_of
    f_is_letters := f_is_letters, fd_is_letters := _, F_is_letters := F_is_letters, b_is_letters := b_is_letters
    g_is_letters := PySem.W.mg_of X G a_is_letters
    f_is_of := f_is_of, fd_is_of := _, F_is_of := F_is_of, b_is_of := b_is_of
    g_is_of := PySem.W.mg_of X G a_is_of
    f_Book_init := f_Book_init, fd_Book_init := _, F_Book_init := F_Book_init, b_Book_init := b_Book_init
    f_read_book := f_read_book, fd_read_book := _, F_read_book := F_read_book, b_read_book := b_read_book
    g_read_book := PySem.W.mg_of X G a_read_book
    f_read_by := f_read_by, fd_read_by := _, F_read_by := F_read_by, b_read_by := b_read_by
    g_read_by := PySem.W.mg_of X G a_read_by
    f_is_mark := f_is_mark, fd_is_mark := _, F_is_mark := F_is_mark, b_is_mark := b_is_mark
    g_is_mark := PySem.W.mg_of X G a_is_mark
    f_is_kind := f_is_kind, fd_is_kind := _, F_is_kind := F_is_kind, b_is_kind := b_is_kind
    g_is_kind := PySem.W.mg_of X G a_is_kind
    f_is_number := f_is_number, fd_is_number := _, F_is_number := F_is_number, b_is_number := b_is_number
    g_is_number := PySem.W.mg_of X G a_is_number
    f_l_pot := f_l_pot, fd_l_pot := _, F_l_pot := F_l_pot, b_l_pot := b_l_pot
    g_l_pot := PySem.W.mg_of X G a_l_pot
    f_l_take := f_l_take, fd_l_take := _, F_l_take := F_l_take, b_l_take := b_l_take
    g_l_take := PySem.W.mg_of X G a_l_take
    f_l_of := f_l_of, fd_l_of := _, F_l_of := F_l_of, b_l_of := b_l_of
    g_l_of := PySem.W.mg_of X G a_l_of
    f_l_some := f_l_some, fd_l_some := _, F_l_some := F_l_some, b_l_some := b_l_some
    g_l_some := PySem.W.mg_of X G a_l_some
    f_l_heard := f_l_heard, fd_l_heard := _, F_l_heard := F_l_heard, b_l_heard := b_l_heard
    g_l_heard := PySem.W.mg_of X G a_l_heard
    f_l_odd := f_l_odd, fd_l_odd := _, F_l_odd := F_l_odd, b_l_odd := b_l_odd
    g_l_odd := PySem.W.mg_of X G a_l_odd
    f_l_book_names := f_l_book_names, fd_l_book_names := _, F_l_book_names := F_l_book_names, b_l_book_names := b_l_book_names
    g_l_book_names := PySem.W.mg_of X G a_l_book_names
    f_l_book_weights := f_l_book_weights, fd_l_book_weights := _, F_l_book_weights := F_l_book_weights, b_l_book_weights := b_l_book_weights
    g_l_book_weights := PySem.W.mg_of X G a_l_book_weights
    f_l_book_table := f_l_book_table, fd_l_book_table := _, F_l_book_table := F_l_book_table, b_l_book_table := b_l_book_table
    g_l_book_table := PySem.W.mg_of X G a_l_book_table
    f_l_book_twinned := f_l_book_twinned, fd_l_book_twinned := _, F_l_book_twinned := F_l_book_twinned, b_l_book_twinned := b_l_book_twinned
    g_l_book_twinned := PySem.W.mg_of X G a_l_book_twinned
    f_l_book_of := f_l_book_of, fd_l_book_of := _, F_l_book_of := F_l_book_of, b_l_book_of := b_l_book_of
    g_l_book_of := PySem.W.mg_of X G a_l_book_of
    f_l_book_drawn := f_l_book_drawn, fd_l_book_drawn := _, F_l_book_drawn := F_l_book_drawn, b_l_book_drawn := b_l_book_drawn
    g_l_book_drawn := PySem.W.mg_of X G a_l_book_drawn
    f_l_book_text := f_l_book_text, fd_l_book_text := _, F_l_book_text := F_l_book_text, b_l_book_text := b_l_book_text
    g_l_book_text := PySem.W.mg_of X G a_l_book_text
    f_l_books_primes := f_l_books_primes, fd_l_books_primes := _, F_l_books_primes := F_l_books_primes, b_l_books_primes := b_l_books_primes
    g_l_books_primes := PySem.W.mg_of X G a_l_books_primes
    f_l_books_number := f_l_books_number, fd_l_books_number := _, F_l_books_number := F_l_books_number, b_l_books_number := b_l_books_number
    g_l_books_number := PySem.W.mg_of X G a_l_books_number
    f_l_books_is_name := f_l_books_is_name, fd_l_books_is_name := _, F_l_books_is_name := F_l_books_is_name, b_l_books_is_name := b_l_books_is_name
    g_l_books_is_name := PySem.W.mg_of X G a_l_books_is_name
    f_l_books_is_worth := f_l_books_is_worth, fd_l_books_is_worth := _, F_l_books_is_worth := F_l_books_is_worth, b_l_books_is_worth := b_l_books_is_worth
    g_l_books_is_worth := PySem.W.mg_of X G a_l_books_is_worth
    f_l_books_can_stand := f_l_books_can_stand, fd_l_books_can_stand := _, F_l_books_can_stand := F_l_books_can_stand, b_l_books_can_stand := b_l_books_can_stand
    g_l_books_can_stand := PySem.W.mg_of X G a_l_books_can_stand
    f_l_books_wrong := f_l_books_wrong, fd_l_books_wrong := _, F_l_books_wrong := F_l_books_wrong, b_l_books_wrong := b_l_books_wrong
    g_l_books_wrong := PySem.W.mg_of X G a_l_books_wrong
    f_l_books_word := f_l_books_word, fd_l_books_word := _, F_l_books_word := F_l_books_word, b_l_books_word := b_l_books_word
    g_l_books_word := PySem.W.mg_of X G a_l_books_word
    f_l_books_bent := f_l_books_bent, fd_l_books_bent := _, F_l_books_bent := F_l_books_bent, b_l_books_bent := b_l_books_bent
    g_l_books_bent := PySem.W.mg_of X G a_l_books_bent
    f_l_is_judged := f_l_is_judged, fd_l_is_judged := _, F_l_is_judged := F_l_is_judged, b_l_is_judged := b_l_is_judged
    g_l_is_judged := PySem.W.mg_of X G a_l_is_judged
    f_l_right := f_l_right, fd_l_right := _, F_l_right := F_l_right, b_l_right := b_l_right
    g_l_right := PySem.W.mg_of X G a_l_right
    f_law := fa, fd_law := _, F_law := F_law, b_law := b_law
    g_law := PySem.W.mg_of X G a_law
    n_ValueError := PySem.W.mg_none_of X G n_ValueError
    n_abs := PySem.W.mg_none_of X G n_abs
    n_all := PySem.W.mg_none_of X G n_all
    n_bool := PySem.W.mg_none_of X G n_bool
    n_dict := PySem.W.mg_none_of X G n_dict
    n_enumerate := PySem.W.mg_none_of X G n_enumerate
    n_int := PySem.W.mg_none_of X G n_int
    n_isinstance := PySem.W.mg_none_of X G n_isinstance
    n_len := PySem.W.mg_none_of X G n_len
    n_list := PySem.W.mg_none_of X G n_list
    n_max := PySem.W.mg_none_of X G n_max
    n_min := PySem.W.mg_none_of X G n_min
    n_range := PySem.W.mg_none_of X G n_range
    n_repr := PySem.W.mg_none_of X G n_repr
    n_str := PySem.W.mg_none_of X G n_str
    n_sum := PySem.W.mg_none_of X G n_sum
    n_tuple := PySem.W.mg_none_of X G n_tuple
    n_zip := PySem.W.mg_none_of X G n_zip
    m_LETTERS := ⟨_, PySem.W.mg_of X G m_LETTERS, ⟨_, rfl⟩⟩
    m_FIGURES := ⟨_, PySem.W.mg_of X G m_FIGURES, ⟨_, rfl⟩⟩
    m_MOST_MARKS := ⟨_, PySem.W.mg_of X G m_MOST_MARKS, ⟨_, rfl⟩⟩
    m_MOST_KINDS := ⟨_, PySem.W.mg_of X G m_MOST_KINDS, ⟨_, rfl⟩⟩
    m_GREATEST := by
      obtain ⟨v, e1, e2⟩ := hG
      cases e2
      exact ⟨_, e1, ⟨_, rfl⟩⟩
    a_PRIMES := aP, m_PRIMES := ⟨_, PySem.W.mg_of X G m_PRIMES, rfl⟩, sq_PRIMES := fun H => .inr ⟨_, uP, nP, l_PRIMES, rfl, rfl, Nat.le_trans z_PRIMES (by decide), v_PRIMES⟩
    c_BadBook := c_BadBook, g_BadBook := PySem.W.mg_of X G a_BadBook
    c_GateError := c_GateError, g_GateError := PySem.W.mg_of X G a_GateError
    c_Book := c_Book, g_Book := PySem.W.mg_of X G a_Book }
  have XT : TxtX K mg T := {
    exB := ⟨⟨nm, qn, Nn, bs, _, sn, sub, ab, col, dd, x0, x1, x2, x3, x5, xL, rfl⟩, e_sa, e_ex, e_ty, e_kp⟩
    inB := e_in
    tyI := e_tI
    noV := e_no
    xf := ⟨e_ga, e_gg, e_ex, e_hd⟩
    ec := ⟨e_ga, e_gg, e_ex, e_hd, e_ha, e_hn, e_ht, e_hm⟩
    te := PySem.W.exm_ref g_ex g_hd g_ty g_sb
    kt := if_pos (by simp)
    cl := ⟨b_pg, b_hd, b_po, b_sa⟩
    mkB := ⟨b_mk, a_Book_init, b_fn, b_kp⟩
    na1 := b_n1
    na2 := b_n2
    na3 := b_n3
    na4 := b_n4
    na5 := b_n5
    na6 := b_n6
    ca := b_ca
    ob := b_ob
    kb := if_pos (by simp) }
  have J : JAt K mg T cJ := ⟨⟨_, _, _, _, _, _, _, _, rfl, l_l_is_judged, c_l_is_judged⟩⟩
  refine ⟨T.fd_law, [(cJ, Pt)], spLaw K Pt, ?_, ?_, ?_, fun s u => .of_eq rfl, ?_, ?_⟩
  · intro p hp
    rw [List.mem_singleton.mp hp]
    exact hPt
  · intro p hp
    rw [List.mem_singleton.mp hp]
    exact j_no
  · intro p hp
    rw [List.mem_singleton.mp hp]
    exact PySem.W.codeHd_of_K X j_hd
  · intro H a ns hl hb hT hS
    exact ⟨a, ns, rfl, hS, hl, hb, .nil (hT _ List.mem_cons_self), fun _ => rfl⟩
  · intro base hK hN hTB
    exact ok_law (P := l.prog) (w := w) (c := cJ) (Pt := Pt) T XT J (hTB (cJ, Pt) List.mem_cons_self)
end OG
open PySem PySem.W PyProof.Rows in
set_option maxRecDepth 100000 in
set_option maxHeartbeats 0 in
theorem PySem.Challenge.cw_opengates_k01_texts_of_no_books_holds : PySem.Challenge.rw_opengates_k01_texts_of_no_books.Holds := by
  w_on; o_law; k_head; (case hw => w_witness2)
  k_fill
  refine OG.walkX (l := PySem.Challenge.rw_opengates_k01_texts_of_no_books) (n := 63) (k := 12) (x := "script") (CX := fun _ => L2.CX0) rfl (by decide) rfl ⟨rfl, by decide, by decide⟩ (fun w h Y => PySem.W.km_in_of Y) ?F (fun _ _ _ _ _ z => z)
  case F =>
    intro w mg fa h Y X KX G hmg
    refine' OG.all_mk KX G hmg (X.2.val _ List.mem_cons_self) (PySem.W.km_tabs_of Y _ List.mem_cons_self) ?p_a_BadBook ?p_a_GateError ?p_a_Book ?p_a_is_integer ?p_l_is_integer ?p_c_is_integer ?p_k_is_integer ?p_a_is_by ?p_l_is_by ?p_c_is_by ?p_k_is_by ?p_a_GateError_init ?p_l_GateError_init ?p_c_GateError_init ?p_k_GateError_init ?p_a_integer_of ?p_l_integer_of ?p_c_integer_of ?p_k_integer_of ?p_a_is_letters ?p_l_is_letters ?p_c_is_letters ?p_k_is_letters ?p_a_is_of ?p_l_is_of ?p_c_is_of ?p_k_is_of ?p_a_Book_init ?p_l_Book_init ?p_c_Book_init ?p_k_Book_init ?p_a_read_book ?p_l_read_book ?p_c_read_book ?p_k_read_book ?p_a_read_by ?p_l_read_by ?p_c_read_by ?p_k_read_by ?p_a_is_mark ?p_l_is_mark ?p_c_is_mark ?p_k_is_mark ?p_a_is_kind ?p_l_is_kind ?p_c_is_kind ?p_k_is_kind ?p_a_is_number ?p_l_is_number ?p_c_is_number ?p_k_is_number ?p_a_l_pot ?p_l_l_pot ?p_c_l_pot ?p_k_l_pot ?p_a_l_take ?p_l_l_take ?p_c_l_take ?p_k_l_take ?p_a_l_of ?p_l_l_of ?p_c_l_of ?p_k_l_of ?p_a_l_some ?p_l_l_some ?p_c_l_some ?p_k_l_some ?p_a_l_heard ?p_l_l_heard ?p_c_l_heard ?p_k_l_heard ?p_a_l_odd ?p_l_l_odd ?p_c_l_odd ?p_k_l_odd ?p_a_l_book_names ?p_l_l_book_names ?p_c_l_book_names ?p_k_l_book_names ?p_a_l_book_weights ?p_l_l_book_weights ?p_c_l_book_weights ?p_k_l_book_weights ?p_a_l_book_table ?p_l_l_book_table ?p_c_l_book_table ?p_k_l_book_table ?p_a_l_book_twinned ?p_l_l_book_twinned ?p_c_l_book_twinned ?p_k_l_book_twinned ?p_a_l_book_of ?p_l_l_book_of ?p_c_l_book_of ?p_k_l_book_of ?p_a_l_book_drawn ?p_l_l_book_drawn ?p_c_l_book_drawn ?p_k_l_book_drawn ?p_a_l_book_text ?p_l_l_book_text ?p_c_l_book_text ?p_k_l_book_text ?p_a_l_books_primes ?p_l_l_books_primes ?p_c_l_books_primes ?p_k_l_books_primes ?p_a_l_books_number ?p_l_l_books_number ?p_c_l_books_number ?p_k_l_books_number ?p_a_l_books_is_name ?p_l_l_books_is_name ?p_c_l_books_is_name ?p_k_l_books_is_name ?p_a_l_books_is_worth ?p_l_l_books_is_worth ?p_c_l_books_is_worth ?p_k_l_books_is_worth ?p_a_l_books_can_stand ?p_l_l_books_can_stand ?p_c_l_books_can_stand ?p_k_l_books_can_stand ?p_a_l_books_wrong ?p_l_l_books_wrong ?p_c_l_books_wrong ?p_k_l_books_wrong ?p_a_l_books_word ?p_l_l_books_word ?p_c_l_books_word ?p_k_l_books_word ?p_a_l_books_bent ?p_l_l_books_bent ?p_c_l_books_bent ?p_k_l_books_bent ?p_a_l_is_judged ?p_l_l_is_judged ?p_c_l_is_judged ?p_k_l_is_judged ?p_a_l_right ?p_l_l_right ?p_c_l_right ?p_k_l_right ?p_a_law ?p_l_law ?p_c_law ?p_k_law ?p_n_ValueError ?p_n_abs ?p_n_all ?p_n_bool ?p_n_dict ?p_n_enumerate ?p_n_int ?p_n_isinstance ?p_n_len ?p_n_list ?p_n_max ?p_n_min ?p_n_range ?p_n_repr ?p_n_str ?p_n_sum ?p_n_tuple ?p_n_zip ?p_m_LETTERS ?p_m_FIGURES ?p_m_MOST_MARKS ?p_m_MOST_KINDS ?p_m_PRIMES ?p_l_PRIMES ?p_v_PRIMES ?p_z_PRIMES ?p_xL ?p_e_sa ?p_e_ex ?p_e_ty ?p_e_kp ?p_e_in ?p_e_tI ?p_e_no ?p_e_ga ?p_e_gg ?p_e_hd ?p_e_ha ?p_e_hn ?p_e_ht ?p_e_hm ?p_g_ex ?p_g_hd ?p_g_ty ?p_g_sb ?p_b_pg ?p_b_hd ?p_b_po ?p_b_sa ?p_b_mk ?p_b_fn ?p_b_kp ?p_b_n1 ?p_b_n2 ?p_b_n3 ?p_b_n4 ?p_b_n5 ?p_b_n6 ?p_b_ca ?p_b_ob ?p_j_hd ?p_j_no
    (case p_a_BadBook => k_is)
    (case p_a_GateError => k_is)
    (case p_a_Book => k_is)
    (case p_a_is_integer => k_is)
    (case p_l_is_integer => k_is)
    (case p_c_is_integer => k_is)
    (case p_k_is_integer => k_is)
    (case p_a_is_by => k_is)
    (case p_l_is_by => k_is)
    (case p_c_is_by => k_is)
    (case p_k_is_by => k_is)
    (case p_a_GateError_init => k_is)
    (case p_l_GateError_init => k_is)
    (case p_c_GateError_init => k_is)
    (case p_k_GateError_init => k_is)
    (case p_a_integer_of => k_is)
    (case p_l_integer_of => k_is)
    (case p_c_integer_of => k_is)
    (case p_k_integer_of => k_is)
    (case p_a_is_letters => k_is)
    (case p_l_is_letters => k_is)
    (case p_c_is_letters => k_is)
    (case p_k_is_letters => k_is)
    (case p_a_is_of => k_is)
    (case p_l_is_of => k_is)
    (case p_c_is_of => k_is)
    (case p_k_is_of => k_is)
    (case p_a_Book_init => k_is)
    (case p_l_Book_init => k_is)
    (case p_c_Book_init => k_is)
    (case p_k_Book_init => k_is)
    (case p_a_read_book => k_is)
    (case p_l_read_book => k_is)
    (case p_c_read_book => k_is)
    (case p_k_read_book => k_is)
    (case p_a_read_by => k_is)
    (case p_l_read_by => k_is)
    (case p_c_read_by => k_is)
    (case p_k_read_by => k_is)
    (case p_a_is_mark => k_is)
    (case p_l_is_mark => k_is)
    (case p_c_is_mark => k_is)
    (case p_k_is_mark => k_is)
    (case p_a_is_kind => k_is)
    (case p_l_is_kind => k_is)
    (case p_c_is_kind => k_is)
    (case p_k_is_kind => k_is)
    (case p_a_is_number => k_is)
    (case p_l_is_number => k_is)
    (case p_c_is_number => k_is)
    (case p_k_is_number => k_is)
    (case p_a_l_pot => k_is)
    (case p_l_l_pot => k_is)
    (case p_c_l_pot => k_is)
    (case p_k_l_pot => k_is)
    (case p_a_l_take => k_is)
    (case p_l_l_take => k_is)
    (case p_c_l_take => k_is)
    (case p_k_l_take => k_is)
    (case p_a_l_of => k_is)
    (case p_l_l_of => k_is)
    (case p_c_l_of => k_is)
    (case p_k_l_of => k_is)
    (case p_a_l_some => k_is)
    (case p_l_l_some => k_is)
    (case p_c_l_some => k_is)
    (case p_k_l_some => k_is)
    (case p_a_l_heard => k_is)
    (case p_l_l_heard => k_is)
    (case p_c_l_heard => k_is)
    (case p_k_l_heard => k_is)
    (case p_a_l_odd => k_is)
    (case p_l_l_odd => k_is)
    (case p_c_l_odd => k_is)
    (case p_k_l_odd => k_is)
    (case p_a_l_book_names => k_is)
    (case p_l_l_book_names => k_is)
    (case p_c_l_book_names => k_is)
    (case p_k_l_book_names => k_is)
    (case p_a_l_book_weights => k_is)
    (case p_l_l_book_weights => k_is)
    (case p_c_l_book_weights => k_is)
    (case p_k_l_book_weights => k_is)
    (case p_a_l_book_table => k_is)
    (case p_l_l_book_table => k_is)
    (case p_c_l_book_table => k_is)
    (case p_k_l_book_table => k_is)
    (case p_a_l_book_twinned => k_is)
    (case p_l_l_book_twinned => k_is)
    (case p_c_l_book_twinned => k_is)
    (case p_k_l_book_twinned => k_is)
    (case p_a_l_book_of => k_is)
    (case p_l_l_book_of => k_is)
    (case p_c_l_book_of => k_is)
    (case p_k_l_book_of => k_is)
    (case p_a_l_book_drawn => k_is)
    (case p_l_l_book_drawn => k_is)
    (case p_c_l_book_drawn => k_is)
    (case p_k_l_book_drawn => k_is)
    (case p_a_l_book_text => k_is)
    (case p_l_l_book_text => k_is)
    (case p_c_l_book_text => k_is)
    (case p_k_l_book_text => k_is)
    (case p_a_l_books_primes => k_is)
    (case p_l_l_books_primes => k_is)
    (case p_c_l_books_primes => k_is)
    (case p_k_l_books_primes => k_is)
    (case p_a_l_books_number => k_is)
    (case p_l_l_books_number => k_is)
    (case p_c_l_books_number => k_is)
    (case p_k_l_books_number => k_is)
    (case p_a_l_books_is_name => k_is)
    (case p_l_l_books_is_name => k_is)
    (case p_c_l_books_is_name => k_is)
    (case p_k_l_books_is_name => k_is)
    (case p_a_l_books_is_worth => k_is)
    (case p_l_l_books_is_worth => k_is)
    (case p_c_l_books_is_worth => k_is)
    (case p_k_l_books_is_worth => k_is)
    (case p_a_l_books_can_stand => k_is)
    (case p_l_l_books_can_stand => k_is)
    (case p_c_l_books_can_stand => k_is)
    (case p_k_l_books_can_stand => k_is)
    (case p_a_l_books_wrong => k_is)
    (case p_l_l_books_wrong => k_is)
    (case p_c_l_books_wrong => k_is)
    (case p_k_l_books_wrong => k_is)
    (case p_a_l_books_word => k_is)
    (case p_l_l_books_word => k_is)
    (case p_c_l_books_word => k_is)
    (case p_k_l_books_word => k_is)
    (case p_a_l_books_bent => k_is)
    (case p_l_l_books_bent => k_is)
    (case p_c_l_books_bent => k_is)
    (case p_k_l_books_bent => k_is)
    (case p_a_l_is_judged => k_is)
    (case p_l_l_is_judged => k_is)
    (case p_c_l_is_judged => k_is)
    (case p_k_l_is_judged => k_is)
    (case p_a_l_right => k_is)
    (case p_l_l_right => k_is)
    (case p_c_l_right => k_is)
    (case p_k_l_right => k_is)
    (case p_a_law => k_is)
    (case p_l_law => k_is)
    (case p_c_law => k_is)
    (case p_k_law => k_is)
    (case p_n_ValueError => k_is)
    (case p_n_abs => k_is)
    (case p_n_all => k_is)
    (case p_n_bool => k_is)
    (case p_n_dict => k_is)
    (case p_n_enumerate => k_is)
    (case p_n_int => k_is)
    (case p_n_isinstance => k_is)
    (case p_n_len => k_is)
    (case p_n_list => k_is)
    (case p_n_max => k_is)
    (case p_n_min => k_is)
    (case p_n_range => k_is)
    (case p_n_repr => k_is)
    (case p_n_str => k_is)
    (case p_n_sum => k_is)
    (case p_n_tuple => k_is)
    (case p_n_zip => k_is)
    (case p_m_LETTERS => k_is)
    (case p_m_FIGURES => k_is)
    (case p_m_MOST_MARKS => k_is)
    (case p_m_MOST_KINDS => k_is)
    (case p_m_PRIMES => k_is)
    (case p_l_PRIMES => k_is)
    (case p_v_PRIMES => (repeat (first | exact .nil | refine .cons ⟨_, rfl⟩ ?_)))
    (case p_z_PRIMES => decide)
    (case p_xL => k_is)
    (case p_e_sa => k_is)
    (case p_e_ex => k_is)
    (case p_e_ty => k_is)
    (case p_e_kp => k_is)
    (case p_e_in => k_is)
    (case p_e_tI => k_is)
    (case p_e_no => k_is)
    (case p_e_ga => k_is)
    (case p_e_gg => k_is)
    (case p_e_hd => k_is)
    (case p_e_ha => k_is)
    (case p_e_hn => k_is)
    (case p_e_ht => k_is)
    (case p_e_hm => k_is)
    (case p_g_ex => k_is)
    (case p_g_hd => k_is)
    (case p_g_ty => k_is)
    (case p_g_sb => k_is)
    (case p_b_pg => k_is)
    (case p_b_hd => k_is)
    (case p_b_po => k_is)
    (case p_b_sa => k_is)
    (case p_b_mk => k_is)
    (case p_b_fn => k_is)
    (case p_b_kp => k_is)
    (case p_b_n1 => k_is)
    (case p_b_n2 => k_is)
    (case p_b_n3 => k_is)
    (case p_b_n4 => k_is)
    (case p_b_n5 => k_is)
    (case p_b_n6 => k_is)
    (case p_b_ca => k_is)
    (case p_b_ob => k_is)
    (case p_j_hd => kernel_rfl)
    (case p_j_no => kernel_rfl)
