import PyProof.Rows.All
import Wide.All
import OpenK.AllK
import Wide.FinOn
import HandS.Conv
import HandS.DictTup
import HandS.EndBits
import HandS.Evl
import HandS.Flow
import HandS.ForMost
import HandS.IsInst
import HandS.Small
import HandS.Sort
import HandS.Star
import HandS.Style
import HandS.TupAny
import HandS.TupMul
import HandS.Wide
import HandS.Zip
import KE.DataMinMax
import KE.GoesEnum
import KE.KDictCopyH
import KE.KDictList
import KE.KDictWalk
import KE.KDictZip
import KE.KItemsList
import KE.KTupSum
import KE.SortData
import PyProof.P3Eq
import PyProof.Rows.RegFStrParts
import PySem.Challenge.RW_tipwoods_k33_whole_shared_years
set_option Elab.async false
set_option linter.all false
set_option maxRecDepth 100000
set_option maxHeartbeats 4000000
namespace Bk
open PySem PySem.Spec PyProof.Rows L2
/-! ### the text by places -/
def topS (i : Nat) : Stmt := PySem.Challenge.pw_tipwoods_k33_whole_shared_years.main.body.getD i (.Pass ⟨0, 0, 0, 0⟩)
abbrev s_is_letter : Stmt := topS 8
abbrev N_is_letter : List Str := ["value"]
abbrev P_is_letter : List Str := ["value"]
theorem sc_is_letter : FnScope N_is_letter P_is_letter (defScope s_is_letter) := ⟨rfl, rfl, rfl, by decide +kernel, rfl, by decide +kernel, by decide +kernel⟩
abbrev s_is_number : Stmt := topS 9
abbrev N_is_number : List Str := ["value", "least", "greatest"]
abbrev P_is_number : List Str := ["value", "least", "greatest"]
theorem sc_is_number : FnScope N_is_number P_is_number (defScope s_is_number) := ⟨rfl, rfl, rfl, by decide +kernel, rfl, by decide +kernel, by decide +kernel⟩
abbrev s_roads_and_parts : Stmt := topS 10
abbrev N_roads_and_parts : List Str := ["bush", "found", "level", "road", "part", "index", "branch"]
abbrev P_roads_and_parts : List Str := ["bush"]
theorem sc_roads_and_parts : FnScope N_roads_and_parts P_roads_and_parts (defScope s_roads_and_parts) := ⟨rfl, rfl, rfl, by decide +kernel, rfl, by decide +kernel, by decide +kernel⟩
abbrev s_are_unlike_roots : Stmt := topS 11
abbrev N_are_unlike_roots : List Str := ["part", "mate"]
abbrev P_are_unlike_roots : List Str := ["part", "mate"]
theorem sc_are_unlike_roots : FnScope N_are_unlike_roots P_are_unlike_roots (defScope s_are_unlike_roots) := ⟨rfl, rfl, rfl, by decide +kernel, rfl, by decide +kernel, by decide +kernel⟩
abbrev s_grow : Stmt := topS 12
abbrev N_grow : List Str := ["bush", "growth", "branches", "branch"]
abbrev P_grow : List Str := ["bush", "growth"]
theorem sc_grow : FnScope N_grow P_grow (defScope s_grow) := ⟨rfl, rfl, rfl, by decide +kernel, rfl, by decide +kernel, by decide +kernel⟩
abbrev s_grow_row : Stmt := topS 13
abbrev N_grow_row : List Str := ["growths", "bush", "growth"]
abbrev P_grow_row : List Str := ["growths"]
theorem sc_grow_row : FnScope N_grow_row P_grow_row (defScope s_grow_row) := ⟨rfl, rfl, rfl, by decide +kernel, rfl, by decide +kernel, by decide +kernel⟩
abbrev s_has_form : Stmt := topS 15
abbrev N_has_form : List Str := ["part"]
abbrev P_has_form : List Str := ["part"]
theorem sc_has_form : FnScope N_has_form P_has_form (defScope s_has_form) := ⟨rfl, rfl, rfl, by decide +kernel, rfl, by decide +kernel, by decide +kernel⟩
abbrev s_is_bush : Stmt := topS 16
abbrev N_is_bush : List Str := ["value", "parts", "level", "_", "part", "branch"]
abbrev P_is_bush : List Str := ["value"]
theorem sc_is_bush : FnScope N_is_bush P_is_bush (defScope s_is_bush) := ⟨rfl, rfl, rfl, by decide +kernel, rfl, by decide +kernel, by decide +kernel⟩
abbrev s_check_bush : Stmt := topS 17
abbrev N_check_bush : List Str := ["value"]
abbrev P_check_bush : List Str := ["value"]
theorem sc_check_bush : FnScope N_check_bush P_check_bush (defScope s_check_bush) := ⟨rfl, rfl, rfl, by decide +kernel, rfl, by decide +kernel, by decide +kernel⟩
abbrev s_part_on_road : Stmt := topS 19
abbrev N_part_on_road : List Str := ["bush", "road", "part", "index"]
abbrev P_part_on_road : List Str := ["bush", "road"]
theorem sc_part_on_road : FnScope N_part_on_road P_part_on_road (defScope s_part_on_road) := ⟨rfl, rfl, rfl, by decide +kernel, rfl, by decide +kernel, by decide +kernel⟩
abbrev s_upper_of : Stmt := topS 21
abbrev N_upper_of : List Str := ["bush", "lower", "upper", "branch", "above"]
abbrev P_upper_of : List Str := ["bush", "lower"]
theorem sc_upper_of : FnScope N_upper_of P_upper_of (defScope s_upper_of) := ⟨rfl, rfl, rfl, by decide +kernel, rfl, by decide +kernel, by decide +kernel⟩
abbrev s_lower_of : Stmt := topS 22
abbrev N_lower_of : List Str := ["bush", "upper", "lower", "pairs", "part", "top"]
abbrev P_lower_of : List Str := ["bush", "upper"]
theorem sc_lower_of : FnScope N_lower_of P_lower_of (defScope s_lower_of) := ⟨rfl, rfl, rfl, by decide +kernel, rfl, by decide +kernel, by decide +kernel⟩
abbrev s_all_cuts : Stmt := topS 23
abbrev N_all_cuts : List Str := ["bush", "near", "cuts", "depth", "lower", "upper", "road", "part"]
abbrev P_all_cuts : List Str := ["bush"]
theorem sc_all_cuts : FnScope N_all_cuts P_all_cuts (defScope s_all_cuts) := ⟨rfl, rfl, rfl, by decide +kernel, rfl, by decide +kernel, by decide +kernel⟩
abbrev s_prime_tuple : Stmt := topS 25
abbrev N_prime_tuple : List Str := ["bush", "lowers", "_", "lower", "at"]
abbrev P_prime_tuple : List Str := ["bush"]
theorem sc_prime_tuple : FnScope N_prime_tuple P_prime_tuple (defScope s_prime_tuple) := ⟨rfl, rfl, rfl, by decide +kernel, rfl, by decide +kernel, by decide +kernel⟩
abbrev s_shared : Stmt := topS 27
abbrev N_shared : List Str := ["primes", "mates", "shared", "prime", "mate"]
abbrev P_shared : List Str := ["primes", "mates"]
theorem sc_shared : FnScope N_shared P_shared (defScope s_shared) := ⟨rfl, rfl, rfl, by decide +kernel, rfl, by decide +kernel, by decide +kernel⟩
abbrev s_shared_first : Stmt := topS 28
abbrev N_shared_first : List Str := ["bush", "other", "primes"]
abbrev P_shared_first : List Str := ["bush", "other"]
theorem sc_shared_first : FnScope N_shared_first P_shared_first (defScope s_shared_first) := ⟨rfl, rfl, rfl, by decide +kernel, rfl, by decide +kernel, by decide +kernel⟩
abbrev s_shared_last : Stmt := topS 29
abbrev N_shared_last : List Str := ["bush", "other", "primes", "shared"]
abbrev P_shared_last : List Str := ["bush", "other"]
theorem sc_shared_last : FnScope N_shared_last P_shared_last (defScope s_shared_last) := ⟨rfl, rfl, rfl, by decide +kernel, rfl, by decide +kernel, by decide +kernel⟩
abbrev s_put_between : Stmt := topS 30
abbrev N_put_between : List Str := ["bush", "upper", "lower", "below"]
abbrev P_put_between : List Str := ["bush", "upper", "lower"]
theorem sc_put_between : FnScope N_put_between P_put_between (defScope s_put_between) := ⟨rfl, rfl, rfl, by decide +kernel, rfl, by decide +kernel, by decide +kernel⟩
abbrev s_law_cup : Stmt := topS 32
abbrev N_law_cup : List Str := ["_law_script", "_law_cell"]
abbrev P_law_cup : List Str := ["_law_script"]
theorem sc_law_cup : FnScope N_law_cup P_law_cup (defScope s_law_cup) := ⟨rfl, rfl, rfl, by decide +kernel, rfl, by decide +kernel, by decide +kernel⟩
abbrev s_law_roll : Stmt := topS 33
abbrev N_law_roll : List Str := ["_law_cup_here", "_law_many", "_law_found", "_law_deep"]
abbrev P_law_roll : List Str := ["_law_cup_here", "_law_many"]
theorem sc_law_roll : FnScope N_law_roll P_law_roll (defScope s_law_roll) := ⟨rfl, rfl, rfl, by decide +kernel, rfl, by decide +kernel, by decide +kernel⟩
abbrev s_law_some : Stmt := topS 34
abbrev N_law_some : List Str := ["_law_cup_here", "_law_things"]
abbrev P_law_some : List Str := ["_law_cup_here", "_law_things"]
theorem sc_law_some : FnScope N_law_some P_law_some (defScope s_law_some) := ⟨rfl, rfl, rfl, by decide +kernel, rfl, by decide +kernel, by decide +kernel⟩
abbrev s_law_parts : Stmt := topS 35
abbrev N_law_parts : List Str := ["_law_bush", "_law_found", "_law_line", "_law_road", "_law_part", "_law_at"]
abbrev P_law_parts : List Str := ["_law_bush"]
theorem sc_law_parts : FnScope N_law_parts P_law_parts (defScope s_law_parts) := ⟨rfl, rfl, rfl, by decide +kernel, rfl, by decide +kernel, by decide +kernel⟩
abbrev s_law_tips : Stmt := topS 36
abbrev N_law_tips : List Str := ["_law_bush", "_law_parts_here", "_law_road"]
abbrev P_law_tips : List Str := ["_law_bush"]
theorem sc_law_tips : FnScope N_law_tips P_law_tips (defScope s_law_tips) := ⟨rfl, rfl, rfl, by decide +kernel, rfl, by decide +kernel, by decide +kernel⟩
abbrev s_law_put : Stmt := topS 37
abbrev N_law_put : List Str := ["_law_bush", "_law_road", "_law_growth", "_law_at"]
abbrev P_law_put : List Str := ["_law_bush", "_law_road", "_law_growth"]
theorem sc_law_put : FnScope N_law_put P_law_put (defScope s_law_put) := ⟨rfl, rfl, rfl, by decide +kernel, rfl, by decide +kernel, by decide +kernel⟩
abbrev s_law_grown : Stmt := topS 38
abbrev N_law_grown : List Str := ["_law_bush", "_law_growth", "_law_road"]
abbrev P_law_grown : List Str := ["_law_bush", "_law_growth"]
theorem sc_law_grown : FnScope N_law_grown P_law_grown (defScope s_law_grown) := ⟨rfl, rfl, rfl, by decide +kernel, rfl, by decide +kernel, by decide +kernel⟩
abbrev s_law_bush_of : Stmt := topS 39
abbrev N_law_bush_of : List Str := ["_law_growths", "_law_found", "_law_growth"]
abbrev P_law_bush_of : List Str := ["_law_growths"]
theorem sc_law_bush_of : FnScope N_law_bush_of P_law_bush_of (defScope s_law_bush_of) := ⟨rfl, rfl, rfl, by decide +kernel, rfl, by decide +kernel, by decide +kernel⟩
abbrev s_law_small : Stmt := topS 40
abbrev N_law_small : List Str := ["_law_cup_here", "_law_a", "_law_b", "_law_f"]
abbrev P_law_small : List Str := ["_law_cup_here"]
theorem sc_law_small : FnScope N_law_small P_law_small (defScope s_law_small) := ⟨rfl, rfl, rfl, by decide +kernel, rfl, by decide +kernel, by decide +kernel⟩
abbrev s_law_depths : Stmt := topS 41
abbrev N_law_depths : List Str := ["_law_bush", "_law_road"]
abbrev P_law_depths : List Str := ["_law_bush"]
theorem sc_law_depths : FnScope N_law_depths P_law_depths (defScope s_law_depths) := ⟨rfl, rfl, rfl, by decide +kernel, rfl, by decide +kernel, by decide +kernel⟩
abbrev s_law_knots : Stmt := topS 42
abbrev N_law_knots : List Str := ["_law_bush", "_law_part"]
abbrev P_law_knots : List Str := ["_law_bush"]
theorem sc_law_knots : FnScope N_law_knots P_law_knots (defScope s_law_knots) := ⟨rfl, rfl, rfl, by decide +kernel, rfl, by decide +kernel, by decide +kernel⟩
abbrev s_law_sizes : Stmt := topS 43
abbrev N_law_sizes : List Str := ["_law_growths", "_law_knots_here", "_law_tips_here", "_law_near", "_law_height", "_law_growth", "_law_depths_here"]
abbrev P_law_sizes : List Str := ["_law_growths"]
theorem sc_law_sizes : FnScope N_law_sizes P_law_sizes (defScope s_law_sizes) := ⟨rfl, rfl, rfl, by decide +kernel, rfl, by decide +kernel, by decide +kernel⟩
abbrev s_law_word : Stmt := topS 44
abbrev N_law_word : List Str := ["_law_cup_here", "_law_most", "_law_found", "_law_turn", "_law_prime", "_law_knots_here", "_law_tips_here", "_law_near", "_law_height"]
abbrev P_law_word : List Str := ["_law_cup_here", "_law_most"]
theorem sc_law_word : FnScope N_law_word P_law_word (defScope s_law_word) := ⟨rfl, rfl, rfl, by decide +kernel, rfl, by decide +kernel, by decide +kernel⟩
abbrev s_law_fits : Stmt := topS 45
abbrev N_law_fits : List Str := ["_law_word_here", "_law_knots_here", "_law_tips_here", "_law_near", "_law_height"]
abbrev P_law_fits : List Str := ["_law_word_here"]
theorem sc_law_fits : FnScope N_law_fits P_law_fits (defScope s_law_fits) := ⟨rfl, rfl, rfl, by decide +kernel, rfl, by decide +kernel, by decide +kernel⟩
abbrev s_law_ahead : Stmt := topS 46
abbrev N_law_ahead : List Str := ["_law_one", "_law_two", "_law_found", "_law_left", "_law_right_here"]
abbrev P_law_ahead : List Str := ["_law_one", "_law_two"]
theorem sc_law_ahead : FnScope N_law_ahead P_law_ahead (defScope s_law_ahead) := ⟨rfl, rfl, rfl, by decide +kernel, rfl, by decide +kernel, by decide +kernel⟩
abbrev s_law_right : Stmt := topS 47
abbrev N_law_right : List Str := ["_law_one", "_law_two", "_law_bush", "_law_other"]
abbrev P_law_right : List Str := ["_law_one", "_law_two"]
theorem sc_law_right : FnScope N_law_right P_law_right (defScope s_law_right) := ⟨rfl, rfl, rfl, by decide +kernel, rfl, by decide +kernel, by decide +kernel⟩
abbrev s_law_between : Stmt := topS 48
abbrev N_law_between : List Str := ["_law_word_here", "_law_ahead_here", "_law_behind", "_law_due"]
abbrev P_law_between : List Str := ["_law_word_here", "_law_ahead_here", "_law_behind"]
theorem sc_law_between : FnScope N_law_between P_law_between (defScope s_law_between) := ⟨rfl, rfl, rfl, by decide +kernel, rfl, by decide +kernel, by decide +kernel⟩
abbrev s_law : Stmt := topS 49
abbrev N_law : List Str := ["_law_script", "_law_cup_here", "_law_turn", "_law_some_here", "_law_one", "_law_two", "_law_words", "_law_word_here", "_law_first", "_law_last", "_law_f", "_law_s"]
abbrev P_law : List Str := ["_law_script"]
theorem sc_law : FnScope N_law P_law (defScope s_law) := ⟨rfl, rfl, rfl, by decide +kernel, rfl, by decide +kernel, by decide +kernel⟩
/-- what the top leaves -/
structure Tx (K : PySem.W.Frag) (mg : Str → Option Value) where
  a_is_letter : Addr
  d_is_letter : FuncData
  F_is_letter : Fun K "is_letter" "is_letter" s_is_letter a_is_letter d_is_letter
  g_is_letter : mg "is_letter" = some (.ref a_is_letter)
  b_is_letter : Binds K d_is_letter P_is_letter []
  a_is_number : Addr
  d_is_number : FuncData
  F_is_number : Fun K "is_number" "is_number" s_is_number a_is_number d_is_number
  g_is_number : mg "is_number" = some (.ref a_is_number)
  b_is_number : Binds K d_is_number P_is_number []
  a_roads_and_parts : Addr
  d_roads_and_parts : FuncData
  F_roads_and_parts : Fun K "roads_and_parts" "roads_and_parts" s_roads_and_parts a_roads_and_parts d_roads_and_parts
  g_roads_and_parts : mg "roads_and_parts" = some (.ref a_roads_and_parts)
  b_roads_and_parts : Binds K d_roads_and_parts P_roads_and_parts []
  a_are_unlike_roots : Addr
  d_are_unlike_roots : FuncData
  F_are_unlike_roots : Fun K "are_unlike_roots" "are_unlike_roots" s_are_unlike_roots a_are_unlike_roots d_are_unlike_roots
  g_are_unlike_roots : mg "are_unlike_roots" = some (.ref a_are_unlike_roots)
  b_are_unlike_roots : Binds K d_are_unlike_roots P_are_unlike_roots []
  a_grow : Addr
  d_grow : FuncData
  F_grow : Fun K "grow" "grow" s_grow a_grow d_grow
  g_grow : mg "grow" = some (.ref a_grow)
  b_grow : Binds K d_grow P_grow []
  a_grow_row : Addr
  d_grow_row : FuncData
  F_grow_row : Fun K "grow_row" "grow_row" s_grow_row a_grow_row d_grow_row
  g_grow_row : mg "grow_row" = some (.ref a_grow_row)
  b_grow_row : Binds K d_grow_row P_grow_row []
  a_has_form : Addr
  d_has_form : FuncData
  F_has_form : Fun K "_has_form" "_has_form" s_has_form a_has_form d_has_form
  g_has_form : mg "_has_form" = some (.ref a_has_form)
  b_has_form : Binds K d_has_form P_has_form []
  a_is_bush : Addr
  d_is_bush : FuncData
  F_is_bush : Fun K "is_bush" "is_bush" s_is_bush a_is_bush d_is_bush
  g_is_bush : mg "is_bush" = some (.ref a_is_bush)
  b_is_bush : Binds K d_is_bush P_is_bush []
  a_check_bush : Addr
  d_check_bush : FuncData
  F_check_bush : Fun K "check_bush" "check_bush" s_check_bush a_check_bush d_check_bush
  g_check_bush : mg "check_bush" = some (.ref a_check_bush)
  b_check_bush : Binds K d_check_bush P_check_bush []
  a_part_on_road : Addr
  d_part_on_road : FuncData
  F_part_on_road : Fun K "part_on_road" "part_on_road" s_part_on_road a_part_on_road d_part_on_road
  g_part_on_road : mg "part_on_road" = some (.ref a_part_on_road)
  b_part_on_road : Binds K d_part_on_road P_part_on_road []
  a_upper_of : Addr
  d_upper_of : FuncData
  F_upper_of : Fun K "upper_of" "upper_of" s_upper_of a_upper_of d_upper_of
  g_upper_of : mg "upper_of" = some (.ref a_upper_of)
  b_upper_of : Binds K d_upper_of P_upper_of []
  a_lower_of : Addr
  d_lower_of : FuncData
  F_lower_of : Fun K "lower_of" "lower_of" s_lower_of a_lower_of d_lower_of
  g_lower_of : mg "lower_of" = some (.ref a_lower_of)
  b_lower_of : Binds K d_lower_of P_lower_of []
  a_all_cuts : Addr
  d_all_cuts : FuncData
  F_all_cuts : Fun K "all_cuts" "all_cuts" s_all_cuts a_all_cuts d_all_cuts
  g_all_cuts : mg "all_cuts" = some (.ref a_all_cuts)
  b_all_cuts : Binds K d_all_cuts P_all_cuts []
  a_prime_tuple : Addr
  d_prime_tuple : FuncData
  F_prime_tuple : Fun K "prime_tuple" "prime_tuple" s_prime_tuple a_prime_tuple d_prime_tuple
  g_prime_tuple : mg "prime_tuple" = some (.ref a_prime_tuple)
  b_prime_tuple : Binds K d_prime_tuple P_prime_tuple []
  a_shared : Addr
  d_shared : FuncData
  F_shared : Fun K "_shared" "_shared" s_shared a_shared d_shared
  g_shared : mg "_shared" = some (.ref a_shared)
  b_shared : Binds K d_shared P_shared []
  a_shared_first : Addr
  d_shared_first : FuncData
  F_shared_first : Fun K "shared_first" "shared_first" s_shared_first a_shared_first d_shared_first
  g_shared_first : mg "shared_first" = some (.ref a_shared_first)
  b_shared_first : Binds K d_shared_first P_shared_first []
  a_shared_last : Addr
  d_shared_last : FuncData
  F_shared_last : Fun K "shared_last" "shared_last" s_shared_last a_shared_last d_shared_last
  g_shared_last : mg "shared_last" = some (.ref a_shared_last)
  b_shared_last : Binds K d_shared_last P_shared_last []
  a_put_between : Addr
  d_put_between : FuncData
  F_put_between : Fun K "put_between" "put_between" s_put_between a_put_between d_put_between
  g_put_between : mg "put_between" = some (.ref a_put_between)
  b_put_between : Binds K d_put_between P_put_between []
  a_law_cup : Addr
  d_law_cup : FuncData
  F_law_cup : Fun K "_law_cup" "_law_cup" s_law_cup a_law_cup d_law_cup
  g_law_cup : mg "_law_cup" = some (.ref a_law_cup)
  b_law_cup : Binds K d_law_cup P_law_cup []
  a_law_roll : Addr
  d_law_roll : FuncData
  F_law_roll : Fun K "_law_roll" "_law_roll" s_law_roll a_law_roll d_law_roll
  g_law_roll : mg "_law_roll" = some (.ref a_law_roll)
  b_law_roll : Binds K d_law_roll P_law_roll []
  a_law_some : Addr
  d_law_some : FuncData
  F_law_some : Fun K "_law_some" "_law_some" s_law_some a_law_some d_law_some
  g_law_some : mg "_law_some" = some (.ref a_law_some)
  b_law_some : Binds K d_law_some P_law_some []
  a_law_parts : Addr
  d_law_parts : FuncData
  F_law_parts : Fun K "_law_parts" "_law_parts" s_law_parts a_law_parts d_law_parts
  g_law_parts : mg "_law_parts" = some (.ref a_law_parts)
  b_law_parts : Binds K d_law_parts P_law_parts []
  a_law_tips : Addr
  d_law_tips : FuncData
  F_law_tips : Fun K "_law_tips" "_law_tips" s_law_tips a_law_tips d_law_tips
  g_law_tips : mg "_law_tips" = some (.ref a_law_tips)
  b_law_tips : Binds K d_law_tips P_law_tips []
  a_law_put : Addr
  d_law_put : FuncData
  F_law_put : Fun K "_law_put" "_law_put" s_law_put a_law_put d_law_put
  g_law_put : mg "_law_put" = some (.ref a_law_put)
  b_law_put : Binds K d_law_put P_law_put []
  a_law_grown : Addr
  d_law_grown : FuncData
  F_law_grown : Fun K "_law_grown" "_law_grown" s_law_grown a_law_grown d_law_grown
  g_law_grown : mg "_law_grown" = some (.ref a_law_grown)
  b_law_grown : Binds K d_law_grown P_law_grown []
  a_law_bush_of : Addr
  d_law_bush_of : FuncData
  F_law_bush_of : Fun K "_law_bush_of" "_law_bush_of" s_law_bush_of a_law_bush_of d_law_bush_of
  g_law_bush_of : mg "_law_bush_of" = some (.ref a_law_bush_of)
  b_law_bush_of : Binds K d_law_bush_of P_law_bush_of []
  a_law_small : Addr
  d_law_small : FuncData
  F_law_small : Fun K "_law_small" "_law_small" s_law_small a_law_small d_law_small
  g_law_small : mg "_law_small" = some (.ref a_law_small)
  b_law_small : Binds K d_law_small P_law_small []
  a_law_depths : Addr
  d_law_depths : FuncData
  F_law_depths : Fun K "_law_depths" "_law_depths" s_law_depths a_law_depths d_law_depths
  g_law_depths : mg "_law_depths" = some (.ref a_law_depths)
  b_law_depths : Binds K d_law_depths P_law_depths []
  a_law_knots : Addr
  d_law_knots : FuncData
  F_law_knots : Fun K "_law_knots" "_law_knots" s_law_knots a_law_knots d_law_knots
  g_law_knots : mg "_law_knots" = some (.ref a_law_knots)
  b_law_knots : Binds K d_law_knots P_law_knots []
  a_law_sizes : Addr
  d_law_sizes : FuncData
  F_law_sizes : Fun K "_law_sizes" "_law_sizes" s_law_sizes a_law_sizes d_law_sizes
  g_law_sizes : mg "_law_sizes" = some (.ref a_law_sizes)
  b_law_sizes : Binds K d_law_sizes P_law_sizes []
  a_law_word : Addr
  d_law_word : FuncData
  F_law_word : Fun K "_law_word" "_law_word" s_law_word a_law_word d_law_word
  g_law_word : mg "_law_word" = some (.ref a_law_word)
  b_law_word : Binds K d_law_word P_law_word []
  a_law_fits : Addr
  d_law_fits : FuncData
  F_law_fits : Fun K "_law_fits" "_law_fits" s_law_fits a_law_fits d_law_fits
  g_law_fits : mg "_law_fits" = some (.ref a_law_fits)
  b_law_fits : Binds K d_law_fits P_law_fits []
  a_law_ahead : Addr
  d_law_ahead : FuncData
  F_law_ahead : Fun K "_law_ahead" "_law_ahead" s_law_ahead a_law_ahead d_law_ahead
  g_law_ahead : mg "_law_ahead" = some (.ref a_law_ahead)
  b_law_ahead : Binds K d_law_ahead P_law_ahead []
  a_law_right : Addr
  d_law_right : FuncData
  F_law_right : Fun K "_law_right" "_law_right" s_law_right a_law_right d_law_right
  g_law_right : mg "_law_right" = some (.ref a_law_right)
  b_law_right : Binds K d_law_right P_law_right []
  a_law_between : Addr
  d_law_between : FuncData
  F_law_between : Fun K "_law_between" "_law_between" s_law_between a_law_between d_law_between
  g_law_between : mg "_law_between" = some (.ref a_law_between)
  b_law_between : Binds K d_law_between P_law_between []
  a_law : Addr
  d_law : FuncData
  F_law : Fun K "law" "law" s_law a_law d_law
  g_law : mg "law" = some (.ref a_law)
  b_law : Binds K d_law P_law []
  c_MOST_BRANCHES : ∃ t, mg "MOST_BRANCHES" = some (.int 6 t)
  c_MOST_PARTS : ∃ t, mg "MOST_PARTS" = some (.int 400 t)
  c_MOST_DEPTH : ∃ t, mg "MOST_DEPTH" = some (.int 60 t)
  z_abs : mg "abs" = none
  z_all : mg "all" = none
  z_bool : mg "bool" = none
  z_enumerate : mg "enumerate" = none
  z_int : mg "int" = none
  z_isinstance : mg "isinstance" = none
  z_len : mg "len" = none
  z_list : mg "list" = none
  z_max : mg "max" = none
  z_min : mg "min" = none
  z_range : mg "range" = none
  z_sorted : mg "sorted" = none
  z_str : mg "str" = none
  z_tuple : mg "tuple" = none
  z_zip : mg "zip" = none
end Bk
namespace Bk
open PySem PySem.Spec PyProof.Rows L2
open Evl (Ex)

/-! ### data that never changes -/
mutual
def fz : PyData → Bool
  | .none => true
  | .bool _ => true
  | .int _ => true
  | .str _ => true
  | .list _ => false
  | .tuple xs => fzA xs
  | .dict _ => false
def fzA : List PyData → Bool
  | [] => true
  | x :: xs => fz x && fzA xs
end
/-- tuples and what is locked stand -/
def Tu (H H' : Hp) : Prop := (∀ a xs, H a = some (.tup xs) → H' a = some (.tup xs)) ∧ (∀ a o u, H a = some (.frz o u) → H' a = some (.frz o u))
theorem Tu.refl (H : Hp) : Tu H H := ⟨fun _ _ h => h, fun _ _ _ h => h⟩
theorem Tu.trans {H H1 H2 : Hp} (a : Tu H H1) (b : Tu H1 H2) : Tu H H2 := ⟨fun x xs h => b.1 x xs (a.1 x xs h), fun x o u h => b.2 x o u (a.2 x o u h)⟩
theorem Tu.ex {H H' : Hp} (e : Ex H H') : Tu H H' := ⟨fun a xs h => e a _ h, fun a o u h => e a _ h⟩
theorem Tu.rd {H H' : Hp} {a : Addr} {xs : List V} (t : Tu H H') (h : Rd H a (.tup xs)) : Rd H' a (.tup xs) := by
  rcases h with h | ⟨o, h⟩
  · exact .inl (t.1 _ _ h)
  · exact .inr ⟨o, t.2 _ _ _ h⟩
theorem Tu.seq {K : PySem.W.Frag} {H H' : Hp} {a : Addr} {xs : List V} (t : Tu H H') (h : SqT K H a xs) : SqT K H' a xs := by
  rcases h with h | h
  · exact .inl (t.rd h)
  · exact .inr h
mutual
theorem Dp.tu {K : PySem.W.Frag} {H H' : Hp} (t : Tu H H') : ∀ (d : PyData) (v : V), fz d = true → Dp K H v d → Dp K H' v d
  | .none, _, _, h => by cases h; exact .non
  | .bool b, _, _, h => by cases h; exact .bl b
  | .int i, _, _, h => by cases h; exact .int i
  | .str x, _, _, h => by cases h; exact .str x
  | .list _, _, f, _ => by simp [fz] at f
  | .dict _, _, f, _ => by simp [fz] at f
  | .tuple ds, _, f, h => by
    cases h with
    | tup hs ha => exact .tup (t.seq hs) (DpAll.tu t ds _ (by simpa [fz] using f) ha)
theorem DpAll.tu {K : PySem.W.Frag} {H H' : Hp} (t : Tu H H') : ∀ (ds : List PyData) (vs : List V), fzA ds = true → DpAll K H vs ds → DpAll K H' vs ds
  | [], _, _, h => by cases h; exact .nil
  | d :: ds, _, f, h => by
    cases h with
    | cons h1 h2 =>
      have f' : fz d = true ∧ fzA ds = true := by simpa [fzA] using f
      exact .cons (Dp.tu t d _ f'.1 h1) (DpAll.tu t ds _ f'.2 h2)
end
mutual
theorem Dp.ex {K : PySem.W.Frag} {H H' : Hp} (t : Ex H H') : ∀ (d : PyData) (v : V), Dp K H v d → Dp K H' v d
  | .none, _, h => by cases h; exact .non
  | .bool b, _, h => by cases h; exact .bl b
  | .int i, _, h => by cases h; exact .int i
  | .str x, _, h => by cases h; exact .str x
  | .dict _, _, h => by cases h
  | .list ds, _, h => by
    cases h with
    | lst hs ha => exact .lst (Evl.ex_l t hs) (DpAll.ex t ds _ ha)
  | .tuple ds, _, h => by
    cases h with
    | tup hs ha => exact .tup (Evl.ex_t t hs) (DpAll.ex t ds _ ha)
theorem DpAll.ex {K : PySem.W.Frag} {H H' : Hp} (t : Ex H H') : ∀ (ds : List PyData) (vs : List V), DpAll K H vs ds → DpAll K H' vs ds
  | [], _, h => by cases h; exact .nil
  | d :: ds, _, h => by
    cases h with
    | cons h1 h2 => exact .cons (Dp.ex t d _ h1) (DpAll.ex t ds _ h2)
end
section
variable {K : PySem.W.Frag} {H : Hp}
theorem DpAll.len : ∀ {vs : List V} {ds : List PyData}, DpAll K H vs ds → vs.length = ds.length
  | _, _, .nil => rfl
  | _, _, .cons _ t => by rw [List.length_cons, List.length_cons, DpAll.len t]
theorem DpAll.get : ∀ {vs : List V} {ds : List PyData} {i : Nat} {v : V}, DpAll K H vs ds → vs[i]? = some v → ∃ d, ds[i]? = some d ∧ Dp K H v d
  | _, _, _, _, .nil, e => by simp at e
  | _, _, 0, _, .cons r _, e => by simp at e; subst e; exact ⟨_, rfl, r⟩
  | _, _, i + 1, v, .cons _ t, e => by
    obtain ⟨u, h1, h2⟩ := DpAll.get (i := i) (v := v) t (by simpa using e)
    exact ⟨u, by simpa using h1, h2⟩
theorem DpAll.get' {vs : List V} {ds : List PyData} {i : Nat} {d : PyData} (h : DpAll K H vs ds) (e : ds[i]? = some d) : ∃ v, vs[i]? = some v ∧ Dp K H v d := by
  have hl := DpAll.len h
  have hi : i < ds.length := (List.getElem?_eq_some_iff.mp e).1
  obtain ⟨d', h1, h2⟩ := DpAll.get h (i := i) (v := vs[i]'(by omega)) (by simp [show i < vs.length by omega])
  rw [e] at h1
  cases h1
  exact ⟨_, by simp [show i < vs.length by omega], h2⟩
theorem DpAll.app : ∀ {vs ws : List V} {ds es : List PyData}, DpAll K H vs ds → DpAll K H ws es → DpAll K H (vs ++ ws) (ds ++ es)
  | _, _, _, _, .nil, h => h
  | _, _, _, _, .cons r t, h => .cons r (DpAll.app t h)
theorem DpAll.take : ∀ {vs : List V} {ds : List PyData} (n : Nat), DpAll K H vs ds → DpAll K H (vs.take n) (ds.take n)
  | _, _, 0, _ => by rw [List.take_zero, List.take_zero]; exact .nil
  | _, _, n + 1, .nil => .nil
  | _, _, n + 1, .cons r t => .cons r (DpAll.take n t)
theorem DpAll.drop : ∀ {vs : List V} {ds : List PyData} (n : Nat), DpAll K H vs ds → DpAll K H (vs.drop n) (ds.drop n)
  | _, _, 0, h => h
  | _, _, n + 1, .nil => .nil
  | _, _, n + 1, .cons r t => DpAll.drop n t
theorem DpAll.snoc {vs : List V} {ds : List PyData} {v : V} {d : PyData} (h : DpAll K H vs ds) (r : Dp K H v d) : DpAll K H (vs ++ [v]) (ds ++ [d]) := DpAll.app h (.cons r .nil)
theorem dp_tup {v : V} {ds : List PyData} (h : Dp K H v (.tuple ds)) : ∃ a xs, v = .ref a ∧ SqT K H a xs ∧ DpAll K H xs ds := by
  cases h with
  | tup hs ha => exact ⟨_, _, rfl, hs, ha⟩
theorem dp_lst {v : V} {ds : List PyData} (h : Dp K H v (.list ds)) : ∃ a xs, v = .ref a ∧ SqL K H a xs ∧ DpAll K H xs ds := by
  cases h with
  | lst hs ha => exact ⟨_, _, rfl, hs, ha⟩
theorem dp_int {v : V} {i : Int} (h : Dp K H v (.int i)) : v = .int i := by cases h; rfl
theorem dp_str {v : V} {x : Str} (h : Dp K H v (.str x)) : v = .str x := by cases h; rfl
theorem dp_bl {v : V} {b : Bool} (h : Dp K H v (.bool b)) : v = .bl b := by cases h; rfl
theorem fzA_get : ∀ {ds : List PyData} {i : Nat} {d : PyData}, fzA ds = true → ds[i]? = some d → fz d = true
  | [], _, _, _, e => by simp at e
  | x :: xs, 0, d, h, e => by
    simp at e; subst e
    exact (by simpa [fzA] using h : fz x = true ∧ fzA xs = true).1
  | x :: xs, i + 1, d, h, e => fzA_get (by simpa [fzA] using h : fz x = true ∧ fzA xs = true).2 (by simpa using e)
theorem fzA_of {ds : List PyData} (h : ∀ d ∈ ds, fz d = true) : fzA ds = true := by
  induction ds with
  | nil => rfl
  | cons d ds ih =>
    show (fz d && fzA ds) = true
    rw [h d List.mem_cons_self, ih fun e he => h e (List.mem_cons_of_mem _ he)]
    rfl
theorem fzA_app {ds es : List PyData} : fzA (ds ++ es) = (fzA ds && fzA es) := by
  induction ds with
  | nil => rfl
  | cons d ds ih =>
    show (fz d && fzA (ds ++ es)) = ((fz d && fzA ds) && fzA es)
    rw [ih, Bool.and_assoc]
end

/-! ### heaps that keep all but some -/
/-- all that H tracks stands in H', but what stands at c -/
def ExB (c : Addr) (H H' : Hp) : Prop := ∀ a o, a ≠ c → H a = some o → H' a = some o
theorem ExB.of {c : Addr} {H H' : Hp} (e : Ex H H') : ExB c H H' := fun a o _ h => e a o h
theorem ExB.refl (c : Addr) (H : Hp) : ExB c H H := fun _ _ _ h => h
theorem ExB.trans {c : Addr} {H H1 H2 : Hp} (a : ExB c H H1) (b : ExB c H1 H2) : ExB c H H2 := fun x o n h => b x o n (a x o n h)
theorem ExB.upd {c : Addr} {H : Hp} {o : HO} : ExB c H (upd H c o) := fun a u n h => by rw [upd_ne n]; exact h
theorem ExB.ex {c : Addr} {H0 H H' : Hp} (b : ExB c H H') (e : Ex H0 H) (hc : H0 c = none) : Ex H0 H' := fun a o h => b a o (ne_of_none h hc) (e a o h)
theorem ExB.tu {c : Addr} {H H' : Hp} {xs : List V} (b : ExB c H H') (h : H c = some (.lst xs)) : Tu H H' :=
  ⟨fun a ys q => b a _ (ne_of q h (by intro z; cases z)) q, fun a o u q => b a _ (ne_of q h (by intro z; cases z)) q⟩
theorem tu_lst {H : Hp} {p : Addr} {xs ys : List V} (h : H p = some (.lst xs)) : Tu H (upd H p (.lst ys)) := ExB.tu ExB.upd h
theorem ex_new {H : Hp} {p : Addr} {o : HO} (h : H p = none) : Ex H (upd H p o) := Evl.Ex.new h
theorem Ex.tu {H H' : Hp} (e : Ex H H') : Tu H H' := Tu.ex e

/-! ### bushes -/
inductive Bu where
  | tip
  | knot (c : Nat) (bs : List Bu)
mutual
def toD : Bu → PyData
  | .tip => .tuple []
  | .knot c bs => .tuple (.str ⟨#[c]⟩ :: toDs bs)
def toDs : List Bu → List PyData
  | [] => []
  | b :: bs => toD b :: toDs bs
end
theorem toDs_map : ∀ bs : List Bu, toDs bs = bs.map toD
  | [] => rfl
  | b :: bs => by rw [toDs, toDs_map bs]; rfl
/-- the items of a bush, as data -/
def itm : Bu → List PyData
  | .tip => []
  | .knot c bs => .str ⟨#[c]⟩ :: bs.map toD
theorem toD_itm (b : Bu) : toD b = .tuple (itm b) := by
  cases b with
  | tip => rfl
  | knot c bs => rw [toD, toDs_map]; rfl
mutual
theorem fz_toD : ∀ b : Bu, fz (toD b) = true
  | .tip => rfl
  | .knot c bs => by
    rw [toD]
    show (fz (.str ⟨#[c]⟩) && fzA (toDs bs)) = true
    rw [fz_toDs bs]
    rfl
theorem fz_toDs : ∀ bs : List Bu, fzA (toDs bs) = true
  | [] => rfl
  | b :: bs => by
    show (fz (toD b) && fzA (toDs bs)) = true
    rw [fz_toD b, fz_toDs bs]
    rfl
end
theorem fzA_itm (b : Bu) : fzA (itm b) = true := by
  have h := fz_toD b
  rw [toD_itm] at h
  exact h
theorem str1_inj {c d : Nat} (h : (⟨#[c]⟩ : Str) = ⟨#[d]⟩) : c = d := by
  injection h with h
  have h2 := congrArg Array.toList h
  simpa using h2
mutual
theorem toD_inj : ∀ a b : Bu, toD a = toD b → a = b
  | .tip, .tip, _ => rfl
  | .tip, .knot c bs, h => by rw [toD, toD] at h; injection h with h; cases h
  | .knot c bs, .tip, h => by rw [toD, toD] at h; injection h with h; cases h
  | .knot c bs, .knot d es, h => by
    rw [toD, toD] at h
    injection h with h
    injection h with h1 h2
    injection h1 with h1
    rw [str1_inj h1, toDs_inj bs es h2]
theorem toDs_inj : ∀ a b : List Bu, toDs a = toDs b → a = b
  | [], [], _ => rfl
  | [], _ :: _, h => by rw [toDs, toDs] at h; cases h
  | _ :: _, [], h => by rw [toDs, toDs] at h; cases h
  | x :: xs, y :: ys, h => by
    rw [toDs, toDs] at h
    injection h with h1 h2
    rw [toD_inj x y h1, toDs_inj xs ys h2]
end
mutual
def dep : Bu → Nat
  | .tip => 0
  | .knot _ bs => deps bs + 1
/-- the greatest depth of some -/
def deps : List Bu → Nat
  | [] => 0
  | b :: bs => max (dep b) (deps bs)
end
mutual
def knots : Bu → Nat
  | .tip => 0
  | .knot _ bs => knotss bs + 1
def knotss : List Bu → Nat
  | [] => 0
  | b :: bs => knots b + knotss bs
end
mutual
def tips : Bu → Nat
  | .tip => 1
  | .knot _ bs => tipss bs
def tipss : List Bu → Nat
  | [] => 0
  | b :: bs => tips b + tipss bs
end
mutual
def grow : Bu → Bu → Bu
  | .tip, g => g
  | .knot c bs, g => .knot c (growL bs g)
def growL : List Bu → Bu → List Bu
  | [], _ => []
  | b :: bs, g => grow b g :: growL bs g
end
theorem growL_map (g : Bu) : ∀ bs : List Bu, growL bs g = bs.map (grow · g)
  | [] => rfl
  | b :: bs => by rw [growL, growL_map g bs]; rfl
theorem dep_le : ∀ {bs : List Bu} {b : Bu}, b ∈ bs → dep b ≤ deps bs
  | b :: bs, x, h => by
    rw [deps]
    rcases List.mem_cons.mp h with e | e
    · subst e; exact Nat.le_max_left _ _
    · exact Nat.le_trans (dep_le e) (Nat.le_max_right _ _)
theorem deps_le {bs : List Bu} {n : Nat} (h : ∀ b ∈ bs, dep b ≤ n) : deps bs ≤ n := by
  induction bs with
  | nil => exact Nat.zero_le _
  | cons b bs ih =>
    rw [deps]
    exact Nat.max_le.mpr ⟨h b List.mem_cons_self, ih fun x hx => h x (List.mem_cons_of_mem _ hx)⟩
mutual
/-- letters are a to z, branches 1 to 6 -/
def okB : Bu → Bool
  | .tip => true
  | .knot c bs => decide (97 ≤ c) && decide (c ≤ 122) && decide (1 ≤ bs.length) && decide (bs.length ≤ 6) && okBs bs
def okBs : List Bu → Bool
  | [] => true
  | b :: bs => okB b && okBs bs
end
end Bk

namespace Bk
open PySem PySem.W PySem.Calls PyProof.Rows PySem.SeqAt

/-- a road as data -/
def enc (r : List Int) : PyData := .tuple (r.map .int)
theorem alike_enc (a b : List Int) : alike (enc a) (enc b) = true := by
  unfold enc
  simp only [alike]
  exact alike_ints a b
theorem allAlike_enc (rs : List (List Int)) : AllAlike (rs.map enc) := AllAlike.of alike_enc
theorem depth_enc (r : List Int) : (enc r).depth ≤ 1 := by
  unfold enc
  simp [PyData.depth, depth_ints]

theorem call_tuple_lt {A : Around} {s : Shared} {prog : Program} {w : World} {E : Value → Shared → Prop} {Q : Value → Shared → Prop} {l b : Addr} {items items2 : Array Value} {e r : Nat → Bool} (hl : s.heap.IsTuple l items) (hb : s.heap.IsTuple b items2)
    (he : ∀ j (h1 : j < items.size) (h2 : j < items2.size), EqAt A.in1 s items[j] items2[j] (e j)) (hr : ∀ j (h1 : j < items.size) (h2 : j < items2.size), e j = false → RcLt A.in1 s items[j] items2[j] (r j))
    (h : Q (.bool (firstLt e r (decide (items.size < items2.size)) (List.range (min items.size items2.size)))) s) : wpAny (model prog w) A (call (.builtin "tuple.__lt__") [.ref l, .ref b]) Q E s := by
  obtain ⟨⟨cls, dd, data, sl⟩, ho, hc, n, hd⟩ := id hl
  obtain ⟨⟨cls2, dd2, data2, sl2⟩, ho2, hc2, n2, hd2⟩ := id hb
  simp only at hc hd hc2 hd2
  subst hc hd hc2 hd2
  exact call_meets F.slot_tuple_lt ⟨_, ho, rfl⟩ F.entry_tuple_lt (F.args_tuple_lt_2 _ _) (tuple_ltAt l b items items2 n n2 dd dd2 sl sl2 e r) ⟨ho, ho2, he, hr, h⟩

section
variable {prog : Program} {w : World} {A : Around} {s : Shared}
theorem oneLt_tup {xs ys : List PyData} {a b : Value} {as bs : List Addr} {E : Value → Shared → Prop} {Q : Bool → Shared → Prop} (ra : Reads s.heap a (.tuple xs) as) (rb : Reads s.heap b (.tuple ys) bs) (hal : alikeAll xs ys = true)
    (hu : A.units + min (PyData.tuple xs).depth (PyData.tuple ys).depth < cLine) (hq : Q (dataLt (.tuple xs) (.tuple ys)) s) : wpAny (model prog w) A (oneLt' true a b) Q E s := by
  cases ra with
  | @tuple l o vs n _ as₁ h1 h2 h3 h4 =>
    cases rb with
    | @tuple l' o' vs' n' _ bs₁ k1 k2 k3 k4 =>
      have n1 : vs.size = xs.length := by simpa using ReadsAll.length _ _ _ h4
      have n2 : vs'.size = ys.length := by simpa using ReadsAll.length _ _ _ k4
      rw [dataLt_tuple, ← firstLt_toks xs ys hal, ← n1, ← n2] at hq
      rw [oneLt'_eq]
      simp only [if_true]
      refine wpAny_bind (wpAny_cRoomFor (room_here hu) ?_)
      refine wpAny_bind (wpAny_callSpecialIfBound?_slot (T := "tuple") ⟨_, h1, h2⟩ F.slot_tuple_lt (call_tuple_lt (e := pairEq xs ys) (r := fun j => dataLt (xs.getD j .none) (ys.getD j .none)) ⟨_, h1, h2, _, h3⟩ ⟨_, k1, k2, _, k3⟩ (fun j j1 j2 => ?_) (fun j j1 j2 hj => ?_) ?_))
      · have := eqAt_alikeAll xs ys A.in1 s vs.toList vs'.toList _ _ h4 k4 hal (room_in hu) j (by simpa using j1) (by simpa using j2)
        simpa using this
      · have := rcLt_alikeAll xs ys A.in1 s vs.toList vs'.toList _ _ h4 k4 hal (room_in hu) j (by simpa using j1) (by simpa using j2) hj
        simpa using this
      · exact wpAny_truthy_bool hq
end
end Bk

namespace Bk
open PySem PySem.W PySem.Calls PyProof.Rows PySem.SeqAt

/-- tuples, and their first items -/
def Firsts (h : Heap) : List Value → List (Option Value) → Prop
  | [], [] => True
  | v :: vs, f :: fs => (∃ a o xs n, v = .ref a ∧ h.get? a = some o ∧ o.cls = .type "tuple" ∧ o.data = .seq xs n ∧ xs[0]? = f) ∧ Firsts h vs fs
  | _, _ => False
theorem firsts_len {h : Heap} : ∀ {vs : List Value} {fs : List (Option Value)}, Firsts h vs fs → vs.length = fs.length
  | [], [], _ => rfl
  | _ :: _, _ :: _, t => by rw [List.length_cons, List.length_cons, firsts_len t.2]
  | [], _ :: _, t => t.elim
  | _ :: _, [], t => t.elim
theorem firsts_types {h : Heap} {M : Model} : ∀ {vs : List Value} {fs : List (Option Value)}, Firsts h vs fs → ∀ v ∈ vs, Looks M h (typeOf v) (.type "tuple")
  | [], _, _, v, hv => by simp at hv
  | _ :: _, [], t, _, _ => t.elim
  | v :: vs, f :: fs, t, x, hx => by
    rcases List.mem_cons.mp hx with e | e
    · subst e
      obtain ⟨⟨a, o, xs, n, rfl, ho, hc, hd, hf⟩, _⟩ := t
      have q : Looks M h (typeOf (.ref a)) o.cls := (Looks.ld ho).andThen .now
      rw [hc] at q
      exact q
    · exact firsts_types t.2 x e
section
variable {M : Model} {A : Around} {E : Value → Shared → Prop} {s : Shared}
theorem firsts_run : ∀ (vs : List Value) (fs : List (Option Value)) {Q : List (Option Value) → Shared → Prop}, Firsts s.heap vs fs → Q fs s → wpAny M A (vs.mapM firstOfTuple') Q E s
  | [], [], _, _, h => by rw [List.mapM_nil]; exact wpAny_pure h
  | [], _ :: _, _, t, _ => t.elim
  | _ :: _, [], _, t, _ => t.elim
  | v :: vs, f :: fs, Q, t, h => by
    obtain ⟨⟨a, o, xs, n, rfl, ho, hc, hd, hf⟩, t⟩ := t
    rw [List.mapM_cons]
    refine wpAny_bind ?_
    rw [kas_first_eq]
    refine wpAny_bind (Looks.here (show Looks M s.heap (typeOf (.ref a)) o.cls from (Looks.ld ho).andThen .now) ?_)
    rw [hc, if_neg (by first | decide | simp)]
    refine wpAny_bind (listItems_at ho hd (wpAny_pure ?_))
    rw [hf]
    exact wpAny_bind (firsts_run vs fs (Q := fun bs s' => wpAny M A (pure (f :: bs)) Q E s') t (wpAny_pure h))
theorem kind_tup0 {vs : List Value} {fs : List (Option Value)} {Q : SortKind → Shared → Prop} (t : Firsts s.heap vs (none :: fs)) (h : Q oneType' s) : wpAny M A (keyKind' vs.toArray) Q E s := by
  rw [keyKind'_eq, List.mapM_toArray, map_eq_pure_bind]
  refine wpAny_bind (wpAny_bind (firsts_run vs _ t (wpAny_pure ?_)))
  rw [if_neg (by simp), if_neg (by simp)]
  rw [oneTypeOnly'_eq, List.mapM_toArray, map_eq_pure_bind]
  have hT := firsts_types (M := M) t
  refine wpAny_bind (wpAny_bind (wpAny_bind (kas_mapM (r := Value.type "tuple") _ (fun v hv Q' hq => (hT v hv).here hq) (wpAny_pure ?_))))
  have hall : ((List.map (fun _ => Value.type "tuple") vs).toArray.all fun x => x == Value.type "tuple") = true := by
    simp only [List.all_toArray, List.all_map, List.all_eq_true]
    intro _ _
    exact beq_self_eq_true _
  obtain ⟨v₁, rest, rfl⟩ : ∃ v₁ rest, vs = v₁ :: rest := by
    have := firsts_len t
    cases vs with
    | nil => simp at this
    | cons v r => exact ⟨v, r, rfl⟩
  have h0 : (List.map (fun _ => Value.type "tuple") (v₁ :: rest)).toArray[0]? = some (Value.type "tuple") := by simp
  rw [h0]
  simp only [hall, if_true]
  exact wpAny_pure (wpAny_pure h)
end
theorem each_firsts {h : Heap} : ∀ {vs : List Value} {rs : List (List Int)}, EachIs (fun v r => ∃ as, Reads h v (enc r) as) vs rs → ∃ fs, Firsts h vs fs ∧ ∀ r rs', rs = r :: rs' → r = [] → ∃ fs', fs = none :: fs'
  | _, _, .nil => ⟨[], trivial, fun r rs' e => by cases e⟩
  | _, _, .cons (b := r) ⟨as, q⟩ t => by
    obtain ⟨fs, h1, _⟩ := each_firsts t
    unfold enc at q
    cases q with
    | @tuple a o xs n _ _ ho hc hd hr =>
      refine ⟨xs[0]? :: fs, ⟨⟨a, o, xs, n, rfl, ho, hc, hd, rfl⟩, h1⟩, fun r0 rs' e e0 => ?_⟩
      cases e
      subst e0
      have hz : xs.toList.length = 0 := by
        have := ReadsAll.length _ _ _ hr
        simpa using this
      refine ⟨fs, ?_⟩
      have h0 : xs[0]? = none := by
        rw [← Array.getElem?_toList]
        exact List.getElem?_eq_none (by omega)
      rw [h0]
section
variable {prog : Program} {w : World} {A : Around} {s : Shared}
/-- roads, the first of which is the empty one, can be sorted -/
theorem sorts_roads {vs : List Value} {rs : List (List Int)} (e : EachIs (fun v r => ∃ as, Reads s.heap v (enc r) as) vs rs) (h0 : ∀ r rs', rs = r :: rs' → r = []) (hu : A.units + 1 < cLine) :
    SortsAt prog w A s (dataKind s.heap (rs.map enc)) vs := by
  have e' : EachIs (fun v d => ∃ as, Reads s.heap v d as) vs (rs.map enc) := each_map (R := fun v d => ∃ as, Reads s.heap v d as) enc e
  refine ⟨fun v hv => ?_, oneType', ?_, fun h2 E Q hq => ?_⟩
  · obtain ⟨d, hd, as, r⟩ := e'.left v hv
    exact ⟨_, dataKind_some (allAlike_enc rs) hd r⟩
  · intro E x y a b Q ha hb hq
    obtain ⟨d, as, hd, ra, rfl⟩ := dataKind_inv ha
    obtain ⟨d', as', hd', rb, rfl⟩ := dataKind_inv hb
    obtain ⟨r, _, rfl⟩ := List.mem_map.mp hd
    obtain ⟨r', _, rfl⟩ := List.mem_map.mp hd'
    rw [keyLt'_oneType]
    refine oneLt_tup ra rb (alike_ints _ _) ?_ hq
    have := depth_enc r
    have h2 : min (enc r).depth (enc r').depth ≤ (enc r).depth := Nat.min_le_left _ _
    show A.units + min (enc r).depth (enc r').depth < cLine
    omega
  · obtain ⟨fs, h1, h3⟩ := each_firsts e
    cases rs with
    | nil => cases e; simp at h2
    | cons r rs' =>
      obtain ⟨fs', rfl⟩ := h3 r rs' rfl (h0 r rs' rfl)
      exact kind_tup0 h1 hq
end
theorem enc_le (a b : List Int) : dataLe false enc a b = !decide (b < a) := by
  show (!dataLt (enc b) (enc a)) = _
  unfold enc
  rw [dataLt_tuple]
  exact congrArg (!·) (dataLt_ints b a)
end Bk

namespace Bk
open PySem PySem.Spec PyProof.Rows L2
open Evl (Ex)
def leR (a b : List Int) : Bool := !decide (b < a)
theorem leR_eq : PySem.W.dataLe false enc = leR := by
  funext a b
  exact enc_le a b
theorem dp_road {K : PySem.W.Frag} {H : Hp} {b : Addr} {r : List Int} (h : H b = some (.tup (r.map V.int))) : Dp K H (.ref b) (enc r) := by
  refine .tup (SqT.of h) ?_
  clear h
  induction r with
  | nil => exact .nil
  | cons i r ih => exact .cons (.int i) ih
theorem map_kV (r : List Int) : (r.map (Sum.inl : Int → Key)).map kV = r.map V.int := by
  rw [List.map_map]
  rfl
section
variable {X : Cx}
/-- the roads that some values are -/
def Rds (H : Hp) (ys : List V) (rs : List (List Int)) : Prop := PySem.W.EachIs (fun (y : V) (r : List Int) => ∃ b : Addr, y = V.ref b ∧ H b = some (.tup (r.map V.int))) ys rs
theorem Rds.dp {K : PySem.W.Frag} {H : Hp} {ys : List V} {rs : List (List Int)} (h : Rds H ys rs) : DpAll K H ys (rs.map enc) := by
  induction h with
  | nil => exact .nil
  | cons h t ih =>
    obtain ⟨b, rfl, hb⟩ := h
    exact .cons (dp_road hb) ih
theorem Rds.len {H : Hp} {ys : List V} {rs : List (List Int)} (h : Rds H ys rs) : ys.length = rs.length := by
  induction h with
  | nil => rfl
  | cons _ _ ih => simp [ih]
theorem Rds.get {H : Hp} {ys : List V} {rs : List (List Int)} (h : Rds H ys rs) : ∀ {i : Nat} {y : V}, ys[i]? = some y → ∃ (b : Addr) (r : List Int), y = V.ref b ∧ rs[i]? = some r ∧ H b = some (.tup (r.map V.int)) := by
  induction h with
  | nil => intro i y e; simp at e
  | cons h t ih =>
    intro i y e
    cases i with
    | zero =>
      obtain ⟨b, e1, hb⟩ := h
      simp at e
      subst e
      exact ⟨b, _, e1, rfl, hb⟩
    | succ i =>
      obtain ⟨b, r, h1, h2, h3⟩ := ih (i := i) (y := y) (by simpa using e)
      exact ⟨b, r, h1, by simpa using h2, h3⟩
theorem cr_sortedDT (hc : X.calm = true) (hu : X.A.units + 64 < cLine) : CallR X (.builtin "sorted") (fun xs H Q => ∃ (a : Addr) (kvs : List (List Key × V)) (rs : List (List Int)), xs = [.ref a] ∧ Rd H a (.dT kvs) ∧
    kvs.map (·.1) = rs.map (·.map Sum.inl) ∧ (∀ r t, rs = r :: t → r = []) ∧ ∀ ys p, Rds H ys (rs.mergeSort leR) → H p = none → Q (.ref p) (upd H p (.lst ys))) := by
  intro pins s σ H xs us Q I r h
  obtain ⟨d, kvs, rs, rfl, hd, hkr, h0, q⟩ := h
  obtain ⟨u, rfl, rx⟩ := r.one
  cases rx
  obtain ⟨z, hs, ks, pr, o, es, ep, ho, hx, hdt, he, hn⟩ := (show ObjOk X.prog X.w H s.heap d (.dT kvs) from hd.ok I.hok)
  have l1 : es.size = ks.length := size_of_entries he
  have l2 : kvs.length = ks.length := Paired.length pr
  have l3 : kvs.length = rs.length := by
    have := congrArg List.length hkr
    simpa using this
  refine Calls.call_function_entry PyProof.Rows.kind_sorted PyProof.Rows.plain_sorted PyProof.Rows.entry_sorted (PyProof.Rows.args_sorted1 _) ?_
  unfold Builtin.«sorted»
  refine wpAny_bind (m := checkCount "sorted" 1 1 _) (wpAny_pure ?_)
  refine wpAny_bind (PySem.W.kdu_collect (A := X.A.in1) (kdl_raw hs hx hdt) (I.ok.hd hc) ho (by omega) fun h' tk acc' hk it => ?_)
  have hal : acc'.toList.length = ks.length := by rw [Array.length_toList, it.1]; exact l1
  have ea : acc'.toList = (ks.map fun x => x.2.1).map Value.ref := by
    rw [List.map_map]
    apply List.ext_getElem?
    intro j
    rw [List.getElem?_map]
    cases hj : acc'.toList[j]? with
    | none =>
      have h1 := List.getElem?_eq_none_iff.mp hj
      rw [List.getElem?_eq_none (by omega)]
      all_goals rfl
    | some v =>
      obtain ⟨en, hen, hv⟩ := it.2 j v (by rw [← Array.getElem?_toList]; exact hj)
      have qe := entry_at he j
      rw [hen] at qe
      cases hb : ks[j]? with
      | none =>
        rw [hb] at qe
        exact nomatch (show some en = none from qe)
      | some b =>
        rw [hb] at qe
        have e2 : en = entryOfKey (tupleKind (mixKind X.prog X.w)) b := Option.some.inj qe
        rw [hv, e2]
        all_goals rfl
  have I1 : Inv X pins σ H { s with heap := h', toks := tk } := I.kept hk
  -- the addresses and their roads
  have hR : PySem.W.EachIs (fun (v : Value) (r : List Int) => ∃ b, v = .ref b ∧ H b = some (.tup (r.map V.int))) acc'.toList rs := by
    rw [ea]
    have key : ∀ (kvs : List (List Key × V)) (ks : List (List Key × Addr × Value)) (rs : List (List Int)), Paired (fun (p : List Key × V) (q : List Key × Addr × Value) => p.1 = q.1 ∧ H q.2.1 = some (.tup (p.1.map kV)) ∧ RelV p.2 q.2.2) kvs ks →
        kvs.map (·.1) = rs.map (·.map Sum.inl) → PySem.W.EachIs (fun (v : Value) (r : List Int) => ∃ b, v = .ref b ∧ H b = some (.tup (r.map V.int))) ((ks.map fun x => x.2.1).map Value.ref) rs := by
      intro kvs ks rs pr hk
      induction pr generalizing rs with
      | nil =>
        cases rs with
        | nil => exact .nil
        | cons r rs => simp at hk
      | cons h t ih =>
        cases rs with
        | nil => simp at hk
        | cons r rs =>
          rw [List.map_cons, List.map_cons] at hk
          injection hk with e1 e2
          refine .cons ⟨_, rfl, ?_⟩ (ih rs e2)
          rw [h.2.1, e1, map_kV]
    exact key kvs ks rs pr hkr
  have hL : acc'.toList.length ≤ sizeLine := by omega
  refine wpAny_bind (wpAny_newList ?_ hL)
  have hoL : (h'.push (seqObj "list" acc'.toList.toArray 0)).get? h'.objs.size = some (seqObj "list" acc'.toList.toArray 0) := Heap.get?_push_size _ rfl
  have keepS : ∀ b o, h'.get? b = some o → (PySem.W.sortingHeap (h'.push (seqObj "list" acc'.toList.toArray 0)) h'.objs.size acc'.toList).get? b = some o := fun b o e => by
    have hb : b < h'.objs.size := Heap.lt_size e
    exact PySem.W.sortingHeap_old (Nat.ne_of_lt hb) (Heap.get?_push_of_some _ e)
  show wpAny _ _ _ _ _ { s with heap := h'.push (seqObj "list" acc'.toList.toArray 0), toks := tk }
  have er : PySem.W.EachIs (fun (v : Value) (r : List Int) => ∃ as, Reads (PySem.W.sortingHeap (h'.push (seqObj "list" acc'.toList.toArray 0)) h'.objs.size acc'.toList) v (enc r) as) acc'.toList rs := hR.mono fun v r ⟨b, e, hb⟩ => by
    subst e
    obtain ⟨as, q⟩ := Dp.reads I1 (enc r) (.ref b) (.ref b) (dp_road hb) rfl
    exact ⟨as, PyProof.Rows.Reads.keeps keepS q⟩
  refine wpAny_bind (wpAny_holding (wpAny_call_entry PyProof.Rows.slot_list_sort ⟨_, hoL, rfl⟩ PyProof.Rows.entry_list_sort
    (PySem.W.list_sort_vals (s := { s with heap := h'.push (seqObj "list" acc'.toList.toArray 0), toks := tk }) (κ := PySem.W.dataKind (PySem.W.sortingHeap (h'.push (seqObj "list" acc'.toList.toArray 0)) h'.objs.size acc'.toList) (rs.map enc)) hoL
      (sorts_roads (s := { s with heap := PySem.W.sortingHeap (h'.push (seqObj "list" acc'.toList.toArray 0)) h'.objs.size acc'.toList, toks := tk }) er h0 (by show X.A.units + 1 + 1 + 1 < cLine; omega)) hL ⟨_, rfl, ?_⟩)
    (PyProof.Rows.args_list_sort _)))
  have out := PySem.W.sortVals_data (R := fun (v : Value) (r : List Int) => ∃ b, v = .ref b ∧ H b = some (.tup (r.map V.int))) false hR er (allAlike_enc rs)
  rw [leR_eq] at out
  generalize hov : PySem.W.sortVals (PySem.W.dataKind (PySem.W.sortingHeap (h'.push (seqObj "list" acc'.toList.toArray 0)) h'.objs.size acc'.toList) (rs.map enc)) false acc'.toList acc'.toList = ov at out ⊢
  obtain ⟨e', he'⟩ := PyProof.Rows.sortedHeap_at (vs := acc'.toList) (out := ov.toArray) hoL
  have hlen : ov.length ≤ sizeLine := by
    rw [out.length, List.length_mergeSort]
    omega
  obtain ⟨bs, eb, hbs⟩ : ∃ bs : List Addr, ov = bs.map Value.ref ∧ Rds H (bs.map V.ref) (rs.mergeSort leR) := by
    clear hov he' hlen e'
    generalize rs.mergeSort leR = rs' at out
    induction out with
    | nil => exact ⟨[], rfl, .nil⟩
    | cons h t ih =>
      obtain ⟨b, rfl, hb⟩ := h
      obtain ⟨bs, rfl, hbs⟩ := ih
      exact ⟨b :: bs, rfl, .cons ⟨b, rfl, hb⟩ hbs⟩
  have rv : Vals (bs.map V.ref) ov := by rw [eb]; exact vals_refs bs
  refine wpAny_pure ⟨_, rfl, .ref h'.objs.size, upd H h'.objs.size (.lst (bs.map V.ref)), I1.laid (t' := tk) (fun b u e => ?_) (Nat.le_refl _)
    (show ObjOk X.prog X.w _ _ _ (.lst (bs.map V.ref)) from ⟨by rw [rv.length]; exact hlen, ov, e', rv, he'⟩), rfl, q _ _ hbs (I1.hok.fresh (Nat.le_refl _))⟩
  have hb : b < h'.objs.size := Heap.lt_size e
  show (PyProof.Rows.sortedHeap _ _ _ _).get? b = some u
  rw [PyProof.Rows.sortedHeap_old (Nat.ne_of_lt hb) (by rw [size_push']; exact Nat.lt_succ_of_lt hb)]
  exact Heap.get?_push_of_some _ e
end
end Bk

namespace Bk
open PySem PySem.Spec PyProof.Rows L2
open Evl (Ex)
section
variable {X : Cx}
/-- xs.count(y), of data -/
def rCountD (K : PySem.W.Frag) : V → List V → Hp → VK → Prop := fun x xs H Q => ∃ (a : Addr) (y : V) (d : PyData) (ds : List PyData), x = V.ref a ∧ xs = [y] ∧ Dp K H (V.ref a) (.list ds) ∧ Dp K H y d ∧
    PyData.canLayAll0 ds = true ∧ SeqAt.shaped d = true ∧ Q (.int (ds.countP fun z => PyData.eqv z d : Nat)) H
theorem mt_countD (hu : X.A.units + 65 < cLine) : MtR X "list.count" (rCountD X.K) := by
  intro pins s σ H x xs v us Q I rx rxs h
  obtain ⟨a, y, d, ds, rfl, rfl, hl, hy, hxs, sd, q⟩ := h
  cases rx
  cases rxs with
  | cons ry rt =>
    rename_i uy ut
    cases rt
    obtain ⟨bs, r1⟩ := Dp.reads I d y uy hy ry
    have hroom : X.A.units + 1 + min (PyData.depthAll ds) d.depth < cLine := by
      have h1 := SeqAt.depth_of_shaped sd
      have h2 : min (PyData.depthAll ds) d.depth ≤ d.depth := Nat.min_le_right _ _
      omega
    cases hl with
    | lst hs ha =>
      obtain ⟨its, rv, ⟨⟨cls, dd, data, sls⟩, n, ho, hc, hdn, hdt⟩, hlen⟩ := I.list hs
      simp only at hc hdt
      subst hc hdt
      obtain ⟨as, h4⟩ := Dp.readsAll I ds _ its ha rv
      have hmap : its.map (SeqAt.readOf s.heap) = ds := SeqAt.readsAll_map ds its as hxs h4
      refine call_meets PySem.F.slot_list_count ⟨_, ho, rfl⟩ PySem.F.entry_list_count (PySem.F.args_list_count_2 _ _)
        (SeqAt.list_countAt a its.toArray n dd sls uy (fun u => PyData.eqv (SeqAt.readOf s.heap u) d)) ⟨ho, SeqAt.items_eqAt (vs := its.toArray) (show ReadsAll s.heap its.toArray.toList ds as from h4) r1 hxs (SeqAt.canLay_of_shaped sd) hroom, ?_⟩
      have ec : its.toArray.toList.countP (fun u => PyData.eqv (SeqAt.readOf s.heap u) d) = ds.countP fun z => PyData.eqv z d := by
        rw [← hmap, List.countP_map]
        rfl
      refine ⟨.int (ds.countP fun z => PyData.eqv z d : Nat), H, I.tok _, ⟨s.toks, ?_⟩, q⟩
      rw [ec]
/-- t * 1 is t -/
theorem tuple_mul1 (l : Addr) (items : Array Value) (n : Nat) (dd : Option Addr) (sl : Array (Option Value)) (u : Tok) :
    Meets (Builtin.«tuple.__mul__» ⟨[.ref l, .int 1 u], []⟩) (fun _ R s => s.heap.get? l = some { cls := .type "tuple", dict := dd, data := .seq items n, slots := sl } ∧ R (.ok (.ret (Value.ref l))) s) :=
  .of_wp fun prog w A R s h => by
    obtain ⟨hp, g, d, tk, os⟩ := s
    obtain ⟨hl, h⟩ := h
    have f1 := AutoSeq1.idx_int
    wp_walk using wpAny_loadPart' hl
    exact ⟨_, rfl, h⟩
def rRepT1 (K : PySem.W.Frag) : R2 := fun x y H Q => ∃ l k xs, x = .ref l ∧ y = .int k ∧ SqT K H l xs ∧ xs ≠ [] ∧ 1 ≤ k ∧ k ≤ 1000 ∧ xs.length ≤ 1000 ∧ (k = 1 → Q (.ref l) H) ∧ (2 ≤ k → ∀ p, H p = none → Q (.ref p) (upd H p (.tup (List.replicate k.toNat xs).flatten)))
theorem op_repT1 : OpR X (binaryOp .Mult) (rRepT1 X.K) := by
  intro pins s σ H x y v u Q I rx ry h
  obtain ⟨l, k, xs, rfl, rfl, hT, hne, h1, h2, hz, q1, q2⟩ := h
  by_cases hk : k = 1
  · subst hk
    cases rx
    obtain ⟨t, rfl⟩ := ry
    obtain ⟨its, r, ⟨⟨cls, dd, data, sl⟩, ho, hc, n, hd⟩, hs⟩ := I.tuple hT
    simp only at hc hd
    subst hc hd
    exact wpAny_binaryOp_repeat_ref (T := "tuple") (U := "int") (by decide) ⟨_, ho, rfl⟩ (fun s' => typeIs_int s' 1 t) noFill_tuple_mul F.fills_int_mul F.slot_int_rmul repeat_tuple F.slot_int_index.lookup
      (call_meets F.slot_int_rmul (typeIs_int s 1 t) F.entry_int_rmul (F.args_int_rmul_2 _ _) (int_rmul_tuple 1 t l its.toArray n dd sl)
        ⟨ho, rfl, ⟨_, ho, rfl⟩, call_meets F.slot_tuple_mul ⟨_, ho, rfl⟩ F.entry_tuple_mul (F.args_tuple_mul_2 _ _) (tuple_mul1 l its.toArray n dd sl t) ⟨ho, .ref l, H, I, rfl, q1 rfl⟩⟩)
  · exact op_repT pins s σ H _ _ v u Q I rx ry ⟨l, k, xs, rfl, rfl, hT, hne, by omega, h2, hz, q2 (by omega)⟩
/-- a * b, whatever they are, below 100 million bits together -/
def CMulB (i j : Int) : Prop := i.natAbs.log2 + j.natAbs.log2 < 100000000
theorem CMulB.ok {i j : Int} (h : CMulB i j) : IntMulOk i j := by
  have b : ∀ x : Int, Builtin.Int.intBits x ≤ x.natAbs.log2 + 1 := fun x => by
    unfold Builtin.Int.intBits
    split <;> omega
  have h1 := b i
  have h2 := b j
  have h3 : i.natAbs.log2 + j.natAbs.log2 < 100000000 := h
  have e : bitsLine = 134217728 := by decide
  unfold IntMulOk
  intro z
  rw [Bool.and_eq_true] at z
  have z2 := z.2
  unfold Builtin.Int.intTooBig at z2
  have z3 := of_decide_eq_true z2
  rw [e] at z3
  omega
theorem op_mulB : OpR X (binaryOp .Mult) (rI CMulB fun i j => .int (i * j)) := opI fun _ _ _ _ _ _ _ hc q => mul_int q hc.ok
theorem iop_mulB : OpR X (inplaceOp .Mult) (rI CMulB fun i j => .int (i * j)) := opI fun _ _ _ _ _ _ _ hc q => imul_int q hc.ok
end
section
variable {X : Cx} {o : Expr} {td : TE} {p pos mpos apos : Pos}
/-- list(o.values()), o a dict with tuple keys -/
def tListVals (td : TE) : TE := fun σ H Q => td σ H fun x H1 => ∃ a kvs, x = V.ref a ∧ H1 a = some (.dT kvs) ∧ ∀ p, H1 p = none → Q (.ref p) (upd H1 p (.lst (kvs.map (·.2))))
theorem pe_listVals (hc : X.calm = true) (hg : Gl X "list") (hm : X.mg "list" = none) (hd : PE X o td) (hbase : attributeBase o "values" X.env (eval o X.env) = eval o X.env := by rfl) (hline : (apos.endLine == mpos.line) = true := by rfl)
    (hse : starEach [Expr.Call (.Attribute o "values" apos) [] [] mpos] X.env = (false, eval (Expr.Call (.Attribute o "values" apos) [] [] mpos) X.env) :: starEach [] X.env := by rfl) :
    PE X (.Call (.Name "list" p) [.Call (.Attribute o "values" apos) [] [] mpos] [] pos) (tListVals td) := by
  refine ⟨fun pins s σ H Q I h => ?_⟩
  refine Call_ (ld_blt I hg hm boot_list (PyProof.Rows.callWith_type1 (args_cons (wpAny_Call_method0_late hbase hline (thn (hd.run pins s σ H _ I h) fun v s1 ⟨x, H1, I1, r1, a, kvs, ex, ha, q⟩ => ?_)) hse) hse))
  subst ex
  obtain rfl : v = Value.ref a := r1
  obtain ⟨z, hs, ks, pr, ob, es, ep, ho, hx, hdt, he, hn⟩ := (show ObjOk X.prog X.w H1 s1.heap a (.dT kvs) from I1.hok a _ ha)
  have l1 : es.size = ks.length := size_of_entries he
  have l2 : kvs.length = ks.length := Paired.length pr
  refine ⟨"dict", "dict.values", F.plainAttrs_dict, F.slot_dict_values, F.type_dict_values, ⟨ob, ho, hx.1⟩, fun b e => ?_, Calls.callWith_builtin rfl (PySem.evalArgs_none ?_)⟩
  · cases e
    exact ⟨ob, ho, hx.2.1⟩
  have raw : s1.heap.DictRaw a es ep := ⟨ob, ho, hx, hdt⟩
  refine call_meetsIn F.slot_dict_values ⟨ob, ho, hx.1⟩ F.entry_dict_values (F.args_dict_values_1 _) (meets_dict_values_raw a hs) ⟨⟨es, ep, raw⟩, args_nil ?_⟩
  have kp1 : ∀ b u, s1.heap.get? b = some u → (s1.heap.push { cls := .type "dict_values", data := .fields #[.ref a] }).get? b = some u := fun b u e => Heap.get?_push_of_some _ e
  have I2 : Inv X pins σ H1 { s1 with heap := s1.heap.push { cls := .type "dict_values", data := .fields #[.ref a] } } := I1.kept (t' := s1.toks) kp1
  have vw : (s1.heap.push { cls := .type "dict_values", data := .fields #[.ref a] }).IsValuesView s1.heap.objs.size a := ⟨_, Heap.get?_push_size _ rfl, rfl, rfl⟩
  refine PySem.W.kdl_call (KdlSrc.rawValues (es := es) (ep := ep)) (I1.ok.hd hc) ⟨vw, raw.push _⟩ (by omega) fun h' tk acc' c' kp e it => ?_
  have hal : acc'.toList.length = ks.length := by rw [Array.length_toList, it.1]; exact l1
  have rv : Vals (kvs.map (·.2)) acc'.toList := by
    have key : ∀ (kvs : List (List Key × V)) (ks : List (List Key × Addr × Value)) (us : List Value), Paired (fun (p : List Key × V) (q : List Key × Addr × Value) => p.1 = q.1 ∧ H1 q.2.1 = some (.tup (p.1.map kV)) ∧ RelV p.2 q.2.2) kvs ks →
        us = ks.map (fun x => x.2.2) → Vals (kvs.map (·.2)) us := by
      intro kvs ks us pr e
      subst e
      induction pr with
      | nil => exact .nil
      | cons h t ih => exact .cons h.2.2 ih
    refine key kvs ks _ pr ?_
    apply List.ext_getElem?
    intro j
    rw [List.getElem?_map]
    cases hj : acc'.toList[j]? with
    | none =>
      have h1 := List.getElem?_eq_none_iff.mp hj
      rw [List.getElem?_eq_none (by omega)]
      all_goals rfl
    | some v =>
      obtain ⟨hlt, hv⟩ := it.2 j v (by rw [← Array.getElem?_toList]; exact hj)
      have qe := entry_at he j
      rw [Array.getElem?_eq_getElem hlt] at qe
      cases hb : ks[j]? with
      | none =>
        rw [hb] at qe
        exact nomatch (show some es[j] = none from qe)
      | some b =>
        rw [hb] at qe
        have e2 : es[j] = entryOfKey (tupleKind (mixKind X.prog X.w)) b := Option.some.inj qe
        rw [hv, e2]
        all_goals rfl
  have hz : (kvs.map (·.2)).length ≤ sizeLine := by rw [List.length_map]; exact z
  have hne := I2.hok.fresh (Nat.le_refl _)
  refine ⟨.ref (s1.heap.push { cls := .type "dict_values", data := .fields #[.ref a] }).objs.size, upd H1 _ (.lst (kvs.map (·.2))), I2.laid (t' := tk) kp (Nat.le_refl _) ?_, rfl, q _ hne⟩
  exact ⟨hz, acc'.toList, c', rv, by rw [Array.toArray_toList]; exact e⟩
end
end Bk

namespace Bk
open PySem PySem.Spec PyProof.Rows L2
open Evl (Ex)
theorem ty_tup {K : PySem.W.Frag} {H : Hp} {a : Addr} {xs : List V} (h : SqT K H a xs) : TyX K H (.ref a) (.type "tuple") := by
  rcases h with (h | ⟨o, h⟩) | ⟨o, its, n, hk, hc, _⟩
  · exact .base (.tup h)
  · exact .fTuple h
  · exact .kTuple hk hc
/-- what a list holds: bushes -/
def LsB (K : PySem.W.Frag) (H : Hp) (q : Addr) (bs : List Bu) : Prop := ∃ vs, H q = some (.lst vs) ∧ DpAll K H vs (bs.map toD)
theorem fz_map (bs : List Bu) : fzA (bs.map toD) = true := fzA_of fun d hd => by
  obtain ⟨b, _, rfl⟩ := List.mem_map.mp hd
  exact fz_toD b
theorem LsB.keep {K : PySem.W.Frag} {H H' : Hp} {q p : Addr} {bs : List Bu} (h : LsB K H q bs) (e : ExB p H H') (n : q ≠ p) (t : Tu H H') : LsB K H' q bs := by
  obtain ⟨vs, h1, h2⟩ := h
  exact ⟨vs, e _ _ n h1, DpAll.tu t _ _ (fz_map bs) h2⟩
theorem LsB.ex {K : PySem.W.Frag} {H H' : Hp} {q : Addr} {bs : List Bu} (h : LsB K H q bs) (e : Ex H H') : LsB K H' q bs := by
  obtain ⟨vs, h1, h2⟩ := h
  exact ⟨vs, e _ _ h1, DpAll.ex e _ _ h2⟩
theorem yesI {σ : L2.St} {H : Hp} {A B : Hp → Prop} (h : A H) : tYes σ H (fun b H3 => if b = true then A H3 else B H3) := by
  show (if true = true then A H else B H)
  rw [if_pos rfl]
  exact h
section
variable {K : PySem.W.Frag} {σ : L2.St} {H : Hp} {te t1 tl : TE}
/-- [y for x in xs for y in f(x)], f(x) a tuple -/
theorem lc2_flat {a : Addr} {xs : List V} {jx jy : Nat} {vs vs1 : List Nat} {Q : VK} (ys : Nat → List V)
    (h : Evl.Ev tl σ H (.ref a)) (hx : SqL K H a xs) (hw : ∀ x, wipe ((wipe σ vs).set jx (some x)) vs = wipe σ vs)
    (hw1 : ∀ x y, wipe ((wipe ((wipe σ vs).set jx (some x)) vs1).set jy (some y)) vs1 = wipe ((wipe σ vs).set jx (some x)) vs1)
    (hy : ∀ x y, ((wipe ((wipe σ vs).set jx (some x)) vs1).set jy (some y))[jy]? = some (some y))
    (ht : ∀ (i : Nat) (x : V) H1, Ex H H1 → xs[i]? = some x → ∀ R : VK, (∀ b H2, Ex H1 H2 → SqT K H2 b (ys i) → R (.ref b) H2) → t1 ((wipe σ vs).set jx (some x)) H1 R)
    (hz : ((List.range xs.length).flatMap ys).length < sizeLine)
    (k : ∀ D H2, H D = none → Ex H H2 → H2 D = some (.lst ((List.range xs.length).flatMap ys)) → Q (.ref D) H2) :
    tLc2 (iList K tl) (gName jx) tYes (iTup K t1) (gName jy) tYes (tVar jy) vs vs1 σ H Q := by
  refine h H (Ex.refl H) _ fun H1 e1 => ⟨a, rfl, ⟨xs, Evl.ex_l e1 hx⟩, fun D hD => ?_⟩
  have hDH : H D = none := Evl.fresh_back e1 hD
  have pre : ∀ i, i < xs.length → ((List.range i).flatMap ys).length + (ys i).length ≤ ((List.range xs.length).flatMap ys).length := fun i hi => by
    have : List.range xs.length = List.range i ++ i :: (List.range xs.length).drop (i + 1) := by
      have h1 := List.take_append_drop i (List.range xs.length)
      have h2 : (List.range xs.length).take i = List.range i := by rw [List.take_range, Nat.min_eq_left (Nat.le_of_lt hi)]
      have h3 : (List.range xs.length).drop i = i :: (List.range xs.length).drop (i + 1) := by rw [List.drop_eq_getElem_cons (by simpa using hi)]; simp
      rw [h2, h3] at h1
      exact h1.symm
    rw [this, List.flatMap_append, List.flatMap_cons, List.length_append, List.length_append]
    omega
  refine ⟨fun i m H' => m = xs.length - i ∧ i ≤ xs.length ∧ Ex H H' ∧ H' D = some (.lst ((List.range i).flatMap ys)), ⟨xs.length, by simp, Nat.zero_le _, e1.trans (ex_new hD), upd_same⟩, ?_⟩
  rintro i m H' ⟨rfl, hi, eH, hL⟩
  have q := Evl.ex_l eH hx
  by_cases hlt : i < xs.length
  · refine .inr ⟨⟨xs, xs[i], q, by simp [hlt]⟩, fun H' => Ex H H' ∧ H' D = some (.lst ((List.range (i + 1)).flatMap ys)), fun H' p' => ⟨xs.length - (i + 1), by omega, rfl, hlt, p'.1, p'.2⟩, fun x H' y => ?_⟩
    obtain ⟨e, y⟩ := y
    subst e
    have hxi := y xs q
    refine ⟨hw x, yesI ?_⟩
    refine ht i x H' eH hxi _ fun b H2 e2 hb => ⟨b, rfl, ⟨_, hb⟩, ?_⟩
    refine ⟨fun j k H' => k = (ys i).length - j ∧ j ≤ (ys i).length ∧ Ex H H' ∧ SqT K H' b (ys i) ∧ H' D = some (.lst ((List.range i).flatMap ys ++ (ys i).take j)), ⟨(ys i).length, by simp, Nat.zero_le _, eH.trans e2, hb, by rw [List.take_zero, List.append_nil]; exact e2 _ _ hL⟩, ?_⟩
    rintro j k H3 ⟨rfl, hj, e3, hb3, hL3⟩
    by_cases hjl : j < (ys i).length
    · refine .inr ⟨⟨ys i, (ys i)[j], hb3, by simp [hjl]⟩, fun H' => Ex H H' ∧ SqT K H' b (ys i) ∧ H' D = some (.lst ((List.range i).flatMap ys ++ (ys i).take (j + 1))), fun H' p' => ⟨(ys i).length - (j + 1), by omega, rfl, hjl, p'.1, p'.2.1, p'.2.2⟩, fun yv H4 y4 => ?_⟩
      obtain ⟨e4, y4⟩ := y4
      subst e4
      have hyj := y4 (ys i) hb3
      refine ⟨hw1 x yv, yesI ?_⟩
      refine ⟨yv, hy x yv, _, hL3, ?_, Evl.Ex.mut e3 hDH, ?_, ?_⟩
      · have := pre i hlt
        rw [List.length_append, List.length_take]
        omega
      · exact (tu_lst hL3).seq hb3
      · rw [upd_same, List.take_add_one, hyj, List.append_assoc]
        rfl
    · refine .inl ⟨⟨ys i, hb3, by omega⟩, e3, ?_⟩
      rw [hL3, List.range_succ, List.flatMap_append, List.take_of_length_le (by omega)]
      simp
  · have e : i = xs.length := by omega
    subst e
    exact .inl ⟨⟨xs, q, Nat.le_refl _⟩, k D H' hDH eH hL⟩
theorem el_lc2 {a : Addr} {xs : List V} {jx jy : Nat} {vs vs1 : List Nat} (ys : Nat → List V)
    (h : Evl.Ev tl σ H (.ref a)) (hx : SqL K H a xs) (hw : ∀ x, wipe ((wipe σ vs).set jx (some x)) vs = wipe σ vs)
    (hw1 : ∀ x y, wipe ((wipe ((wipe σ vs).set jx (some x)) vs1).set jy (some y)) vs1 = wipe ((wipe σ vs).set jx (some x)) vs1)
    (hy : ∀ x y, ((wipe ((wipe σ vs).set jx (some x)) vs1).set jy (some y))[jy]? = some (some y))
    (ht : ∀ (i : Nat) (x : V) H1, Ex H H1 → xs[i]? = some x → ∀ R : VK, (∀ b H2, Ex H1 H2 → SqT K H2 b (ys i) → R (.ref b) H2) → t1 ((wipe σ vs).set jx (some x)) H1 R)
    (hz : ((List.range xs.length).flatMap ys).length < sizeLine) :
    Evl.EvL (tLc2 (iList K tl) (gName jx) tYes (iTup K t1) (gName jy) tYes (tVar jy) vs vs1) σ H ((List.range xs.length).flatMap ys) := fun H1 e Q k =>
  lc2_flat ys (h.mono e) (Evl.ex_l e hx) hw hw1 hy (fun i x H2 e2 => ht i x H2 (e.trans e2)) hz k
end
end Bk
namespace Bk
open PySem PySem.Spec PyProof.Rows L2
open Evl (Ex)
/-- the branches -/
def kids : Bu → List Bu
  | .tip => []
  | .knot _ bs => bs
theorem itm_kids (b : Bu) : (itm b).drop 1 = (kids b).map toD := by cases b <;> rfl
theorem cut_from1 (xs : List V) : cutV xs (some 1) none = xs.drop 1 := by
  unfold cutV
  have e1 : HT.sIx xs.length 0 (some 1) = min 1 xs.length := HT.sIx_nat xs.length 0 1
  rw [e1, HT.sIx_none]
  cases xs with
  | nil => rfl
  | cons x r =>
    have e2 : min 1 (x :: r).length = 1 := by rw [List.length_cons]; omega
    rw [e2]
    exact List.take_of_length_le (by simp)
theorem sl_from1 {K : PySem.W.Frag} {σ : L2.St} {H : Hp} {j : Nat} {a : Addr} {xs : List V} {R : VK} (hj : σ[j]? = some (some (.ref a))) (hx : SqT K H a xs) (k : ∀ b H2, Ex H H2 → SqT K H2 b (xs.drop 1) → R (.ref b) H2) :
    tSl (rSlA K) (tVar j) (tPart (tC (.int 1))) tNoPart σ H R := by
  refine ⟨_, hj, 1, rfl, a, xs, rfl, hx, fun h => ?_, fun h p hp => ?_⟩
  · refine k a H (Evl.Ex.refl H) ?_
    have e1 : HT.sIx xs.length 0 (some 1) = min 1 xs.length := HT.sIx_nat xs.length 0 1
    rw [e1] at h
    have h0 : xs = [] := by
      cases xs with
      | nil => rfl
      | cons x r =>
        rw [List.length_cons] at h
        omega
    subst h0
    exact hx
  · refine k p _ (ex_new hp) ?_
    rw [cut_from1]
    exact SqT.of upd_same
theorem bu_dp {K : PySem.W.Frag} {H : Hp} {v : V} {b : Bu} (h : Dp K H v (toD b)) : ∃ a xs, v = .ref a ∧ SqT K H a xs ∧ DpAll K H xs (itm b) := by
  rw [toD_itm] at h
  exact dp_tup h
theorem dpAll_map {K : PySem.W.Frag} {H : Hp} {xs : List V} {bs : List Bu} (h : DpAll K H xs (bs.map toD)) {i : Nat} {x : V} (e : xs[i]? = some x) : ∃ b, bs[i]? = some b ∧ Dp K H x (toD b) := by
  obtain ⟨d, h1, h2⟩ := DpAll.get h e
  rw [List.getElem?_map] at h1
  cases hb : bs[i]? with
  | none => rw [hb] at h1; cases h1
  | some b =>
    rw [hb] at h1
    cases h1
    exact ⟨b, rfl, h2⟩
end Bk

namespace Bk
open PySem PySem.Spec PyProof.Rows L2
open Evl (Ex Ev EvT EvL EvU EvA)
theorem okB_knot {c : Nat} {bs : List Bu} (h : okB (.knot c bs) = true) : (97 ≤ c ∧ c ≤ 122) ∧ (1 ≤ bs.length ∧ bs.length ≤ 6) ∧ okBs bs = true := by
  simp only [okB, Bool.and_eq_true, decide_eq_true_eq] at h
  exact ⟨⟨h.1.1.1.1, h.1.1.1.2⟩, ⟨h.1.1.2, h.1.2⟩, h.2⟩
theorem okBs_mem : ∀ {bs : List Bu} {b : Bu}, okBs bs = true → b ∈ bs → okB b = true
  | x :: xs, b, h, hb => by
    simp only [okBs, Bool.and_eq_true] at h
    rcases List.mem_cons.mp hb with e | e
    · rw [e]; exact h.1
    · exact okBs_mem h.2 e
theorem okBs_of {bs : List Bu} (h : ∀ b ∈ bs, okB b = true) : okBs bs = true := by
  induction bs with
  | nil => rfl
  | cons b bs ih =>
    simp only [okBs, Bool.and_eq_true]
    exact ⟨h b List.mem_cons_self, ih fun x hx => h x (List.mem_cons_of_mem _ hx)⟩
theorem strOk1 {c : Nat} (h : c ≤ 122) : PyData.strOk { cps := #[c] } = true := by
  unfold PyData.strOk
  simp
  omega
mutual
theorem lay_toD : ∀ b : Bu, okB b = true → (toD b).canLay0 = true
  | .tip, _ => by simp [toD, PyData.canLay0, PyData.canLayAll0]
  | .knot c bs, h => by
    obtain ⟨⟨_, h2⟩, _, h3⟩ := okB_knot h
    simp [toD, PyData.canLay0, PyData.canLayAll0, lay_toDs bs h3, strOk1 h2]
theorem lay_toDs : ∀ bs : List Bu, okBs bs = true → PyData.canLayAll0 (toDs bs) = true
  | [], _ => by simp [toDs, PyData.canLayAll0]
  | b :: bs, h => by
    have h' : okB b = true ∧ okBs bs = true := by simpa [okBs] using h
    simp [toDs, PyData.canLayAll0, lay_toD b h'.1, lay_toDs bs h'.2]
end
theorem lay_map {bs : List Bu} (h : okBs bs = true) : PyData.canLayAll0 (bs.map toD) = true := by rw [← toDs_map]; exact lay_toDs bs h
mutual
theorem depth_toD : ∀ b : Bu, (toD b).depth ≤ dep b + 1
  | .tip => by simp [toD, PyData.depth, PyData.depthAll, dep]
  | .knot c bs => by
    have := depth_toDs bs
    simp only [toD, PyData.depth, PyData.depthAll, dep]
    omega
theorem depth_toDs : ∀ bs : List Bu, PyData.depthAll (toDs bs) ≤ deps bs + 1
  | [] => by simp [toDs, PyData.depthAll]
  | b :: bs => by
    have h1 := depth_toD b
    have h2 := depth_toDs bs
    simp only [toDs, PyData.depthAll, deps]
    omega
end
theorem shaped_toD {b : Bu} (ho : okB b = true) (h : dep b ≤ 60) : SeqAt.shaped (toD b) = true := by
  have := depth_toD b
  show ((toD b).canLay0 && decide ((toD b).depth ≤ 64)) = true
  rw [lay_toD b ho, decide_eq_true (by omega)]
  rfl
theorem shaped_tup0 : SeqAt.shaped (.tuple []) = true := by decide
mutual
theorem eqv_toD : ∀ a b : Bu, PyData.eqv (toD a) (toD b) = true ↔ a = b
  | .tip, .tip => by simp [toD, PyData.eqv, PyData.eqvAll]
  | .tip, .knot c bs => by simp [toD, PyData.eqv, PyData.eqvAll]
  | .knot c bs, .tip => by simp [toD, PyData.eqv, PyData.eqvAll]
  | .knot c bs, .knot d es => by
    have ih := eqv_toDs bs es
    simp only [toD, PyData.eqv, PyData.eqvAll, Bool.and_eq_true, beq_iff_eq, ih]
    constructor
    · rintro ⟨h1, h2⟩
      rw [str1_inj h1, h2]
    · intro h
      injection h with h1 h2
      exact ⟨by rw [h1], h2⟩
theorem eqv_toDs : ∀ a b : List Bu, PyData.eqvAll (toDs a) (toDs b) = true ↔ a = b
  | [], [] => by simp [toDs, PyData.eqvAll]
  | [], _ :: _ => by simp [toDs, PyData.eqvAll]
  | _ :: _, [] => by simp [toDs, PyData.eqvAll]
  | x :: xs, y :: ys => by
    have h1 := eqv_toD x y
    have h2 := eqv_toDs xs ys
    simp only [toDs, PyData.eqvAll, Bool.and_eq_true, h1, h2, List.cons.injEq]
end
theorem isTip_eqv (b : Bu) : PyData.eqv (toD b) (.tuple []) = (match b with | .tip => true | .knot _ _ => false) := by
  cases b with
  | tip => simp [toD, PyData.eqv, PyData.eqvAll]
  | knot c bs => simp [toD, PyData.eqv, PyData.eqvAll]
def isTip : Bu → Bool
  | .tip => true
  | .knot _ _ => false
theorem evT_yes {σ : L2.St} {H : Hp} : EvT tYes σ H true := fun H1 _ Q q => q H1 (Evl.Ex.refl H1)
theorem given_all (n : Nat) (v : Nat → V) : Evl.given n (fun _ => true) v = (List.range n).map v := by
  unfold Evl.given
  rw [List.filter_eq_self.mpr (fun _ _ => rfl)]
theorem range_getD {α β : Type} (l : List α) (d : α) (f : α → β) : (List.range l.length).map (fun i => f (l.getD i d)) = l.map f := by
  apply List.ext_getElem?
  intro i
  rw [List.getElem?_map, List.getElem?_map]
  by_cases h : i < l.length
  · rw [List.getElem?_range h, List.getElem?_eq_getElem h]
    simp [List.getD_eq_getElem?_getD, h]
  · rw [List.getElem?_eq_none (by simpa using h), List.getElem?_eq_none (by omega)]
    rfl
section
variable {K : PySem.W.Frag} {σ : L2.St} {H : Hp} {te tl : TE}
theorem ev_sumL {ns : List Int} (h : EvL te σ H (ns.map V.int)) : Ev (tCB (rSum K) (tCons te tNil)) σ H (.int ns.sum) := fun H1 e Q q =>
  h H1 e _ fun p H2 _ e2 hp => ⟨p, ns, rfl, SqL.of hp, q H2 e2⟩
theorem ev_sumV {ns : List Int} {a : Addr} (h : Ev te σ H (.ref a)) (hx : SqL K H a (ns.map V.int)) : Ev (tCB (rSum K) (tCons te tNil)) σ H (.int ns.sum) := fun H1 e Q q =>
  h H1 e _ fun H2 e2 => ⟨a, ns, rfl, Evl.ex_l (e.trans e2) hx, q H2 e2⟩
theorem ev_minL {ns : List Int} {m : Int} (h : EvL te σ H (ns.map V.int)) (hm : m ∈ ns) (hl : ∀ y ∈ ns, m ≤ y) : Ev (tCB (rMin K) (tCons te tNil)) σ H (.int m) := fun H1 e Q q =>
  h H1 e _ fun p H2 _ e2 hp => ⟨p, ns, rfl, SqL.of hp, List.length_pos_iff.mpr (List.ne_nil_of_mem hm), fun m' h1 h2 => by
    have : m' = m := Int.le_antisymm (h2 m hm) (hl m' h1)
    rw [this]
    exact q H2 e2⟩
theorem ev_minV {ns : List Int} {m : Int} {a : Addr} (h : Ev te σ H (.ref a)) (hx : SqL K H a (ns.map V.int)) (hm : m ∈ ns) (hl : ∀ y ∈ ns, m ≤ y) : Ev (tCB (rMin K) (tCons te tNil)) σ H (.int m) := fun H1 e Q q =>
  h H1 e _ fun H2 e2 => ⟨a, ns, rfl, Evl.ex_l (e.trans e2) hx, List.length_pos_iff.mpr (List.ne_nil_of_mem hm), fun m' h1 h2 => by
    have : m' = m := Int.le_antisymm (h2 m hm) (hl m' h1)
    rw [this]
    exact q H2 e2⟩
theorem ev_maxV {ns : List Int} {m : Int} {a : Addr} (h : Ev te σ H (.ref a)) (hx : SqL K H a (ns.map V.int)) (hm : m ∈ ns) (hl : ∀ y ∈ ns, y ≤ m) : Ev (tCB (rMax K) (tCons te tNil)) σ H (.int m) := fun H1 e Q q =>
  h H1 e _ fun H2 e2 => ⟨a, ns, rfl, Evl.ex_l (e.trans e2) hx, List.length_pos_iff.mpr (List.ne_nil_of_mem hm), fun m' h1 h2 => by
    have : m' = m := Int.le_antisymm (hl m' h1) (h2 m hm)
    rw [this]
    exact q H2 e2⟩
theorem ev_countTip {q : Addr} {l : List Bu} (h : Ev te σ H (.ref q)) (hq : LsB K H q l) (ho : okBs l = true) : Ev (tBM K "list" (rCountD K) te (tCons (tTup tNil) tNil)) σ H (.int (l.countP isTip : Nat)) := fun H1 e Q k =>
  h H1 e _ fun H2 e2 => by
    obtain ⟨vs, h1, h2⟩ := hq.ex (e.trans e2)
    refine ⟨Or.inl ⟨rfl, _, SqL.of h1⟩, Nat.zero_le _, fun p hp => ?_⟩
    have e3 : Ex H2 (upd H2 p (.tup [])) := ex_new hp
    refine ⟨q, .ref p, .tuple [], l.map toD, rfl, rfl, .lst (SqL.of (e3 _ _ h1)) (DpAll.ex e3 _ _ h2), .tup (SqT.of upd_same) .nil, lay_map ho, shaped_tup0, ?_⟩
    have ec : (l.map toD).countP (fun z => PyData.eqv z (.tuple [])) = l.countP isTip := by
      rw [List.countP_map]
      congr 1
      funext b
      exact isTip_eqv b
    rw [ec]
    exact k _ (e2.trans e3)
theorem ev_lenB {q : Addr} {l : List Bu} (h : Ev te σ H (.ref q)) (hq : LsB K H q l) : Ev (tCB (Evl.rLenS K) (tCons te tNil)) σ H (.int (l.length : Nat)) := by
  obtain ⟨vs, h1, h2⟩ := hq
  have := Evl.ev_len (K := K) h (SqL.of h1)
  rw [show vs.length = l.length by rw [DpAll.len h2, List.length_map]] at this
  exact this
/-- [i for i, n in enumerate(ns) if n > 0] -/
theorem el_enum {ns : List Int} {a : Addr} {jd jm : Nat} {vs : List Nat} {tn : TGs} (h : Ev tl σ H (.ref a)) (hx : SqL K H a (ns.map V.int)) (hz : ns.length ≤ 40000)
    (htn : ∀ (x y : V) (σ' : L2.St) (H' : Hp) (R : L2.St → Hp → Prop), R ((σ'.set jd (some x)).set jm (some y)) H' → tn [x, y] σ' H' R)
    (hw : ∀ x y, wipe (((wipe σ vs).set jd (some x)).set jm (some y)) vs = wipe σ vs) (hd : ∀ x y, (((wipe σ vs).set jd (some x)).set jm (some y))[jd]? = some (some x)) (hm : ∀ x y, (((wipe σ vs).set jd (some x)).set jm (some y))[jm]? = some (some y)) :
    EvL (tLc (iEnum K (tCons tl tNil)) (gTup K 2 tn) (tTest (tOp (rI0 fun i j => .bl (decide (j < i))) (tVar jm) (tC (.int 0)))) (tVar jd) vs) σ H (Evl.given ns.length (fun i => decide (0 < ns.getD i 0)) (fun i => .int (i : Nat))) := by
  intro H0 e0 Q q
  refine h H0 e0 _ fun H1 e1 => ⟨a, _, rfl, Evl.ex_l (e0.trans e1) hx, fun D hD => ?_⟩
  have hDH : H0 D = none := Evl.fresh_back e1 hD
  refine ⟨fun i m H' => m = ns.length - i ∧ i ≤ ns.length ∧ Ex H0 H' ∧ H' D = some (.lst (Evl.given i (fun i => decide (0 < ns.getD i 0)) (fun i => .int (i : Nat)))), ⟨ns.length, by simp, Nat.zero_le _, e1.trans (ex_new hD), upd_same⟩, ?_⟩
  rintro i m H' ⟨rfl, hi, eH, hL⟩
  have qx := Evl.ex_l (e0.trans eH) hx
  by_cases hlt : i < ns.length
  · refine .inr ⟨⟨_, .int ns[i], qx, by simp [hlt]⟩, fun H' => Ex H0 H' ∧ H' D = some (.lst (Evl.given (i + 1) (fun i => decide (0 < ns.getD i 0)) (fun i => .int (i : Nat)))), fun H' p' => ⟨ns.length - (i + 1), by omega, rfl, hlt, p'.1, p'.2⟩, fun x H2 y => ?_⟩
    obtain ⟨T, x1, rfl, hT, rfl, hf⟩ := y
    have ex1 : x1 = .int ns[i] := by
      have := hf _ qx
      rw [List.getElem?_map, List.getElem?_eq_getElem hlt] at this
      exact (Option.some.inj this).symm
    subst ex1
    have eT : Ex H' (upd H' T (.tup [.int (i : Nat), .int ns[i]])) := ex_new hT
    refine ⟨T, _, rfl, SqT.of upd_same, rfl, ?_⟩
    refine htn _ _ _ _ _ ?_
    refine ⟨hw _ _, ?_⟩
    refine ⟨_, hm _ _, _, _, rfl, rfl, _, rfl, ?_⟩
    have eg : ns.getD i 0 = ns[i] := by simp [List.getD_eq_getElem?_getD, hlt]
    have hLT := eT _ _ hL
    by_cases hp : 0 < ns[i]
    · have hc : decide (0 < ns.getD i 0) = true := decide_eq_true (by rw [eg]; exact hp)
      rw [decide_eq_true hp]
      refine iteT ⟨_, hd _ _, _, hLT, ?_, Evl.Ex.mut (eH.trans eT) hDH, ?_⟩
      · have := Evl.given_len i (fun i => decide (0 < ns.getD i 0)) (fun i => V.int (i : Nat))
        exact Nat.lt_of_le_of_lt (show _ ≤ 40000 by omega) (by decide)
      · rw [upd_same, Evl.given_yes hc]
    · have hc : decide (0 < ns.getD i 0) = false := decide_eq_false (by rw [eg]; exact hp)
      rw [decide_eq_false hp]
      refine iteF ⟨eH.trans eT, ?_⟩
      rw [hLT, Evl.given_no hc]
  · have e : i = ns.length := by omega
    subst e
    exact .inl ⟨⟨_, qx, by simp⟩, q D H' hDH eH hL⟩
end
end Bk

namespace Bk
open PySem PySem.Spec PyProof.Rows L2
open Evl (Ex Ev EvT EvL EvU EvA)
section
variable {K : PySem.W.Frag} {σ : L2.St} {H : Hp} {te tl : TE}
/-- [f(x) for x in t], t a tuple, f(x) data that never changes -/
theorem lc_dataT {xs : List V} {ds : List PyData} {j : Nat} {vs : List Nat} {Q : VK} (hz : xs.length = ds.length) (hz2 : ds.length < 40000) (hf : fzA ds = true)
    (htl : ∀ R : VK, (∀ b H2, Ex H H2 → SqT K H2 b xs → R (.ref b) H2) → tl σ H R) (hw : ∀ x, wipe ((wipe σ vs).set j (some x)) vs = wipe σ vs)
    (he : ∀ (i : Nat) (x : V) (d : PyData) H1, Ex H H1 → xs[i]? = some x → ds[i]? = some d → ∀ R : VK, (∀ v H2, Ex H1 H2 → Dp K H2 v d → R v H2) → te ((wipe σ vs).set j (some x)) H1 R)
    (k : ∀ D H2 us, H D = none → Ex H H2 → H2 D = some (.lst us) → DpAll K H2 us ds → Q (.ref D) H2) : tLc (iTup K tl) (gName j) tYes te vs σ H Q := by
  refine htl _ fun a H1 e1 hx => ⟨a, rfl, ⟨xs, hx⟩, fun D hD => ?_⟩
  have hDH : H D = none := Evl.fresh_back e1 hD
  refine ⟨fun i m H' => m = xs.length - i ∧ i ≤ xs.length ∧ Ex H H' ∧ SqT K H' a xs ∧ ∃ us, H' D = some (.lst us) ∧ DpAll K H' us (ds.take i), ⟨xs.length, by simp, Nat.zero_le _, e1.trans (ex_new hD), Evl.ex_t (ex_new hD) hx, [], upd_same, by rw [List.take_zero]; exact .nil⟩, ?_⟩
  rintro i m H' ⟨rfl, hi, eH, hq, us, hL, hD2⟩
  by_cases hlt : i < xs.length
  · refine .inr ⟨⟨xs, xs[i], hq, by simp [hlt]⟩, fun H' => Ex H H' ∧ SqT K H' a xs ∧ ∃ us, H' D = some (.lst us) ∧ DpAll K H' us (ds.take (i + 1)), fun H' p' => ⟨xs.length - (i + 1), by omega, rfl, hlt, p'.1, p'.2.1, p'.2.2⟩, fun x H2 y => ?_⟩
    obtain ⟨e, y⟩ := y
    subst e
    have hxi := y xs hq
    have hid : i < ds.length := by omega
    refine ⟨hw x, yesI ?_⟩
    refine he i x ds[i] H2 eH hxi (by simp [hid]) _ fun v H3 e3 hv => ?_
    have hl := DpAll.len hD2
    have t3 : Tu H2 H3 := Tu.ex e3
    have hL3 := e3 _ _ hL
    have t4 : Tu H3 (upd H3 D (.lst (us ++ [v]))) := tu_lst hL3
    refine ⟨us, hL3, ?_, Evl.Ex.mut (eH.trans e3) hDH, t4.seq (t3.seq hq), us ++ [v], upd_same, ?_⟩
    · rw [hl, List.length_take]
      exact Nat.lt_of_lt_of_le (show min i ds.length < 40000 by omega) (by decide)
    · have ft : fzA (ds.take i) = true := fzA_of fun d hd => by
        obtain ⟨m, hm⟩ := List.getElem?_of_mem (List.mem_of_mem_take hd)
        exact fzA_get hf hm
      have e : ds.take (i + 1) = ds.take i ++ [ds[i]] := by rw [List.take_add_one]; simp [hid]
      rw [e]
      exact DpAll.snoc (DpAll.tu t4 _ _ ft (DpAll.tu t3 _ _ ft hD2)) (Dp.tu t4 _ _ (fzA_get hf (i := i) (by simp [hid])) hv)
  · have e : i = xs.length := by omega
    subst e
    rw [hz, List.take_length] at hD2
    exact .inl ⟨⟨xs, hq, Nat.le_refl _⟩, k D H' us hDH eH hL hD2⟩
theorem lc_dataL {a : Addr} {xs : List V} {ds : List PyData} {j : Nat} {vs : List Nat} {Q : VK} (hz : xs.length = ds.length) (hz2 : ds.length < 40000) (hf : fzA ds = true)
    (htl : Ev tl σ H (.ref a)) (hx : SqL K H a xs) (hw : ∀ x, wipe ((wipe σ vs).set j (some x)) vs = wipe σ vs)
    (he : ∀ (i : Nat) (x : V) (d : PyData) H1, Ex H H1 → xs[i]? = some x → ds[i]? = some d → ∀ R : VK, (∀ v H2, Ex H1 H2 → Dp K H2 v d → R v H2) → te ((wipe σ vs).set j (some x)) H1 R)
    (k : ∀ D H2 us, H D = none → Ex H H2 → H2 D = some (.lst us) → DpAll K H2 us ds → Q (.ref D) H2) : tLc (iList K tl) (gName j) tYes te vs σ H Q := by
  refine htl H (Evl.Ex.refl H) _ fun H1 e1 => ⟨a, rfl, ⟨xs, Evl.ex_l e1 hx⟩, fun D hD => ?_⟩
  have hDH : H D = none := Evl.fresh_back e1 hD
  refine ⟨fun i m H' => m = xs.length - i ∧ i ≤ xs.length ∧ Ex H H' ∧ ∃ us, H' D = some (.lst us) ∧ DpAll K H' us (ds.take i), ⟨xs.length, by simp, Nat.zero_le _, e1.trans (ex_new hD), [], upd_same, by rw [List.take_zero]; exact .nil⟩, ?_⟩
  rintro i m H' ⟨rfl, hi, eH, us, hL, hD2⟩
  have hq := Evl.ex_l eH hx
  by_cases hlt : i < xs.length
  · refine .inr ⟨⟨xs, xs[i], hq, by simp [hlt]⟩, fun H' => Ex H H' ∧ ∃ us, H' D = some (.lst us) ∧ DpAll K H' us (ds.take (i + 1)), fun H' p' => ⟨xs.length - (i + 1), by omega, rfl, hlt, p'.1, p'.2⟩, fun x H2 y => ?_⟩
    obtain ⟨e, y⟩ := y
    subst e
    have hxi := y xs hq
    have hid : i < ds.length := by omega
    refine ⟨hw x, yesI ?_⟩
    refine he i x ds[i] H2 eH hxi (by simp [hid]) _ fun v H3 e3 hv => ?_
    have hl := DpAll.len hD2
    have t3 : Tu H2 H3 := Tu.ex e3
    have hL3 := e3 _ _ hL
    have t4 : Tu H3 (upd H3 D (.lst (us ++ [v]))) := tu_lst hL3
    refine ⟨us, hL3, ?_, Evl.Ex.mut (eH.trans e3) hDH, us ++ [v], upd_same, ?_⟩
    · rw [hl, List.length_take]
      exact Nat.lt_of_lt_of_le (show min i ds.length < 40000 by omega) (by decide)
    · have ft : fzA (ds.take i) = true := fzA_of fun d hd => by
        obtain ⟨m, hm⟩ := List.getElem?_of_mem (List.mem_of_mem_take hd)
        exact fzA_get hf hm
      have e : ds.take (i + 1) = ds.take i ++ [ds[i]] := by rw [List.take_add_one]; simp [hid]
      rw [e]
      exact DpAll.snoc (DpAll.tu t4 _ _ ft (DpAll.tu t3 _ _ ft hD2)) (Dp.tu t4 _ _ (fzA_get hf (i := i) (by simp [hid])) hv)
  · have e : i = xs.length := by omega
    subst e
    rw [hz, List.take_length] at hD2
    exact .inl ⟨⟨xs, hq, Nat.le_refl _⟩, k D H' us hDH eH hL hD2⟩
theorem nx_of {D : Ends} (h : D.nx σ H) : tNext D σ H := h
theorem q_lcT {xs : List V} {ds : List PyData} {i j : Nat} {vs : List Nat} {D0 : Ends} {tz : TS} (hz : xs.length = ds.length) (hz2 : ds.length < 40000) (hf : fzA ds = true)
    (htl : ∀ R : VK, (∀ b H2, Ex H H2 → SqT K H2 b xs → R (.ref b) H2) → tl σ H R) (hw : ∀ x, wipe ((wipe σ vs).set j (some x)) vs = wipe σ vs)
    (he : ∀ (i : Nat) (x : V) (d : PyData) H1, Ex H H1 → xs[i]? = some x → ds[i]? = some d → ∀ R : VK, (∀ v H2, Ex H1 H2 → Dp K H2 v d → R v H2) → te ((wipe σ vs).set j (some x)) H1 R)
    (k : ∀ D H2 us, H D = none → Ex H H2 → H2 D = some (.lst us) → DpAll K H2 us ds → tz D0 (σ.set i (some (.ref D))) H2) : tSeq (tAsg (tLc (iTup K tl) (gName j) tYes te vs) (gName i)) tz D0 σ H :=
  lc_dataT (Q := fun v H1 => tz D0 (σ.set i (some v)) H1) hz hz2 hf htl hw he k
theorem q_lcL {a : Addr} {xs : List V} {ds : List PyData} {i j : Nat} {vs : List Nat} {D0 : Ends} {tz : TS} (hz : xs.length = ds.length) (hz2 : ds.length < 40000) (hf : fzA ds = true)
    (htl : Ev tl σ H (.ref a)) (hx : SqL K H a xs) (hw : ∀ x, wipe ((wipe σ vs).set j (some x)) vs = wipe σ vs)
    (he : ∀ (i : Nat) (x : V) (d : PyData) H1, Ex H H1 → xs[i]? = some x → ds[i]? = some d → ∀ R : VK, (∀ v H2, Ex H1 H2 → Dp K H2 v d → R v H2) → te ((wipe σ vs).set j (some x)) H1 R)
    (k : ∀ D H2 us, H D = none → Ex H H2 → H2 D = some (.lst us) → DpAll K H2 us ds → tz D0 (σ.set i (some (.ref D))) H2) : tSeq (tAsg (tLc (iList K tl) (gName j) tYes te vs) (gName i)) tz D0 σ H :=
  lc_dataL (Q := fun v H1 => tz D0 (σ.set i (some v)) H1) hz hz2 hf htl hx hw he k
end
end Bk

namespace Bk
open PySem PySem.Spec PyProof.Rows L2
open Evl (Ex Ev EvT EvL EvU EvA)
/-! ### expressions that give data, and leave all that is there -/
def EvD (K : PySem.W.Frag) (te : TE) (σ : L2.St) (H : Hp) (d : PyData) : Prop := ∀ H1, Ex H H1 → ∀ R : VK, (∀ v H2, Ex H1 H2 → Dp K H2 v d → R v H2) → te σ H1 R
def EvAD (K : PySem.W.Frag) (ta : TA) (σ : L2.St) (H : Hp) (ds : List PyData) : Prop := ∀ H1, Ex H H1 → ∀ R : List V → Hp → Prop, (∀ vs H2, Ex H1 H2 → DpAll K H2 vs ds → R vs H2) → ta σ H1 R
section
variable {K : PySem.W.Frag} {σ : L2.St} {H H' : Hp} {te tl ta tb : TE} {d e : PyData} {ds es : List PyData} {t : TT}
theorem EvD.mono (e : Ex H H') (h : EvD K te σ H d) : EvD K te σ H' d := fun H1 a R r => h H1 (e.trans a) R r
theorem EvAD.mono {ta : TA} (e : Ex H H') (h : EvAD K ta σ H ds) : EvAD K ta σ H' ds := fun H1 a R r => h H1 (e.trans a) R r
theorem ed_var {j : Nat} {v : V} (hj : σ[j]? = some (some v)) (h : Dp K H v d) : EvD K (tVar j) σ H d := fun H1 a R r => ⟨v, hj, r v H1 (Evl.Ex.refl H1) (Dp.ex a _ _ h)⟩
theorem ed_int {i : Int} : EvD K (tC (.int i)) σ H (.int i) := fun H1 _ R r => r _ H1 (Evl.Ex.refl H1) (.int i)
theorem ed_str {s : Str} : EvD K (tC (.str s)) σ H (.str s) := fun H1 _ R r => r _ H1 (Evl.Ex.refl H1) (.str s)
theorem ed_ev {i : Int} (h : Ev te σ H (.int i)) : EvD K te σ H (.int i) := fun H1 a R r => h H1 a _ fun H2 e2 => r _ H2 e2 (.int i)
theorem ed_is (h : EvD K te σ H d) (e : d = e') : EvD K te σ H e' := e ▸ h
theorem ead_nil : EvAD K tNil σ H [] := fun H1 _ R r => r [] H1 (Evl.Ex.refl H1) .nil
theorem ead_cons {tr : TA} (h : EvD K te σ H d) (hr : EvAD K tr σ H ds) : EvAD K (tCons te tr) σ H (d :: ds) := fun H1 a R r =>
  h H1 a _ fun v H2 e2 hv => hr H2 (a.trans e2) _ fun vs H3 e3 hvs => r (v :: vs) H3 (e2.trans e3) (.cons (Dp.ex e3 _ _ hv) hvs)
theorem ed_call {sp : Sp} {E : XK} {ta : TA} (h : EvAD K ta σ H ds) (hs : ∀ vs H1, Ex H H1 → DpAll K H1 vs ds → ∀ R : VK, (∀ v H2, Ex H1 H2 → Dp K H2 v d → R v H2) → sp vs H1 R E) : EvD K (tCall sp [] E ta) σ H d := fun H1 a R r =>
  h H1 a _ fun vs H2 e2 hv => by
    rw [List.append_nil]
    exact hs vs H2 (a.trans e2) hv R fun v H3 e3 hd => r v H3 (e2.trans e3) hd
theorem ev_callD {sp : Sp} {E : XK} {ta : TA} {z : V} (h : EvAD K ta σ H ds) (hs : ∀ vs H1, Ex H H1 → DpAll K H1 vs ds → ∀ R : VK, (∀ H2, Ex H1 H2 → R z H2) → sp vs H1 R E) : Ev (tCall sp [] E ta) σ H z := fun H1 a R r =>
  h H1 a _ fun vs H2 e2 hv => by
    rw [List.append_nil]
    exact hs vs H2 (a.trans e2) hv R fun H3 e3 => r H3 (e2.trans e3)
theorem el_callD {sp : Sp} {E : XK} {ta : TA} {ds' : List PyData} (h : EvAD K ta σ H ds) (hs : ∀ vs H1, Ex H H1 → DpAll K H1 vs ds → ∀ R : VK, (∀ p H2 us, H1 p = none → Ex H1 H2 → H2 p = some (.lst us) → DpAll K H2 us ds' → R (.ref p) H2) → sp vs H1 R E) :
    EvD K (tCall sp [] E ta) σ H (.list ds') := ed_call h fun vs H1 e1 hv R r => hs vs H1 e1 hv R fun p H2 us _ e2 hp hu => r _ H2 e2 (.lst (SqL.of hp) hu)
theorem ed_tup {ta : TA} (h : EvAD K ta σ H ds) (hl : ds.length ≤ 100000) : EvD K (tTup ta) σ H (.tuple ds) := fun H1 a R r =>
  h H1 a _ fun vs H2 e2 hv => ⟨Evl.sz_of (by rw [DpAll.len hv]; exact hl), fun p hp => r _ _ (e2.trans (ex_new hp)) (.tup (SqT.of upd_same) (DpAll.ex (ex_new hp) _ _ hv))⟩
theorem ed_lst {ta : TA} (h : EvAD K ta σ H ds) (hl : ds.length ≤ 100000) : EvD K (tLst ta) σ H (.list ds) := fun H1 a R r =>
  h H1 a _ fun vs H2 e2 hv => ⟨Evl.sz_of (by rw [DpAll.len hv]; exact hl), fun p hp => r _ _ (e2.trans (ex_new hp)) (.lst (SqL.of upd_same) (DpAll.ex (ex_new hp) _ _ hv))⟩
theorem ed_cat (ha : EvD K ta σ H (.tuple ds)) (hb : EvD K tb σ H (.tuple es)) (hz : ds.length + es.length ≤ 100000) : EvD K (tOp (rCatA K) ta tb) σ H (.tuple (ds ++ es)) := fun H1 a R r =>
  ha H1 a _ fun v H2 e2 hv => hb H2 (a.trans e2) _ fun u H3 e3 hu => by
    obtain ⟨p, xs, rfl, hxs, hxa⟩ := dp_tup (Dp.ex e3 _ _ hv)
    obtain ⟨q, ys, rfl, hys, hya⟩ := dp_tup hu
    have l1 := DpAll.len hxa
    have l2 := DpAll.len hya
    refine ⟨p, q, xs, ys, rfl, rfl, hxs, hys, Evl.sz_of (by omega), fun h0 => ?_, fun _ h0 => ?_, fun _ _ p2 hp2 => ?_⟩
    · subst h0
      cases hxa
      exact r _ _ (e2.trans e3) (.tup hys hya)
    · subst h0
      cases hya
      rw [List.append_nil] at *
      exact r _ _ (e2.trans e3) (.tup hxs hxa)
    · exact r _ _ ((e2.trans e3).trans (ex_new hp2)) (.tup (SqT.of upd_same) (DpAll.ex (ex_new hp2) _ _ (DpAll.app hxa hya)))
theorem cut_to (xs : List V) (k : Nat) : cutV xs none (some (k : Int)) = xs.take k := by
  unfold cutV
  have e1 : HT.sIx xs.length xs.length (some (k : Int)) = min k xs.length := HT.sIx_nat xs.length xs.length k
  rw [e1, HT.sIx_none, List.drop_zero, Nat.sub_zero]
  by_cases h : k ≤ xs.length
  · rw [Nat.min_eq_left h]
  · rw [Nat.min_eq_right (by omega), List.take_of_length_le (Nat.le_refl _), List.take_of_length_le (by omega)]
theorem cut_from (xs : List V) (k : Nat) : cutV xs (some (k : Int)) none = xs.drop k := by
  unfold cutV
  have e1 : HT.sIx xs.length 0 (some (k : Int)) = min k xs.length := HT.sIx_nat xs.length 0 k
  rw [e1, HT.sIx_none]
  by_cases h : k ≤ xs.length
  · rw [Nat.min_eq_left h]
    exact List.take_of_length_le (by simp)
  · rw [Nat.min_eq_right (by omega)]
    rw [List.drop_eq_nil_of_le (Nat.le_refl _), List.drop_eq_nil_of_le (by omega), List.take_nil]
theorem ed_slTo {k : Nat} (ha : EvD K ta σ H (.tuple ds)) (hk : Ev tb σ H (.int (k : Int))) : EvD K (tSl (rSlA K) ta tNoPart (tPart tb)) σ H (.tuple (ds.take k)) := fun H1 a R r =>
  ha H1 a _ fun v H2 e2 hv => hk H2 (a.trans e2) _ fun H3 e3 => by
    obtain ⟨p, xs, rfl, hxs, hxa⟩ := dp_tup (Dp.ex e3 _ _ hv)
    refine ⟨_, rfl, p, xs, rfl, hxs, fun h0 => ?_, fun _ p2 hp2 => ?_⟩
    · have e1 : HT.sIx xs.length xs.length (some (k : Int)) = min k xs.length := HT.sIx_nat xs.length xs.length k
      rw [e1] at h0
      have : xs.length = ds.length := DpAll.len hxa
      have ht : ds.take k = ds := List.take_of_length_le (by omega)
      exact r _ _ (e2.trans e3) (by rw [ht]; exact .tup hxs hxa)
    · rw [cut_to]
      exact r _ _ ((e2.trans e3).trans (ex_new hp2)) (.tup (SqT.of upd_same) (DpAll.ex (ex_new hp2) _ _ (DpAll.take k hxa)))
theorem ed_slFrom {k : Nat} (ha : EvD K ta σ H (.tuple ds)) (hk : Ev tb σ H (.int (k : Int))) : EvD K (tSl (rSlA K) ta (tPart tb) tNoPart) σ H (.tuple (ds.drop k)) := fun H1 a R r =>
  ha H1 a _ fun v H2 e2 hv => hk H2 (a.trans e2) _ fun H3 e3 => by
    obtain ⟨p, xs, rfl, hxs, hxa⟩ := dp_tup (Dp.ex e3 _ _ hv)
    refine ⟨_, rfl, p, xs, rfl, hxs, fun h0 => ?_, fun _ p2 hp2 => ?_⟩
    · have e1 : HT.sIx xs.length 0 (some (k : Int)) = min k xs.length := HT.sIx_nat xs.length 0 k
      rw [e1] at h0
      have hl : xs.length = ds.length := DpAll.len hxa
      have hd : ds.drop k = ds := by
        by_cases hk0 : k = 0
        · rw [hk0, List.drop_zero]
        · have h1 : ds = [] := List.eq_nil_of_length_eq_zero (by omega)
          rw [h1, List.drop_nil]
      exact r _ _ (e2.trans e3) (by rw [hd]; exact .tup hxs hxa)
    · rw [cut_from]
      exact r _ _ ((e2.trans e3).trans (ex_new hp2)) (.tup (SqT.of upd_same) (DpAll.ex (ex_new hp2) _ _ (DpAll.drop k hxa)))
theorem ed_slLTo {k : Nat} (ha : EvD K ta σ H (.list ds)) (hk : Ev tb σ H (.int (k : Int))) : EvD K (tSl (rSlL K) ta tNoPart (tPart tb)) σ H (.list (ds.take k)) := fun H1 a R r =>
  ha H1 a _ fun v H2 e2 hv => hk H2 (a.trans e2) _ fun H3 e3 => by
    obtain ⟨p, xs, rfl, hxs, hxa⟩ := dp_lst (Dp.ex e3 _ _ hv)
    refine ⟨_, rfl, p, xs, rfl, hxs, fun p2 hp2 => ?_⟩
    rw [cut_to]
    exact r _ _ ((e2.trans e3).trans (ex_new hp2)) (.lst (SqL.of upd_same) (DpAll.ex (ex_new hp2) _ _ (DpAll.take k hxa)))
theorem ed_ixT {k : Nat} (ha : EvD K ta σ H (.tuple ds)) (hk : Ev tb σ H (.int (k : Int))) (hd : ds[k]? = some d) : EvD K (tOp (rIxT K) ta tb) σ H d := fun H1 a R r =>
  ha H1 a _ fun v H2 e2 hv => hk H2 (a.trans e2) _ fun H3 e3 => by
    obtain ⟨p, xs, rfl, hxs, hxa⟩ := dp_tup (Dp.ex e3 _ _ hv)
    obtain ⟨x, hx, hxd⟩ := DpAll.get' hxa hd
    exact ⟨p, xs, k, x, rfl, rfl, hxs, atI_nat hx, r _ _ (e2.trans e3) hxd⟩
theorem ed_ixL {k : Nat} (ha : EvD K ta σ H (.list ds)) (hk : Ev tb σ H (.int (k : Int))) (hd : ds[k]? = some d) : EvD K (tOp (rIxL K) ta tb) σ H d := fun H1 a R r =>
  ha H1 a _ fun v H2 e2 hv => hk H2 (a.trans e2) _ fun H3 e3 => by
    obtain ⟨p, xs, rfl, hxs, hxa⟩ := dp_lst (Dp.ex e3 _ _ hv)
    obtain ⟨x, hx, hxd⟩ := DpAll.get' hxa hd
    exact ⟨p, xs, k, x, rfl, rfl, hxs, atI_nat hx, r _ _ (e2.trans e3) hxd⟩
theorem dpAll_snocD {vs : List V} (h : DpAll K H vs (ds ++ [d])) : ∃ us v, vs = us ++ [v] ∧ DpAll K H us ds ∧ Dp K H v d := by
  induction ds generalizing vs with
  | nil =>
    cases h with
    | cons h1 h2 => cases h2; exact ⟨[], _, rfl, .nil, h1⟩
  | cons x l ih =>
    cases h with
    | cons h1 h2 =>
      obtain ⟨us, v, e, d1, d2⟩ := ih h2
      exact ⟨_ :: us, v, by rw [e]; rfl, .cons h1 d1, d2⟩
theorem ed_lastL (ha : EvD K ta σ H (.list (ds ++ [d]))) (hk : Ev tb σ H (.int (-1))) : EvD K (tOp (rIxL K) ta tb) σ H d := fun H1 a R r =>
  ha H1 a _ fun v H2 e2 hv => hk H2 (a.trans e2) _ fun H3 e3 => by
    obtain ⟨p, xs, rfl, hxs, hxa⟩ := dp_lst (Dp.ex e3 _ _ hv)
    obtain ⟨us, x, rfl, _, hxd⟩ := dpAll_snocD hxa
    exact ⟨p, _, -1, x, rfl, rfl, hxs, atI_last us x, r _ _ (e2.trans e3) hxd⟩
theorem ev_eqD (ha : EvD K ta σ H d) (hb : EvD K tb σ H e) (sd : SeqAt.shaped d = true) (se : SeqAt.shaped e = true) : Ev (tOp (rEqD K) ta tb) σ H (.bl (PyData.eqv d e)) := fun H1 a R r =>
  ha H1 a _ fun v H2 e2 hv => hb H2 (a.trans e2) _ fun u H3 e3 hu => ⟨d, e, Dp.ex e3 _ _ hv, hu, sd, se, r _ (e2.trans e3)⟩
theorem ev_neD (ha : EvD K ta σ H d) (hb : EvD K tb σ H e) (sd : SeqAt.shaped d = true) (se : SeqAt.shaped e = true) : Ev (tOp (rNeD K) ta tb) σ H (.bl (!PyData.eqv d e)) := fun H1 a R r =>
  ha H1 a _ fun v H2 e2 hv => hb H2 (a.trans e2) _ fun u H3 e3 hu => ⟨d, e, Dp.ex e3 _ _ hv, hu, sd, se, r _ (e2.trans e3)⟩
theorem ev_lenD (ha : EvD K ta σ H (.tuple ds)) : Ev (tCB (Evl.rLenS K) (tCons ta tNil)) σ H (.int (ds.length : Nat)) := fun H1 a R r =>
  ha H1 a _ fun v H2 e2 hv => by
    obtain ⟨p, xs, rfl, hxs, hxa⟩ := dp_tup hv
    refine ⟨p, xs, rfl, .inr hxs, ?_⟩
    rw [DpAll.len hxa]
    exact r _ e2
theorem ev_lenDL (ha : EvD K ta σ H (.list ds)) : Ev (tCB (Evl.rLenS K) (tCons ta tNil)) σ H (.int (ds.length : Nat)) := fun H1 a R r =>
  ha H1 a _ fun v H2 e2 hv => by
    obtain ⟨p, xs, rfl, hxs, hxa⟩ := dp_lst hv
    refine ⟨p, xs, rfl, .inl hxs, ?_⟩
    rw [DpAll.len hxa]
    exact r _ e2
theorem ed_if {b : Bool} (h : EvT t σ H b) (h1 : b = true → EvD K ta σ H d) (h2 : b = false → EvD K tb σ H d) : EvD K (tIf t ta tb) σ H d := fun H1 e Q q => h H1 e _ fun H2 e2 => by
  cases b with
  | true => exact iteT (h1 rfl H2 (e.trans e2) Q fun v H3 e3 => q v H3 (e2.trans e3))
  | false => exact iteF (h2 rfl H2 (e.trans e2) Q fun v H3 e3 => q v H3 (e2.trans e3))
theorem ed_rep {k : Nat} (ha : EvD K ta σ H (.tuple ds)) (hk : Ev tb σ H (.int (k : Int))) (hn : ds ≠ []) (h1 : 1 ≤ k) (h2 : k ≤ 1000) (hz : ds.length ≤ 1000) : EvD K (tOp (rRepT1 K) ta tb) σ H (.tuple (List.replicate k ds).flatten) := fun H1 a R r =>
  ha H1 a _ fun v H2 e2 hv => hk H2 (a.trans e2) _ fun H3 e3 => by
    obtain ⟨p, xs, rfl, hxs, hxa⟩ := dp_tup (Dp.ex e3 _ _ hv)
    have hl : xs.length = ds.length := DpAll.len hxa
    have key : ∀ n, DpAll K H3 (List.replicate n xs).flatten (List.replicate n ds).flatten := by
      intro n
      induction n with
      | zero => exact .nil
      | succ n ih => rw [List.replicate_succ, List.replicate_succ, List.flatten_cons, List.flatten_cons]; exact DpAll.app hxa ih
    refine ⟨p, k, xs, rfl, rfl, hxs, fun h0 => ?_, by omega, by omega, by omega, fun e => ?_, fun _ p2 hp2 => ?_⟩
    · subst h0
      exact hn (List.eq_nil_of_length_eq_zero hl.symm)
    · have : k = 1 := by omega
      subst this
      have e1 : (List.replicate 1 ds).flatten = ds := by simp
      exact r _ _ (e2.trans e3) (by rw [e1]; exact .tup hxs hxa)
    · have e1 : ((k : Int)).toNat = k := rfl
      rw [e1]
      exact r _ _ ((e2.trans e3).trans (ex_new hp2)) (.tup (SqT.of upd_same) (DpAll.ex (ex_new hp2) _ _ (key k)))
variable {D : Ends} {tz : TS}
theorem s_asgD {i : Nat} (h : EvD K te σ H d) (k : ∀ v H1, Ex H H1 → Dp K H1 v d → D.nx (σ.set i (some v)) H1) : tAsg te (gName i) D σ H := h H (Evl.Ex.refl H) _ fun v H1 e hv => k v H1 e hv
theorem q_asgD {i : Nat} (h : EvD K te σ H d) (k : ∀ v H1, Ex H H1 → Dp K H1 v d → tz D (σ.set i (some v)) H1) : tSeq (tAsg te (gName i)) tz D σ H := s_asgD (D := { D with nx := tz D }) h k
theorem s_retD (h : EvD K te σ H d) (k : ∀ v H1, Ex H H1 → Dp K H1 v d → D.rt v H1) : tRet te D σ H := h H (Evl.Ex.refl H) _ k
theorem s_appD {l : Addr} {xs : List V} (hl : H l = some (.lst xs)) (ha : Ev ta σ H (.ref l)) (h : EvD K te σ H d) (hz : xs.length < 100000) (k : ∀ v H1, Ex H H1 → Dp K H1 v d → D.nx σ (upd H1 l (.lst (xs ++ [v])))) :
    tDrop (tBM K "list" rAppend ta (tCons te tNil)) D σ H := ha H (Evl.Ex.refl H) _ fun H1 e1 =>
  ⟨Or.inl ⟨rfl, xs, Evl.sq_of (e1 l _ hl)⟩, h H1 e1 _ fun v H2 e2 hv => ⟨l, xs, v, rfl, rfl, e2 l _ (e1 l _ hl), Evl.sz_lt hz, k v H2 (e1.trans e2) hv⟩⟩
theorem q_appD {l : Addr} {xs : List V} (hl : H l = some (.lst xs)) (ha : Ev ta σ H (.ref l)) (h : EvD K te σ H d) (hz : xs.length < 100000) (k : ∀ v H1, Ex H H1 → Dp K H1 v d → tz D σ (upd H1 l (.lst (xs ++ [v])))) :
    tSeq (tDrop (tBM K "list" rAppend ta (tCons te tNil))) tz D σ H := s_appD (D := { D with nx := tz D }) hl ha h hz k
theorem ret_cb {r : List V → Hp → VK → Prop} (h : te σ H (fun v H1 => r [v] H1 D.rt)) : tRet (tCB r (tCons te tNil)) D σ H := h
end
end Bk

namespace Bk
open PySem PySem.Spec PyProof.Rows L2
open Evl (Ex)
section
variable {P : Program} {w : World} {K : PySem.W.Frag} {mg : Str → Option Value} {base : Heap}
def spIsLetter : Sp := fun vs H Q _ => ∃ c : Nat, vs = [.str ⟨#[c]⟩] ∧ 97 ≤ c ∧ c ≤ 122 ∧ Q (.bl true) H
theorem le_lo {c : Nat} (h : 97 ≤ c) : (!decide ((⟨#[c]⟩ : Str).cps.toList < ("a" : Str).cps.toList)) = true := by
  have : ¬ ([c] < ([97] : List Nat)) := by
    intro q
    rw [List.cons_lt_cons_iff] at q
    rcases q with q | ⟨q, r⟩
    · omega
    · exact absurd r (by simp)
  show (!decide ([c] < ([97] : List Nat))) = true
  simp [this]
theorem le_hi {c : Nat} (h : c ≤ 122) : (!decide (("z" : Str).cps.toList < (⟨#[c]⟩ : Str).cps.toList)) = true := by
  have : ¬ (([122] : List Nat) < [c]) := by
    intro q
    rw [List.cons_lt_cons_iff] at q
    rcases q with q | ⟨q, r⟩
    · omega
    · exact absurd r (by simp)
  show (!decide (([122] : List Nat) < [c])) = true
  simp [this]
theorem ok_is_letter (T : Tx K mg) : FnOk P w K mg base CX0 1 T.a_is_letter T.d_is_letter P_is_letter spIsLetter := by
  refine T.F_is_letter.ok sc_is_letter (fun vs H Q E h => ?_) (fun cdv A outer s H vs Q E hr h => ?_)
  · obtain ⟨c, rfl, _⟩ := h; rfl
  · obtain ⟨c, rfl, h1, h2, q⟩ := h
    refine ⟨_, pss_one (ps_ret (pe_and (pe_callB call_isi (by rfl) T.z_isinstance (by decide +kernel) (pa_cons (pv 0) (pa_cons (pe_bltn (v := .ty "str") (u := .type "str") (by rfl) T.z_str (by decide +kernel) rfl) pa_nil)))
      (pe_and (pe_cmpR op_eq (pe_callB call_len_str (by rfl) T.z_len PySem.boot_len (pa_cons (pv 0) pa_nil)) pe_int (nomark _)) (pe_one (pe_chain op_le_str op_le_str pe_str (pv 0) pe_str))))), ?_⟩
    refine ⟨_, rfl, _, .ty "str", .type "str", .type "str", true, rfl, ?_, ?_, kit_ty rfl, true, rfl, ?_⟩
    · exact .ty "str"
    · exact .base (.str _)
    · refine iteT ?_
      refine ⟨_, rfl, _, rfl, (by show 1 ≤ sizeLine; decide), rfl, true, rfl, iteT ?_⟩
      refine ⟨_, rfl, _, _, rfl, rfl, true, ?_, iteT ?_⟩
      · exact congrArg V.bl (le_lo h1)
      · exact ⟨_, _, rfl, rfl, by rw [le_hi h2]; exact q⟩
end
end Bk

namespace Bk
open PySem PySem.Spec PyProof.Rows L2
open Evl (Ex)
section
variable {P : Program} {w : World} {K : PySem.W.Frag} {mg : Str → Option Value} {base : Heap}
/-! ### _has_form -/
def okR : Bu → Prop
  | .tip => True
  | .knot c bs => 97 ≤ c ∧ c ≤ 122 ∧ 1 ≤ bs.length ∧ bs.length ≤ 6
def spHasForm (K : PySem.W.Frag) : Sp := fun vs H Q _ => ∃ (v : V) (b : Bu), vs = [v] ∧ Dp K H v (toD b) ∧ okR b ∧ Q (.bl true) H
theorem ok_has_form (T : Tx K mg) : FnOk P w K mg base CX0 2 T.a_has_form T.d_has_form P_has_form (spHasForm K) := by
  have G1 : FnOk P w K mg base CX0 1 T.a_is_letter T.d_is_letter P_is_letter spIsLetter := ok_is_letter T
  obtain ⟨t6, m6⟩ := T.c_MOST_BRANCHES
  refine T.F_has_form.ok sc_has_form (fun vs H Q E h => ?_) (fun cdv A outer s H vs Q E hr h => ?_)
  · obtain ⟨v, b, rfl, _⟩ := h; rfl
  · obtain ⟨v, b, rfl, hv, ok, q⟩ := h
    obtain ⟨a, xs, rfl, hs, ha⟩ := bu_dp hv
    refine ⟨_, pss_cons (ps_if (pt_not (pt_val (pe_callB call_isi (by rfl) T.z_isinstance (by decide +kernel) (pa_cons (pv 0) (pa_cons (pe_bltn (v := .ty "tuple") (u := .type "tuple") (by rfl) T.z_tuple (by decide +kernel) rfl) pa_nil))))) pss_never pss_nil)
      (pss_cons (ps_if (pt_cmpR op_eq (pe_callB call_len_seq (by rfl) T.z_len PySem.boot_len (pa_cons (pv 0) pa_nil)) pe_int (nomark _)) (pss_one (ps_ret pe_bl)) pss_nil)
      (pss_one (ps_ret (pe_and (pe_chain op_le op_le pe_int (pe_callB call_len_seq (by rfl) T.z_len PySem.boot_len (pa_cons (pv 0) pa_nil)) (pe_op op_add (pe_glob (v := .int 6) (by rfl) m6 ⟨_, rfl⟩) pe_int))
        (pe_one (pe_call G1 hr (by rfl) T.g_is_letter T.F_is_letter.kp T.b_is_letter .nil pass0 (pa_cons (pe_ix ix_tup (pv 0) pe_int (fun _ _ => rfl)) pa_nil))))))), ?_⟩
    refine ⟨_, rfl, _, .ty "tuple", .type "tuple", .type "tuple", true, rfl, .ty _, ty_tup hs, kit_ty rfl, true, rfl, iteF ?_⟩
    refine ⟨_, rfl, a, xs, rfl, .inr hs, rfl, _, rfl, ?_⟩
    have hl := DpAll.len ha
    cases b with
    | tip =>
      have h0 : xs.length = 0 := hl
      refine ite2 (fun _ => q) (fun e => ?_)
      exact absurd (decide_eq_true (by rw [h0]; rfl)) e
    | knot c bs =>
      have hl' : xs.length = bs.length + 1 := by rw [hl]; simp [itm]
      obtain ⟨h1, h2, h3, h4⟩ := ok
      refine ite2 (fun e => ?_) (fun _ => ?_)
      · have e0 : ((xs.length : Nat) : Int) = 0 := V.int.inj (of_decide_eq_true e)
        omega
      obtain ⟨x, hx, hd⟩ := DpAll.get' ha (i := 0) (d := .str ⟨#[c]⟩) rfl
      have ex : x = .str ⟨#[c]⟩ := dp_str hd
      subst ex
      refine ⟨_, rfl, a, xs, rfl, .inr hs, _, _, rfl, rfl, true, ?_, iteT ?_⟩
      · exact congrArg V.bl (decide_eq_true (by omega))
      refine ⟨6, 1, rfl, rfl, _, _, rfl, rfl, true, ?_, iteT ?_⟩
      · exact congrArg V.bl (decide_eq_true (by omega))
      exact ⟨_, rfl, a, xs, 0, _, rfl, rfl, hs, atI_nat hx, c, rfl, h1, h2, q⟩
end
end Bk

namespace Bk
open PySem PySem.Spec PyProof.Rows L2
open Evl (Ex)
/-- the parts one deeper -/
def nxt (l : List Bu) : List Bu := l.flatMap kids
/-- the levels, so many at most, while there are parts -/
def lvsN : Nat → List Bu → List (List Bu)
  | 0, _ => []
  | n + 1, l => if l.isEmpty then [] else l :: lvsN n (nxt l)
def lvls (b : Bu) : List (List Bu) := lvsN (dep b + 1) [b]
theorem deps_nxt : ∀ l : List Bu, deps (nxt l) + 1 ≤ deps l ∨ nxt l = []
  | [] => .inr rfl
  | b :: l => by
    have ih := deps_nxt l
    have app : ∀ xs ys : List Bu, deps (xs ++ ys) = max (deps xs) (deps ys) := by
      intro xs ys
      induction xs with
      | nil => simp [deps]
      | cons x xs ih => rw [List.cons_append, deps, deps, ih, Nat.max_assoc]
    have e : nxt (b :: l) = kids b ++ nxt l := by unfold nxt; rw [List.flatMap_cons]
    rw [e]
    cases b with
    | tip =>
      rcases ih with ih | ih
      · left
        show deps (nxt l) + 1 ≤ max (dep .tip) (deps l)
        omega
      · right
        rw [ih]
        rfl
    | knot c bs =>
      left
      rw [app]
      show max (deps bs) (deps (nxt l)) + 1 ≤ max (deps bs + 1) (deps l)
      rcases ih with ih | ih
      · omega
      · rw [ih]
        have : deps ([] : List Bu) = 0 := rfl
        omega
section
variable {P : Program} {w : World} {K : PySem.W.Frag} {mg : Str → Option Value} {base : Heap}
def lvD (l : List Bu) : PyData := .list (l.map toD)
/-- the lists that a list holds -/
inductive LLs (K : PySem.W.Frag) (H : Hp) (p : Addr) : List V → List (List Bu) → Prop
  | nil : LLs K H p [] []
  | cons {q : Addr} {vs : List V} {l : List Bu} {ls : List (List Bu)} : q ≠ p → LsB K H q l → LLs K H p vs ls → LLs K H p (.ref q :: vs) (l :: ls)
theorem LLs.keep {H H' : Hp} {p : Addr} {vs : List V} {ls : List (List Bu)} (h : LLs K H p vs ls) (e : ExB p H H') (t : Tu H H') : LLs K H' p vs ls := by
  induction h with
  | nil => exact .nil
  | cons n l _ ih => exact .cons n (l.keep e n t) ih
theorem LLs.snoc {H : Hp} {p q : Addr} {vs : List V} {ls : List (List Bu)} {l : List Bu} (h : LLs K H p vs ls) (n : q ≠ p) (hl : LsB K H q l) : LLs K H p (vs ++ [.ref q]) (ls ++ [l]) := by
  induction h with
  | nil => exact .cons n hl .nil
  | cons n' l' _ ih => exact .cons n' l' ih
theorem LLs.dp {H : Hp} {p : Addr} {vs : List V} {ls : List (List Bu)} (h : LLs K H p vs ls) : DpAll K H vs (ls.map lvD) := by
  induction h with
  | nil => exact .nil
  | cons n l _ ih =>
    obtain ⟨us, h1, h2⟩ := l
    exact .cons (.lst (SqL.of h1) h2) ih
theorem LLs.len {H : Hp} {p : Addr} {vs : List V} {ls : List (List Bu)} (h : LLs K H p vs ls) : vs.length = ls.length := by
  induction h with
  | nil => rfl
  | cons _ _ _ ih => simp [ih]
theorem kids_of {H : Hp} : ∀ {vs : List V} {bs : List Bu}, DpAll K H vs (bs.map toD) → ∃ yss : List (List V), yss.length = vs.length ∧ (∀ (i : Nat) (x : V), vs[i]? = some x → ∃ (a : Addr) (xs : List V), x = V.ref a ∧ SqT K H a xs ∧ yss[i]? = some (xs.drop 1)) ∧ DpAll K H yss.flatten ((nxt bs).map toD)
  | vs, [], h => by
    have h' : DpAll K H vs [] := h
    cases h'
    exact ⟨[], rfl, fun i x e => by simp at e, .nil⟩
  | vs, b :: bs, h => by
    have h' : DpAll K H vs (toD b :: bs.map toD) := h
    cases h' with
    | cons h1 h2 =>
      obtain ⟨yss, y1, y2, y3⟩ := kids_of h2
      obtain ⟨a, xs, rfl, hs, ha⟩ := bu_dp h1
      refine ⟨xs.drop 1 :: yss, by simp [y1], fun i x e => ?_, ?_⟩
      · cases i with
        | zero =>
          have e' : V.ref a = x := by simpa using e
          exact ⟨a, xs, e'.symm, hs, rfl⟩
        | succ i => exact y2 i x (by simpa using e)
      · have e : (nxt (b :: bs)).map toD = (kids b).map toD ++ (nxt bs).map toD := by
          unfold nxt
          rw [List.flatMap_cons, List.map_append]
        rw [e, List.flatten_cons]
        refine DpAll.app ?_ y3
        rw [← itm_kids]
        exact DpAll.drop 1 ha
theorem flat_range {yss : List (List V)} {n : Nat} (h : yss.length = n) : (List.range n).flatMap (fun i => yss.getD i []) = yss.flatten := by
  subst h
  induction yss with
  | nil => rfl
  | cons y t ih =>
    rw [List.length_cons, List.range_succ_eq_map, List.flatMap_cons, List.flatMap_map, List.flatten_cons]
    exact congrArg (y ++ ·) ih
def spLevels (K : PySem.W.Frag) : Sp := fun vs H Q _ => ∃ (v : V) (b : Bu), vs = [v] ∧ Dp K H v (toD b) ∧ dep b ≤ 1000 ∧ (∀ l ∈ lvls b, l.length < 100000) ∧
  ∀ p H' us, H p = none → Ex H H' → H' p = some (.lst us) → LLs K H' p us (lvls b) → Q (.ref p) H'
end
end Bk

namespace Bk
open PySem PySem.Spec PyProof.Rows L2
open Evl (Ex Ev EvT EvL EvU EvA)
mutual
def near : Bu → Nat
  | .tip => 0
  | .knot _ bs => nears bs + 1
def nears : List Bu → Nat
  | [] => 0
  | b :: bs => match bs with
    | [] => near b
    | _ :: _ => min (near b) (nears bs)
end
section
variable {P : Program} {w : World} {K : PySem.W.Frag} {mg : Str → Option Value} {base : Heap}
theorem LLs.get {H : Hp} {p : Addr} : ∀ {vs : List V} {ls : List (List Bu)} {i : Nat} {x : V}, LLs K H p vs ls → vs[i]? = some x → ∃ (q : Addr) (l : List Bu), x = V.ref q ∧ ls[i]? = some l ∧ LsB K H q l
  | _, _, _, _, .nil, e => by simp at e
  | _, _, 0, _, .cons n h _, e => by simp at e; exact ⟨_, _, e.symm, rfl, h⟩
  | _, _, i + 1, _, .cons n h t, e => by
    obtain ⟨q, l, h1, h2, h3⟩ := LLs.get t (i := i) (by simpa using e)
    exact ⟨q, l, h1, by simpa using h2, h3⟩
def cnts (b : Bu) : List Int := (lvls b).map fun l => ((l.countP isTip : Nat) : Int)
def lens (b : Bu) : List Int := (lvls b).map fun l => ((l.length : Nat) : Int)
/-- what a bush's counts ask -/
structure Fits (b : Bu) : Prop where
  ok : okB b = true
  dep : dep b ≤ 1000
  few : knots b + tips b ≤ 1000
  len : ∀ l ∈ lvls b, l.length < 40000
  okl : ∀ l ∈ lvls b, okBs l = true
  sum : (lens b).sum = ((knots b + tips b : Nat) : Int)
  tip : (cnts b).sum = ((tips b : Nat) : Int)
  lst : (lvls b).length = Bk.dep b + 1
  nr : ((near b : Nat) : Int) ∈ (List.range (cnts b).length).filterMap (fun i => if decide (0 < (cnts b).getD i 0) = true then some ((i : Nat) : Int) else none)
  nl : ∀ y ∈ (List.range (cnts b).length).filterMap (fun i => if decide (0 < (cnts b).getD i 0) = true then some ((i : Nat) : Int) else none), ((near b : Nat) : Int) ≤ y
theorem given_fm (n : Nat) (f : Nat → Bool) : Evl.given n f (fun i => V.int ((i : Nat) : Int)) = ((List.range n).filterMap fun i => if f i = true then some ((i : Nat) : Int) else none).map V.int := by
  unfold Evl.given
  induction (List.range n) with
  | nil => rfl
  | cons i l ih =>
    rw [List.filter_cons, List.filterMap_cons]
    cases h : f i with
    | true => simp [ih]
    | false => simp [ih]
theorem el_enum' {H : Hp} {tl : TE} {ns : List Int} {a : Addr} {x0 x1 x2 x3 : Option V} (hz : ns.length ≤ 40000) (h : Ev tl [x0, x1, x2, x3, none, none, none, none] H (.ref a)) (hx : SqL K H a (ns.map V.int)) :
    EvL (tLc (iEnum K (tCons tl tNil)) (gTup K 2 (gCons (gName 6) (gCons (gName 7) gNil))) (tTest (tOp (rI0 fun i j => .bl (decide (j < i))) (tVar 7) (tC (.int 0)))) (tVar 6) [6, 7]) [x0, x1, x2, x3, none, none, none, none] H
      (((List.range ns.length).filterMap fun i => if decide (0 < ns.getD i 0) = true then some ((i : Nat) : Int) else none).map V.int) := by
  rw [← given_fm]
  exact el_enum h hx hz (fun x y σ' H' R r => ⟨x, [y], rfl, y, [], rfl, rfl, r⟩) (fun _ _ => rfl) (fun _ _ => rfl) (fun _ _ => rfl)
def spCounts (K : PySem.W.Frag) : Sp := fun vs H Q _ => ∃ (v : V) (b : Bu), vs = [v] ∧ Dp K H v (toD b) ∧ Fits b ∧
  ∀ p H', H p = none → Ex H H' → H' p = some (.tup [.int (knots b : Nat), .int (tips b : Nat), .int (near b : Nat), .int (dep b : Nat)]) → Q (.ref p) H'
end
end Bk

namespace Bk
open PySem PySem.Spec PyProof.Rows L2
open Evl (Ex Ev EvT EvL EvU EvA)
section
variable {P : Program} {w : World} {K : PySem.W.Frag} {mg : Str → Option Value} {base : Heap}
def spGrow (K : PySem.W.Frag) (n : Nat) : Sp := fun vs H Q _ => ∃ (v g : V) (b gb : Bu), vs = [v, g] ∧ Dp K H v (toD b) ∧ Dp K H g (toD gb) ∧ dep b ≤ n ∧ okB b = true ∧ ∀ r H', Ex H H' → Dp K H' r (toD (grow b gb)) → Q r H'
theorem tru_tup {H : Hp} {a : Addr} {xs : List V} (h : SqT K H a xs) : TruV K (.ref a) H (!xs.isEmpty) := .inr (.inl ⟨xs, h, rfl⟩)
theorem ok_grow (T : Tx K mg) : ∀ n : Nat, FnOk P w K mg base CX0 (n + 1) T.a_grow T.d_grow P_grow (spGrow K n)
  | 0 => by
    refine T.F_grow.ok sc_grow (fun vs H Q E h => ?_) (fun cdv A outer s H vs Q E hr h => ?_)
    · obtain ⟨v, g, b, gb, rfl, _⟩ := h; rfl
    · obtain ⟨v, g, b, gb, rfl, hv, hg, hd, ho, q⟩ := h
      refine ⟨_, pss_cons (ps_if (pt_not (pt_truth (pv 0) (by intro _; rfl))) (pss_one (ps_ret (pv 1))) pss_nil) pss_never, ?_⟩
      cases b with
      | knot c bs => simp [dep] at hd
      | tip =>
        obtain ⟨a, xs, rfl, hs, ha⟩ := bu_dp hv
        have h0 : xs = [] := List.eq_nil_of_length_eq_zero (DpAll.len ha)
        subst h0
        exact ⟨_, rfl, _, tru_tup hs, iteT ⟨_, rfl, q g H (Evl.Ex.refl H) hg⟩⟩
  | n + 1 => by
    have G := ok_grow T n
    refine T.F_grow.ok sc_grow (fun vs H Q E h => ?_) (fun cdv A outer s H vs Q E hr h => ?_)
    · obtain ⟨v, g, b, gb, rfl, _⟩ := h; rfl
    · obtain ⟨v, g, b, gb, rfl, hv, hg, hd, ho, q⟩ := h
      refine ⟨_, pss_cons (ps_if (pt_not (pt_truth (pv 0) (by intro _; rfl))) (pss_one (ps_ret (pv 1))) pss_nil)
        (pss_cons (ps_setLc (i := 2) (own := [("branch", 3)]) (g := gName 3) (tt := tYes) (te := tCall (spGrow K n) [] E0 (tCons (tVar 3) (tCons (tVar 1) tNil))) rfl sc_grow.nd rfl rfl (sw_true rfl rfl rfl (by decide +kernel)) (pi_tup (pe_slice sl_tupA (pv 0) (po_some pe_int) po_none)) (blkOk_by (N := N_grow) (sc := defScope s_grow) (by decide +kernel))
          (fun _ _ _ _ _ => pg_name (i := 3) sc_grow.nd rfl (Or.inl rfl)) (fun _ _ _ _ _ => pts_nil) (fun _ _ _ _ _ => pe_call G hr (by rfl) T.g_grow T.F_grow.kp T.b_grow .nil pass0 (pa_cons (pv 3) (pa_cons (pv 1) pa_nil))))
        (pss_one (ps_ret (pe_tup (pa_cons (pe_ix ix_tup (pv 0) pe_int (fun _ _ => rfl)) (StX.pa_star (pv 2) pa_nil)))))), ?_⟩
      obtain ⟨a, xs, rfl, hs, ha⟩ := bu_dp hv
      cases b with
      | tip =>
        have h0 : xs = [] := List.eq_nil_of_length_eq_zero (DpAll.len ha)
        subst h0
        exact ⟨_, rfl, _, tru_tup hs, iteT ⟨_, rfl, q g H (Evl.Ex.refl H) hg⟩⟩
      | knot c bs =>
        obtain ⟨_, ⟨hb1, hb2⟩, hob⟩ := okB_knot ho
        have hl := DpAll.len ha
        obtain ⟨x0, hx0, hd0⟩ := DpAll.get' ha (i := 0) (d := .str ⟨#[c]⟩) rfl
        have e0 := dp_str hd0
        subst e0
        have hne : xs.isEmpty = false := by cases xs with | nil => simp at hx0 | cons y t => rfl
        refine ⟨_, rfl, _, tru_tup hs, ?_⟩
        rw [hne]
        refine iteF (nx_of ?_)
        have hk : DpAll K H (xs.drop 1) (bs.map toD) := by have := DpAll.drop 1 ha; rw [itm_kids] at this; exact this
        refine q_lcT (σ := [some (.ref a), some g, none, none]) (xs := xs.drop 1) (ds := (bs.map (grow · gb)).map toD) ?_ ?_ (fz_map _) (fun R hR => sl_from1 rfl hs hR) (fun x => rfl) (fun i x d H1 e1 hx hdi R hR => ?_) (fun D H2 us hD e2 hL hA => ?_)
        · rw [DpAll.len hk, List.length_map, List.length_map, List.length_map]
        · rw [List.length_map, List.length_map]; omega
        · obtain ⟨b', hb', hxb⟩ := dpAll_map hk hx
          have hdb : d = toD (grow b' gb) := by
            rw [List.map_map, List.getElem?_map, hb'] at hdi
            exact (Option.some.inj hdi).symm
          subst hdb
          have hmem : b' ∈ bs := List.mem_of_getElem? hb'
          have hdep : dep b' ≤ n := by have h1 := dep_le hmem; simp only [dep] at hd; omega
          exact ⟨x, rfl, g, rfl, x, g, b', gb, rfl, Dp.ex e1 _ _ hxb, Dp.ex e1 _ _ hg, hdep, okBs_mem hob hmem, hR⟩
        · have hn := DpAll.len hA
          refine ⟨_, rfl, a, xs, 0, _, rfl, rfl, Evl.ex_t e2 hs, atI_nat hx0, _, rfl, D, us, rfl, .inr (SqL.of hL), ?_, fun p hp => q _ _ (e2.trans (ex_new hp)) ?_⟩
          · rw [List.length_map, List.length_map] at hn
            show (_ :: (us ++ [])).length ≤ sizeLine
            rw [List.append_nil, List.length_cons, hn]
            exact Nat.le_trans (show bs.length + 1 ≤ 7 by omega) (by decide)
          · rw [grow, growL_map, toD, toDs_map]
            refine .tup (SqT.of (by rw [List.append_nil]; exact upd_same)) (.cons (.str _) ?_)
            exact DpAll.ex (ex_new hp) _ _ hA
end
end Bk

namespace Bk
open PySem PySem.Spec PyProof.Rows L2
open Evl (Ex Ev EvT EvL EvU EvA)
theorem ip_mulB {X : Cx} : PIp X .Mult (rI CMulB fun i j => .int (i * j)) := fun pins s σ H x y v u Q I r1 r2 h => iop_mulB pins s σ H x y v u Q I r1 r2 h
theorem mulB {i j : Nat} (hi : i < 2 ^ 250) (hj : j < 2 ^ 250) : CMulB (i : Int) (j : Int) := by
  have h1 := PySem.Flt.log2_lt_of (by decide) hi
  have h2 := PySem.Flt.log2_lt_of (by decide) hj
  unfold CMulB
  simp only [Int.natAbs_natCast]
  omega
abbrev C4 := Nat × Nat × Nat × Nat
def ctr (a : C4) (g : Bu) : C4 := (a.1 + a.2.1 * knots g, a.2.1 * tips g, a.2.2.1 + near g, a.2.2.2 + dep g)
def ctrs (b : Bu) (gs : List Bu) : C4 := gs.foldl ctr (knots b, tips b, near b, dep b)
def ints4 (a : C4) : List V := [.int (a.1 : Nat), .int (a.2.1 : Nat), .int (a.2.2.1 : Nat), .int (a.2.2.2 : Nat)]
theorem ctrs_snoc (b : Bu) (gs : List Bu) (g : Bu) : ctrs b (gs ++ [g]) = ctr (ctrs b gs) g := by unfold ctrs; rw [List.foldl_append]; rfl
theorem ctrs_tips {b : Bu} : ∀ {gs : List Bu}, tips b ≤ 1000 → (∀ g ∈ gs, tips g ≤ 1000) → (ctrs b gs).2.1 ≤ 1000 ^ (gs.length + 1) := by
  intro gs hb hg
  have key : ∀ (gs : List Bu) (a : C4) (n : Nat), a.2.1 ≤ 1000 ^ n → (∀ g ∈ gs, tips g ≤ 1000) → (gs.foldl ctr a).2.1 ≤ 1000 ^ (n + gs.length) := by
    intro gs
    induction gs with
    | nil => intro a n h _; exact h
    | cons g gs ih =>
      intro a n h hg
      have h1 : (ctr a g).2.1 ≤ 1000 ^ (n + 1) := by
        show a.2.1 * tips g ≤ _
        rw [Nat.pow_succ]
        exact Nat.mul_le_mul h (hg g List.mem_cons_self)
      have h2 := ih (ctr a g) (n + 1) h1 fun x hx => hg x (List.mem_cons_of_mem _ hx)
      rw [List.foldl_cons, List.length_cons]
      rw [show n + (gs.length + 1) = n + 1 + gs.length by omega]
      exact h2
  have := key gs (knots b, tips b, near b, dep b) 1 (by simpa using hb) hg
  rw [Nat.add_comm 1] at this
  exact this
section
variable {P : Program} {w : World} {K : PySem.W.Frag} {mg : Str → Option Value} {base : Heap}
def spCG (K : PySem.W.Frag) : Sp := fun vs H Q _ => ∃ (v r : V) (b : Bu) (gs : List Bu), vs = [v, r] ∧ Dp K H v (toD b) ∧ Dp K H r (.tuple (gs.map toD)) ∧ Fits b ∧ (∀ g ∈ gs, Fits g) ∧ gs.length ≤ 13 ∧
  ∀ p H', H p = none → Ex H H' → H' p = some (.tup (ints4 (ctrs b gs))) → Q (.ref p) H'
end
end Bk

namespace Bk
open PySem PySem.Spec PyProof.Rows L2
open Evl (Ex Ev EvT EvL EvU EvA)
/-- all parts of some bushes -/
def kt : List Bu → Nat := fun l => knotss l + tipss l
theorem kt_app (a b : List Bu) : kt (a ++ b) = kt a + kt b := by
  unfold kt
  induction a with
  | nil => simp [knotss, tipss]
  | cons x a ih => simp only [List.cons_append, knotss, tipss]; omega
theorem kt_nxt : ∀ l : List Bu, kt l = l.length + kt (nxt l)
  | [] => rfl
  | b :: l => by
    have ih := kt_nxt l
    have e : nxt (b :: l) = kids b ++ nxt l := by unfold nxt; rw [List.flatMap_cons]
    rw [e, kt_app, List.length_cons]
    have h : kt (b :: l) = (knots b + tips b) + kt l := by unfold kt; simp only [knotss, tipss]; omega
    rw [h, ih]
    cases b with
    | tip => simp [knots, tips, kids, kt, knotss, tipss]; omega
    | knot c bs => simp [knots, tips, kids, kt]; omega
def itN : Nat → List Bu → List Bu
  | 0, l => l
  | n + 1, l => nxt (itN n l)
theorem itN_kt (l : List Bu) : ∀ n, kt (itN n l) ≤ kt l
  | 0 => Nat.le_refl _
  | n + 1 => by
    have h1 := itN_kt l n
    have h2 := kt_nxt (itN n l)
    show kt (nxt (itN n l)) ≤ _
    omega
def sumL (l : List Bu) : Nat → Nat
  | 0 => 0
  | n + 1 => sumL l n + (itN n l).length
theorem sumL_kt (l : List Bu) : ∀ n, sumL l n + kt (itN n l) = kt l
  | 0 => by simp [sumL, itN]
  | n + 1 => by
    have h1 := sumL_kt l n
    have h2 := kt_nxt (itN n l)
    show sumL l n + (itN n l).length + kt (nxt (itN n l)) = _
    omega
theorem itN_dep (l : List Bu) : ∀ n, deps (itN n l) + n ≤ deps l ∨ itN n l = []
  | 0 => .inl (Nat.le_refl _)
  | n + 1 => by
    rcases itN_dep l n with h | h
    · rcases deps_nxt (itN n l) with h2 | h2
      · left
        show deps (nxt (itN n l)) + (n + 1) ≤ _
        omega
      · exact .inr h2
    · right
      show nxt (itN n l) = []
      rw [h]
      rfl
theorem deps0 : ∀ {l : List Bu}, deps l = 0 → nxt l = []
  | [], _ => rfl
  | b :: l, h => by
    rw [deps] at h
    have h1 : dep b = 0 := by omega
    have h2 : deps l = 0 := by omega
    have e : nxt (b :: l) = kids b ++ nxt l := by unfold nxt; rw [List.flatMap_cons]
    rw [e, deps0 h2]
    cases b with
    | tip => rfl
    | knot c bs => simp [dep] at h1
theorem itN_nil {l : List Bu} {n : Nat} (h : deps l < n) : itN n l = [] := by
  obtain ⟨m, rfl⟩ : ∃ m, n = m + 1 := ⟨n - 1, by omega⟩
  rcases itN_dep l (m + 1) with h1 | h1
  · omega
  · exact h1
theorem okBs_app {a b : List Bu} : okBs (a ++ b) = (okBs a && okBs b) := by
  induction a with
  | nil => rfl
  | cons x a ih => simp only [List.cons_append, okBs, ih, Bool.and_assoc]
theorem okBs_nxt : ∀ {l : List Bu}, okBs l = true → okBs (nxt l) = true
  | [], _ => rfl
  | b :: l, h => by
    have h' : okB b = true ∧ okBs l = true := by simpa [okBs] using h
    have e : nxt (b :: l) = kids b ++ nxt l := by unfold nxt; rw [List.flatMap_cons]
    rw [e, okBs_app, okBs_nxt h'.2]
    cases b with
    | tip => rfl
    | knot c bs => simp [kids, (okB_knot h'.1).2.2]
theorem itN_ok {l : List Bu} (h : okBs l = true) : ∀ n, okBs (itN n l) = true
  | 0 => h
  | n + 1 => okBs_nxt (itN_ok h n)
theorem okR_of {b : Bu} (h : okB b = true) : okR b := by
  cases b with
  | tip => trivial
  | knot c bs =>
    obtain ⟨⟨h1, h2⟩, ⟨h3, h4⟩, _⟩ := okB_knot h
    exact ⟨h1, h2, h3, h4⟩
/-- a bush that can be handed in -/
structure Good (b : Bu) : Prop where
  ok : okB b = true
  few : knots b + tips b ≤ 400
  dep : Bk.dep b ≤ 60
section
variable {P : Program} {w : World} {K : PySem.W.Frag} {mg : Str → Option Value} {base : Heap}
theorem ev_allL {σ : L2.St} {H : Hp} {te : TE} {bs : List Bool} (h : EvL te σ H (bs.map V.bl)) : Ev (tCB (rAll K) (tCons te tNil)) σ H (.bl (bs.all id)) := fun H1 e Q q =>
  h H1 e _ fun p H2 _ e2 hp => ⟨p, bs, rfl, SqL.of hp, q H2 e2⟩
def spIsBush (K : PySem.W.Frag) : Sp := fun vs H Q _ => ∃ (v : V) (b : Bu), vs = [v] ∧ Dp K H v (toD b) ∧ Good b ∧ ∀ H', Ex H H' → Q (.bl true) H'
theorem ok_is_bush (T : Tx K mg) : FnOk P w K mg base CX0 3 T.a_is_bush T.d_is_bush P_is_bush (spIsBush K) := by
  have G1 : FnOk P w K mg base CX0 2 T.a_has_form T.d_has_form P_has_form (spHasForm K) := ok_has_form T
  obtain ⟨t1, m60⟩ := T.c_MOST_DEPTH
  obtain ⟨t2, m400⟩ := T.c_MOST_PARTS
  refine T.F_is_bush.ok sc_is_bush (fun vs H Q E h => ?_) (fun cdv A outer s H vs Q E hr h => ?_)
  · obtain ⟨v, b, rfl, _⟩ := h; rfl
  · obtain ⟨v, b, rfl, hv, G, q⟩ := h
    refine ⟨_, pss_cons (ps_set (i := 1) sc_is_bush.nd rfl (.inl rfl) pe_int) (pss_cons (ps_set (i := 2) sc_is_bush.nd rfl (.inl rfl) (pe_lst (pa_cons (pv 0) pa_nil)))
      (pss_cons (ps_for PassesOwn.never rfl (pi_range1 (by rfl) T.z_range (pa_cons (pe_op op_add (pe_glob (v := .int 60) (by rfl) m60 ⟨_, rfl⟩) pe_int) pa_nil)) (pg_name (i := 3) sc_is_bush.nd rfl (.inl rfl))
        (pss_cons (ps_aug (i := 1) sc_is_bush.nd rfl (.inl rfl) (pe_callB call_len_seq (by rfl) T.z_len PySem.boot_len (pa_cons (pv 2) pa_nil)) ip_add)
        (pss_cons (ps_if (PW.pt (pw_or (pt_cmpR op_gt (pv 1) (pe_glob (v := .int 400) (by rfl) m400 ⟨_, rfl⟩) (nomark _)) (pw_or1 (pt_not (pt_val (pe_callB (cr_all rfl) (by rfl) T.z_all (by decide +kernel) (pa_cons (pe_lc (own := [("part", 4)]) (g := gName 4) (tt := tYes) (te := tCall (spHasForm K) [] E0 (tCons (tVar 4) tNil)) rfl sc_is_bush.nd (pi_list (pv 2)) (blkOk_by (N := N_is_bush) (sc := defScope s_is_bush) (by decide +kernel))
            (fun _ _ _ _ _ => pg_name (i := 4) sc_is_bush.nd rfl (Or.inl rfl)) (fun _ _ _ _ _ => pts_nil) (fun _ _ _ _ _ => pe_call G1 hr (by rfl) T.g_has_form T.F_has_form.kp T.b_has_form .nil pass0 (pa_cons (pv 4) pa_nil))) pa_nil))))))) pss_never pss_nil)
        (pss_one (ps_setLc2 (i := 2) (own := [("part", 4), ("branch", 5)]) (vs1 := [5]) (g := gName 4) (g1 := gName 5) (tt := tYes) (tt1 := tYes) (wi1 := iTup K (tSl (rSlA K) (tVar 4) (tPart (tC (.int 1))) tNoPart)) rfl sc_is_bush.nd rfl rfl (sw_true rfl rfl rfl (by decide +kernel)) (pi_list (pv 2)) (blkOk_by (N := N_is_bush) (sc := defScope s_is_bush) (by decide +kernel)) (by decide)
            (fun _ _ _ _ _ => pg_name (i := 4) sc_is_bush.nd rfl (Or.inl rfl)) (fun _ _ _ _ _ => pts_nil)
            (fun _ _ _ _ _ => pi_tup (pe_slice sl_tupA (pv 4) (po_some pe_int) po_none)) (fun _ _ _ _ _ => pg_name (i := 5) sc_is_bush.nd rfl (Or.inl rfl)) (fun _ _ _ _ _ => pts_nil) (fun _ _ _ _ _ => pv 5))))))
      (pss_one (ps_ret (pe_notT (pv 2)))))), ?_⟩
    refine ⟨v, rfl, by show 1 ≤ sizeLine; decide, fun q0 hq0 => ?_⟩
    have e0 : Ex H (upd H q0 (.lst [v])) := ex_new hq0
    have hkt : kt [b] ≤ 400 := by have := G.few; unfold kt; simp only [knotss, tipss]; omega
    refine Evl.q_forR1 (n := 61) (Evl.ea_cons (Evl.ev_op (z := .int 61) Evl.ev_c Evl.ev_c (Evl.rv_I0 (g := fun i j => .int (i + j)) (i := 60) (j := 1))) Evl.ea_nil) (by omega) (fun i σ H' => ∃ (q : Addr) (x3 : Option V), σ = [some v, some (.int (sumL [b] i : Nat)), some (.ref q), x3, none, none] ∧ Ex H H' ∧ LsB K H' q (itN i [b]))
      (fun H1 e1 => ⟨q0, none, rfl, e0.trans e1, LsB.ex ⟨[v], upd_same, .cons (Dp.ex e0 _ _ hv) .nil⟩ e1⟩) ?_ ?_
    · rintro i σ' H' hi ⟨q1, x3, rfl, eH, hcur⟩
      obtain ⟨cs, hc1, hc2⟩ := id hcur
      have hlen : cs.length = (itN i [b]).length := by rw [DpAll.len hc2, List.length_map]
      have hs1 := sumL_kt [b] (i + 1)
      have hok := itN_ok (l := [b]) (by show okB b && true = true; rw [G.ok]; rfl) i
      have hsz : (itN i [b]).length ≤ 400 := by
        have h1 := itN_kt [b] i
        have h2 := kt_nxt (itN i [b])
        omega
      refine ⟨_, rfl, _, rfl, q1, cs, rfl, .inl (SqL.of hc1), _, _, rfl, rfl, ?_⟩
      have esum : ((sumL [b] i : Nat) : Int) + ((cs.length : Nat) : Int) = ((sumL [b] (i + 1) : Nat) : Int) := by
        rw [hlen]
        show _ = ((sumL [b] i + (itN i [b]).length : Nat) : Int)
        omega
      dsimp only
      show tSeq (tIfS _ _ _) _ _ [some v, some (.int (((sumL [b] i : Nat) : Int) + ((cs.length : Nat) : Int))), some (.ref q1), some (.int (i : Int)), none, none] H'
      refine Evl.q_when (b := false) (Evl.et_or (a := false) (b := false) (fun H1 e Q k => ?_) (fun _ => Evl.et_not (a := true) (Evl.et_test ?_))) (fun hb => by cases hb) (fun _ H1 e1 => ?_)
      · refine ⟨_, rfl, _, _, rfl, rfl, _, rfl, ?_⟩
        have hd : decide ((400 : Int) < ((sumL [b] (i + 1) : Nat) : Int)) = false := decide_eq_false (by omega)
        show Q (decide ((400 : Int) < ((sumL [b] i : Nat) : Int) + ((cs.length : Nat) : Int))) H1
        rw [esum, hd]
        exact k H1 (Evl.Ex.refl H1)
      · have hall : ((List.replicate cs.length true).all id) = true := by simp
        rw [← hall]
        refine ev_allL ?_
        have := Evl.el_lcL (K := K) (σ := [some v, some (.int (((sumL [b] i : Nat) : Int) + ((cs.length : Nat) : Int))), some (.ref q1), some (.int (i : Int)), none, none]) (H := H') (tl := tVar 2) (j := 4) (t := tYes) (te := tCall (spHasForm K) [] E0 (tCons (tVar 4) tNil)) (vs := [4]) (xs := cs) (a := q1)
          (fun _ => true) (fun i => .bl true) (Evl.ev_var rfl) (SqL.of hc1) (by omega) (fun x => rfl) (fun i x H2 e2 hx => evT_yes) (fun i x H2 e2 hx _ H3 e3 Q k => by
            obtain ⟨b', hb', hxb⟩ := dpAll_map hc2 hx
            exact ⟨x, rfl, x, b', rfl, Dp.ex (e2.trans e3) _ _ hxb, okR_of (okBs_mem hok (List.mem_of_getElem? hb')), k H3 (Evl.Ex.refl H3)⟩)
        rw [given_all] at this
        have er : (List.range cs.length).map (fun _ => V.bl true) = (List.replicate cs.length true).map V.bl := by
          rw [List.map_replicate, List.map_const', List.length_range]
        rw [er] at this
        exact this
      · obtain ⟨cs', hc1', hc2'⟩ := hcur.ex e1
        obtain ⟨yss, y1, y2, y3⟩ := kids_of hc2'
        refine Evl.s_asgL (el_lc2 (jx := 4) (jy := 5) (vs := [4, 5]) (vs1 := [5]) (fun i => yss.getD i []) (a := q1) (xs := cs') (Evl.ev_var rfl) (SqL.of hc1') (fun x => rfl) (fun x y => rfl) (fun x y => rfl) (fun i x H1 e1 hx R hR => ?_) ?_) (fun D H2 hD eD hD2 => ?_)
        · obtain ⟨a, zs, rfl, ha, hy⟩ := y2 i x hx
          refine sl_from1 rfl (Evl.ex_t e1 ha) fun b H2 e2 hb => hR b H2 e2 ?_
          rw [List.getD_eq_getElem?_getD, hy]
          exact hb
        · rw [flat_range (by omega)]
          have h1 := DpAll.len y3
          rw [h1, List.length_map]
          have h2 := itN_kt [b] (i + 1)
          have h3 := kt_nxt (itN (i + 1) [b])
          have h4 : (nxt (itN i [b])).length ≤ 400 := by
            show (itN (i + 1) [b]).length ≤ 400
            omega
          exact Nat.lt_of_le_of_lt h4 (by decide)
        · rw [flat_range (by omega)] at hD2
          refine ⟨D, some (.int (i : Int)), ?_, (eH.trans e1).trans eD, ⟨_, hD2, DpAll.ex eD _ _ y3⟩⟩
          rw [← esum]
          rfl
    · rintro σ' H' ⟨q1, x3, rfl, eH, cs, hc1, hc2⟩
      have h0 : itN 61 [b] = [] := itN_nil (by have := G.dep; show max (dep b) (deps []) < 61; have : deps [] = 0 := rfl; omega)
      have h1 : cs = [] := List.eq_nil_of_length_eq_zero (by rw [DpAll.len hc2, List.length_map]; show (itN 61 [b]).length = 0; rw [h0]; rfl)
      subst h1
      exact ⟨_, rfl, _, .inl ⟨[], SqL.of hc1, rfl⟩, q H' eH⟩
end
end Bk

namespace Bk
open PySem PySem.Spec PyProof.Rows L2
theorem nxt_cons (b : Bu) (l : List Bu) : nxt (b :: l) = kids b ++ nxt l := by unfold nxt; rw [List.flatMap_cons]
theorem deps_app (xs ys : List Bu) : deps (xs ++ ys) = max (deps xs) (deps ys) := by
  induction xs with
  | nil => simp [deps]
  | cons x xs ih => rw [List.cons_append, deps, deps, ih, Nat.max_assoc]
theorem deps_nxt2 : ∀ l : List Bu, deps l ≤ deps (nxt l) + 1
  | [] => Nat.zero_le _
  | b :: l => by
    have ih := deps_nxt2 l
    rw [nxt_cons, deps_app, deps]
    cases b with
    | tip => have : dep .tip = 0 := rfl; omega
    | knot c bs => have : dep (.knot c bs) = deps bs + 1 := rfl; show max (dep (.knot c bs)) (deps l) ≤ max (deps bs) _ + 1; omega
theorem nxt_nil : ∀ {l : List Bu}, okBs l = true → nxt l = [] → deps l = 0
  | [], _, _ => rfl
  | b :: l, ho, h => by
    have h' : okB b = true ∧ okBs l = true := by simpa [okBs] using ho
    rw [nxt_cons] at h
    have h1 := List.append_eq_nil_iff.mp h
    have ih := nxt_nil h'.2 h1.2
    rw [deps, ih]
    cases b with
    | tip => rfl
    | knot c bs =>
      have := (okB_knot h'.1).2.1.1
      have e : bs = [] := h1.1
      rw [e] at this
      simp at this
theorem lvsN_nil : ∀ n, lvsN n [] = []
  | 0 => rfl
  | _ + 1 => rfl
theorem lvsN_cons {n : Nat} {l : List Bu} (h : l ≠ []) : lvsN (n + 1) l = l :: lvsN n (nxt l) := by
  rw [lvsN]
  cases l with
  | nil => exact absurd rfl h
  | cons b t => rfl
theorem nxt_lt {n : Nat} {l : List Bu} (h : deps l < n + 1) : deps (nxt l) < n ∨ nxt l = [] := by
  rcases deps_nxt l with e | e
  · left; omega
  · exact .inr e
theorem lv_len : ∀ (n : Nat) (l : List Bu), l ≠ [] → okBs l = true → deps l < n → (lvsN n l).length = deps l + 1
  | 0, _, _, _, h => absurd h (by omega)
  | n + 1, l, hn, ho, h => by
    rw [lvsN_cons hn, List.length_cons]
    by_cases e : nxt l = []
    · rw [e, lvsN_nil, nxt_nil ho e]
      rfl
    · have h1 : deps (nxt l) < n := (nxt_lt h).resolve_right e
      rw [lv_len n (nxt l) e (okBs_nxt ho) h1]
      have h2 := deps_nxt2 l
      have h3 := (deps_nxt l).resolve_right e
      omega
theorem lv_sum : ∀ (n : Nat) (l : List Bu), (l = [] ∨ deps l < n) → ((lvsN n l).map fun l => ((l.length : Nat) : Int)).sum = ((kt l : Nat) : Int)
  | n, [], _ => by rw [lvsN_nil]; rfl
  | 0, b :: t, h => by rcases h with h | h; · simp at h
                       · omega
  | n + 1, b :: t, h => by
    have hn : b :: t ≠ [] := by simp
    have h1 : deps (b :: t) < n + 1 := h.resolve_left hn
    have ih := lv_sum n (nxt (b :: t)) (nxt_lt h1).symm
    rw [lvsN_cons hn, List.map_cons, List.sum_cons, ih]
    have := kt_nxt (b :: t)
    omega
theorem tipss_app (xs ys : List Bu) : tipss (xs ++ ys) = tipss xs + tipss ys := by
  induction xs with
  | nil => simp [tipss]
  | cons x xs ih => rw [List.cons_append, tipss, tipss, ih, Nat.add_assoc]
theorem tipss_nxt : ∀ l : List Bu, tipss l = l.countP isTip + tipss (nxt l)
  | [] => rfl
  | b :: l => by
    have ih := tipss_nxt l
    rw [nxt_cons, tipss_app, tipss, List.countP_cons]
    cases b with
    | tip => have : tips .tip = 1 := rfl; have h2 : tipss (kids .tip) = 0 := rfl; simp [isTip]; omega
    | knot c bs => have : tips (.knot c bs) = tipss bs := rfl; have h2 : tipss (kids (.knot c bs)) = tipss bs := rfl; simp [isTip]; omega
theorem lv_tip : ∀ (n : Nat) (l : List Bu), (l = [] ∨ deps l < n) → ((lvsN n l).map fun l => ((l.countP isTip : Nat) : Int)).sum = ((tipss l : Nat) : Int)
  | n, [], _ => by rw [lvsN_nil]; rfl
  | 0, b :: t, h => by rcases h with h | h; · simp at h
                       · omega
  | n + 1, b :: t, h => by
    have hn : b :: t ≠ [] := by simp
    have h1 : deps (b :: t) < n + 1 := h.resolve_left hn
    have ih := lv_tip n (nxt (b :: t)) (nxt_lt h1).symm
    rw [lvsN_cons hn, List.map_cons, List.sum_cons, ih]
    have := tipss_nxt (b :: t)
    omega
theorem lv_mem : ∀ (n : Nat) (l x : List Bu), okBs l = true → x ∈ lvsN n l → okBs x = true ∧ x.length ≤ kt l
  | 0, _, _, _, h => by simp [lvsN] at h
  | n + 1, l, x, ho, h => by
    by_cases e : l = []
    · subst e; rw [lvsN_nil] at h; simp at h
    · rw [lvsN_cons e] at h
      have h2 := kt_nxt l
      rcases List.mem_cons.mp h with h1 | h1
      · subst h1; exact ⟨ho, by omega⟩
      · have h3 := lv_mem n (nxt l) x (okBs_nxt ho) h1
        exact ⟨h3.1, by omega⟩
theorem nears_cons (b : Bu) {l : List Bu} (h : l ≠ []) : nears (b :: l) = min (near b) (nears l) := by
  cases l with
  | nil => exact absurd rfl h
  | cons c t => rw [nears]
theorem nears_one (b : Bu) : nears [b] = near b := by rw [nears]
theorem nears_app : ∀ {xs ys : List Bu}, xs ≠ [] → ys ≠ [] → nears (xs ++ ys) = min (nears xs) (nears ys)
  | [], _, h, _ => absurd rfl h
  | [x], ys, _, h => by rw [List.singleton_append, nears_cons x h, nears_one]
  | x :: x2 :: t, ys, _, h => by
    have ih := nears_app (xs := x2 :: t) (ys := ys) (by simp) h
    rw [List.cons_append, nears_cons x (by simp), ih, nears_cons x (l := x2 :: t) (by simp), Nat.min_assoc]
theorem no_tip : ∀ {l : List Bu}, l ≠ [] → okBs l = true → l.countP isTip = 0 → nxt l ≠ [] ∧ nears l = nears (nxt l) + 1
  | [], h, _, _ => absurd rfl h
  | b :: l, _, ho, hc => by
    have h' : okB b = true ∧ okBs l = true := by simpa [okBs] using ho
    rw [List.countP_cons] at hc
    cases b with
    | tip => simp [isTip] at hc
    | knot c bs =>
      have hb : bs ≠ [] := by
        intro e
        have := (okB_knot h'.1).2.1.1
        rw [e] at this
        simp at this
      have hn : near (.knot c bs) = nears bs + 1 := rfl
      rw [nxt_cons]
      have hk : kids (.knot c bs) = bs := rfl
      rw [hk]
      refine ⟨by simp [hb], ?_⟩
      by_cases e : l = []
      · subst e
        rw [nears_one, hn, show nxt ([] : List Bu) = [] from rfl, List.append_nil]
      · have ih := no_tip e h'.2 (by omega)
        rw [nears_cons _ e, nears_app hb ih.1, ih.2, hn]
        omega
theorem some_tip : ∀ {l : List Bu}, 0 < l.countP isTip → nears l = 0
  | [], h => by simp at h
  | b :: l, h => by
    cases b with
    | tip =>
      by_cases e : l = []
      · subst e; rfl
      · rw [nears_cons _ e]; exact Nat.zero_min _
    | knot c bs =>
      rw [List.countP_cons] at h
      have h1 : 0 < l.countP isTip := by simpa [isTip] using h
      have e : l ≠ [] := by intro e; subst e; simp at h1
      rw [nears_cons _ e, some_tip h1]; exact Nat.min_zero _
theorem lv_near : ∀ (n : Nat) (l : List Bu), l ≠ [] → okBs l = true → deps l < n →
    nears l < (lvsN n l).length ∧ 0 < ((lvsN n l).getD (nears l) []).countP isTip ∧ ∀ i, i < nears l → ((lvsN n l).getD i []).countP isTip = 0
  | 0, _, _, _, h => absurd h (by omega)
  | n + 1, l, hn, ho, h => by
    rw [lvsN_cons hn]
    by_cases hc : 0 < l.countP isTip
    · rw [some_tip hc]
      exact ⟨by simp, by simpa using hc, fun i hi => absurd hi (by omega)⟩
    · obtain ⟨h1, h2⟩ := no_tip hn ho (by omega)
      obtain ⟨a, b, c⟩ := lv_near n (nxt l) h1 (okBs_nxt ho) ((nxt_lt h).resolve_right h1)
      rw [h2]
      refine ⟨by simpa using a, by simpa using b, fun i hi => ?_⟩
      cases i with
      | zero => simpa using hc
      | succ i => simpa using c i (by omega)
theorem Good.fits {b : Bu} (G : Good b) : Fits b := by
  have hd : deps [b] = Bk.dep b := Nat.max_zero _
  have ho : okBs [b] = true := by show okB b && true = true; rw [G.ok]; rfl
  have hk : kt [b] = knots b + tips b := rfl
  have hf := G.few
  obtain ⟨n1, n2, n3⟩ := lv_near (Bk.dep b + 1) [b] (by simp) ho (by rw [hd]; omega)
  rw [nears_one] at n1 n2 n3
  have hg : ∀ i, (cnts b).getD i 0 = (((lvls b).getD i []).countP isTip : Nat) := by
    intro i
    unfold cnts
    rw [List.getD_eq_getElem?_getD, List.getD_eq_getElem?_getD, List.getElem?_map]
    cases (lvls b)[i]? with
    | none => rfl
    | some l => rfl
  refine ⟨G.ok, by have := G.dep; omega, by omega, fun l hl => ?_, fun l hl => ?_, ?_, ?_, ?_, ?_, ?_⟩
  · have := (lv_mem _ _ _ ho hl).2
    omega
  · exact (lv_mem _ _ _ ho hl).1
  · have := lv_sum (Bk.dep b + 1) [b] (.inr (by rw [hd]; omega))
    rw [hk] at this
    exact this
  · exact lv_tip (Bk.dep b + 1) [b] (.inr (by rw [hd]; omega))
  · have := lv_len (Bk.dep b + 1) [b] (by simp) ho (by rw [hd]; omega)
    rw [hd] at this
    exact this
  · refine List.mem_filterMap.mpr ⟨near b, List.mem_range.mpr ?_, ?_⟩
    · unfold cnts
      rw [List.length_map]
      exact n1
    · rw [hg]
      exact if_pos (decide_eq_true (Int.natCast_pos.mpr n2))
  · intro y hy
    obtain ⟨i, _, h2⟩ := List.mem_filterMap.mp hy
    rw [hg] at h2
    by_cases c : 0 < (((lvls b).getD i []).countP isTip : Nat)
    · rw [if_pos (decide_eq_true (Int.natCast_pos.mpr c))] at h2
      have e := Option.some.inj h2
      by_cases hi : i < near b
      · have := n3 i hi
        have c' : 0 < ((lvsN (Bk.dep b + 1) [b]).getD i []).countP isTip := c
        omega
      · omega
    · rw [if_neg (fun e => c (Int.natCast_pos.mp (of_decide_eq_true e)))] at h2
      cases h2
/-! ### grown bushes -/
mutual
theorem dep_grow (g : Bu) : ∀ b : Bu, okB b = true → dep (grow b g) = dep b + dep g
  | .tip, _ => by show dep g = 0 + dep g; omega
  | .knot c bs, h => by
    obtain ⟨_, h2, h3⟩ := okB_knot h
    show deps (growL bs g) + 1 = deps bs + 1 + dep g
    have := deps_growL g bs h3 (by intro e; rw [e] at h2; simp at h2)
    omega
theorem deps_growL (g : Bu) : ∀ bs : List Bu, okBs bs = true → bs ≠ [] → deps (growL bs g) = deps bs + dep g
  | [], _, h => absurd rfl h
  | b :: bs, h, _ => by
    have h' : okB b = true ∧ okBs bs = true := by simpa [okBs] using h
    have h1 := dep_grow g b h'.1
    rw [growL, deps, deps, h1]
    by_cases e : bs = []
    · subst e
      show max _ 0 = max (dep b) 0 + dep g
      omega
    · rw [deps_growL g bs h'.2 e]
      omega
end
mutual
theorem ok_grow2 {g : Bu} (hg : okB g = true) : ∀ b : Bu, okB b = true → okB (grow b g) = true
  | .tip, _ => hg
  | .knot c bs, h => by
    obtain ⟨h1, h2, h3⟩ := okB_knot h
    show okB (.knot c (growL bs g)) = true
    have h4 := ok_growL hg bs h3
    have h5 : (growL bs g).length = bs.length := by rw [growL_map, List.length_map]
    simp [okB, h1, h2, h4, h5]
theorem ok_growL {g : Bu} (hg : okB g = true) : ∀ bs : List Bu, okBs bs = true → okBs (growL bs g) = true
  | [], _ => rfl
  | b :: bs, h => by
    have h' : okB b = true ∧ okBs bs = true := by simpa [okBs] using h
    rw [growL, okBs, ok_grow2 hg b h'.1, ok_growL hg bs h'.2]
    rfl
end
mutual
theorem sizes_grow (g : Bu) : ∀ b : Bu, knots (grow b g) = knots b + tips b * knots g ∧ tips (grow b g) = tips b * tips g
  | .tip => by
    show knots g = 0 + 1 * knots g ∧ tips g = 1 * tips g
    omega
  | .knot c bs => by
    have h := sizes_growL g bs
    show knotss (growL bs g) + 1 = knotss bs + 1 + tipss bs * knots g ∧ tipss (growL bs g) = tipss bs * tips g
    exact ⟨by rw [h.1]; omega, h.2⟩
theorem sizes_growL (g : Bu) : ∀ bs : List Bu, knotss (growL bs g) = knotss bs + tipss bs * knots g ∧ tipss (growL bs g) = tipss bs * tips g
  | [] => by simp [growL, knotss, tipss]
  | b :: bs => by
    have h1 := sizes_grow g b
    have h2 := sizes_growL g bs
    show knots (grow b g) + knotss (growL bs g) = knots b + knotss bs + (tips b + tipss bs) * knots g ∧ tips (grow b g) + tipss (growL bs g) = (tips b + tipss bs) * tips g
    rw [h1.1, h1.2, h2.1, h2.2, Nat.add_mul, Nat.add_mul]
    constructor
    · omega
    · rfl
end
mutual
theorem near_grow (g : Bu) : ∀ b : Bu, okB b = true → near (grow b g) = near b + near g
  | .tip, _ => by show near g = 0 + near g; omega
  | .knot c bs, h => by
    obtain ⟨_, h2, h3⟩ := okB_knot h
    show nears (growL bs g) + 1 = nears bs + 1 + near g
    have := nears_growL g bs h3 (by intro e; rw [e] at h2; simp at h2)
    omega
theorem nears_growL (g : Bu) : ∀ bs : List Bu, okBs bs = true → bs ≠ [] → nears (growL bs g) = nears bs + near g
  | [], _, h => absurd rfl h
  | b :: bs, h, _ => by
    have h' : okB b = true ∧ okBs bs = true := by simpa [okBs] using h
    have h1 := near_grow g b h'.1
    by_cases e : bs = []
    · subst e
      show nears [grow b g] = nears [b] + near g
      rw [nears_one, nears_one, h1]
    · have e2 : growL bs g ≠ [] := by
        intro hh
        have : (growL bs g).length = bs.length := by rw [growL_map, List.length_map]
        rw [hh] at this
        exact e (List.eq_nil_of_length_eq_zero this.symm)
      rw [growL, nears_cons _ e2, nears_cons _ e, h1, nears_growL g bs h'.2 e]
      omega
end
/-- a bush grown by a row -/
def growAll (b : Bu) (gs : List Bu) : Bu := gs.foldl grow b
theorem growAll_snoc (b : Bu) (gs : List Bu) (g : Bu) : growAll b (gs ++ [g]) = grow (growAll b gs) g := by unfold growAll; rw [List.foldl_append]; rfl
theorem ok_growAll : ∀ {gs : List Bu} {b : Bu}, okB b = true → (∀ g ∈ gs, okB g = true) → okB (growAll b gs) = true
  | [], _, h, _ => h
  | g :: gs, b, h, hg => ok_growAll (gs := gs) (b := grow b g) (ok_grow2 (hg g List.mem_cons_self) b h) fun x hx => hg x (List.mem_cons_of_mem _ hx)
/-- the counts are those of the bush grown -/
theorem ctrs_grow : ∀ {gs : List Bu} {b : Bu}, okB b = true → (∀ g ∈ gs, okB g = true) →
    ctrs b gs = (knots (growAll b gs), tips (growAll b gs), near (growAll b gs), dep (growAll b gs))
  | [], _, _, _ => rfl
  | g :: gs, b, h, hg => by
    have ih := ctrs_grow (gs := gs) (b := grow b g) (ok_grow2 (hg g List.mem_cons_self) b h) fun x hx => hg x (List.mem_cons_of_mem _ hx)
    have e : ctrs b (g :: gs) = ctrs (grow b g) gs := by
      unfold ctrs
      rw [List.foldl_cons]
      have hs := sizes_grow g b
      have e2 : ctr (knots b, tips b, near b, dep b) g = (knots (grow b g), tips (grow b g), near (grow b g), dep (grow b g)) := by
        unfold ctr
        rw [hs.1, hs.2, near_grow g b h, dep_grow g b h]
      rw [e2]
    rw [e, ih]
    rfl
theorem dep_growAll : ∀ {gs : List Bu} {b : Bu}, okB b = true → (∀ g ∈ gs, okB g = true) → dep b ≤ dep (growAll b gs)
  | [], _, _, _ => Nat.le_refl _
  | g :: gs, b, h, hg => by
    have ih := dep_growAll (gs := gs) (b := grow b g) (ok_grow2 (hg g List.mem_cons_self) b h) fun x hx => hg x (List.mem_cons_of_mem _ hx)
    have := dep_grow g b h
    show dep b ≤ dep (growAll (grow b g) gs)
    omega
theorem tips_pos : ∀ {b : Bu}, okB b = true → 1 ≤ tips b := by
  have key : ∀ n, ∀ b : Bu, dep b ≤ n → okB b = true → 1 ≤ tips b := by
    intro n
    induction n with
    | zero =>
      intro b hd ho
      cases b with
      | tip => exact Nat.le_refl 1
      | knot c bs => simp [dep] at hd
    | succ n ih =>
      intro b hd ho
      cases b with
      | tip => exact Nat.le_refl 1
      | knot c bs =>
        obtain ⟨_, h2, h3⟩ := okB_knot ho
        cases bs with
        | nil => simp at h2
        | cons b t =>
          have h4 : dep b ≤ n := by
            have := dep_le (bs := b :: t) (b := b) List.mem_cons_self
            simp only [dep] at hd
            omega
          have h5 := ih b h4 (okBs_mem h3 List.mem_cons_self)
          show 1 ≤ tips b + tipss t
          omega
  exact fun {b} h => key _ b (Nat.le_refl _) h
theorem size_growAll : ∀ {gs : List Bu} {b : Bu}, okB b = true → (∀ g ∈ gs, okB g = true) → knots b + tips b ≤ knots (growAll b gs) + tips (growAll b gs)
  | [], _, _, _ => Nat.le_refl _
  | g :: gs, b, h, hg => by
    have hgo := hg g List.mem_cons_self
    have ih := size_growAll (gs := gs) (b := grow b g) (ok_grow2 hgo b h) fun x hx => hg x (List.mem_cons_of_mem _ hx)
    have hs := sizes_grow g b
    have ht := tips_pos hgo
    have h1 : tips b * 1 ≤ tips b * tips g := Nat.mul_le_mul_left _ ht
    show knots b + tips b ≤ knots (growAll (grow b g) gs) + tips (growAll (grow b g) gs)
    have h2 : 0 ≤ tips b * knots g := Nat.zero_le _
    omega
end Bk

namespace Bk
open PySem PySem.Spec PyProof.Rows L2
open Evl (Ex Ev EvT EvL EvU EvA)
structure Can (b : Bu) (gs : List Bu) : Prop where
  hb : Good b
  hg : ∀ g ∈ gs, Good g
  n : gs.length ≤ 12
  few : knots (growAll b gs) + tips (growAll b gs) ≤ 400
  deep : dep (growAll b gs) ≤ 60
/-- a bush and what it comes to behind each year, up to one -/
def yrs (b : Bu) (gs : List Bu) (i : Nat) : List Bu := (List.range (i + 1)).map fun j => growAll b (gs.take j)
theorem yrs_succ (b : Bu) (gs : List Bu) (i : Nat) : yrs b gs (i + 1) = yrs b gs i ++ [growAll b (gs.take (i + 1))] := by
  unfold yrs
  rw [List.range_succ, List.map_append]
  rfl
theorem yrs_last (b : Bu) (gs : List Bu) (i : Nat) : ∃ l, yrs b gs i = l ++ [growAll b (gs.take i)] := by
  unfold yrs
  rw [List.range_succ, List.map_append]
  exact ⟨_, rfl⟩
theorem dpAll_last {K : PySem.W.Frag} {H : Hp} {vs : List V} {l : List Bu} {b : Bu} (h : DpAll K H vs ((l ++ [b]).map toD)) : ∃ us v, vs = us ++ [v] ∧ Dp K H v (toD b) := by
  induction l generalizing vs with
  | nil =>
    cases h with
    | cons h1 h2 => cases h2; exact ⟨[], _, rfl, h1⟩
  | cons x l ih =>
    cases h with
    | cons h1 h2 =>
      obtain ⟨us, v, e, d⟩ := ih h2
      exact ⟨_ :: us, v, by rw [e]; rfl, d⟩
section
variable {P : Program} {w : World} {K : PySem.W.Frag} {mg : Str → Option Value} {base : Heap}
def spAreGr (K : PySem.W.Frag) : Sp := fun vs H Q _ => ∃ (v : V) (gs : List Bu), vs = [v] ∧ Dp K H v (.tuple (gs.map toD)) ∧ (∀ g ∈ gs, Good g) ∧ gs.length ≤ 12 ∧ ∀ H', Ex H H' → Q (.bl true) H'
def spCheckB (K : PySem.W.Frag) : Sp := fun vs H Q _ => ∃ (v : V) (b : Bu), vs = [v] ∧ Dp K H v (toD b) ∧ Good b ∧ ∀ H', Ex H H' → Q .non H'
theorem ok_check_bush (T : Tx K mg) : FnOk P w K mg base CX0 4 T.a_check_bush T.d_check_bush P_check_bush (spCheckB K) := by
  have G1 : FnOk P w K mg base CX0 3 T.a_is_bush T.d_is_bush P_is_bush (spIsBush K) := ok_is_bush T
  refine T.F_check_bush.ok sc_check_bush (fun vs H Q E h => ?_) (fun cdv A outer s H vs Q E hr h => ?_)
  · obtain ⟨v, b, rfl, _⟩ := h; rfl
  · obtain ⟨v, b, rfl, hv, G, q⟩ := h
    refine ⟨_, pss_one (ps_if (pt_not (pt_val (pe_call G1 hr (by rfl) T.g_is_bush T.F_is_bush.kp T.b_is_bush .nil pass0 (pa_cons (pv 0) pa_nil)))) pss_never pss_nil), ?_⟩
    exact ⟨v, rfl, v, b, rfl, hv, G, fun H1 e1 => ⟨true, rfl, iteF (q H1 e1)⟩⟩
def spCheckG (K : PySem.W.Frag) : Sp := fun vs H Q _ => ∃ (v : V) (gs : List Bu), vs = [v] ∧ Dp K H v (.tuple (gs.map toD)) ∧ (∀ g ∈ gs, Good g) ∧ gs.length ≤ 12 ∧ ∀ H', Ex H H' → Q .non H'
def spRoom (K : PySem.W.Frag) : Sp := fun vs H Q _ => ∃ (v r : V) (b : Bu) (gs : List Bu), vs = [v, r] ∧ Dp K H v (toD b) ∧ Dp K H r (.tuple (gs.map toD)) ∧ Can b gs ∧ ∀ H', Ex H H' → Q .non H'
def spYears (K : PySem.W.Frag) : Sp := fun vs H Q _ => ∃ (v r : V) (b : Bu) (gs : List Bu), vs = [v, r] ∧ Dp K H v (toD b) ∧ Dp K H r (.tuple (gs.map toD)) ∧ Can b gs ∧ ∀ p H', H p = none → Ex H H' → LsB K H' p (yrs b gs gs.length) → Q (.ref p) H'
/-- the call of the years, as data -/
theorem ed_years {σ : L2.St} {H : Hp} {ta : TA} {E : XK} {b : Bu} {gs : List Bu} (C : Can b gs) (h : EvAD K ta σ H [toD b, .tuple (gs.map toD)]) : EvD K (tCall (spYears K) [] E ta) σ H (.list ((yrs b gs gs.length).map toD)) :=
  el_callD h fun vs H1 e1 hvs R r => by
    cases hvs with
    | cons h1 h2 =>
      cases h2 with
      | cons h3 h4 =>
        cases h4
        exact ⟨_, _, b, gs, rfl, h1, h3, C, fun p H' hp e ⟨us, h5, h6⟩ => r p H' us hp e h5 h6⟩
theorem yrs_lastD (b : Bu) (gs : List Bu) : ∃ l, (yrs b gs gs.length).map toD = l ++ [toD (growAll b gs)] := by
  obtain ⟨l, h⟩ := yrs_last b gs gs.length
  rw [h, List.map_append, List.take_length]
  exact ⟨_, rfl⟩
def spGrown (K : PySem.W.Frag) : Sp := fun vs H Q _ => ∃ (v g : V) (b gb : Bu), vs = [v, g] ∧ Dp K H v (toD b) ∧ Dp K H g (toD gb) ∧ Can b [gb] ∧ ∀ r H', Ex H H' → Dp K H' r (toD (grow b gb)) → Q r H'
def spGrownBy (K : PySem.W.Frag) : Sp := fun vs H Q _ => ∃ (v r : V) (b : Bu) (gs : List Bu), vs = [v, r] ∧ Dp K H v (toD b) ∧ Dp K H r (.tuple (gs.map toD)) ∧ Can b gs ∧ ∀ r H', Ex H H' → Dp K H' r (toD (growAll b gs)) → Q r H'
def spGrownOn (K : PySem.W.Frag) : Sp := fun vs H Q _ => ∃ (v r : V) (b : Bu) (gs : List Bu), vs = [v, r] ∧ Dp K H v (toD b) ∧ Dp K H r (.tuple (gs.map toD)) ∧ Can b gs ∧ ∀ r H', Ex H H' → Dp K H' r (.list ((yrs b gs gs.length).map toD)) → Q r H'
def spBushOf (K : PySem.W.Frag) : Sp := fun vs H Q _ => ∃ (r : V) (gs : List Bu), vs = [r] ∧ Dp K H r (.tuple (gs.map toD)) ∧ Can .tip gs ∧ ∀ r H', Ex H H' → Dp K H' r (toD (growAll .tip gs)) → Q r H'
end
end Bk

namespace Bk
open PySem PySem.Spec PyProof.Rows L2
/-! ### roads -/
abbrev Rb := List Int × Bu
def at1 (i : Int) (p : Rb) : Rb := (i :: p.1, p.2)
mutual
/-- all parts with their roads, as they are met: the last branch first -/
def vis : Bu → List Rb
  | .tip => [([], .tip)]
  | .knot c bs => ([], .knot c bs) :: visL 0 bs
def visL : Nat → List Bu → List Rb
  | _, [] => []
  | i, b :: bs => visL (i + 1) bs ++ (vis b).map (at1 i)
end
mutual
/-- the same in order -/
def pre : Bu → List Rb
  | .tip => [([], .tip)]
  | .knot c bs => ([], .knot c bs) :: preL 0 bs
def preL : Nat → List Bu → List Rb
  | _, [] => []
  | i, b :: bs => (pre b).map (at1 i) ++ preL (i + 1) bs
end
mutual
/-- the roads to the tips, in order -/
def tr : Bu → List (List Int)
  | .tip => [[]]
  | .knot _ bs => trL 0 bs
def trL : Nat → List Bu → List (List Int)
  | _, [] => []
  | i, b :: bs => (tr b).map ((i : Int) :: ·) ++ trL (i + 1) bs
end
mutual
theorem vis_perm : ∀ b : Bu, (vis b).Perm (pre b)
  | .tip => List.Perm.refl _
  | .knot c bs => (visL_perm 0 bs).cons _
theorem visL_perm : ∀ (i : Nat) (bs : List Bu), (visL i bs).Perm (preL i bs)
  | _, [] => List.Perm.refl _
  | i, b :: bs => (List.perm_append_comm).trans (((vis_perm b).map _).append (visL_perm (i + 1) bs))
end
theorem preL_ge : ∀ {i : Nat} {bs : List Bu} {p : Rb}, p ∈ preL i bs → ∃ (j : Nat) (r : List Int), p.1 = (j : Int) :: r ∧ i ≤ j
  | i, [], p, h => by simp [preL] at h
  | i, b :: bs, p, h => by
    rw [preL] at h
    rcases List.mem_append.mp h with h | h
    · obtain ⟨q, _, rfl⟩ := List.mem_map.mp h
      exact ⟨i, q.1, rfl, Nat.le_refl _⟩
    · obtain ⟨j, r, h1, h2⟩ := preL_ge h
      exact ⟨j, r, h1, by omega⟩
mutual
theorem pre_sorted : ∀ b : Bu, (pre b).Pairwise fun p q => p.1 < q.1
  | .tip => by simp [pre]
  | .knot c bs => by
    rw [pre]
    refine List.pairwise_cons.mpr ⟨fun q hq => ?_, preL_sorted 0 bs⟩
    obtain ⟨j, r, h, _⟩ := preL_ge hq
    rw [h]
    exact List.nil_lt_cons _ _
theorem preL_sorted : ∀ (i : Nat) (bs : List Bu), (preL i bs).Pairwise fun p q => p.1 < q.1
  | _, [] => by simp [preL]
  | i, b :: bs => by
    rw [preL]
    refine List.pairwise_append.mpr ⟨?_, preL_sorted (i + 1) bs, fun p hp q hq => ?_⟩
    · refine List.pairwise_map.mpr ((pre_sorted b).imp fun {p q} h => ?_)
      exact List.cons_lt_cons_iff.mpr (.inr ⟨rfl, h⟩)
    · obtain ⟨p', _, rfl⟩ := List.mem_map.mp hp
      obtain ⟨j, r, h, h2⟩ := preL_ge hq
      rw [h]
      exact List.cons_lt_cons_iff.mpr (.inl (by omega))
end
theorem leR_iff {a b : List Int} : leR a b = true ↔ a ≤ b := by
  unfold leR
  rw [Bool.not_eq_true', decide_eq_false_iff_not]
  exact List.not_lt
theorem sort_vis (b : Bu) : ((vis b).map (·.1)).mergeSort leR = (pre b).map (·.1) := by
  have hp : (((vis b).map (·.1)).mergeSort leR).Perm ((pre b).map (·.1)) := (List.mergeSort_perm _ _).trans ((vis_perm b).map _)
  refine List.Perm.eq_of_pairwise (le := fun a b => leR a b = true) (fun x y _ _ h1 h2 => ?_) (List.pairwise_mergeSort (fun x y z h1 h2 => ?_) (fun x y => ?_) _) ?_ hp
  · exact List.le_antisymm (leR_iff.mp h1) (leR_iff.mp h2)
  · exact leR_iff.mpr (List.le_trans (leR_iff.mp h1) (leR_iff.mp h2))
  · rcases List.le_total x y with h | h
    · rw [leR_iff.mpr h]; rfl
    · rw [leR_iff.mpr h]; exact Bool.or_true _
  · refine List.pairwise_map.mpr ((pre_sorted b).imp fun {p q} h => ?_)
    exact leR_iff.mpr (List.le_of_lt h)
theorem nodup_vis (b : Bu) : ((vis b).map (·.1)).Nodup := by
  refine ((vis_perm b).map _).nodup_iff.mpr ?_
  refine List.pairwise_map.mpr ((pre_sorted b).imp fun {p q} h e => ?_)
  rw [e] at h
  exact List.lt_irrefl _ h
theorem tips_at1 (l : List Rb) (i : Nat) : ((l.map (at1 i)).filter (fun p => isTip p.2)).map (·.1) = ((l.filter (fun p => isTip p.2)).map (·.1)).map ((i : Int) :: ·) := by
  rw [List.filter_map, List.map_map, List.map_map]
  rfl
mutual
theorem pre_tips : ∀ b : Bu, ((pre b).filter (fun p => isTip p.2)).map (·.1) = tr b
  | .tip => rfl
  | .knot c bs => by
    rw [pre, tr, List.filter_cons_of_neg (by simp [isTip])]
    exact preL_tips 0 bs
theorem preL_tips : ∀ (i : Nat) (bs : List Bu), ((preL i bs).filter (fun p => isTip p.2)).map (·.1) = trL i bs
  | _, [] => rfl
  | i, b :: bs => by
    rw [preL, trL, List.filter_append, List.map_append, tips_at1, pre_tips b, preL_tips (i + 1) bs]
end
mutual
theorem pre_knots : ∀ b : Bu, (pre b).countP (fun p => !isTip p.2) = knots b
  | .tip => rfl
  | .knot c bs => by
    rw [pre, List.countP_cons, preL_knots 0 bs]
    rfl
theorem preL_knots : ∀ (i : Nat) (bs : List Bu), (preL i bs).countP (fun p => !isTip p.2) = knotss bs
  | _, [] => rfl
  | i, b :: bs => by
    rw [preL, List.countP_append, List.countP_map, preL_knots (i + 1) bs]
    have := pre_knots b
    exact congrArg (· + knotss bs) this
end
mutual
theorem pre_len : ∀ b : Bu, (pre b).length = knots b + tips b
  | .tip => rfl
  | .knot c bs => by
    rw [pre, List.length_cons, preL_len 0 bs]
    simp only [knots, tips]
    omega
theorem preL_len : ∀ (i : Nat) (bs : List Bu), (preL i bs).length = knotss bs + tipss bs
  | _, [] => rfl
  | i, b :: bs => by
    rw [preL, List.length_append, List.length_map, preL_len (i + 1) bs, pre_len b]
    simp only [knotss, tipss]
    omega
end
theorem vis_len (b : Bu) : (vis b).length = knots b + tips b := by rw [(vis_perm b).length_eq, pre_len]
theorem vis_knots (b : Bu) : (vis b).countP (fun p => !isTip p.2) = knots b := by rw [(vis_perm b).countP_eq, pre_knots]
mutual
theorem tr_len : ∀ b : Bu, (tr b).length = tips b
  | .tip => rfl
  | .knot c bs => by rw [tr, trL_len 0 bs]; rfl
theorem trL_len : ∀ (i : Nat) (bs : List Bu), (trL i bs).length = tipss bs
  | _, [] => rfl
  | i, b :: bs => by rw [trL, List.length_append, List.length_map, trL_len (i + 1) bs, tr_len b]; rfl
end
mutual
theorem tr_dep : ∀ (b : Bu) (r : List Int), r ∈ tr b → r.length ≤ dep b
  | .tip, r, h => by simp [tr] at h; subst h; exact Nat.le_refl _
  | .knot c bs, r, h => trL_dep 0 bs r h
theorem trL_dep : ∀ (i : Nat) (bs : List Bu) (r : List Int), r ∈ trL i bs → r.length ≤ deps bs + 1
  | _, [], r, h => by simp [trL] at h
  | i, b :: bs, r, h => by
    rw [trL] at h
    rw [deps]
    rcases List.mem_append.mp h with h | h
    · obtain ⟨q, hq, rfl⟩ := List.mem_map.mp h
      have := tr_dep b q hq
      rw [List.length_cons]
      omega
    · have := trL_dep (i + 1) bs r h
      omega
end
mutual
theorem tr_near : ∀ (b : Bu) (r : List Int), r ∈ tr b → near b ≤ r.length
  | .tip, r, h => Nat.zero_le _
  | .knot c bs, r, h => by
    have := trL_near 0 bs r h
    show nears bs + 1 ≤ _
    omega
theorem trL_near : ∀ (i : Nat) (bs : List Bu) (r : List Int), r ∈ trL i bs → nears bs + 1 ≤ r.length
  | _, [], r, h => by simp [trL] at h
  | i, b :: bs, r, h => by
    rw [trL] at h
    rcases List.mem_append.mp h with h | h
    · obtain ⟨q, hq, rfl⟩ := List.mem_map.mp h
      have := tr_near b q hq
      rw [List.length_cons]
      by_cases e : bs = []
      · subst e; rw [nears_one]; omega
      · rw [nears_cons _ e]; omega
    · have := trL_near (i + 1) bs r h
      by_cases e : bs = []
      · subst e; simp [trL] at h
      · rw [nears_cons _ e]; omega
end
mutual
theorem tr_ends : ∀ b : Bu, okB b = true → (∃ r ∈ tr b, r.length = dep b) ∧ ∃ r ∈ tr b, r.length = near b
  | .tip, _ => ⟨⟨[], List.mem_cons_self, rfl⟩, ⟨[], List.mem_cons_self, rfl⟩⟩
  | .knot c bs, h => by
    obtain ⟨_, h2, h3⟩ := okB_knot h
    exact trL_ends 0 bs h3 (by intro e; rw [e] at h2; simp at h2)
theorem trL_ends : ∀ (i : Nat) (bs : List Bu), okBs bs = true → bs ≠ [] → (∃ r ∈ trL i bs, r.length = deps bs + 1) ∧ ∃ r ∈ trL i bs, r.length = nears bs + 1
  | _, [], _, h => absurd rfl h
  | i, b :: bs, h, _ => by
    have h' : okB b = true ∧ okBs bs = true := by simpa [okBs] using h
    obtain ⟨⟨r1, m1, l1⟩, ⟨r2, m2, l2⟩⟩ := tr_ends b h'.1
    rw [trL, deps]
    have n1 : ((i : Int) :: r1) ∈ (tr b).map ((i : Int) :: ·) := List.mem_map.mpr ⟨r1, m1, rfl⟩
    have n2 : ((i : Int) :: r2) ∈ (tr b).map ((i : Int) :: ·) := List.mem_map.mpr ⟨r2, m2, rfl⟩
    by_cases e : bs = []
    · subst e
      rw [nears_one]
      have : deps ([] : List Bu) = 0 := rfl
      exact ⟨⟨_, List.mem_append_left _ n1, by rw [List.length_cons]; omega⟩, ⟨_, List.mem_append_left _ n2, by rw [List.length_cons]; omega⟩⟩
    · obtain ⟨⟨r3, m3, l3⟩, ⟨r4, m4, l4⟩⟩ := trL_ends (i + 1) bs h'.2 e
      rw [nears_cons _ e]
      constructor
      · by_cases c : dep b ≤ deps bs
        · exact ⟨r3, List.mem_append_right _ m3, by omega⟩
        · exact ⟨_, List.mem_append_left _ n1, by rw [List.length_cons]; omega⟩
      · by_cases c : near b ≤ nears bs
        · exact ⟨_, List.mem_append_left _ n2, by rw [List.length_cons]; omega⟩
        · exact ⟨r4, List.mem_append_right _ m4, by omega⟩
end
/-! ### a growth in the place of the part at a road -/
mutual
def putB : Bu → List Int → Bu → Bu
  | _, [], g => g
  | .tip, _ :: _, _ => .tip
  | .knot c bs, i :: r, g => .knot c (putL bs i.toNat r g)
def putL : List Bu → Nat → List Int → Bu → List Bu
  | [], _, _, _ => []
  | b :: bs, 0, r, g => putB b r g :: bs
  | b :: bs, n + 1, r, g => b :: putL bs n r g
end
mutual
def inB : Bu → List Int → Prop
  | _, [] => True
  | .tip, _ :: _ => False
  | .knot _ bs, i :: r => 0 ≤ i ∧ inL bs i.toNat r
def inL : List Bu → Nat → List Int → Prop
  | [], _, _ => False
  | b :: _, 0, r => inB b r
  | _ :: bs, n + 1, r => inL bs n r
end
theorem inL_get : ∀ {bs : List Bu} {n : Nat} {r : List Int}, inL bs n r → ∃ b, bs[n]? = some b ∧ inB b r
  | [], _, _, h => by simp [inL] at h
  | b :: _, 0, r, h => ⟨b, rfl, by simpa [inL] using h⟩
  | b :: bs, n + 1, r, h => by
    obtain ⟨x, h1, h2⟩ := inL_get (bs := bs) (n := n) (r := r) (by simpa [inL] using h)
    exact ⟨x, by simpa using h1, h2⟩
theorem putL_eq : ∀ {bs : List Bu} {n : Nat} {r : List Int} {g b : Bu}, bs[n]? = some b → putL bs n r g = bs.take n ++ putB b r g :: bs.drop (n + 1)
  | [], _, _, _, _, h => by simp at h
  | x :: bs, 0, r, g, b, h => by
    have e : x = b := by simpa using h
    subst e
    simp [putL]
  | x :: bs, n + 1, r, g, b, h => by
    have := putL_eq (bs := bs) (n := n) (r := r) (g := g) (b := b) (by simpa using h)
    simp [putL, this]
theorem putL_len : ∀ (bs : List Bu) (n : Nat) (r : List Int) (g : Bu), (putL bs n r g).length = bs.length
  | [], _, _, _ => rfl
  | x :: bs, 0, r, g => rfl
  | x :: bs, n + 1, r, g => by rw [putL, List.length_cons, putL_len bs n r g, List.length_cons]
mutual
theorem ok_put {g : Bu} (hg : okB g = true) : ∀ (b : Bu) (r : List Int), okB b = true → okB (putB b r g) = true
  | .tip, [], _ => by rw [putB]; exact hg
  | .tip, _ :: _, _ => by rw [putB]; rfl
  | .knot c bs, [], _ => by rw [putB]; exact hg
  | .knot c bs, i :: r, h => by
    obtain ⟨h1, h2, h3⟩ := okB_knot h
    rw [putB]
    have h4 := ok_putL hg bs i.toNat r h3
    have h5 := putL_len bs i.toNat r g
    simp [okB, h1, h2, h4, h5]
theorem ok_putL {g : Bu} (hg : okB g = true) : ∀ (bs : List Bu) (n : Nat) (r : List Int), okBs bs = true → okBs (putL bs n r g) = true
  | [], _, _, _ => by simp [putL, okBs]
  | x :: bs, 0, r, h => by
    have h' : okB x = true ∧ okBs bs = true := by simpa [okBs] using h
    simp [putL, okBs, ok_put hg x r h'.1, h'.2]
  | x :: bs, n + 1, r, h => by
    have h' : okB x = true ∧ okBs bs = true := by simpa [okBs] using h
    simp [putL, okBs, h'.1, ok_putL hg bs n r h'.2]
end
/-- putting at one road after the other goes well -/
def goes (g : Bu) : Bu → List (List Int) → Prop
  | _, [] => True
  | x, r :: rs => inB x r ∧ goes g (putB x r g) rs
def puts (g : Bu) (x : Bu) (rs : List (List Int)) : Bu := rs.foldl (fun x r => putB x r g) x
theorem goes_app (g : Bu) : ∀ (rs ss : List (List Int)) (x : Bu), goes g x (rs ++ ss) ↔ goes g x rs ∧ goes g (puts g x rs) ss
  | [], ss, x => by simp [goes, puts]
  | r :: rs, ss, x => by
    have := goes_app g rs ss (putB x r g)
    simp only [List.cons_append, goes, this, puts, List.foldl_cons, and_assoc]
theorem puts_app (g x : Bu) (rs ss : List (List Int)) : puts g x (rs ++ ss) = puts g (puts g x rs) ss := by unfold puts; rw [List.foldl_append]
theorem putL_mid (dn : List Bu) (b : Bu) (bs : List Bu) (r : List Int) (g : Bu) : putL (dn ++ b :: bs) dn.length r g = dn ++ putB b r g :: bs := by
  rw [putL_eq (b := b) (by simp)]
  simp
theorem inL_mid : ∀ (dn : List Bu) (b : Bu) (bs : List Bu) (r : List Int), inL (dn ++ b :: bs) dn.length r ↔ inB b r
  | [], b, bs, r => by simp [inL]
  | x :: dn, b, bs, r => by
    have := inL_mid dn b bs r
    simpa [inL] using this
theorem puts_mid (g : Bu) (c : Nat) (dn bs : List Bu) : ∀ (rs : List (List Int)) (b : Bu), puts g (.knot c (dn ++ b :: bs)) (rs.map (((dn.length : Nat) : Int) :: ·)) = .knot c (dn ++ puts g b rs :: bs) ∧
    (goes g b rs → goes g (.knot c (dn ++ b :: bs)) (rs.map (((dn.length : Nat) : Int) :: ·)))
  | [], b => ⟨rfl, fun _ => by simp [goes]⟩
  | r :: rs, b => by
    have e : putB (.knot c (dn ++ b :: bs)) (((dn.length : Nat) : Int) :: r) g = .knot c (dn ++ putB b r g :: bs) := by
      rw [putB]
      show Bu.knot c (putL (dn ++ b :: bs) dn.length r g) = _
      rw [putL_mid]
    obtain ⟨h1, h2⟩ := puts_mid g c dn bs rs (putB b r g)
    refine ⟨?_, fun h => ?_⟩
    · show puts g (putB (.knot c (dn ++ b :: bs)) (((dn.length : Nat) : Int) :: r) g) (rs.map (((dn.length : Nat) : Int) :: ·)) = _
      rw [e, h1]
      rfl
    · show inB (.knot c (dn ++ b :: bs)) (((dn.length : Nat) : Int) :: r) ∧ goes g (putB (.knot c (dn ++ b :: bs)) (((dn.length : Nat) : Int) :: r) g) (rs.map (((dn.length : Nat) : Int) :: ·))
      rw [e]
      refine ⟨?_, h2 h.2⟩
      rw [inB]
      exact ⟨by omega, (inL_mid dn b bs r).mpr h.1⟩
mutual
theorem puts_tr (g : Bu) : ∀ b : Bu, puts g b (tr b) = grow b g ∧ goes g b (tr b)
  | .tip => by
    refine ⟨by rw [tr, grow]; show putB .tip [] g = g; rw [putB], ?_⟩
    rw [tr]
    exact ⟨by rw [inB]; trivial, trivial⟩
  | .knot c bs => puts_trL g c [] bs
theorem puts_trL (g : Bu) (c : Nat) (dn : List Bu) : ∀ bs : List Bu, puts g (.knot c (dn ++ bs)) (trL dn.length bs) = .knot c (dn ++ growL bs g) ∧ goes g (.knot c (dn ++ bs)) (trL dn.length bs)
  | [] => ⟨rfl, by simp [trL, goes]⟩
  | b :: bs => by
    obtain ⟨h1, h2⟩ := puts_tr g b
    obtain ⟨h3, h4⟩ := puts_mid g c dn bs (tr b) b
    have h5 := puts_trL g c (dn ++ [puts g b (tr b)]) bs
    rw [List.length_append, List.append_assoc, List.append_assoc, List.length_singleton, List.singleton_append, List.singleton_append] at h5
    rw [trL, puts_app, goes_app, h3, growL]
    refine ⟨?_, h4 h2, h5.2⟩
    rw [h5.1, h1]
end
end Bk

namespace Bk
open PySem PySem.Spec PyProof.Rows L2
open Evl (Ex Ev EvT EvL EvU EvA)
/-- for j in range(n), n from -1 on -/
theorem s_forRm {D : Ends} {σ : L2.St} {H : Hp} {tu : TS} {ta : TA} {j : Nat} {n : Int} (h : EvA ta σ H [.int n]) (hn : -1 ≤ n ∧ n ≤ 100000) (Pv : Nat → L2.St → Hp → Prop) (h0 : ∀ H1, Ex H H1 → Pv 0 σ H1)
    (hs : ∀ (i : Nat) σ' H', (i : Int) < n → Pv i σ' H' → tu { D with nx := Pv (i + 1), ct := Pv (i + 1), bk := D.nx } (σ'.set j (some (.int (i : Int)))) H') (hd : ∀ σ' H', Pv n.toNat σ' H' → D.nx σ' H') : tFor (iRng1 ta) (gName j) tu D σ H :=
  h H (Ex.refl H) _ fun H1 e => ⟨n, rfl, by omega, by omega, for_range (lo := 0) (n := n.toNat) Pv (h0 H1 e) (fun i σ' H' hi p => by
    have e0 : (0 : Int) + (i : Int) = (i : Int) := Int.zero_add _
    show tu { D with nx := Pv (i + 1), ct := Pv (i + 1), bk := D.nx } (σ'.set j (some (.int ((0 : Int) + (i : Int))))) H'
    rw [e0]
    exact hs i σ' H' (by omega) p) hd⟩
/-- a bush that can be drawn here -/
structure Dr (b : Bu) : Prop where
  ok : okB b = true
  dep : Bk.dep b ≤ 60
  few : knots b + tips b ≤ 1000
theorem Good.dr {b : Bu} (G : Good b) : Dr b := ⟨G.ok, G.dep, by have := G.few; omega⟩
def Ent (K : PySem.W.Frag) (H : Hp) (u : V) (p : Rb) : Prop := ∃ (a r : Addr) (v : V), u = .ref a ∧ H a = some (.tup [.ref r, v]) ∧ H r = some (.tup (p.1.map V.int)) ∧ Dp K H v (toD p.2)
inductive Ents (K : PySem.W.Frag) (H : Hp) : List V → List Rb → Prop
  | nil : Ents K H [] []
  | cons {u : V} {us : List V} {p : Rb} {ps : List Rb} : Ent K H u p → Ents K H us ps → Ents K H (u :: us) (p :: ps)
section
variable {K : PySem.W.Frag} {H H' : Hp}
theorem Ent.tu {u : V} {p : Rb} (t : Tu H H') (h : Ent K H u p) : Ent K H' u p := by
  obtain ⟨a, r, v, e, h1, h2, h3⟩ := h
  exact ⟨a, r, v, e, t.1 _ _ h1, t.1 _ _ h2, Dp.tu t _ _ (fz_toD _) h3⟩
theorem Ents.tu {us : List V} {ps : List Rb} (t : Tu H H') (h : Ents K H us ps) : Ents K H' us ps := by
  induction h with
  | nil => exact .nil
  | cons h1 _ ih => exact .cons (h1.tu t) ih
theorem Ents.len {us : List V} {ps : List Rb} (h : Ents K H us ps) : us.length = ps.length := by
  induction h with
  | nil => rfl
  | cons _ _ ih => simp [ih]
theorem Ents.snoc {us : List V} {ps : List Rb} {u : V} {p : Rb} (h : Ents K H us ps) (e : Ent K H u p) : Ents K H (us ++ [u]) (ps ++ [p]) := by
  induction h with
  | nil => exact .cons e .nil
  | cons h1 _ ih => exact .cons h1 ih
theorem Ents.last {us : List V} {ps : List Rb} {p : Rb} (h : Ents K H us (ps ++ [p])) : ∃ us' u, us = us' ++ [u] ∧ Ents K H us' ps ∧ Ent K H u p := by
  induction ps generalizing us with
  | nil =>
    cases h with
    | cons h1 h2 => cases h2; exact ⟨[], _, rfl, .nil, h1⟩
  | cons x ps ih =>
    cases h with
    | cons h1 h2 =>
      obtain ⟨us', u, e, a, b⟩ := ih h2
      exact ⟨_ :: us', u, by rw [e]; rfl, .cons h1 a, b⟩
def entD (p : Rb) : PyData := .tuple [enc p.1, toD p.2]
theorem Ents.dp {us : List V} {ps : List Rb} (h : Ents K H us ps) : DpAll K H us (ps.map entD) := by
  induction h with
  | nil => exact .nil
  | cons h1 _ ih =>
    obtain ⟨a, r, v, rfl, h2, h3, h4⟩ := h1
    exact .cons (.tup (SqT.of h2) (.cons (dp_road h3) (.cons h4 .nil))) ih
end
theorem lay_ints : ∀ r : List Int, PyData.canLayAll0 (r.map PyData.int) = true
  | [] => by simp [PyData.canLayAll0]
  | i :: r => by simp [PyData.canLayAll0, PyData.canLay0, lay_ints r]
theorem shaped_ents {ps : List Rb} (h : ∀ p ∈ ps, okB p.2 = true ∧ dep p.2 ≤ 60) : SeqAt.shaped (.list (ps.map entD)) = true := by
  have key : PyData.canLayAll0 (ps.map entD) = true ∧ PyData.depthAll (ps.map entD) ≤ 62 := by
    induction ps with
    | nil => simp [PyData.canLayAll0, PyData.depthAll]
    | cons p ps ih =>
      obtain ⟨h1, h2⟩ := h p List.mem_cons_self
      obtain ⟨h3, h4⟩ := ih fun q hq => h q (List.mem_cons_of_mem _ hq)
      have d1 := depth_enc p.1
      have d2 := depth_toD p.2
      constructor
      · simp [PyData.canLayAll0, entD, PyData.canLay0, enc, lay_ints, lay_toD p.2 h1, h3]
      · simp only [List.map_cons, PyData.depthAll, entD, PyData.depth]
        omega
  show ((PyData.list (ps.map entD)).canLay0 && decide ((PyData.list (ps.map entD)).depth ≤ 64)) = true
  have e1 : (PyData.list (ps.map entD)).canLay0 = true := by simp only [PyData.canLay0]; exact key.1
  have e2 : (PyData.list (ps.map entD)).depth ≤ 64 := by simp only [PyData.depth]; omega
  rw [e1, decide_eq_true e2]
  rfl
theorem eqv_nil (ds : List PyData) : PyData.eqv (.list ds) (.list []) = ds.isEmpty := by
  cases ds with
  | nil => simp [PyData.eqv, PyData.eqvAll]
  | cons d ds => simp [PyData.eqv, PyData.eqvAll]
/-- what stands in the line, in the order in which it is met -/
def flatV (ps : List Rb) : List Rb := ps.reverse.flatMap fun p => (vis p.2).map fun q => (p.1 ++ q.1, q.2)
theorem flatV_snoc (ps : List Rb) (p : Rb) : flatV (ps ++ [p]) = ((vis p.2).map fun q => (p.1 ++ q.1, q.2)) ++ flatV ps := by
  unfold flatV
  rw [List.reverse_append, List.flatMap_append]
  simp
/-- the branches with their roads -/
def chs (r : List Int) : Nat → List Bu → List Rb
  | _, [] => []
  | i, b :: bs => (r ++ [(i : Int)], b) :: chs r (i + 1) bs
theorem flatV_app (ps qs : List Rb) : flatV (ps ++ qs) = flatV qs ++ flatV ps := by
  unfold flatV
  rw [List.reverse_append, List.flatMap_append]
theorem flatV_chs (r : List Int) : ∀ (i : Nat) (bs : List Bu), flatV (chs r i bs) = (visL i bs).map fun q => (r ++ q.1, q.2)
  | _, [] => rfl
  | i, b :: bs => by
    have ih := flatV_chs r (i + 1) bs
    rw [chs, visL, List.map_append, ← ih, List.map_map]
    have e : (r ++ [(i : Int)], b) :: chs r (i + 1) bs = [(r ++ [(i : Int)], b)] ++ chs r (i + 1) bs := rfl
    rw [e, flatV_app]
    congr 1
    show (vis b).map _ ++ [] = _
    rw [List.append_nil]
    refine List.map_congr_left fun q _ => ?_
    simp [at1]
theorem flatV_pop (ps : List Rb) (r : List Int) (b : Bu) : flatV (ps ++ [(r, b)]) = (r, b) :: flatV (ps ++ chs r 0 (kids b)) := by
  rw [flatV_snoc, flatV_app, flatV_chs]
  cases b with
  | tip => simp [vis, kids, visL]
  | knot c bs => simp [vis, kids]
theorem chs_snoc (r : List Int) : ∀ (i : Nat) (bs : List Bu) (b : Bu), chs r i (bs ++ [b]) = chs r i bs ++ [(r ++ [((i + bs.length : Nat) : Int)], b)]
  | i, [], b => rfl
  | i, x :: bs, b => by
    have := chs_snoc r (i + 1) bs b
    rw [List.cons_append, chs, chs, this, List.length_cons, List.cons_append]
    rw [show i + 1 + bs.length = i + (bs.length + 1) by omega]
theorem chs_len (r : List Int) : ∀ (i : Nat) (bs : List Bu), (chs r i bs).length = bs.length
  | _, [] => rfl
  | i, b :: bs => by rw [chs, List.length_cons, List.length_cons, chs_len r (i + 1) bs]
theorem chs_mem (r : List Int) : ∀ (i : Nat) (bs : List Bu) (p : Rb), p ∈ chs r i bs → p.2 ∈ bs
  | _, [], p, h => by simp [chs] at h
  | i, b :: bs, p, h => by
    rw [chs] at h
    rcases List.mem_cons.mp h with h | h
    · subst h; exact List.mem_cons_self
    · exact List.mem_cons_of_mem _ (chs_mem r (i + 1) bs p h)
def KvB (K : PySem.W.Frag) (H : Hp) (kvs : List (List Key × V)) (ps : List Rb) : Prop := kvs.map (·.1) = ps.map (fun p => p.1.map Sum.inl) ∧ DpAll K H (kvs.map (·.2)) (ps.map fun p => toD p.2)
theorem KvB.snoc {K : PySem.W.Frag} {H : Hp} {kvs : List (List Key × V)} {ps : List Rb} {r : List Int} {v : V} {b : Bu} (h : KvB K H kvs ps) (hv : Dp K H v (toD b)) : KvB K H (kvs ++ [(r.map Sum.inl, v)]) (ps ++ [(r, b)]) := by
  refine ⟨by rw [List.map_append, List.map_append, h.1]; rfl, ?_⟩
  rw [List.map_append, List.map_append]
  exact DpAll.app h.2 (.cons hv .nil)
theorem KvB.tu {K : PySem.W.Frag} {H H' : Hp} {kvs : List (List Key × V)} {ps : List Rb} (t : Tu H H') (h : KvB K H kvs ps) : KvB K H' kvs ps := ⟨h.1, DpAll.tu t _ _ (fzA_of fun d hd => by
  obtain ⟨p, _, rfl⟩ := List.mem_map.mp hd
  exact fz_toD _) h.2⟩
theorem KvB.len {K : PySem.W.Frag} {H : Hp} {kvs : List (List Key × V)} {ps : List Rb} (h : KvB K H kvs ps) : kvs.length = ps.length := by
  have := congrArg List.length h.1
  simpa using this
theorem inl_inj {a b : List Int} (h : a.map (Sum.inl : Int → Key) = b.map Sum.inl) : a = b := by
  induction a generalizing b with
  | nil => cases b with
    | nil => rfl
    | cons y b => simp at h
  | cons x a ih =>
    cases b with
    | nil => simp at h
    | cons y b =>
      rw [List.map_cons, List.map_cons] at h
      injection h with h1 h2
      injection h1 with h1
      rw [h1, ih h2]
theorem KvB.new {K : PySem.W.Frag} {H : Hp} {kvs : List (List Key × V)} {ps : List Rb} {r : List Int} (h : KvB K H kvs ps) (hn : r ∉ ps.map (·.1)) : valV kvs (r.map Sum.inl) = none := by
  cases hv : valV kvs (r.map Sum.inl) with
  | none => rfl
  | some v =>
    unfold valV at hv
    obtain ⟨kv, h1, _⟩ := Option.map_eq_some_iff.mp hv
    have h2 := List.find?_some h1
    have h3 := List.mem_of_find?_eq_some h1
    have h4 : kv.1 ∈ kvs.map (·.1) := List.mem_map.mpr ⟨kv, h3, rfl⟩
    rw [h.1] at h4
    obtain ⟨p, hp, e⟩ := List.mem_map.mp h4
    have e2 : kv.1 = r.map Sum.inl := of_decide_eq_true h2
    rw [e2] at e
    exact absurd (List.mem_map.mpr ⟨p, hp, inl_inj e⟩) hn
theorem KvB.get {K : PySem.W.Frag} {H : Hp} : ∀ {kvs : List (List Key × V)} {ps : List Rb} {r : List Int} {b : Bu}, KvB K H kvs ps → (ps.map (·.1)).Nodup → (r, b) ∈ ps → ∃ v, valV kvs (r.map Sum.inl) = some v ∧ Dp K H v (toD b)
  | [], [], r, b, _, _, hm => by simp at hm
  | [], _ :: _, r, b, h, _, _ => by have := h.1; simp at this
  | kv :: kvs, [], r, b, h, _, _ => by have := h.1; simp at this
  | kv :: kvs, p :: ps, r, b, h, hn, hm => by
    obtain ⟨h1, h2⟩ := h
    rw [List.map_cons, List.map_cons] at h1 h2
    injection h1 with h3 h4
    cases h2 with
    | cons d1 d2 =>
      rw [List.map_cons] at hn
      have hn' := List.nodup_cons.mp hn
      rcases List.mem_cons.mp hm with e | e
      · subst e
        exact ⟨kv.2, valV_pos h3, d1⟩
      · have hne : ¬ kv.1 = r.map Sum.inl := by
          intro e2
          rw [h3] at e2
          have := inl_inj e2
          exact hn'.1 (by rw [this]; exact List.mem_map.mpr ⟨(r, b), e, rfl⟩)
        obtain ⟨v, hv, hd⟩ := KvB.get (kvs := kvs) (ps := ps) ⟨h4, d2⟩ hn'.2 e
        exact ⟨v, by rw [valV_neg hne]; exact hv, hd⟩
theorem ru_catA1 {K : PySem.W.Frag} {σ : L2.St} {H : Hp} {i j : Nat} {rr : Addr} {xs : List V} {y : V} {R : VK} (h3 : σ[i]? = some (some (.ref rr))) (h5 : σ[j]? = some (some y)) (hx : H rr = some (.tup xs)) (hz : xs.length ≤ 1000)
    (k : ∀ z H2, Ex H H2 → H2 z = some (.tup (xs ++ [y])) → R (.ref z) H2) : tOp (rCatA K) (tVar i) (tTup (tCons (tVar j) tNil)) σ H R := by
  refine ⟨_, h3, _, h5, by show 1 ≤ sizeLine; decide, fun t ht => ?_⟩
  have e1 : Ex H (upd H t (.tup [y])) := ex_new ht
  refine ⟨rr, t, xs, [y], rfl, rfl, SqT.of (e1 _ _ hx), SqT.of upd_same, Evl.sz_of (by show xs.length + 1 ≤ 100000; omega), fun h0 => ?_, fun _ h0 => (nomatch h0), fun _ _ z hz => ?_⟩
  · subst h0
    exact k t _ e1 upd_same
  · exact k z _ (e1.trans (ex_new hz)) upd_same
theorem kids_in {b c : Bu} (h : c ∈ kids b) (ho : okB b = true) : okB c = true ∧ dep c + 1 ≤ dep b := by
  cases b with
  | tip => simp [kids] at h
  | knot x bs =>
    have h' : c ∈ bs := h
    have := dep_le h'
    exact ⟨okBs_mem (okB_knot ho).2.2 h', by show dep c + 1 ≤ deps bs + 1; omega⟩
def wgt (ps : List Rb) : Nat := (flatV ps).length
section
variable {P : Program} {w : World} {K : PySem.W.Frag} {mg : Str → Option Value} {base : Heap}
def spParts (K : PySem.W.Frag) : Sp := fun vs H Q _ => ∃ (v : V) (b : Bu), vs = [v] ∧ Dp K H v (toD b) ∧ Dr b ∧ ∀ p H' kvs, H p = none → Ex H H' → H' p = some (.dT kvs) → KvB K H' kvs (vis b) → Q (.ref p) H'
theorem ok_parts (T : Tx K mg) : FnOk P w K mg base CX0 1 T.a_law_parts T.d_law_parts P_law_parts (spParts K) := by
  refine T.F_law_parts.ok sc_law_parts (fun vs H Q E h => ?_) (fun cdv A outer s H vs Q E hr h => ?_)
  · obtain ⟨v, b, rfl, _⟩ := h; rfl
  · obtain ⟨v, b, rfl, hv, hD, q⟩ := h
    have hu : (A.deeper (envOfC "_law_parts" (defScope s_law_parts) s.heap.objs.size T.a_law_parts cdv)).units + 64 < cLine := by have := hr.un; omega
    have hu1 : (A.deeper (envOfC "_law_parts" (defScope s_law_parts) s.heap.objs.size T.a_law_parts cdv)).units + 1 < cLine := by omega
    refine ⟨_, pss_cons (ps_par (i := 1) (j := 2) rfl sc_law_parts.nd rfl rfl (by decide) rfl rfl (pa_cons pe_dnewT (pa_cons (pe_lst (pa_cons (pe_tup (pa_cons (pe_tup pa_nil) (pa_cons (pv 0) pa_nil))) pa_nil)) pa_nil)) rfl)
      (pss_cons (ps_while PassesOwn.never (pt_cmpR (op_neD hu) (pv 2) (pe_lst pa_nil) (nomark _))
        (pss_cons (ps_asg (pe_bm0 PySem.F.plainAttrs_list PySem.F.slot_list_pop PySem.F.type_list_pop mt_pop (pv 2)) (pg_tup rfl (pgs_cons (pg_name (i := 3) sc_law_parts.nd rfl (.inl rfl)) (pgs_cons (pg_name (i := 4) sc_law_parts.nd rfl (.inl rfl)) pgs_nil))))
        (pss_cons (ps_asg (pv 4) (pg_sub (pv 1) (pv 3) (set_dict hu1)))
        (pss_one (ps_for PassesOwn.never rfl (pi_range1 (by rfl) T.z_range (pa_cons (pe_op op_sub (pe_callB call_len_seq (by rfl) T.z_len PySem.boot_len (pa_cons (pv 4) pa_nil)) pe_int) pa_nil)) (pg_name (i := 5) sc_law_parts.nd rfl (.inl rfl))
          (pss_one (ps_expr (pe_bm PySem.F.plainAttrs_list PySem.F.slot_list_append PySem.F.type_list_append mt_append (pv 2) (pa_cons (pe_tup (pa_cons (pe_op op_catA (pv 3) (pe_tup (pa_cons (pv 5) pa_nil))) (pa_cons (pe_ix ix_tup (pv 4) (pe_op op_add (pv 5) pe_int) (fun _ _ => rfl)) pa_nil))) pa_nil)))))))))
      (pss_one (ps_ret (pv 1)))), ?_⟩
    refine fun p hp => ⟨Nat.zero_le _, fun r0 hr0 => ⟨v, rfl, by show 2 ≤ sizeLine; decide, fun a0 ha0 => ⟨by show 1 ≤ sizeLine; decide, fun q0 hq0 => ⟨_, _, rfl, ?_⟩⟩⟩⟩
    have e1 : Ex H (upd H p (.dT [])) := ex_new hp
    have e2 := e1.trans (ex_new (o := .tup []) hr0)
    have e3 := e2.trans (ex_new (o := .tup [.ref r0, v]) ha0)
    have e4 := e3.trans (ex_new (o := .lst [.ref a0]) hq0)
    have hq0' : H q0 = none := Evl.fresh_back e3 hq0
    have npq : p ≠ q0 := by
      intro e
      have h1 : (upd (upd (upd H p (.dT [])) r0 (.tup [])) a0 (.tup [.ref r0, v])) p = some (.dT []) := (ex_new ha0) _ _ ((ex_new hr0) _ _ upd_same)
      have h2 := hq0
      rw [← e, h1] at h2
      cases h2
    refine Evl.q_while (fun m σ H' => ∃ (x3 x4 x5 : Option V) (us : List V) (ps : List Rb) (kvs : List (List Key × V)) (done : List Rb), σ = [some v, some (.ref p), some (.ref q0), x3, x4, x5] ∧ Ex H H' ∧ H' p = some (.dT kvs) ∧ KvB K H' kvs done ∧
        H' q0 = some (.lst us) ∧ Ents K H' us ps ∧ done ++ flatV ps = vis b ∧ m = (flatV ps).length ∧ ∀ z ∈ ps, okB z.2 = true ∧ z.1.length + dep z.2 ≤ 60) (flatV [([], b)]).length
      ⟨none, none, none, [.ref a0], [([], b)], [], [], rfl, e4, ?_, ⟨rfl, .nil⟩, upd_same, .cons ⟨a0, r0, v, rfl, ?_, ?_, Dp.ex e4 _ _ hv⟩ .nil, ?_, rfl, ?_⟩ ?_
    · exact (ex_new hq0) _ _ ((ex_new ha0) _ _ ((ex_new hr0) _ _ upd_same))
    · exact (ex_new hq0) _ _ upd_same
    · exact (ex_new hq0) _ _ ((ex_new ha0) _ _ upd_same)
    · simp [flatV]
    · intro z hz
      have : z = ([], b) := by simpa using hz
      subst this
      exact ⟨hD.ok, by have := hD.dep; show 0 + dep b ≤ 60; omega⟩
    rintro m σ' H' ⟨x3, x4, x5, us, ps, kvs, done, rfl, eH, hP, hK, hQ, hE, hfl, rfl, hok⟩
    refine ⟨!(ps.map entD).isEmpty, ?_, fun hb H1 f1 => ?_, fun hb H1 f1 => ?_⟩
    · have := ev_neD (K := K) (σ := [some v, some (.ref p), some (.ref q0), x3, x4, x5]) (H := H') (ta := tVar 2) (tb := tLst tNil) (d := .list (ps.map entD)) (e := .list []) (ed_var rfl (.lst (SqL.of hQ) hE.dp)) (ed_lst ead_nil (by decide))
        (shaped_ents fun z hz => ⟨(hok z hz).1, by have := (hok z hz).2; omega⟩) (by decide)
      rw [eqv_nil] at this
      exact Evl.et_test this
    · have hne : ps ≠ [] := by intro e; subst e; simp at hb
      obtain ⟨ps', z, rfl⟩ : ∃ ps' z, ps = ps' ++ [z] := ⟨ps.dropLast, ps.getLast hne, (List.dropLast_concat_getLast hne).symm⟩
      obtain ⟨r, c⟩ := z
      obtain ⟨us', u, rfl, hE', hu⟩ := hE.last
      obtain ⟨hokc, hdc⟩ := hok (r, c) (List.mem_append_right _ List.mem_cons_self)
      have hdc' : r.length + dep c ≤ 60 := hdc
      obtain ⟨a, rr, vc, rfl, ha, hrr, hvc⟩ := hu.tu (Tu.ex f1)
      have hE1 := hE'.tu (Tu.ex f1)
      have hQ1 := f1 _ _ hQ
      have hP1 := f1 _ _ hP
      have hK1 := hK.tu (Tu.ex f1)
      refine ⟨fun σ2 H2 => ∃ m', m' < (flatV (ps' ++ [(r, c)])).length ∧ ∃ (x3 x4 x5 : Option V) (us : List V) (ps : List Rb) (kvs : List (List Key × V)) (done : List Rb), σ2 = [some v, some (.ref p), some (.ref q0), x3, x4, x5] ∧ Ex H H2 ∧ H2 p = some (.dT kvs) ∧ KvB K H2 kvs done ∧
        H2 q0 = some (.lst us) ∧ Ents K H2 us ps ∧ done ++ flatV ps = vis b ∧ m' = (flatV ps).length ∧ ∀ z ∈ ps, okB z.2 = true ∧ z.1.length + dep z.2 ≤ 60, fun _ _ h => h, ?_⟩
      have hlast : (us' ++ [V.ref a])[(us' ++ [V.ref a]).length - 1]? = some (V.ref a) := by
        rw [List.length_append, List.length_singleton, Nat.add_sub_cancel]
        simp
      refine ⟨_, rfl, Or.inl ⟨rfl, _, SqL.of hQ1⟩, q0, _, _, rfl, rfl, hQ1, hlast, ?_⟩
      rw [List.dropLast_concat]
      have t2 : Tu H1 (upd H1 q0 (.lst us')) := tu_lst hQ1
      have eH2 : Ex H (upd H1 q0 (.lst us')) := Evl.Ex.mut (eH.trans f1) hq0'
      refine ⟨a, _, rfl, SqT.of (t2.1 _ _ ha), rfl, _, _, rfl, _, _, rfl, rfl, ?_⟩
      have hP2 : (upd H1 q0 (.lst us')) p = some (.dT kvs) := by rw [upd_ne npq]; exact hP1
      have hrr2 := t2.1 _ _ hrr
      have hnew : valV kvs (r.map Sum.inl) = none := by
        refine hK1.new ?_
        have h1 := nodup_vis b
        rw [← hfl, flatV_pop, List.map_append, List.map_cons] at h1
        intro hm
        exact (List.nodup_append.mp h1).2.2 _ hm _ List.mem_cons_self rfl
      have hklen : kvs.length < 1000 := by
        rw [hK1.len]
        have h1 := congrArg List.length hfl
        rw [List.length_append, flatV_pop, List.length_cons, vis_len] at h1
        have := hD.few
        omega
      refine ⟨_, rfl, _, rfl, _, rfl, p, _, rfl, DPut.t hP2 (k := r.map Sum.inl) (by rw [map_kV]; exact hrr2) (Nat.lt_of_lt_of_le hklen (by decide)), ?_⟩
      rw [putK_new _ hnew]
      have t3 : Tu (upd H1 q0 (.lst us')) (upd (upd H1 q0 (.lst us')) p (.dT (kvs ++ [(r.map Sum.inl, vc)]))) := by
        refine ⟨fun x xs hx => ?_, fun x o u hx => ?_⟩
        · rw [upd_ne (fun e => by rw [e, hP2] at hx; cases hx)]; exact hx
        · rw [upd_ne (fun e => by rw [e, hP2] at hx; cases hx)]; exact hx
      have t23 := t2.trans t3
      have eH3 := Evl.Ex.mut (o := .dT (kvs ++ [(r.map Sum.inl, vc)])) eH2 hp
      have hvc3 := Dp.tu t23 _ _ (fz_toD c) hvc
      have hvl := ev_lenD (K := K) (σ := [some v, some (.ref p), some (.ref q0), some (.ref rr), some vc, x5]) (H := upd (upd H1 q0 (.lst us')) p (.dT (kvs ++ [(r.map Sum.inl, vc)]))) (ta := tVar 4) (ds := itm c) (ed_var rfl (toD_itm c ▸ hvc3))
      have hic : (itm c).length = 1 + (kids c).length ∨ ((itm c).length = 0 ∧ kids c = []) := by
        cases c with
        | tip => exact .inr ⟨rfl, rfl⟩
        | knot x bs => left; simp [itm, kids]; omega
      have hkl : (kids c).length ≤ 6 := by
        cases c with
        | tip => exact Nat.zero_le _
        | knot x bs => exact (okB_knot hokc).2.1.2
      refine s_forRm (n := ((itm c).length : Int) - 1) (Evl.ea_cons (Evl.ev_op (z := .int (((itm c).length : Int) - 1)) hvl Evl.ev_c (Evl.rv_I0 (g := fun i j => .int (i - j)))) Evl.ea_nil) (by rcases hic with h | ⟨h, _⟩ <;> omega)
        (fun i σ H' => ∃ (x5 : Option V) (us2 : List V), σ = [some v, some (.ref p), some (.ref q0), some (.ref rr), some vc, x5] ∧ Ex H H' ∧ H' p = some (.dT (kvs ++ [(r.map Sum.inl, vc)])) ∧ KvB K H' (kvs ++ [(r.map Sum.inl, vc)]) (done ++ [(r, c)]) ∧ H' q0 = some (.lst us2) ∧
          Ents K H' us2 (ps' ++ chs r 0 ((kids c).take i)) ∧ H' rr = some (.tup (r.map V.int)) ∧ Dp K H' vc (toD c)) (fun H4 f4 => ?_) ?_ ?_
      · refine ⟨x5, us', rfl, eH3.trans f4, f4 _ _ upd_same, ((hK1.tu t23).snoc hvc3).tu (Tu.ex f4), f4 _ _ (by rw [upd_ne npq.symm]; exact upd_same), ?_, f4 _ _ (t3.1 _ _ hrr2), Dp.ex f4 _ _ hvc3⟩
        show Ents K H4 us' (ps' ++ [])
        rw [List.append_nil]
        exact (hE1.tu t23).tu (Tu.ex f4)
      · rintro i σ' H4 hi ⟨x5, us2, rfl, eH4, hP4, hK4, hQ4, hE4, hrr4, hvc4⟩
        have hik : i < (kids c).length := by rcases hic with h | ⟨h, _⟩ <;> omega
        have hch : (kids c)[i]? = some (kids c)[i] := by simp [hik]
        have htk : (kids c).take (i + 1) = (kids c).take i ++ [(kids c)[i]] := by rw [List.take_add_one, hch]; rfl
        have hu2 : us2.length ≤ 2000 := by
          rw [hE4.len, List.length_append, chs_len, List.length_take]
          have h1 := congrArg List.length hfl
          rw [List.length_append, vis_len] at h1
          have h2 : ps'.length ≤ (flatV (ps' ++ [(r, c)])).length := by
            have key : ∀ ps : List Rb, ps.length ≤ (flatV ps).length := by
              intro ps
              induction ps with
              | nil => exact Nat.zero_le _
              | cons p ps ih =>
                have e1 : flatV (p :: ps) = flatV ps ++ flatV [p] := flatV_app [p] ps
                have e2 : (flatV [p]).length = (vis p.2).length := by simp [flatV]
                have : 1 ≤ (vis p.2).length := by cases p.2 <;> simp [vis]
                rw [e1, List.length_append, List.length_cons, e2]
                omega
            have := key (ps' ++ [(r, c)])
            rw [List.length_append] at this
            omega
          have := hD.few
          omega
        refine ⟨_, rfl, Or.inl ⟨rfl, _, SqL.of hQ4⟩, ?_⟩
        refine ru_catA1 rfl rfl hrr4 (by rw [List.length_map]; omega) fun z H5 f5 hz => ?_
        have hpart := ed_ixT (K := K) (σ := [some v, some (.ref p), some (.ref q0), some (.ref rr), some vc, some (.int (i : Int))]) (H := H5) (ta := tVar 4) (tb := tOp (rI0 fun i j => .int (i + j)) (tVar 5) (tC (.int 1))) (k := i + 1) (ds := itm c) (d := toD (kids c)[i]) (ed_var rfl (toD_itm c ▸ Dp.ex f5 _ _ hvc4)) ?_ ?_
        · refine hpart H5 (Evl.Ex.refl H5) _ fun vk H6 f6 hvk => ⟨by show 2 ≤ sizeLine; decide, fun zz hzz => ?_⟩
          have f7 : Ex H6 (upd H6 zz (.tup [.ref z, vk])) := ex_new hzz
          have f47 := (f5.trans f6).trans f7
          refine ⟨q0, us2, .ref zz, rfl, rfl, f47 _ _ hQ4, Nat.lt_of_le_of_lt hu2 (by decide), ?_⟩
          have t8 : Tu (upd H6 zz (.tup [.ref z, vk])) (upd (upd H6 zz (.tup [.ref z, vk])) q0 (.lst (us2 ++ [.ref zz]))) := tu_lst (f47 _ _ hQ4)
          refine ⟨some (.int (i : Int)), us2 ++ [.ref zz], rfl, Evl.Ex.mut (eH4.trans f47) hq0', by rw [upd_ne npq]; exact f47 _ _ hP4, (hK4.tu (Tu.ex f47)).tu t8, upd_same, ?_, t8.1 _ _ (f47 _ _ hrr4), Dp.tu t8 _ _ (fz_toD c) (Dp.ex f47 _ _ hvc4)⟩
          rw [htk, chs_snoc, ← List.append_assoc, List.length_take, Nat.min_eq_left (by omega)]
          refine ((hE4.tu (Tu.ex f47)).tu t8).snoc ⟨zz, z, vk, rfl, t8.1 _ _ upd_same, t8.1 _ _ (f7 _ _ (f6 _ _ ?_)), Dp.tu t8 _ _ (fz_toD _) (Dp.ex f7 _ _ hvk)⟩
          rw [hz, List.map_append]
          simp
        · exact Evl.ev_op (z := .int ((i + 1 : Nat) : Int)) (Evl.ev_var rfl) Evl.ev_c (Evl.rv_I0 (g := fun i j => .int (i + j)))
        · cases c with
          | tip => simp [kids] at hik
          | knot x bs =>
            have hik' : i < bs.length := hik
            simp [itm, kids, hik']
      · rintro σ' H4 ⟨x5, us2, rfl, eH4, hP4, hK4, hQ4, hE4, hrr4, hvc4⟩
        have htk : (kids c).take (((itm c).length : Int) - 1).toNat = kids c := by
          rcases hic with h | ⟨h, h2⟩
          · exact List.take_of_length_le (by omega)
          · rw [h2]; exact List.take_nil
        rw [htk] at hE4
        refine ⟨(flatV (ps' ++ chs r 0 (kids c))).length, by rw [flatV_pop, List.length_cons]; omega, some (.ref rr), some vc, x5, us2, _, _, _, rfl, eH4, hP4, hK4, hQ4, hE4, ?_, rfl, fun z hz => ?_⟩
        · rw [List.append_assoc, ← hfl, flatV_pop]
          rfl
        · rcases List.mem_append.mp hz with h | h
          · exact hok z (List.mem_append_left _ h)
          · have h1 := kids_in (chs_mem r 0 (kids c) z h) hokc
            have h2 : z.1.length = r.length + 1 := by
              have key : ∀ (i : Nat) (bs : List Bu), ∀ z ∈ chs r i bs, z.1.length = r.length + 1 := by
                intro i bs
                induction bs generalizing i with
                | nil => intro z hz; simp [chs] at hz
                | cons x bs ih =>
                  intro z hz
                  rw [chs] at hz
                  rcases List.mem_cons.mp hz with h | h
                  · subst h; simp
                  · exact ih (i + 1) z h
              exact key 0 _ z h
            exact ⟨h1.1, by omega⟩
    · have h0 : ps = [] := by
        cases ps with
        | nil => rfl
        | cons z ps => simp at hb
      subst h0
      have hfl' : done = vis b := by rw [← hfl]; simp [flatV]
      subst hfl'
      exact ⟨_, rfl, q p H1 kvs hp (eH.trans f1) (f1 _ _ hP) (hK.tu (Tu.ex f1))⟩
end
end Bk

namespace Bk
open PySem PySem.Spec PyProof.Rows L2
open Evl (Ex Ev EvT EvL EvU EvA)
/-- sorted(d), d a dict with roads as keys -/
def rSortDT (K : PySem.W.Frag) : List V → Hp → VK → Prop := fun xs H Q => ∃ (a : Addr) (kvs : List (List Key × V)) (rs : List (List Int)), xs = [.ref a] ∧ Rd H a (.dT kvs) ∧
    kvs.map (·.1) = rs.map (·.map Sum.inl) ∧ (∀ r t, rs = r :: t → r = []) ∧ ∀ ys p, Rds H ys (rs.mergeSort leR) → H p = none → Q (.ref p) (upd H p (.lst ys))
theorem vis_first (b : Bu) (r : List Int) (t : List (List Int)) (h : (vis b).map (·.1) = r :: t) : r = [] := by
  cases b with
  | tip => simp [vis] at h; exact h.1
  | knot c bs => simp [vis] at h; exact h.1
/-- a comprehension over a list that is met when it is reached -/
theorem lc_at {K : PySem.W.Frag} {σ : L2.St} {H : Hp} {tl : TE} {g : TG} {tt : TT} {te : TE} {vs : List Nat} {Q : VK} (h : tl σ H fun x H1 => tLc (iList K (tC x)) g tt te vs σ H1 Q) : tLc (iList K tl) g tt te vs σ H Q := h
theorem ret_at {K : PySem.W.Frag} {σ : L2.St} {H : Hp} {tl : TE} {g : TG} {tt : TT} {te : TE} {vs : List Nat} {D : Ends} (h : tl σ H fun x H1 => tLc (iList K (tC x)) g tt te vs σ H1 D.rt) : tRet (tLc (iList K tl) g tt te vs) D σ H := h
theorem for_at {K : PySem.W.Frag} {σ : L2.St} {H : Hp} {tl : TE} {g : TG} {tb : TS} {D : Ends} (h : tl σ H fun x H1 => tFor (iList K (tC x)) g tb D σ H1) : tFor (iList K tl) g tb D σ H := h
theorem given_succ (n : Nat) (f : Nat → Bool) (v : Nat → V) : Evl.given (n + 1) f v = (if f 0 = true then [v 0] else []) ++ Evl.given n (fun i => f (i + 1)) (fun i => v (i + 1)) := by
  unfold Evl.given
  rw [List.range_succ_eq_map, List.filter_cons, List.filter_map]
  by_cases h : f 0 = true
  · simp [h, Function.comp_def]
  · simp [h, Function.comp_def]
theorem given_rds {K : PySem.W.Frag} {H : Hp} : ∀ {ys : List V} {ps : List Rb}, Rds H ys (ps.map (·.1)) → DpAll K H (Evl.given ys.length (fun i => isTip (ps.getD i ([], .tip)).2) (fun i => ys.getD i .non)) (((ps.filter fun p => isTip p.2).map (·.1)).map enc)
  | [], [], _ => .nil
  | [], _ :: _, h => by have := h.len; simp at this
  | _ :: _, [], h => by have := h.len; simp at this
  | y :: ys, p :: ps, h => by
    cases h with
    | cons h1 h2 =>
      obtain ⟨b, rfl, hb⟩ := h1
      have ih := given_rds (K := K) (ys := ys) (ps := ps) h2
      rw [List.length_cons, given_succ, List.filter_cons]
      have e : (fun i => isTip ((p :: ps).getD (i + 1) ([], .tip)).2) = fun i => isTip (ps.getD i ([], .tip)).2 := by funext i; rw [List.getD_cons_succ]
      have e2 : (fun i => (V.ref b :: ys).getD (i + 1) .non) = fun i => ys.getD i .non := by funext i; rw [List.getD_cons_succ]
      rw [e, e2]
      by_cases c : isTip p.2 = true
      · have c0 : isTip ((p :: ps).getD 0 ([], .tip)).2 = true := c
        rw [if_pos c0, if_pos c]
        exact .cons (dp_road hb) ih
      · have c0 : ¬ isTip ((p :: ps).getD 0 ([], .tip)).2 = true := c
        rw [if_neg c0, if_neg c]
        exact ih
theorem isTip_sound (b : Bu) : PyData.eqv (toD b) (.tuple []) = isTip b := by rw [isTip_eqv]; cases b <;> rfl
theorem given_len_countP (n : Nat) (f : Nat → Bool) (v : Nat → V) : (Evl.given n f v).length = ((List.range n).countP fun i => f i) := by
  unfold Evl.given
  rw [List.length_map, List.countP_eq_length_filter]
theorem range_countP {α : Type} (d : α) (f : α → Bool) : ∀ l : List α, (List.range l.length).countP (fun i => f (l.getD i d)) = l.countP f
  | [] => rfl
  | x :: l => by
    rw [List.length_cons, List.range_succ_eq_map, List.countP_cons, List.countP_cons, List.countP_map]
    have ih := range_countP d f l
    have e : ((fun i => f ((x :: l).getD i d)) ∘ Nat.succ) = fun i => f (l.getD i d) := by funext i; show f ((x :: l).getD (i + 1) d) = _; rw [List.getD_cons_succ]
    rw [e, ih]
    rfl
mutual
theorem pre_ok : ∀ (b : Bu), okB b = true → ∀ p ∈ pre b, okB p.2 = true ∧ dep p.2 ≤ dep b
  | .tip, h, p, hp => by
    have : p = ([], .tip) := by simpa [pre] using hp
    subst this
    exact ⟨rfl, Nat.le_refl _⟩
  | .knot c bs, h, p, hp => by
    rw [pre] at hp
    rcases List.mem_cons.mp hp with e | e
    · subst e; exact ⟨h, Nat.le_refl _⟩
    · have := preL_ok 0 bs (okB_knot h).2.2 p e
      exact ⟨this.1, by show _ ≤ deps bs + 1; omega⟩
theorem preL_ok : ∀ (i : Nat) (bs : List Bu), okBs bs = true → ∀ p ∈ preL i bs, okB p.2 = true ∧ dep p.2 ≤ deps bs
  | _, [], _, p, hp => by simp [preL] at hp
  | i, b :: bs, h, p, hp => by
    have h' : okB b = true ∧ okBs bs = true := by simpa [okBs] using h
    rw [preL] at hp
    rw [deps]
    rcases List.mem_append.mp hp with e | e
    · obtain ⟨q, hq, rfl⟩ := List.mem_map.mp e
      have := pre_ok b h'.1 q hq
      exact ⟨this.1, by show dep q.2 ≤ _; omega⟩
    · have := preL_ok (i + 1) bs h'.2 p e
      exact ⟨this.1, by omega⟩
end
section
variable {P : Program} {w : World} {K : PySem.W.Frag} {mg : Str → Option Value} {base : Heap}
def spTips (K : PySem.W.Frag) : Sp := fun vs H Q _ => ∃ (v : V) (b : Bu), vs = [v] ∧ Dp K H v (toD b) ∧ Dr b ∧ ∀ p H' us, H p = none → Ex H H' → H' p = some (.lst us) → DpAll K H' us ((tr b).map enc) → Q (.ref p) H'
theorem ok_tips (T : Tx K mg) : FnOk P w K mg base CX0 2 T.a_law_tips T.d_law_tips P_law_tips (spTips K) := by
  have G1 : FnOk P w K mg base CX0 1 T.a_law_parts T.d_law_parts P_law_parts (spParts K) := ok_parts T
  refine T.F_law_tips.ok sc_law_tips (fun vs H Q E h => ?_) (fun cdv A outer s H vs Q E hr h => ?_)
  · obtain ⟨v, b, rfl, _⟩ := h; rfl
  · obtain ⟨v, b, rfl, hv, hD, q⟩ := h
    have hu : (A.deeper (envOfC "_law_tips" (defScope s_law_tips) s.heap.objs.size T.a_law_tips cdv)).units + 64 < cLine := by have := hr.un; omega
    have hu1 : (A.deeper (envOfC "_law_tips" (defScope s_law_tips) s.heap.objs.size T.a_law_tips cdv)).units + 1 < cLine := by omega
    refine ⟨_, pss_cons (ps_set (i := 1) sc_law_tips.nd rfl (.inr rfl) (pe_call G1 hr (by rfl) T.g_law_parts T.F_law_parts.kp T.b_law_parts .nil pass0 (pa_cons (pv 0) pa_nil)))
      (pss_one (ps_ret (pe_lc (own := [("_law_road", 2)]) (g := gName 2) (tt := tTest (tOp (rEqD K) (tDGet (tVar 1) (tVar 2)) (tTup tNil))) (te := tVar 2) rfl sc_law_tips.nd (pi_list (pe_callB (r := rSortDT K) (cr_sortedDT rfl hu) (by rfl) T.z_sorted (by decide +kernel) (pa_cons (pv 1) pa_nil))) (blkOk_by (N := N_law_tips) (sc := defScope s_law_tips) (by decide +kernel))
            (fun _ _ _ _ _ => pg_name (i := 2) sc_law_tips.nd rfl (Or.inl rfl)) (fun _ _ _ _ _ => pts_one (pt_cmpR (op_eqD hu) (pe_dget hu1 (pv 1) (pv 2) (by intro _ _; rfl)) (pe_tup pa_nil) (nomark _))) (fun _ _ _ _ _ => pv 2)))), ?_⟩
    refine ⟨v, rfl, v, b, rfl, hv, hD, fun p H1 kvs hp e1 hP hK => ?_⟩
    dsimp only
    refine ret_at ?_
    refine ⟨_, rfl, p, kvs, (vis b).map (·.1), rfl, .inl hP, by rw [hK.1, List.map_map]; rfl, vis_first b, fun ys l hR hl => ?_⟩
    rw [sort_vis] at hR
    have f1 : Ex H1 (upd H1 l (.lst ys)) := ex_new hl
    have hlen : ys.length ≤ 1000 := by rw [hR.len, List.length_map, pre_len]; exact hD.few
    have key := Evl.el_lcL (K := K) (σ := [some v, some (.ref p), none]) (H := upd H1 l (.lst ys)) (tl := tC (.ref l)) (j := 2) (vs := [2]) (t := tTest (tOp (rEqD K) (tDGet (tVar 1) (tVar 2)) (tTup tNil))) (te := tVar 2) (a := l) (xs := ys)
      (fun i => isTip ((pre b).getD i ([], .tip)).2) (fun i => ys.getD i .non) Evl.ev_c (SqL.of upd_same) (by omega) (fun x => rfl) (fun i x H2 e2 hx => ?_) (fun i x H2 e2 hx _ => ?_)
    · refine key _ (Evl.Ex.refl _) _ fun pr H3 hpr e3 hL => q pr H3 _ (Evl.fresh_back (e1.trans f1) hpr) ((e1.trans f1).trans e3) hL ?_
      have := given_rds (K := K) hR
      rw [pre_tips] at this
      exact DpAll.ex (f1.trans e3) _ _ this
    · obtain ⟨bb, r, rfl, hr1, hbb⟩ := hR.get hx
      rw [List.getElem?_map] at hr1
      obtain ⟨z, hz, rfl⟩ := Option.map_eq_some_iff.mp hr1
      have hm := List.mem_of_getElem? hz
      have hm2 : (z.1, z.2) ∈ vis b := (vis_perm b).mem_iff.mpr hm
      obtain ⟨vv, hvv, hdv⟩ := hK.get (nodup_vis b) hm2
      have hok := pre_ok b hD.ok z hm
      have f2 := f1.trans e2
      have hg : EvD K (tDGet (tVar 1) (tVar 2)) ((wipe [some v, some (.ref p), none] [2]).set 2 (some (.ref bb))) H2 (toD z.2) := fun H3 a R r => by
        have f3 := f2.trans a
        exact ⟨_, rfl, _, rfl, p, vv, rfl, hvv ▸ DGet.t (f3 _ _ hP) (k := z.1.map Sum.inl) (by rw [map_kV]; exact f3 _ _ hbb), r vv H3 (Evl.Ex.refl H3) (Dp.ex f3 _ _ hdv)⟩
      refine Evl.et_is (Evl.et_test (ev_eqD hg (ed_tup ead_nil (by decide)) (shaped_toD hok.1 (by have := hD.dep; omega)) shaped_tup0)) ?_
      rw [isTip_sound, List.getD_eq_getElem?_getD, hz]
      rfl
    · have e9 : ys.getD i .non = x := by rw [List.getD_eq_getElem?_getD, hx]; rfl
      rw [e9]
      exact Evl.ev_var rfl
def spKnots (K : PySem.W.Frag) : Sp := fun vs H Q _ => ∃ (v : V) (b : Bu), vs = [v] ∧ Dp K H v (toD b) ∧ Dr b ∧ ∀ H', Ex H H' → Q (.int (knots b : Nat)) H'
theorem ok_knots (T : Tx K mg) : FnOk P w K mg base CX0 2 T.a_law_knots T.d_law_knots P_law_knots (spKnots K) := by
  have G1 : FnOk P w K mg base CX0 1 T.a_law_parts T.d_law_parts P_law_parts (spParts K) := ok_parts T
  refine T.F_law_knots.ok sc_law_knots (fun vs H Q E h => ?_) (fun cdv A outer s H vs Q E hr h => ?_)
  · obtain ⟨v, b, rfl, _⟩ := h; rfl
  · obtain ⟨v, b, rfl, hv, hD, q⟩ := h
    have hu : (A.deeper (envOfC "_law_knots" (defScope s_law_knots) s.heap.objs.size T.a_law_knots cdv)).units + 64 < cLine := by have := hr.un; omega
    refine ⟨_, pss_one (ps_ret (pe_callB call_len_seq (by rfl) T.z_len PySem.boot_len (pa_cons (pe_lc (own := [("_law_part", 1)]) (g := gName 1) (tt := tTest (tOp (rNeD K) (tVar 1) (tTup tNil))) (te := tVar 1) rfl sc_law_knots.nd (pi_list (pe_listVals rfl (by rfl) T.z_list (pe_call G1 hr (by rfl) T.g_law_parts T.F_law_parts.kp T.b_law_parts .nil pass0 (pa_cons (pv 0) pa_nil)))) (blkOk_by (N := N_law_knots) (sc := defScope s_law_knots) (by decide +kernel))
            (fun _ _ _ _ _ => pg_name (i := 1) sc_law_knots.nd rfl (Or.inl rfl)) (fun _ _ _ _ _ => pts_one (pt_cmpR (op_neD hu) (pv 1) (pe_tup pa_nil) (nomark _))) (fun _ _ _ _ _ => pv 1)) pa_nil))), ?_⟩
    refine ret_cb (lc_at ⟨v, rfl, v, b, rfl, hv, hD, fun p H1 kvs hp e1 hP hK => ⟨p, kvs, rfl, hP, fun l hl => ?_⟩⟩)
    have f1 : Ex H1 (upd H1 l (.lst (kvs.map (·.2)))) := ex_new hl
    have hlen : (kvs.map (·.2)).length = (vis b).length := by rw [List.length_map, hK.len]
    have hvl := vis_len b
    have hfew := hD.few
    have key := Evl.el_lcL (K := K) (σ := [some v, none]) (H := upd H1 l (.lst (kvs.map (·.2)))) (tl := tC (.ref l)) (j := 1) (vs := [1]) (t := tTest (tOp (rNeD K) (tVar 1) (tTup tNil))) (te := tVar 1) (a := l) (xs := kvs.map (·.2))
      (fun i => !isTip ((vis b).getD i ([], .tip)).2) (fun i => (kvs.map (·.2)).getD i .non) Evl.ev_c (SqL.of upd_same) (by omega) (fun x => rfl) (fun i x H2 e2 hx => ?_) (fun i x H2 e2 hx _ => ?_)
    · refine key _ (Evl.Ex.refl _) _ fun pr H3 hpr e3 hL => ⟨pr, _, rfl, .inl (SqL.of hL), ?_⟩
      rw [given_len_countP, hlen, range_countP ([], .tip) (fun p : Rb => !isTip p.2) (vis b), vis_knots]
      exact q H3 ((e1.trans f1).trans e3)
    · have h2 := hK.2
      obtain ⟨d, hd, hxd⟩ := DpAll.get h2 hx
      rw [List.getElem?_map] at hd
      obtain ⟨z, hz, rfl⟩ := Option.map_eq_some_iff.mp hd
      have hm := (vis_perm b).mem_iff.mp (List.mem_of_getElem? hz)
      have hok := pre_ok b hD.ok z hm
      refine Evl.et_is (Evl.et_test (ev_neD (ed_var rfl (Dp.ex (f1.trans e2) _ _ hxd)) (ed_tup ead_nil (by decide)) (shaped_toD hok.1 (by have := hD.dep; omega)) shaped_tup0)) ?_
      rw [isTip_sound, List.getD_eq_getElem?_getD, hz]
      rfl
    · have e9 : (kvs.map (·.2)).getD i .non = x := by rw [List.getD_eq_getElem?_getD, hx]; rfl
      rw [e9]
      exact Evl.ev_var rfl
def spDepths (K : PySem.W.Frag) : Sp := fun vs H Q _ => ∃ (v : V) (b : Bu), vs = [v] ∧ Dp K H v (toD b) ∧ Dr b ∧ ∀ p H', H p = none → Ex H H' → H' p = some (.lst (((tr b).map fun r => ((r.length : Nat) : Int)).map V.int)) → Q (.ref p) H'
theorem ok_depths (T : Tx K mg) : FnOk P w K mg base CX0 3 T.a_law_depths T.d_law_depths P_law_depths (spDepths K) := by
  have G1 : FnOk P w K mg base CX0 2 T.a_law_tips T.d_law_tips P_law_tips (spTips K) := ok_tips T
  refine T.F_law_depths.ok sc_law_depths (fun vs H Q E h => ?_) (fun cdv A outer s H vs Q E hr h => ?_)
  · obtain ⟨v, b, rfl, _⟩ := h; rfl
  · obtain ⟨v, b, rfl, hv, hD, q⟩ := h
    refine ⟨_, pss_one (ps_ret (pe_lc (own := [("_law_road", 1)]) (g := gName 1) (tt := tYes) (te := tCB (Evl.rLenS K) (tCons (tVar 1) tNil)) rfl sc_law_depths.nd (pi_list (pe_call G1 hr (by rfl) T.g_law_tips T.F_law_tips.kp T.b_law_tips .nil pass0 (pa_cons (pv 0) pa_nil))) (blkOk_by (N := N_law_depths) (sc := defScope s_law_depths) (by decide +kernel))
            (fun _ _ _ _ _ => pg_name (i := 1) sc_law_depths.nd rfl (Or.inl rfl)) (fun _ _ _ _ _ => pts_nil) (fun _ _ _ _ _ => pe_callB call_len_seq (by rfl) T.z_len PySem.boot_len (pa_cons (pv 1) pa_nil)))), ?_⟩
    refine ret_at ⟨v, rfl, v, b, rfl, hv, hD, fun l H1 ys hl e1 hL hA => ?_⟩
    have hlen : ys.length = (tr b).length := by rw [DpAll.len hA, List.length_map]
    have htl := tr_len b
    have hfew := hD.few
    have key := Evl.el_lcL (K := K) (σ := [some v, none]) (H := H1) (tl := tC (.ref l)) (j := 1) (vs := [1]) (t := tYes) (te := tCB (Evl.rLenS K) (tCons (tVar 1) tNil)) (a := l) (xs := ys)
      (fun _ => true) (fun i => .int (((tr b).getD i []).length : Nat)) Evl.ev_c (SqL.of hL) (by omega) (fun x => rfl) (fun i x H2 e2 hx => evT_yes) (fun i x H2 e2 hx _ => ?_)
    · refine key _ (Evl.Ex.refl _) _ fun pr H3 hpr e3 hP => q pr H3 (Evl.fresh_back e1 hpr) (e1.trans e3) ?_
      rw [given_all, hlen, range_getD (tr b) [] (fun r => V.int (r.length : Nat))] at hP
      rw [hP, List.map_map]
      rfl
    · obtain ⟨d, hd, hxd⟩ := DpAll.get hA hx
      rw [List.getElem?_map] at hd
      obtain ⟨r, hr1, rfl⟩ := Option.map_eq_some_iff.mp hd
      have := ev_lenD (K := K) (σ := (wipe [some v, none] [1]).set 1 (some x)) (H := H2) (ta := tVar 1) (ds := r.map .int) (ed_var rfl (Dp.ex e2 _ _ hxd))
      rw [List.length_map] at this
      rw [List.getD_eq_getElem?_getD, hr1]
      exact this
end
end Bk

namespace Bk
open PySem PySem.Spec PyProof.Rows L2
open Evl (Ex Ev EvT EvL EvU EvA)
theorem shaped_enc (r : List Int) : SeqAt.shaped (enc r) = true := by
  have := depth_enc r
  show ((enc r).canLay0 && decide ((enc r).depth ≤ 64)) = true
  have e : (enc r).canLay0 = true := by simp [enc, PyData.canLay0, lay_ints]
  rw [e, decide_eq_true (by omega)]
  rfl
theorem eqv_enc_nil (r : List Int) : PyData.eqv (enc r) (.tuple []) = r.isEmpty := by
  cases r with
  | nil => simp [enc, PyData.eqv, PyData.eqvAll]
  | cons i r => simp [enc, PyData.eqv, PyData.eqvAll]
section
variable {P : Program} {w : World} {K : PySem.W.Frag} {mg : Str → Option Value} {base : Heap}
def spPut (K : PySem.W.Frag) (n : Nat) : Sp := fun vs H Q _ => ∃ (v rv gv : V) (b g : Bu) (r : List Int), vs = [v, rv, gv] ∧ Dp K H v (toD b) ∧ Dp K H rv (enc r) ∧ Dp K H gv (toD g) ∧ okB b = true ∧ inB b r ∧ r.length ≤ n ∧
  ∀ x H', Ex H H' → Dp K H' x (toD (putB b r g)) → Q x H'
theorem ok_put_ (T : Tx K mg) : ∀ n : Nat, FnOk P w K mg base CX0 (n + 1) T.a_law_put T.d_law_put P_law_put (spPut K n)
  | 0 => by
    refine T.F_law_put.ok sc_law_put (fun vs H Q E h => ?_) (fun cdv A outer s H vs Q E hr h => ?_)
    · obtain ⟨v, rv, gv, b, g, r, rfl, _⟩ := h; rfl
    · obtain ⟨v, rv, gv, b, g, r, rfl, hv, hrv, hg, ho, hi, hl, q⟩ := h
      have hu : (A.deeper (envOfC "_law_put" (defScope s_law_put) s.heap.objs.size T.a_law_put cdv)).units + 64 < cLine := by have := hr.un; omega
      refine ⟨_, pss_cons (ps_if (pt_cmpR (op_eqD hu) (pv 1) (pe_tup pa_nil) (nomark _)) (pss_one (ps_ret (pv 2))) pss_nil) pss_never, ?_⟩
      have h0 : r = [] := List.eq_nil_of_length_eq_zero (by omega)
      subst h0
      refine Evl.q_when (b := true) (Evl.et_is (Evl.et_test (ev_eqD (K := K) (ed_var (j := 1) rfl hrv) (ed_tup ead_nil (by decide)) (shaped_enc []) shaped_tup0)) (eqv_enc_nil [])) (fun _ H1 e1 => ?_) (fun hb => by cases hb)
      exact ⟨_, rfl, q gv H1 e1 (by have : putB b [] g = g := by cases b <;> rw [putB]
                                    rw [this]; exact Dp.ex e1 _ _ hg)⟩
  | n + 1 => by
    have G := ok_put_ T n
    refine T.F_law_put.ok sc_law_put (fun vs H Q E h => ?_) (fun cdv A outer s H vs Q E hr h => ?_)
    · obtain ⟨v, rv, gv, b, g, r, rfl, _⟩ := h; rfl
    · obtain ⟨v, rv, gv, b, g, r, rfl, hv, hrv, hg, ho, hi, hl, q⟩ := h
      have hu : (A.deeper (envOfC "_law_put" (defScope s_law_put) s.heap.objs.size T.a_law_put cdv)).units + 64 < cLine := by have := hr.un; omega
      refine ⟨_, pss_cons (ps_if (pt_cmpR (op_eqD hu) (pv 1) (pe_tup pa_nil) (nomark _)) (pss_one (ps_ret (pv 2))) pss_nil)
        (pss_cons (ps_set (i := 3) sc_law_put.nd rfl (.inl rfl) (pe_op op_add (pe_ix ix_tup (pv 1) pe_int (fun _ _ => rfl)) pe_int))
        (pss_one (ps_ret (pe_op op_catA (pe_op op_catA (pe_slice sl_tupA (pv 0) po_none (po_some (pv 3))) (pe_tup (pa_cons (pe_call G hr (by rfl) T.g_law_put T.F_law_put.kp T.b_law_put .nil pass0 (pa_cons (pe_ix ix_tup (pv 0) (pv 3) (fun _ _ => rfl)) (pa_cons (pe_slice sl_tupA (pv 1) (po_some pe_int) po_none) (pa_cons (pv 2) pa_nil)))) pa_nil)))
          (pe_slice sl_tupA (pv 0) (po_some (pe_op op_add (pv 3) pe_int)) po_none))))), ?_⟩
      cases r with
      | nil =>
        refine Evl.q_when (b := true) (Evl.et_is (Evl.et_test (ev_eqD (K := K) (ed_var (j := 1) rfl hrv) (ed_tup ead_nil (by decide)) (shaped_enc []) shaped_tup0)) (eqv_enc_nil [])) (fun _ H1 e1 => ?_) (fun hb => by cases hb)
        exact ⟨_, rfl, q gv H1 e1 (by have : putB b [] g = g := by cases b <;> rw [putB]
                                      rw [this]; exact Dp.ex e1 _ _ hg)⟩
      | cons i r =>
        refine Evl.q_when (b := false) (Evl.et_is (Evl.et_test (ev_eqD (K := K) (ed_var (j := 1) rfl hrv) (ed_tup ead_nil (by decide)) (shaped_enc (i :: r)) shaped_tup0)) (eqv_enc_nil (i :: r))) (fun hb => by cases hb) (fun _ H1 e1 => ?_)
        cases b with
        | tip => simp [inB] at hi
        | knot c bs =>
          rw [inB] at hi
          obtain ⟨hi0, hil⟩ := hi
          obtain ⟨x, hx, hxr⟩ := inL_get hil
          obtain ⟨k, rfl⟩ : ∃ k : Nat, i = (k : Int) := ⟨i.toNat, by omega⟩
          have hx' : bs[k]? = some x := hx
          have hkl : k < bs.length := (List.getElem?_eq_some_iff.mp hx').1
          obtain ⟨_, ⟨hb1, hb2⟩, hob⟩ := okB_knot ho
          have hv1 := Dp.ex e1 _ _ hv
          have hr1 := Dp.ex e1 _ _ hrv
          have hg1 := Dp.ex e1 _ _ hg
          refine Evl.q_asg (v := .int ((k + 1 : Nat) : Int)) (fun H2 a R rr => ed_ixT (K := K) (σ := [some v, some rv, some gv, none]) (H := H1) (k := 0) (ed_var (j := 1) rfl hr1) Evl.ev_c (d := .int (k : Int)) rfl H2 a _ fun y H3 e3 hy => by
            have := dp_int hy
            subst this
            exact ⟨_, _, rfl, rfl, rr H3 e3⟩) (fun H2 e2 => ?_)
          have e12 := e1.trans e2
          have hv2 : Dp K H2 v (.tuple (itm (.knot c bs))) := by have := Dp.ex e2 _ _ hv1; rw [toD_itm] at this; exact this
          have hr2 := Dp.ex e2 _ _ hr1
          have hg2 := Dp.ex e2 _ _ hg1
          have hput : toD (putB (.knot c bs) ((k : Int) :: r) g) = .tuple ((itm (.knot c bs)).take (k + 1) ++ [toD (putB x r g)] ++ (itm (.knot c bs)).drop (k + 1 + 1)) := by
            rw [putB]
            show toD (.knot c (putL bs k r g)) = _
            rw [putL_eq hx', toD, toDs_map, List.map_append, List.map_cons]
            simp [itm, List.map_take, List.map_drop]
          have hd : EvD K (tOp (rCatA K) (tOp (rCatA K) (tSl (rSlA K) (tVar 0) tNoPart (tPart (tVar 3))) (tTup (tCons (tCall (spPut K n) [] E0 (tCons (tOp (rIxT K) (tVar 0) (tVar 3)) (tCons (tSl (rSlA K) (tVar 1) (tPart (tC (.int 1))) tNoPart) (tCons (tVar 2) tNil)))) tNil)))
              (tSl (rSlA K) (tVar 0) (tPart (tOp (rI0 fun i j => .int (i + j)) (tVar 3) (tC (.int 1)))) tNoPart)) [some v, some rv, some gv, some (.int ((k + 1 : Nat) : Int))] H2 (toD (putB (.knot c bs) ((k : Int) :: r) g)) := by
            rw [hput]
            refine ed_cat (ed_cat (ed_slTo (ed_var rfl hv2) (Evl.ev_var rfl)) (ed_tup (ead_cons (ed_call (ds := [toD x, enc r, toD g]) (ead_cons (ed_ixT (k := k + 1) (ed_var rfl hv2) (Evl.ev_var rfl) ?_) (ead_cons (ed_slFrom (k := 1) (ds := ((k : Int) :: r).map .int) (ed_var rfl hr2) Evl.ev_c) (ead_cons (ed_var rfl hg2) ead_nil))) ?_) ead_nil) (by show 1 ≤ 100000; decide)) ?_)
              (ed_slFrom (ed_var rfl hv2) (Evl.ev_op (z := .int ((k + 1 + 1 : Nat) : Int)) (Evl.ev_var rfl) Evl.ev_c (Evl.rv_I0 (g := fun i j => .int (i + j))))) ?_
            · simp [itm, hx']
            · intro vs H3 e3 hvs R rr
              cases hvs with
              | cons h1 h2 =>
                cases h2 with
                | cons h3 h4 =>
                  cases h4 with
                  | cons h5 h6 =>
                    cases h6
                    exact ⟨_, _, _, x, g, r, rfl, h1, h3, h5, okBs_mem hob (List.mem_of_getElem? hx'), hxr, by rw [List.length_cons] at hl; omega, rr⟩
            · have : (itm (.knot c bs)).length = bs.length + 1 := by simp [itm]
              rw [List.length_take, this]
              simp only [List.length_singleton]
              omega
            · have : (itm (.knot c bs)).length = bs.length + 1 := by simp [itm]
              rw [List.length_append, List.length_take, List.length_drop, this]
              simp only [List.length_singleton]
              omega
          exact s_retD hd fun y H3 e3 hy => q y H3 (e12.trans e3) hy
def spGrownL (K : PySem.W.Frag) : Sp := fun vs H Q _ => ∃ (v gv : V) (b g : Bu), vs = [v, gv] ∧ Dp K H v (toD b) ∧ Dp K H gv (toD g) ∧ Dr b ∧ okB g = true ∧ ∀ x H', Ex H H' → Dp K H' x (toD (grow b g)) → Q x H'
theorem ok_law_grown (T : Tx K mg) : FnOk P w K mg base CX0 62 T.a_law_grown T.d_law_grown P_law_grown (spGrownL K) := by
  have G1 : FnOk P w K mg base CX0 2 T.a_law_tips T.d_law_tips P_law_tips (spTips K) := ok_tips T
  have G2 : FnOk P w K mg base CX0 61 T.a_law_put T.d_law_put P_law_put (spPut K 60) := ok_put_ T 60
  refine T.F_law_grown.ok sc_law_grown (fun vs H Q E h => ?_) (fun cdv A outer s H vs Q E hr h => ?_)
  · obtain ⟨v, gv, b, g, rfl, _⟩ := h; rfl
  · obtain ⟨v, gv, b, g, rfl, hv, hg, hD, hog, q⟩ := h
    refine ⟨_, pss_cons (ps_for PassesOwn.never rfl (pi_list (pe_call (G1.mono (by decide)) hr (by rfl) T.g_law_tips T.F_law_tips.kp T.b_law_tips .nil pass0 (pa_cons (pv 0) pa_nil))) (pg_name (i := 2) sc_law_grown.nd rfl (.inl rfl))
        (pss_one (ps_set (i := 0) sc_law_grown.nd rfl (.inl rfl) (pe_call (G2.mono (by decide)) hr (by rfl) T.g_law_put T.F_law_put.kp T.b_law_put .nil pass0 (pa_cons (pv 0) (pa_cons (pv 2) (pa_cons (pv 1) pa_nil)))))))
      (pss_one (ps_ret (pv 0))), ?_⟩
    obtain ⟨hpe, hgo⟩ := puts_tr g b
    refine for_at (D := { nx := tRet (tVar 0) { nx := fun _ H' => Q .non H', rt := Q }, rt := Q }) ⟨v, rfl, v, b, rfl, hv, hD, fun l H1 ys hl e1 hL hA => ?_⟩
    have hlen : ys.length = (tr b).length := by rw [DpAll.len hA, List.length_map]
    refine Evl.s_forL (D := { nx := tRet (tVar 0) { nx := fun _ H' => Q .non H', rt := Q }, rt := Q }) (a := l) (xs := ys) Evl.ev_c (SqL.of hL)
      (fun i σ H' => ∃ v' x2, σ = [some v', some gv, x2] ∧ Ex H1 H' ∧ Dp K H' v' (toD (puts g b ((tr b).take i))))
      (fun H2 e2 => ⟨v, none, rfl, e2, by rw [List.take_zero]; exact Dp.ex (e1.trans e2) _ _ hv⟩) (fun i σ' H' _ ⟨_, _, _, e, _⟩ => Evl.ex_l e (SqL.of hL)) ?_ ?_
    · rintro i x σ' H' hx ⟨v', x2, rfl, e, hv'⟩
      obtain ⟨d, hd, hxd⟩ := DpAll.get hA hx
      rw [List.getElem?_map] at hd
      obtain ⟨r, hr1, rfl⟩ := Option.map_eq_some_iff.mp hd
      have htk : (tr b).take (i + 1) = (tr b).take i ++ [r] := by rw [List.take_add_one, hr1]; rfl
      have hgi : inB (puts g b ((tr b).take i)) r := by
        have h1 : goes g b ((tr b).take i ++ (tr b).drop i) := by rw [List.take_append_drop]; exact hgo
        have h2 := (goes_app g _ _ _).mp h1
        have h3 : (tr b).drop i = r :: (tr b).drop (i + 1) := by
          have hi : i < (tr b).length := (List.getElem?_eq_some_iff.mp hr1).1
          rw [List.drop_eq_getElem_cons hi, (List.getElem?_eq_some_iff.mp hr1).2]
        rw [h3] at h2
        exact h2.2.1
      have hok : okB (puts g b ((tr b).take i)) = true := by
        have key : ∀ (rs : List (List Int)) (b : Bu), okB b = true → okB (puts g b rs) = true := by
          intro rs
          induction rs with
          | nil => intro b h; exact h
          | cons r rs ih => intro b h; exact ih _ (ok_put hog b r h)
        exact key _ b hD.ok
      refine s_asgD (d := toD (puts g b ((tr b).take (i + 1)))) (ed_call (ds := [toD (puts g b ((tr b).take i)), enc r, toD g]) (ead_cons (ed_var rfl hv') (ead_cons (ed_var rfl (Dp.ex e _ _ hxd)) (ead_cons (ed_var rfl (Dp.ex (e1.trans e) _ _ hg)) ead_nil))) (fun vs H3 e3 hvs R rr => ?_)) (fun y H3 e3 hy => ⟨y, some x, rfl, e.trans e3, hy⟩)
      cases hvs with
      | cons h1 h2 =>
        cases h2 with
        | cons h3 h4 =>
          cases h4 with
          | cons h5 h6 =>
            cases h6
            refine ⟨_, _, _, _, g, r, rfl, h1, h3, h5, hok, hgi, ?_, fun y H4 e4 hy => rr y H4 e4 ?_⟩
            · have := tr_dep b r (List.mem_of_getElem? hr1)
              have := hD.dep
              omega
            · rw [htk, puts_app]
              exact hy
    · rintro σ' H' ⟨v', x2, rfl, e, hv'⟩
      rw [hlen, List.take_length, hpe] at hv'
      exact ⟨_, rfl, q v' H' (e1.trans e) hv'⟩
end
end Bk

namespace Bk
open PySem PySem.Spec PyProof.Rows L2
open Evl (Ex Ev EvT EvL EvU EvA)
theorem q_par {i j : Nat} {ta : TA} {x y : V} {D : Ends} {σ : L2.St} {H : Hp} {tz : TS} (h : EvA ta σ H [x, y]) (k : ∀ H1, Ex H H1 → tz D ((σ.set i (some x)).set j (some y)) H1) : tSeq (tPar i j ta) tz D σ H :=
  h H (Ex.refl H) _ fun H1 e => ⟨x, y, rfl, k H1 e⟩
theorem s_par {i j : Nat} {ta : TA} {x y : V} {D : Ends} {σ : L2.St} {H : Hp} (h : EvA ta σ H [x, y]) (k : ∀ H1, Ex H H1 → D.nx ((σ.set i (some x)).set j (some y)) H1) : tPar i j ta D σ H :=
  h H (Ex.refl H) _ fun H1 e => ⟨x, y, rfl, k H1 e⟩
theorem Can.dr {b : Bu} {gs : List Bu} (C : Can b gs) (i : Nat) : Dr (growAll b (gs.take i)) := by
  have hou : ∀ g ∈ gs, okB g = true := fun g hg => (C.hg g hg).ok
  have hok : okB (growAll b (gs.take i)) = true := ok_growAll C.hb.ok fun z hz => hou z (List.mem_of_mem_take hz)
  have h2 : growAll (growAll b (gs.take i)) (gs.drop i) = growAll b gs := by unfold growAll; rw [← List.foldl_append, List.take_append_drop]
  have h1 := dep_growAll (gs := gs.drop i) hok fun z hz => hou z (List.mem_of_mem_drop hz)
  have h3 := size_growAll (gs := gs.drop i) hok fun z hz => hou z (List.mem_of_mem_drop hz)
  rw [h2] at h1 h3
  exact ⟨hok, Nat.le_trans h1 C.deep, by have := C.few; omega⟩
section
variable {P : Program} {w : World} {K : PySem.W.Frag} {mg : Str → Option Value} {base : Heap}
theorem ed_grownL {σ : L2.St} {H : Hp} {ta : TA} {E : XK} {b g : Bu} (hD : Dr b) (hg : okB g = true) (h : EvAD K ta σ H [toD b, toD g]) : EvD K (tCall (spGrownL K) [] E ta) σ H (toD (grow b g)) :=
  ed_call h fun vs H1 e1 hvs R r => by
    cases hvs with
    | cons h1 h2 =>
      cases h2 with
      | cons h3 h4 =>
        cases h4
        exact ⟨_, _, b, g, rfl, h1, h3, hD, hg, r⟩
def spBushOfL (K : PySem.W.Frag) : Sp := fun vs H Q _ => ∃ (r : V) (gs : List Bu), vs = [r] ∧ Dp K H r (.tuple (gs.map toD)) ∧ Can .tip gs ∧ ∀ x H', Ex H H' → Dp K H' x (toD (growAll .tip gs)) → Q x H'
theorem ok_law_bush_of (T : Tx K mg) : FnOk P w K mg base CX0 63 T.a_law_bush_of T.d_law_bush_of P_law_bush_of (spBushOfL K) := by
  have G1 : FnOk P w K mg base CX0 62 T.a_law_grown T.d_law_grown P_law_grown (spGrownL K) := ok_law_grown T
  refine T.F_law_bush_of.ok sc_law_bush_of (fun vs H Q E h => ?_) (fun cdv A outer s H vs Q E hr h => ?_)
  · obtain ⟨r, gs, rfl, _⟩ := h; rfl
  · obtain ⟨r, gs, rfl, hr1, C, q⟩ := h
    obtain ⟨ar, xs, rfl, hxs, hxa⟩ := dp_tup hr1
    have hl : xs.length = gs.length := by rw [DpAll.len hxa, List.length_map]
    refine ⟨_, pss_cons (ps_set (i := 1) sc_law_bush_of.nd rfl (.inl rfl) (pe_tup pa_nil))
      (pss_cons (ps_for PassesOwn.never rfl (pi_tup (pv 0)) (pg_name (i := 2) sc_law_bush_of.nd rfl (.inl rfl))
        (pss_one (ps_set (i := 1) sc_law_bush_of.nd rfl (.inl rfl) (pe_call G1 hr (by rfl) T.g_law_grown T.F_law_grown.kp T.b_law_grown .nil pass0 (pa_cons (pv 1) (pa_cons (pv 2) pa_nil))))))
      (pss_one (ps_ret (pv 1)))), ?_⟩
    refine q_asgD (K := K) (d := toD .tip) (ed_tup ead_nil (by decide)) fun v1 H1 e1 hv1 => ?_
    refine Evl.s_forT (D := { nx := tRet (tVar 1) { nx := fun _ H' => Q .non H', rt := Q }, rt := Q }) (a := ar) (xs := xs) (Evl.ev_var rfl) (Evl.ex_t e1 hxs)
      (fun i σ H' => ∃ v' x2, σ = [some (.ref ar), some v', x2] ∧ Ex H H' ∧ Dp K H' v' (toD (growAll .tip (gs.take i))))
      (fun H2 e2 => ⟨v1, none, rfl, e1.trans e2, Dp.ex e2 _ _ hv1⟩) (fun i σ' H' _ ⟨_, _, _, e, _⟩ => Evl.ex_t e hxs) ?_ ?_
    · rintro i x σ' H' hx ⟨v', x2, rfl, e, hv'⟩
      obtain ⟨g, hg, hxg⟩ := dpAll_map hxa hx
      have htk : gs.take (i + 1) = gs.take i ++ [g] := by rw [List.take_add_one, hg]; rfl
      refine s_asgD (K := K) (ed_grownL (C.dr i) (C.hg g (List.mem_of_getElem? hg)).ok (ead_cons (ed_var rfl hv') (ead_cons (ed_var rfl (Dp.ex e _ _ hxg)) ead_nil))) fun y H3 e3 hy => ⟨y, some x, rfl, e.trans e3, ?_⟩
      rw [htk, growAll_snoc]
      exact hy
    · rintro σ' H' ⟨v', x2, rfl, e, hv'⟩
      rw [hl, List.take_length] at hv'
      exact ⟨_, rfl, q v' H' e hv'⟩
def spYearsL (K : PySem.W.Frag) : Sp := fun vs H Q _ => ∃ (v r : V) (b : Bu) (gs : List Bu), vs = [v, r] ∧ Dp K H v (toD b) ∧ Dp K H r (.tuple (gs.map toD)) ∧ Can b gs ∧ ∀ x H', Ex H H' → Dp K H' x (.list ((yrs b gs gs.length).map toD)) → Q x H'
def spSizes (K : PySem.W.Frag) : Sp := fun vs H Q _ => ∃ (r : V) (gs : List Bu), vs = [r] ∧ Dp K H r (.tuple (gs.map toD)) ∧ (∀ g ∈ gs, Dr g) ∧ gs.length ≤ 13 ∧ ∀ p H', H p = none → Ex H H' → H' p = some (.tup (ints4 (ctrs .tip gs))) → Q (.ref p) H'
theorem ok_sizes (T : Tx K mg) : FnOk P w K mg base CX0 4 T.a_law_sizes T.d_law_sizes P_law_sizes (spSizes K) := by
  have G1 : FnOk P w K mg base CX0 3 T.a_law_depths T.d_law_depths P_law_depths (spDepths K) := ok_depths T
  have G2 : FnOk P w K mg base CX0 2 T.a_law_knots T.d_law_knots P_law_knots (spKnots K) := ok_knots T
  refine T.F_law_sizes.ok sc_law_sizes (fun vs H Q E h => ?_) (fun cdv A outer s H vs Q E hr h => ?_)
  · obtain ⟨r, gs, rfl, _⟩ := h; rfl
  · obtain ⟨r, gs, rfl, hr1, hgd, hn, q⟩ := h
    obtain ⟨ar, xs, rfl, hxs, hxa⟩ := dp_tup hr1
    have hl : xs.length = gs.length := by rw [DpAll.len hxa, List.length_map]
    refine ⟨_, pss_cons (ps_asg (pe_tup (pa_cons pe_int (pa_cons pe_int (pa_cons pe_int (pa_cons pe_int pa_nil))))) (pg_tup rfl (pgs_cons (pg_name (i := 1) sc_law_sizes.nd rfl (.inl rfl)) (pgs_cons (pg_name (i := 2) sc_law_sizes.nd rfl (.inl rfl)) (pgs_cons (pg_name (i := 3) sc_law_sizes.nd rfl (.inl rfl)) (pgs_cons (pg_name (i := 4) sc_law_sizes.nd rfl (.inl rfl)) pgs_nil))))))
      (pss_cons (ps_for PassesOwn.never rfl (pi_tup (pv 0)) (pg_name (i := 5) sc_law_sizes.nd rfl (.inl rfl))
        (pss_cons (ps_set (i := 6) sc_law_sizes.nd rfl (.inl rfl) (pe_call (G1.mono (by decide)) hr (by rfl) T.g_law_depths T.F_law_depths.kp T.b_law_depths .nil pass0 (pa_cons (pv 5) pa_nil)))
        (pss_cons (ps_par (i := 1) (j := 2) rfl sc_law_sizes.nd rfl rfl (by decide) rfl rfl (pa_cons (pe_op op_add (pv 1) (pe_op op_mulB (pv 2) (pe_call (G2.mono (by decide)) hr (by rfl) T.g_law_knots T.F_law_knots.kp T.b_law_knots .nil pass0 (pa_cons (pv 5) pa_nil)))) (pa_cons (pe_op op_mulB (pv 2) (pe_callB call_len_seq (by rfl) T.z_len PySem.boot_len (pa_cons (pv 6) pa_nil))) pa_nil)) rfl)
        (pss_one (ps_par (i := 3) (j := 4) rfl sc_law_sizes.nd rfl rfl (by decide) rfl rfl (pa_cons (pe_op op_add (pv 3) (pe_callB (cr_min rfl) (by rfl) T.z_min (by decide +kernel) (pa_cons (pv 6) pa_nil))) (pa_cons (pe_op op_add (pv 4) (pe_callB (cr_max rfl) (by rfl) T.z_max (by decide +kernel) (pa_cons (pv 6) pa_nil))) pa_nil)) rfl)))))
      (pss_one (ps_ret (pe_tup (pa_cons (pv 1) (pa_cons (pv 2) (pa_cons (pv 3) (pa_cons (pv 4) pa_nil)))))))), ?_⟩
    refine ⟨by show 4 ≤ sizeLine; decide, fun p0 hp0 => ⟨p0, _, rfl, SqT.of upd_same, rfl, _, _, rfl, _, _, rfl, _, _, rfl, _, _, rfl, rfl, ?_⟩⟩
    have e1 : Ex H (upd H p0 (.tup [.int 0, .int 1, .int 0, .int 0])) := ex_new hp0
    refine Evl.s_forT (D := { nx := tRet (tTup (tCons (tVar 1) (tCons (tVar 2) (tCons (tVar 3) (tCons (tVar 4) tNil))))) { nx := fun _ H' => Q .non H', rt := Q }, rt := Q }) (a := ar) (xs := xs) (Evl.ev_var rfl) (Evl.ex_t e1 hxs)
      (fun i σ H' => ∃ x5 x6, σ = [some (.ref ar), some (.int ((ctrs .tip (gs.take i)).1 : Nat)), some (.int ((ctrs .tip (gs.take i)).2.1 : Nat)), some (.int ((ctrs .tip (gs.take i)).2.2.1 : Nat)), some (.int ((ctrs .tip (gs.take i)).2.2.2 : Nat)), x5, x6] ∧ Ex H H')
      (fun H2 e2 => ⟨none, none, rfl, e1.trans e2⟩) (fun i σ' H' _ ⟨_, _, _, e⟩ => Evl.ex_t e hxs) ?_ ?_
    · rintro i x σ' H' hx ⟨x5, x6, rfl, e⟩
      obtain ⟨g, hg, hxg⟩ := dpAll_map hxa hx
      have Dg := hgd g (List.mem_of_getElem? hg)
      have htk : gs.take (i + 1) = gs.take i ++ [g] := by rw [List.take_add_one, hg]; rfl
      have ht : (ctrs .tip (gs.take i)).2.1 < 2 ^ 250 := by
        have h1 := ctrs_tips (b := .tip) (gs := gs.take i) (by decide) (fun y hy => by have := (hgd y (List.mem_of_mem_take hy)).few; omega)
        have h2 : (gs.take i).length ≤ 13 := Nat.le_trans (by rw [List.length_take]; exact Nat.min_le_right _ _) hn
        have h3 : 1000 ^ ((gs.take i).length + 1) ≤ 1000 ^ 14 := Nat.pow_le_pow_right (by decide) (by omega)
        exact Nat.lt_of_le_of_lt (Nat.le_trans h1 h3) (by decide)
      have hk : knots g < 2 ^ 250 := Nat.lt_of_le_of_lt (show knots g ≤ 1000 by have := Dg.few; omega) (by decide)
      have htg : tips g < 2 ^ 250 := Nat.lt_of_le_of_lt (show tips g ≤ 1000 by have := Dg.few; omega) (by decide)
      refine ⟨x, rfl, x, g, rfl, Dp.ex e _ _ hxg, Dg, fun l H2 hl2 e2 hL => ?_⟩
      dsimp only
      have hlen : (((tr g).map fun r => ((r.length : Nat) : Int)).map V.int).length = tips g := by rw [List.length_map, List.length_map, tr_len]
      refine q_par (x := .int (((ctrs .tip (gs.take i)).1 : Nat) + ((ctrs .tip (gs.take i)).2.1 : Nat) * (knots g : Nat) : Int)) (y := .int (((ctrs .tip (gs.take i)).2.1 : Nat) * (tips g : Nat) : Int))
        (Evl.ea_cons (Evl.ev_op (Evl.ev_var rfl) (Evl.ev_op (Evl.ev_var rfl) (ev_callD (K := K) (ds := [toD g]) (z := .int (knots g : Nat)) (ead_cons (ed_var rfl (Dp.ex (e.trans e2) _ _ hxg)) ead_nil) (fun vs H3 e3 hvs R rr => ?_)) (Evl.rv_I (C := CMulB) (g := fun i j => .int (i * j)) (mulB ht hk))) (Evl.rv_I0 (g := fun i j => .int (i + j))))
          (Evl.ea_cons (Evl.ev_op (Evl.ev_var rfl) (y := .int (tips g : Nat)) (Evl.ev_is (Evl.ev_len (K := K) (Evl.ev_var rfl) (SqL.of hL)) (by rw [hlen])) (Evl.rv_I (C := CMulB) (g := fun i j => .int (i * j)) (mulB ht htg))) Evl.ea_nil)) (fun H3 e3 => ?_)
      · cases hvs with
        | cons h1 h2 => cases h2; exact ⟨_, g, rfl, h1, Dg, rr⟩
      · have hL3 := e3 _ _ hL
        obtain ⟨⟨r1, m1, l1⟩, ⟨r2, m2, l2⟩⟩ := tr_ends g Dg.ok
        refine s_par (x := .int (((ctrs .tip (gs.take i)).2.2.1 : Nat) + (near g : Nat) : Int)) (y := .int (((ctrs .tip (gs.take i)).2.2.2 : Nat) + (dep g : Nat) : Int))
          (Evl.ea_cons (Evl.ev_op (Evl.ev_var rfl) (ev_minV (K := K) (ns := (tr g).map fun r => ((r.length : Nat) : Int)) (Evl.ev_var rfl) (SqL.of hL3) (List.mem_map.mpr ⟨r2, m2, by rw [l2]⟩) (fun y hy => ?_)) (Evl.rv_I0 (g := fun i j => .int (i + j))))
            (Evl.ea_cons (Evl.ev_op (Evl.ev_var rfl) (ev_maxV (K := K) (ns := (tr g).map fun r => ((r.length : Nat) : Int)) (Evl.ev_var rfl) (SqL.of hL3) (List.mem_map.mpr ⟨r1, m1, by rw [l1]⟩) (fun y hy => ?_)) (Evl.rv_I0 (g := fun i j => .int (i + j)))) Evl.ea_nil)) (fun H4 e4 => ?_)
        · obtain ⟨r, hr9, rfl⟩ := List.mem_map.mp hy
          have := tr_near g r hr9
          omega
        · obtain ⟨r, hr9, rfl⟩ := List.mem_map.mp hy
          have := tr_dep g r hr9
          omega
        · refine ⟨some x, some (.ref l), ?_, ((e.trans e2).trans e3).trans e4⟩
          rw [htk, ctrs_snoc]
          simp only [ctr, Int.natCast_add, Int.natCast_mul]
          rfl
    · rintro σ' H' ⟨x5, x6, rfl, e⟩
      have ht : gs.take xs.length = gs := by rw [hl]; exact List.take_length
      rw [ht]
      refine ⟨_, rfl, _, rfl, _, rfl, _, rfl, (by show 4 ≤ sizeLine; decide), fun p2 hp2 => q p2 _ (Evl.fresh_back e hp2) (e.trans (ex_new hp2)) upd_same⟩
end
end Bk

/-! enumerate(t), t a tuple -/
namespace Bk
open PySem PySem.Spec PyProof.Rows L2
theorem enumT_new (a : Addr) (its : Array Value) :
    Meets (Builtin.«enumerate.__new__» ⟨[.type "enumerate", .ref a], []⟩) (fun _ R s => s.heap.IsTuple a its ∧
      R (.ok (.ret (.ref (s.heap.push { cls := .type "tuple_iterator", data := .fields #[.ref a, .int 0 0] }).objs.size)))
        { s with heap := (s.heap.push { cls := .type "tuple_iterator", data := .fields #[.ref a, .int 0 0] }).push { cls := .type "enumerate", data := .fields #[.none, .bool false, .ref s.heap.objs.size, rawInt 0, .none, .none] } }) :=
  .of_wp fun prog w A R s h => by
    obtain ⟨hp, g, d, tk, os⟩ := s
    obtain ⟨ht, h⟩ := h
    have su := sub_enumerate
    have it : ∀ {A2 : Around} {E2 : Value → Shared → Prop} {Q2 : Value → Shared → Prop}, Q2 (.ref hp.objs.size) ⟨hp.push { cls := .type "tuple_iterator", data := .fields #[.ref a, .int 0 0] }, g, d, tk, os⟩ → wpAny (model prog w) A2 (pyIter (.ref a)) Q2 E2 ⟨hp, g, d, tk, os⟩ :=
      fun q => (begins_tuple a its).iter prog w _ _ ⟨hp, g, d, tk, os⟩ _ ht q
    wp_walk using it
    refine wpAny_stack_any fun st => wpAny_pure ?_
    split
    · rename_i c _ _ _ _ _
      cases (c == Value.type "enumerate") <;> (wp_walk using it; exact ⟨_, rfl, h⟩)
    · wp_walk using it
      exact ⟨_, rfl, h⟩
section
variable {prog : Program} {w : World} {A : Around} {E : Value → Shared → Prop} {s : Shared}
theorem enumT_call {a : Addr} {its : Array Value} {Q : Value → Shared → Prop} (ht : s.heap.IsTuple a its)
    (h : ∀ h', IsEnum h' (s.heap.objs.size + 1) s.heap.objs.size 0 .none → h'.IsTupleIter s.heap.objs.size a 0 → (∀ b o, s.heap.get? b = some o → h'.get? b = some o) → Q (.ref (s.heap.objs.size + 1)) { s with heap := h' }) :
    wpAny (model prog w) A (call (.type "enumerate") [.ref a]) Q E s := by
  refine callType_new F.called_enumerate (by decide) (F.typeCall_enumerate_1 _) (F.newCall_enumerate_1 _) (fun obj => F.args_object_init_2 obj _) F.entry_enumerate_new (enumT_new a its) ⟨ht, ?_⟩
  have sz : (s.heap.push { cls := .type "tuple_iterator", data := .fields #[.ref a, .int 0 0] }).objs.size = s.heap.objs.size + 1 := Heap.size_push ..
  have en := Heap.get?_push_size (s.heap.push { cls := .type "tuple_iterator", data := .fields #[.ref a, .int 0 0] }) (o := { cls := .type "enumerate", data := .fields #[.none, .bool false, .ref s.heap.objs.size, rawInt 0, .none, .none] }) rfl
  show _ ∧ _
  rw [sz] at en ⊢
  exact ⟨⟨_, en, rfl⟩, h _ en ⟨_, Heap.get?_push_of_some _ (Heap.get?_push_size _ rfl), rfl, rfl⟩ fun b o x => Heap.get?_push_of_some _ (Heap.get?_push_of_some _ x)⟩
end
/-- the tuple at a, each item in a new pair -/
def IteT (K : PySem.W.Frag) (a : Addr) : It where
  go := fun i H => ∃ (xs : List V) (x : V), SqT K H a xs ∧ xs[i]? = some x
  yld := fun i H v H' => ∃ T x, v = .ref T ∧ H T = none ∧ H' = upd H T (.tup [.int (i : Nat), x]) ∧ ∀ xs, SqT K H a xs → xs[i]? = some x
  stop := fun i H => ∃ xs : List V, SqT K H a xs ∧ xs.length ≤ i
theorem turnT {P : Program} {w : World} {K : PySem.W.Frag} {elts : List Expr} {kk : Nat} {tpos : Pos} (a e it : Addr) :
    Turn P w K (.Tuple elts kk tpos) (IteT K a) [e, it] e (fun i h => (∃ old, IsEnum h e it ((i : Nat) : Int) old) ∧ h.IsTupleIter it a i ∧ e ≠ it ∧ a ≠ it ∧ e ≠ a) where
  mem := List.mem_cons_self
  obj := fun i h st b hb => by
    obtain ⟨⟨old, he⟩, ⟨o, ho, hc, hd⟩, _⟩ := st
    rcases List.mem_cons.mp hb with z | z
    · subst z
      exact ⟨_, he, fun v q => nomatch q⟩
    · have z2 : b = it := by simpa using z
      subst z2
      exact ⟨o, ho, fun v q => by rw [hd] at q; cases q⟩
  keep := fun i h h' st k => let ⟨⟨old, he⟩, hi, hne⟩ := st; ⟨⟨old, k e (by simp) _ he⟩, hi.at fun o q => k it (by simp) o q, hne⟩
  item := by
    intro X hP hw hK hc i pins s σ H E I hf st hg
    subst hP hw hK
    obtain ⟨⟨old, he⟩, hit, n1, n2, n3⟩ := st
    obtain ⟨xs, x, hq, hx⟩ := hg
    obtain ⟨its, rv, p, hz⟩ := I.tuple hq
    have ht : s.heap.IsTuple a its.toArray := p
    obtain ⟨u, hu, ru⟩ := rv.get hx
    have hel : e < s.heap.objs.size := Heap.lt_size he
    have hil : it < s.heap.objs.size := let ⟨_, q, _⟩ := hit; Heap.lt_size q
    have hlt : i < its.toArray.size := by
      have := (List.getElem?_eq_some_iff.mp hu).1
      simpa using this
    have nin : e ∉ [it, a] := by simp [n1, n3]
    refine wpAny_pyNext_enum_itemD (Draws.tuple (show X.A.in1.handled = none from I.ok.hd hc) it a n2 its.toArray) he ⟨hit, ht⟩ hlt n1 nin fun y h' tk py ho st' hT hsz hk => ?_
    have ey : y = u := by
      have h1 : its.toArray[i]? = some y := py
      have h2 : its.toArray[i]? = some u := by simpa using hu
      exact Option.some.inj (h1.symm.trans h2)
    subst ey
    refine ⟨_, rfl, wpAny_letOwnedTupleGo_enum (s := { s with heap := h', toks := tk + 1 }) ho fun h'' he' sb => ?_⟩
    have hT2 : h''.get? s.heap.objs.size = some { cls := .type "tuple", data := .seq #[.int i tk, y] } := (sb.2 _ (Nat.ne_of_gt hel)).trans hT
    have new : ObjOk X.prog X.w (upd H s.heap.objs.size (.tup [.int (i : Nat), x])) h'' s.heap.objs.size (.tup [.int (i : Nat), x]) :=
      ⟨by show 2 ≤ sizeLine; decide, [.int i tk, y], .cons ⟨_, rfl⟩ (.cons ru .nil), _, hT2, rfl, _, rfl⟩
    have I1 : Inv X pins σ (upd H s.heap.objs.size (.tup [.int (i : Nat), x])) { s with heap := h'', toks := tk + 1 } :=
      I.turnedNew (ch := [e, it]) (fun b ob hb q => (sb.2 b fun z => hb (by simp [z])).trans (hk b ob (fun z => hb (by simp [z])) (fun z => hb (by simp [z])) q)) hf (Nat.le_refl _) new
    refine ⟨.ref s.heap.objs.size, _, I1, rfl, ⟨_, x, rfl, I.hok.fresh (Nat.le_refl _), rfl, fun ys hy => by rw [I.tuple_inj hy hq]; exact hx⟩, ⟨⟨y, ?_⟩, st'.1.at fun o q => (sb.2 it (Ne.symm n1)).trans q, n1, n2, n3⟩, fun b hb => ?_⟩
    · rw [show ((i + 1 : Nat) : Int) = (i : Int) + 1 by omega]
      exact he'
    · have hb' : b < s.heap.objs.size := by
        rcases List.mem_cons.mp hb with z | z
        · rw [z]; exact hel
        · have z2 : b = it := by simpa using z
          rw [z2]; exact hil
      rw [upd_ne (Nat.ne_of_lt hb')]
      exact (hf b hb).1
  done := by
    intro X hP hw hK hc i pins s σ H E I hf st hg
    subst hP hw hK
    obtain ⟨⟨old, he⟩, hit, n1, n2, n3⟩ := st
    obtain ⟨xs, hq, hx⟩ := hg
    obtain ⟨its, rv, p, hz⟩ := I.tuple hq
    have ht : s.heap.IsTuple a its.toArray := p
    obtain ⟨f0, f1, f2, f3, f4, f5⟩ := hf it (by simp)
    have hl := rv.length
    -- the end: the iterator stands at or behind the last item
    refine wpAny_pyNext_enum_endD (n := i) (P := fun _ _ => True) (St := fun j h => j = i ∧ h.IsTupleIter it a i ∧ h.IsTuple a its.toArray) (fp := [it, a])
      { live := fun _ _ q => let ⟨o, ho, _⟩ := q.2.1; ⟨o, ho⟩
        frame := fun _ _ _ q hk => ⟨q.1, q.2.1.at fun o e => hk it (by simp) o e, q.2.2.at fun o e => hk a (by simp) o e⟩
        item := fun j s2 Q2 E2 hj q _ => absurd q.1 (Nat.ne_of_lt hj)
        done := fun s2 Q2 E2 q hE => wpAny_nextOf_tuple_end (show X.A.in1.handled = none from I.ok.hd hc) q.2.1 q.2.2 (by simp; omega) hE } he ⟨rfl, hit, ht⟩ fun h' eb => ?_
    exact ⟨rfl, I.turned (t' := s.toks) (fun b o hb q => eb b o hb q) f0 f1 f3 f4 f5⟩
  self := fun A i s Q E st h => let ⟨⟨_, he⟩, _⟩ := st; wpAny_pyIter_enum he h
def iEnumT (K : PySem.W.Frag) (ta : TA) : TI := fun σ H R => ta σ H fun vs H1 => ∃ a xs, vs = [.ref a] ∧ SqT K H1 a xs ∧ R (IteT K a) H1
theorem pi_enumT {X : Cx} {e : Expr} {ta : TA} {p pos tpos : Pos} {elts : List Expr} {kk : Nat} (hg : Gl X "enumerate") (hm : X.mg "enumerate" = none) (ha : PA X [e] ta) (hs : starEach [e] X.env = [(false, eval e X.env)] := by rfl) :
    PI X (.Tuple elts kk tpos) (.Call (.Name "enumerate" p) [e] [] pos) (iEnumT X.K ta) := by
  refine ⟨fun pins s σ H R I h => ?_⟩
  refine Call_ (ld_blt I hg hm boot_enumerate (PyProof.Rows.callWith_type1 (thn (ha.run pos pins s σ H _ I h) fun us s1 ⟨vs, H1, I1, r1, q1⟩ => ?_) hs rfl))
  obtain ⟨a, xs, rfl, hq, q⟩ := q1
  obtain ⟨u, rfl, ru⟩ := r1.one
  cases ru
  obtain ⟨its, rv, p', hz⟩ := I1.tuple hq
  have ht : s1.heap.IsTuple a its.toArray := p'
  have hal : a < s1.heap.objs.size := let ⟨_, q, _⟩ := ht; Heap.lt_size q
  refine enumT_call ht fun h' he hit hk => wpAny_pyIter_enum he ?_
  have I2 : Inv X pins σ H1 { s1 with heap := h' } := I1.kept (t' := s1.toks) hk
  refine ⟨s1.heap.objs.size + 1, [s1.heap.objs.size + 1, s1.heap.objs.size], _, _, H1, rfl, I2, turnT a (s1.heap.objs.size + 1) s1.heap.objs.size, ⟨⟨.none, he⟩, hit, Nat.succ_ne_self _, Nat.ne_of_lt hal, Nat.ne_of_gt (Nat.lt_succ_of_lt hal)⟩, fun b hb => ?_, q⟩
  have hle : s1.heap.objs.size ≤ b := by
    rcases List.mem_cons.mp hb with z | z
    · rw [z]; exact Nat.le_succ _
    · have z2 : b = s1.heap.objs.size := by simpa using z
      rw [z2]; exact Nat.le_refl _
  exact I1.fpOk hle (I1.hok.fresh hle)
end Bk

namespace Bk
open PySem PySem.Spec PyProof.Rows L2
open Evl (Ex Ev EvT EvL EvU EvA)
/-- the cup from which is drawn -/
def Cup (H : Hp) (c : Addr) : Prop := ∃ a b : Int, H c = some (.lst [.int a, .int b]) ∧ 0 ≤ a ∧ 0 ≤ b ∧ b < 2147483648
theorem Cup.ex {H H' : Hp} {c : Addr} (e : Ex H H') (h : Cup H c) : Cup H' c := by
  obtain ⟨a, b, h1, h2⟩ := h
  exact ⟨a, b, e _ _ h1, h2⟩
theorem Cup.lst {H : Hp} {c : Addr} (h : Cup H c) : ∃ xs, H c = some (.lst xs) := let ⟨a, b, h1, _⟩ := h; ⟨_, h1⟩
theorem Cup.b {H H' : Hp} {c : Addr} (h : Cup H c) : ∃ xs, H c = some (.lst xs) := h.lst
theorem ExB.tuC {c : Addr} {H H' : Hp} (b : ExB c H H') (h : Cup H c) : Tu H H' := let ⟨_, h1⟩ := h.lst; b.tu h1
theorem Cup.ne {H : Hp} {c l : Addr} (h : Cup H c) (hl : H l = none) : l ≠ c := by
  obtain ⟨xs, hx⟩ := h.lst
  intro e
  rw [e, hx] at hl
  cases hl
/-! ### slots by what they hold -/
/-- data | the cup | a list of the def's own, its items data that never changes -/
inductive AV where
  | d (x : PyData)
  | cup
  | own (p : Addr) (ds : List PyData)
abbrev GE := List (Option AV)
abbrev At (Γ : GE) (i : Nat) (x : AV) : Prop := Γ[i]? = some (some x)
abbrev SAt (σ : L2.St) (i : Nat) (v : V) : Prop := σ[i]? = some (some v)
def Hides (c : Option Addr) (Γ : GE) (a : Addr) : Prop := c = some a ∨ ∃ (i : Nat) (ds : List PyData), Γ[i]? = some (some (AV.own a ds))
open Classical in
/-- the heap but for what may change -/
noncomputable def hd (c : Option Addr) (Γ : GE) (H : Hp) : Hp := fun a => if Hides c Γ a then none else H a
/-- all stands but the cup, which is one still -/
def Wd (c : Option Addr) (H H' : Hp) : Prop := (∀ a o, c ≠ some a → H a = some o → H' a = some o) ∧ ∀ a, c = some a → Cup H' a
theorem Wd.refl {c : Option Addr} {H : Hp} (h : ∀ a, c = some a → Cup H a) : Wd c H H := ⟨fun _ _ _ h => h, h⟩
theorem Wd.trans {c : Option Addr} {H H1 H2 : Hp} (a : Wd c H H1) (b : Wd c H1 H2) : Wd c H H2 := ⟨fun x o n h => b.1 x o n (a.1 x o n h), b.2⟩
theorem Wd.ex {c : Option Addr} {H H1 : Hp} (h : ∀ a, c = some a → Cup H a) (e : Ex H H1) : Wd c H H1 := ⟨fun a o _ h => e a o h, fun a q => (h a q).ex e⟩
theorem Wd.exB {c : Addr} {H H1 : Hp} (e : ExB c H H1) (h : Cup H1 c) : Wd (some c) H H1 := ⟨fun a o n h => e a o (fun z => n (by rw [z])) h, fun a q => by cases q; exact h⟩
theorem Wd.toB {c : Addr} {H H1 : Hp} (e : Wd (some c) H H1) : ExB c H H1 ∧ Cup H1 c := ⟨fun a o n h => e.1 a o (fun z => n (Option.some.inj z).symm) h, e.2 c rfl⟩
theorem Wd.toEx {H H1 : Hp} (e : Wd none H H1) : Ex H H1 := fun a o h => e.1 a o (by simp) h
section
variable {c : Option Addr} {Γ Γ' : GE} {H H' : Hp}
theorem hd_sub : Ex (hd c Γ H) H := fun a o h => by
  unfold hd at h
  split at h
  · cases h
  · exact h
theorem hd_get {a : Addr} (h : ¬ Hides c Γ a) : hd c Γ H a = H a := by unfold hd; rw [if_neg h]
theorem hd_ex (w : Wd c H H') : Ex (hd c Γ H) (hd c Γ H') := fun a o h => by
  by_cases q : Hides c Γ a
  · unfold hd at h; rw [if_pos q] at h; cases h
  · rw [hd_get q] at h ⊢
    exact w.1 a o (fun z => q (.inl z)) h
theorem hd_less (h : ∀ a, Hides c Γ' a → Hides c Γ a) : Ex (hd c Γ H) (hd c Γ' H) := fun a o e => by
  by_cases q : Hides c Γ a
  · unfold hd at e; rw [if_pos q] at e; cases e
  · rw [hd_get q] at e
    rw [hd_get fun z => q (h a z)]
    exact e
end
structure Env (K : PySem.W.Frag) (c : Option Addr) (H0 : Hp) (Γ : GE) (σ : L2.St) (H : Hp) : Prop where
  cup : ∀ a, c = some a → Cup H a
  old : ∀ a o, c ≠ some a → H0 a = some o → H a = some o
  len : σ.length = Γ.length
  d : ∀ i x, At Γ i (.d x) → ∃ v, SAt σ i v ∧ Dp K (hd c Γ H) v x
  cu : ∀ i, At Γ i .cup → ∃ a, c = some a ∧ SAt σ i (.ref a)
  ow : ∀ i p ds, At Γ i (.own p ds) → SAt σ i (.ref p) ∧ H0 p = none ∧ c ≠ some p ∧ fzA ds = true ∧ ∃ us, H p = some (.lst us) ∧ DpAll K (hd c Γ H) us ds
  un : ∀ i j p ds es, At Γ i (.own p ds) → At Γ j (.own p es) → i = j
section
variable {K : PySem.W.Frag} {c : Option Addr} {H0 H H' : Hp} {Γ Γ' : GE} {σ : L2.St} {te ta tb tl : TE} {tt : TT} {d : PyData} {ds es : List PyData}
theorem Env.wd (e : Env K c H0 Γ σ H) : Wd c H0 H := ⟨e.old, e.cup⟩
theorem Env.step (e : Env K c H0 Γ σ H) (w : Wd c H H') : Env K c H0 Γ σ H' where
  cup := w.2
  old := fun a o n h => w.1 a o n (e.old a o n h)
  len := e.len
  d := fun i x h => let ⟨v, h1, h2⟩ := e.d i x h; ⟨v, h1, Dp.ex (hd_ex w) _ _ h2⟩
  cu := e.cu
  ow := fun i p ds h => let ⟨h1, h2, h3, h4, us, h5, h6⟩ := e.ow i p ds h; ⟨h1, h2, h3, h4, us, w.1 p _ h3 h5, DpAll.ex (hd_ex w) _ _ h6⟩
  un := e.un
theorem Env.ex (e : Env K c H0 Γ σ H) (w : Ex H H') : Env K c H0 Γ σ H' := e.step (.ex e.cup w)
theorem Env.hid_lst (e : Env K c H0 Γ σ H) {a : Addr} (h : Hides c Γ a) : ∃ xs, H a = some (.lst xs) := by
  rcases h with h | ⟨i, ds, h⟩
  · exact (e.cup a h).lst
  · obtain ⟨_, _, _, _, us, h5, _⟩ := e.ow i a ds h
    exact ⟨us, h5⟩
/-- what is no list stands in the heap that does not change -/
theorem Env.tu (e : Env K c H0 Γ σ H) : Tu H (hd c Γ H) := ⟨fun a xs h => by
    rw [hd_get fun q => by obtain ⟨ys, hy⟩ := e.hid_lst q; rw [h] at hy; cases hy]
    exact h, fun a o u h => by
    rw [hd_get fun q => by obtain ⟨ys, hy⟩ := e.hid_lst q; rw [h] at hy; cases hy]
    exact h⟩
theorem Env.hide (e : Env K c H0 Γ σ H) {v : V} (hf : fz d = true) (h : Dp K H v d) : Dp K (hd c Γ H) v d := Dp.tu e.tu d v hf h
theorem Env.hideA (e : Env K c H0 Γ σ H) {vs : List V} (hf : fzA ds = true) (h : DpAll K H vs ds) : DpAll K (hd c Γ H) vs ds := DpAll.tu e.tu ds vs hf h
theorem Env.fresh (e : Env K c H0 Γ σ H) {p : Addr} (h : H p = none) : ¬ Hides c Γ p := fun q => by
  obtain ⟨xs, hx⟩ := e.hid_lst q
  rw [h] at hx; cases hx
theorem Env.fresh0 (e : Env K c H0 Γ σ H) {p : Addr} (h : H p = none) : H0 p = none := by
  cases q : H0 p with
  | none => rfl
  | some o =>
    have := e.old p o (fun z => e.fresh h (.inl z)) q
    rw [h] at this; cases this
/-! leaves of readings -/
theorem Env.v (e : Env K c H0 Γ σ H) {i : Nat} (h : At Γ i (.d d)) : EvD K (tVar i) σ H d := let ⟨_, h1, h2⟩ := e.d i d h; ed_var h1 (Dp.ex hd_sub _ _ h2)
theorem Env.o (e : Env K c H0 Γ σ H) {i : Nat} {p : Addr} (h : At Γ i (.own p ds)) : EvD K (tVar i) σ H (.list ds) :=
  let ⟨h1, _, _, _, us, h5, h6⟩ := e.ow i p ds h; ed_var h1 (.lst (SqL.of h5) (DpAll.ex hd_sub _ _ h6))
theorem Env.i (e : Env K c H0 Γ σ H) {i : Nat} {n : Int} (h : At Γ i (.d (.int n))) : Ev (tVar i) σ H (.int n) := by
  obtain ⟨v, h1, h2⟩ := e.d i _ h
  rw [dp_int h2] at h1
  exact Evl.ev_var h1
theorem Env.n (e : Env K c H0 Γ σ H) {i : Nat} (h : At Γ i (.d .none)) : Ev (tVar i) σ H .non := by
  obtain ⟨v, h1, h2⟩ := e.d i _ h
  cases h2
  exact Evl.ev_var h1
theorem Env.b (e : Env K c H0 Γ σ H) {i : Nat} {n : Bool} (h : At Γ i (.d (.bool n))) : Ev (tVar i) σ H (.bl n) := by
  obtain ⟨v, h1, h2⟩ := e.d i _ h
  rw [dp_bl h2] at h1
  exact Evl.ev_var h1
/-! slots set, forgotten -/
theorem get_set_some {Γ : GE} {i j : Nat} {x : Option AV} {y : AV} (h : (Γ.set i x)[j]? = some (some y)) : (i = j ∧ x = some y) ∨ (i ≠ j ∧ Γ[j]? = some (some y)) := by
  rw [List.getElem?_set] at h
  by_cases q : i = j
  · subst q
    rw [if_pos rfl] at h
    split at h
    · exact .inl ⟨rfl, Option.some.inj h⟩
    · cases h
  · rw [if_neg q] at h; exact .inr ⟨q, h⟩
theorem hides_set {i : Nat} {x : Option AV} (hx : ∀ p es, x ≠ some (.own p es)) (a : Addr) (h : Hides c (Γ.set i x) a) : Hides c Γ a := by
  rcases h with h | ⟨j, es, h⟩
  · exact .inl h
  · rcases get_set_some h with ⟨_, h⟩ | ⟨_, h⟩
    · exact absurd h (hx _ _)
    · exact .inr ⟨j, es, h⟩
theorem set_ne {α : Type} {l : List α} {i j : Nat} {x : α} (h : i ≠ j) : (l.set i x)[j]? = l[j]? := by rw [List.getElem?_set, if_neg h]
theorem set_eq {α : Type} {l : List α} {i : Nat} {x : α} (h : i < l.length) : (l.set i x)[i]? = some x := by rw [List.getElem?_set, if_pos rfl, if_pos h]
theorem Env.lt (e : Env K c H0 Γ σ H) {i : Nat} {x : Option AV} {y : AV} (h : (Γ.set i x)[i]? = some (some y)) : i < σ.length := by
  have := (List.getElem?_eq_some_iff.mp h).1
  rw [List.length_set] at this
  rw [e.len]; exact this
theorem Env.setX (e : Env K c H0 Γ σ H) {i : Nat} {v : V} (h : Dp K (hd c Γ H) v d) : Env K c H0 (Γ.set i (some (.d d))) (σ.set i (some v)) H ∧ Ex (hd c Γ H) (hd c (Γ.set i (some (.d d))) H) := by
  have hh := hides_set (c := c) (Γ := Γ) (i := i) (x := some (.d d)) (by intro p es z; cases z)
  have hx : Ex (hd c Γ H) (hd c (Γ.set i (some (.d d))) H) := hd_less hh
  refine ⟨?_, hx⟩
  refine ⟨e.cup, e.old, by simp [e.len], fun j x q => ?_, fun j q => ?_, fun j p es q => ?_, fun j k p es fs q r => ?_⟩
  · have q0 := q
    rcases get_set_some q with ⟨rfl, q1⟩ | ⟨n, q1⟩
    · cases q1
      exact ⟨v, set_eq (e.lt q0), Dp.ex hx _ _ h⟩
    · obtain ⟨u, h1, h2⟩ := e.d j x q1
      exact ⟨u, (set_ne n).trans h1, Dp.ex hx _ _ h2⟩
  · rcases get_set_some q with ⟨rfl, q1⟩ | ⟨n, q1⟩
    · cases q1
    · obtain ⟨a, h1, h2⟩ := e.cu j q1
      exact ⟨a, h1, (set_ne n).trans h2⟩
  · rcases get_set_some q with ⟨rfl, q1⟩ | ⟨n, q1⟩
    · cases q1
    · obtain ⟨h1, h2, h3, h4, us, h5, h6⟩ := e.ow j p es q1
      exact ⟨(set_ne n).trans h1, h2, h3, h4, us, h5, DpAll.ex hx _ _ h6⟩
  · rcases get_set_some q with ⟨rfl, q1⟩ | ⟨n, q1⟩
    · cases q1
    · rcases get_set_some r with ⟨rfl, r1⟩ | ⟨n2, r1⟩
      · cases r1
      · exact e.un j k p es fs q1 r1
theorem Env.set (e : Env K c H0 Γ σ H) {i : Nat} {v : V} (h : Dp K (hd c Γ H) v d) : Env K c H0 (Γ.set i (some (.d d))) (σ.set i (some v)) H := (e.setX h).1
theorem Env.setF (e : Env K c H0 Γ σ H) {i : Nat} {v : V} (hf : fz d = true) (h : Dp K H v d) : Env K c H0 (Γ.set i (some (.d d))) (σ.set i (some v)) H := e.set (e.hide hf h)
/-- a new list, for the def's own -/
theorem Env.setO (e : Env K c H0 Γ σ H) {i : Nat} {p : Addr} {us : List V} (hp : H p = none) (w : Ex H H') (hL : H' p = some (.lst us)) (hf : fzA ds = true) (hA : DpAll K H' us ds) : Env K c H0 (Γ.set i (some (.own p ds))) (σ.set i (some (.ref p))) H' ∧ Ex (hd c Γ H) (hd c (Γ.set i (some (.own p ds))) H') := by
  have e' := e.ex w
  have nh := e.fresh hp
  have hids : ∀ a, Hides c (Γ.set i (some (.own p ds))) a → a = p ∨ Hides c Γ a := fun a h => by
    rcases h with h | ⟨j, fs, h⟩
    · exact .inr (.inl h)
    · rcases get_set_some h with ⟨_, h⟩ | ⟨_, h⟩
      · cases h; exact .inl rfl
      · exact .inr (.inr ⟨j, fs, h⟩)
  have hx : Ex (hd c Γ H) (hd c (Γ.set i (some (.own p ds))) H') := fun a o h => by
    have h1 := hd_sub a o h
    have hap : a ≠ p := fun z => by rw [z, hp] at h1; cases h1
    have hn : ¬ Hides c Γ a := fun z => by unfold hd at h; rw [if_pos z] at h; cases h
    rw [hd_get fun z => (hids a z).elim hap hn]
    exact w a o h1
  have hnew : ∀ a, Hides c (Γ.set i (some (.own p ds))) a → ∃ xs, H' a = some (.lst xs) := fun a h => by
    rcases hids a h with rfl | h
    · exact ⟨us, hL⟩
    · exact e'.hid_lst h
  have htu : Tu H' (hd c (Γ.set i (some (.own p ds))) H') := ⟨fun a xs h => by
      rw [hd_get fun q => by obtain ⟨ys, hy⟩ := hnew a q; rw [h] at hy; cases hy]
      exact h, fun a o u h => by
      rw [hd_get fun q => by obtain ⟨ys, hy⟩ := hnew a q; rw [h] at hy; cases hy]
      exact h⟩
  refine ⟨?_, hx⟩
  refine ⟨e'.cup, e'.old, by simp [e.len], fun j x q => ?_, fun j q => ?_, fun j q' es q => ?_, fun j k q' es fs q r => ?_⟩
  · rcases get_set_some q with ⟨rfl, q1⟩ | ⟨n, q1⟩
    · cases q1
    · obtain ⟨u, h1, h2⟩ := e.d j x q1
      exact ⟨u, (set_ne n).trans h1, Dp.ex hx _ _ h2⟩
  · rcases get_set_some q with ⟨rfl, q1⟩ | ⟨n, q1⟩
    · cases q1
    · obtain ⟨a, h1, h2⟩ := e.cu j q1
      exact ⟨a, h1, (set_ne n).trans h2⟩
  · have q0 := q
    rcases get_set_some q with ⟨rfl, q1⟩ | ⟨n, q1⟩
    · cases q1
      exact ⟨set_eq (e.lt q0), e.fresh0 hp, fun z => nh (.inl z), hf, us, hL, DpAll.tu htu ds us hf hA⟩
    · obtain ⟨h1, h2, h3, h4, us, h5, h6⟩ := e.ow j q' es q1
      exact ⟨(set_ne n).trans h1, h2, h3, h4, us, w _ _ h5, DpAll.ex hx _ _ h6⟩
  · rcases get_set_some q with ⟨rfl, q1⟩ | ⟨n, q1⟩
    · cases q1
      rcases get_set_some r with ⟨rfl, r1⟩ | ⟨n2, r1⟩
      · rfl
      · exact absurd (.inr ⟨k, fs, r1⟩) nh
    · rcases get_set_some r with ⟨rfl, r1⟩ | ⟨n2, r1⟩
      · cases r1
        exact absurd (.inr ⟨j, es, q1⟩) nh
      · exact e.un j k q' es fs q1 r1
/-- the def's own list changed -/
theorem Env.mut (e : Env K c H0 Γ σ H) {i : Nat} {p : Addr} {us : List V} (hi : At Γ i (.own p ds)) (hf : fzA es = true) (hA : DpAll K (hd c Γ H) us es) : Env K c H0 (Γ.set i (some (.own p es))) σ (upd H p (.lst us)) ∧ Ex (hd c Γ H) (hd c (Γ.set i (some (.own p es))) (upd H p (.lst us))) := by
  obtain ⟨a1, a2, a3, a4, us0, a5, a6⟩ := e.ow i p ds hi
  have hlt : i < Γ.length := (List.getElem?_eq_some_iff.mp hi).1
  have hids : ∀ a, Hides c (Γ.set i (some (.own p es))) a ↔ Hides c Γ a := fun a => by
    constructor
    · rintro (h | ⟨j, fs, h⟩)
      · exact .inl h
      · rcases get_set_some h with ⟨_, h⟩ | ⟨_, h⟩
        · cases h; exact .inr ⟨i, ds, hi⟩
        · exact .inr ⟨j, fs, h⟩
    · rintro (h | ⟨j, fs, h⟩)
      · exact .inl h
      · by_cases q : i = j
        · subst q
          rw [hi] at h
          cases h
          exact .inr ⟨i, es, set_eq hlt⟩
        · exact .inr ⟨j, fs, by rw [set_ne q]; exact h⟩
  have hx : Ex (hd c Γ H) (hd c (Γ.set i (some (.own p es))) (upd H p (.lst us))) := fun a o h => by
    have hn : ¬ Hides c Γ a := fun z => by unfold hd at h; rw [if_pos z] at h; cases h
    have hap : a ≠ p := fun z => hn (by rw [z]; exact .inr ⟨i, ds, hi⟩)
    rw [hd_get fun z => hn ((hids a).mp z), upd_ne hap]
    exact hd_sub a o h
  refine ⟨?_, hx⟩
  refine ⟨fun a q => ?_, fun a o n h => ?_, by simp [e.len], fun j x q => ?_, fun j q => ?_, fun j q' fs q => ?_, fun j k q' fs gs q r => ?_⟩
  · obtain ⟨x, y, h1, h2⟩ := e.cup a q
    exact ⟨x, y, by rw [upd_ne fun z => a3 (by rw [← z]; exact q)]; exact h1, h2⟩
  · rw [upd_ne fun z => by rw [z, a2] at h; cases h]
    exact e.old a o n h
  · rcases get_set_some q with ⟨rfl, q1⟩ | ⟨n, q1⟩
    · cases q1
    · obtain ⟨u, h1, h2⟩ := e.d j x q1
      exact ⟨u, h1, Dp.ex hx _ _ h2⟩
  · rcases get_set_some q with ⟨rfl, q1⟩ | ⟨n, q1⟩
    · cases q1
    · exact e.cu j q1
  · rcases get_set_some q with ⟨rfl, q1⟩ | ⟨n, q1⟩
    · cases q1
      exact ⟨a1, a2, a3, hf, us, upd_same, DpAll.ex hx _ _ hA⟩
    · obtain ⟨h1, h2, h3, h4, vs, h5, h6⟩ := e.ow j q' fs q1
      exact ⟨h1, h2, h3, h4, vs, by rw [upd_ne fun z => n (e.un i j p ds fs hi (by rw [← z]; exact q1))]; exact h5, DpAll.ex hx _ _ h6⟩
  · have key : ∀ m ms, At (Γ.set i (some (.own p es))) m (.own q' ms) → ∃ ls, At Γ m (.own q' ls) := fun m ms h => by
      rcases get_set_some h with ⟨rfl, h1⟩ | ⟨_, h1⟩
      · cases h1; exact ⟨ds, hi⟩
      · exact ⟨ms, h1⟩
    obtain ⟨l1, k1⟩ := key j fs q
    obtain ⟨l2, k2⟩ := key k gs r
    exact e.un j k q' l1 l2 k1 k2
/-- some slots forgotten -/
inductive Fg : GE → GE → Prop
  | nil : Fg [] []
  | keep {x : Option AV} {l m : GE} : Fg l m → Fg (x :: l) (x :: m)
  | drop {x : Option AV} {l m : GE} : Fg l m → Fg (x :: l) (none :: m)
theorem Fg.len {l m : GE} (h : Fg l m) : l.length = m.length := by induction h <;> simp_all
theorem Fg.get {l m : GE} (h : Fg l m) : ∀ {i : Nat} {x : AV}, m[i]? = some (some x) → l[i]? = some (some x) := by
  induction h with
  | nil => intro i x h; exact h
  | keep _ ih => intro i x h; cases i with
    | zero => exact h
    | succ i => exact ih (by simpa using h)
  | drop _ ih => intro i x h; cases i with
    | zero => simp at h
    | succ i => exact ih (by simpa using h)
theorem Fg.refl : ∀ l : GE, Fg l l
  | [] => .nil
  | _ :: l => .keep (Fg.refl l)
theorem Fg.ex (f : Fg Γ Γ') : Ex (hd c Γ H) (hd c Γ' H) := hd_less fun a h => by
    rcases h with h | ⟨j, es, h⟩
    · exact .inl h
    · exact .inr ⟨j, es, f.get h⟩
theorem Env.fg (e : Env K c H0 Γ σ H) (f : Fg Γ Γ') : Env K c H0 Γ' σ H := by
  have hx : Ex (hd c Γ H) (hd c Γ' H) := hd_less fun a h => by
    rcases h with h | ⟨j, es, h⟩
    · exact .inl h
    · exact .inr ⟨j, es, f.get h⟩
  refine ⟨e.cup, e.old, by rw [e.len, f.len], fun j x q => ?_, fun j q => e.cu j (f.get q), fun j p es q => ?_, fun j k p es fs q r => e.un j k p es fs (f.get q) (f.get r)⟩
  · obtain ⟨u, h1, h2⟩ := e.d j x (f.get q)
    exact ⟨u, h1, Dp.ex hx _ _ h2⟩
  · obtain ⟨h1, h2, h3, h4, us, h5, h6⟩ := e.ow j p es (f.get q)
    exact ⟨h1, h2, h3, h4, us, h5, DpAll.ex hx _ _ h6⟩
/-- the arguments of a def -/
inductive Ars (K : PySem.W.Frag) (c : Option Addr) (H : Hp) : List V → List AV → Prop
  | nil : Ars K c H [] []
  | d {v : V} {d : PyData} {vs : List V} {as : List AV} : Dp K H v d → fz d = true → Ars K c H vs as → Ars K c H (v :: vs) (.d d :: as)
  | cup {a : Addr} {vs : List V} {as : List AV} : c = some a → Ars K c H vs as → Ars K c H (.ref a :: vs) (.cup :: as)
theorem Ars.len {vs : List V} {as : List AV} (h : Ars K c H vs as) : vs.length = as.length := by induction h <;> simp_all
theorem Ars.env {vs : List V} {as : List AV} {N : List Str} (h : Ars K c H vs as) (hc : ∀ a, c = some a → Cup H a) : Env K c H (as.map some ++ List.replicate (N.length - vs.length) none) (start N vs) H := by
  have hno : ∀ i (x : AV), (as.map some ++ List.replicate (N.length - vs.length) none)[i]? = some (some x) → as[i]? = some x := fun i x q => by
    by_cases hi : i < as.length
    · rw [List.getElem?_append_left (by rw [List.length_map]; exact hi), List.getElem?_map] at q
      cases hx : as[i]? with
      | none => rw [hx] at q; cases q
      | some y => rw [hx] at q; simpa using q
    · rw [List.getElem?_append_right (by rw [List.length_map]; omega)] at q
      have := List.mem_of_getElem? q
      simp at this
  have hnown : ∀ p ds, AV.own p ds ∉ as := by
    intro p ds
    clear hno
    induction h with
    | nil => simp
    | d _ _ _ ih => simp [ih]
    | cup _ _ ih => simp [ih]
  have hh : ∀ a, Hides c (as.map some ++ List.replicate (N.length - vs.length) none) a → c = some a := fun a q => by
    rcases q with q | ⟨i, es, q⟩
    · exact q
    · exact absurd (List.mem_of_getElem? (hno i _ q)) (hnown a es)
  have htu : Tu H (hd c (as.map some ++ List.replicate (N.length - vs.length) none) H) := ⟨fun a xs q => by
      rw [hd_get fun z => by obtain ⟨ys, hy⟩ := (hc a (hh a z)).lst; rw [q] at hy; cases hy]
      exact q, fun a o u q => by
      rw [hd_get fun z => by obtain ⟨ys, hy⟩ := (hc a (hh a z)).lst; rw [q] at hy; cases hy]
      exact q⟩
  have hst : ∀ i v, vs[i]? = some v → (start N vs)[i]? = some (some v) := fun i v q => by
    have hi := (List.getElem?_eq_some_iff.mp q).1
    unfold L2.start
    rw [List.getElem?_append_left (by rw [List.length_map]; exact hi), List.getElem?_map, q]
    rfl
  have key : ∀ (i : Nat) (x : AV), as[i]? = some x → ∃ v, vs[i]? = some v ∧ (match x with | AV.d x1 => Dp K H v x1 ∧ fz x1 = true | AV.cup => ∃ a, v = V.ref a ∧ c = some a | AV.own _ _ => False) := by
    intro i x
    clear hno hnown hh htu hst
    induction h generalizing i with
    | nil => intro q; simp at q
    | d h1 h2 h3 ih =>
      intro q
      cases i with
      | zero => simp at q; subst q; exact ⟨_, rfl, h1, h2⟩
      | succ i => simpa using ih i (by simpa using q)
    | cup h1 h3 ih =>
      intro q
      cases i with
      | zero => simp at q; subst q; exact ⟨_, rfl, _, rfl, h1⟩
      | succ i => simpa using ih i (by simpa using q)
  refine ⟨hc, fun a o _ q => q, ?_, fun i x q => ?_, fun i q => ?_, fun i p ds q => ?_, fun i j p ds es q r => ?_⟩
  · unfold L2.start
    rw [List.length_append, List.length_append, List.length_map, List.length_map, List.length_replicate, List.length_replicate, h.len]
  · obtain ⟨v, h1, h2⟩ := key i _ (hno i _ q)
    exact ⟨v, hst i v h1, Dp.tu htu _ _ h2.2 h2.1⟩
  · obtain ⟨v, h1, a, h2, h3⟩ := key i _ (hno i _ q)
    subst h2
    exact ⟨a, h3, hst i _ h1⟩
  · exact absurd (List.mem_of_getElem? (hno i _ q)) (hnown p ds)
  · exact absurd (List.mem_of_getElem? (hno i _ q)) (hnown p ds)
end
end Bk

namespace Bk
open PySem PySem.Spec PyProof.Rows L2
open Evl (Ex Ev EvT EvL EvU EvA)
theorem log2_bits {z : Int} {n : Nat} (h : Builtin.Int.intBits z ≤ n) : z.natAbs.log2 ≤ n := by
  unfold Builtin.Int.intBits at h
  split at h
  · rename_i hz
    have : z.natAbs = 0 := by simpa using hz
    rw [this]
    exact Nat.zero_le _
  · omega
theorem ev_int {σ : L2.St} {H : Hp} {te : TE} {i : Int} (h : Ev te σ H (.int i)) : Ev (tCB (fun xs H Q => (∃ i, xs = [V.int i] ∧ Q (.int i) H) ∨ ∃ k, xs = [V.bl k] ∧ Q (.int (if k then 1 else 0)) H) (tCons te tNil)) σ H (.int i) :=
  Evl.ev_cb (Evl.ea_cons h Evl.ea_nil) fun H1 _ _ q => .inl ⟨i, rfl, q H1 (Ex.refl H1)⟩
theorem ev_mod {σ : L2.St} {H : Hp} {ta tb : TE} {i j : Int} (ha : Ev ta σ H (.int i)) (hb : Ev tb σ H (.int j)) (h : 0 < j) : Ev (tOp (rI (fun _ j => 0 < j) fun i j => .int (i % j)) ta tb) σ H (.int (i % j)) :=
  Evl.ev_op ha hb (Evl.rv_I (C := fun _ j => 0 < j) (g := fun i j => .int (i % j)) h)
theorem ev_add {σ : L2.St} {H : Hp} {ta tb : TE} {i j : Int} (ha : Ev ta σ H (.int i)) (hb : Ev tb σ H (.int j)) : Ev (tOp (rI0 fun i j => .int (i + j)) ta tb) σ H (.int (i + j)) :=
  Evl.ev_op ha hb (Evl.rv_I0 (g := fun i j => .int (i + j)))
theorem ev_mul {σ : L2.St} {H : Hp} {ta tb : TE} {i j : Int} (ha : Ev ta σ H (.int i)) (hb : Ev tb σ H (.int j)) (h : CMul i j) : Ev (tOp (rI CMul fun i j => .int (i * j)) ta tb) σ H (.int (i * j)) :=
  Evl.ev_op ha hb (Evl.rv_I (C := CMul) (g := fun i j => .int (i * j)) h)
theorem ev_fdiv {σ : L2.St} {H : Hp} {ta tb : TE} {i j : Int} (ha : Ev ta σ H (.int i)) (hb : Ev tb σ H (.int j)) (h : CDiv i j) : Ev (tOp (rI CDiv fun i j => .int (i / j)) ta tb) σ H (.int (i / j)) :=
  Evl.ev_op ha hb (Evl.rv_I (C := CDiv) (g := fun i j => .int (i / j)) h)
section
variable {P : Program} {w : World} {K : PySem.W.Frag} {mg : Str → Option Value} {base : Heap}
def spCup (K : PySem.W.Frag) : Sp := fun vs H Q _ => ∃ (a : Addr) (ns : List Int), vs = [.ref a] ∧ SqL K H a (ns.map V.int) ∧ ns.length ≤ 63 ∧ (∀ z ∈ ns, Builtin.Int.intBits z ≤ 1048576) ∧ ∀ c H', H c = none → Ex H H' → Cup H' c → Q (.ref c) H'
theorem ok_cup (T : Tx K mg) : FnOk P w K mg base CX0 1 T.a_law_cup T.d_law_cup P_law_cup (spCup K) := by
  refine T.F_law_cup.ok sc_law_cup (fun vs H Q E h => ?_) (fun cdv A outer s H vs Q E hr h => ?_)
  · obtain ⟨a, ns, rfl, _⟩ := h; rfl
  · obtain ⟨a, ns, rfl, hs, hl, hb, q⟩ := h
    refine ⟨_, pss_cons (ps_set (i := 1) sc_law_cup.nd rfl (.inl rfl) (pe_callB call_abs (by rfl) T.z_abs (by decide +kernel) (pa_cons (pe_ix ix_list (pe_op op_cat (pe_callTy call_list_of (by rfl) T.z_list (by decide +kernel) (pa_cons (pv 0) pa_nil)) (pe_lst (pa_cons pe_int pa_nil))) pe_int (fun _ _ => rfl)) pa_nil)))
      (pss_one (ps_ret (pe_lst (pa_cons (pe_ifExp (pt_cmpR op_ge (pv 1) (pe_op op_pow pe_int pe_int) (nomark _)) (pe_op op_fdivW (pv 1) pe_int) pe_int)
        (pa_cons (pe_op op_add (pe_op op_mod (pe_callTy call_int1 (by rfl) T.z_int (by decide +kernel) (pa_cons (pe_op op_add (pe_op op_mulB (pv 1) pe_int) pe_int) pa_nil)) pe_int) pe_int) pa_nil))))), ?_⟩
    obtain ⟨z, hz, hzb⟩ : ∃ z : Int, (ns.map V.int ++ [V.int 0])[0]? = some (.int z) ∧ Builtin.Int.intBits z ≤ 1048576 := by
      cases ns with
      | nil => exact ⟨0, rfl, by decide⟩
      | cons x t => exact ⟨x, rfl, hb x List.mem_cons_self⟩
    refine ⟨_, rfl, a, ns.map V.int, rfl, .inl hs, fun l hl2 => ⟨by show 1 ≤ sizeLine; decide, fun b hb2 => ⟨l, b, _, _, rfl, rfl, (ex_new hb2) _ _ upd_same, upd_same, ?_, fun p hp => ⟨p, _, 0, .int z, rfl, rfl, SqL.of upd_same, atI_nat (j := 0) hz, z, rfl, ?_⟩⟩⟩⟩
    · rw [List.length_map]
      exact Nat.le_trans (show ns.length + 1 ≤ 64 by omega) (by decide)
    have e1 : Ex H (upd (upd (upd H l (.lst (ns.map V.int))) b (.lst [.int 0])) p (.lst (ns.map V.int ++ [.int 0]))) := ((ex_new hl2).trans (ex_new hb2)).trans (ex_new hp)
    generalize hy : (if z < 0 then -z else z) = y
    have hy0 : 0 ≤ y := by rw [← hy]; split <;> omega
    have hyl : y.natAbs.log2 ≤ 1048576 := by
      have : y.natAbs = z.natAbs := by rw [← hy]; split <;> omega
      rw [this]
      exact log2_bits hzb
    have hmul : CMulB y 241 := by
      unfold CMulB
      have : (241 : Int).natAbs.log2 ≤ 7 := by decide
      omega
    have hB : ∀ H1, Ev (tOp (rI0 fun i j => .int (i + j)) (tOp (rI (fun _ j => 0 < j) fun i j => .int (i % j)) (tCB (fun xs H Q => (∃ i, xs = [V.int i] ∧ Q (.int i) H) ∨ ∃ k, xs = [V.bl k] ∧ Q (.int (if k then 1 else 0)) H) (tCons (tOp (rI0 fun i j => .int (i + j)) (tOp (rI CMulB fun i j => .int (i * j)) (tVar 1) (tC (.int 241))) (tC (.int 2017))) tNil)) (tC (.int 2077503403))) (tC (.int 131))) [some (V.ref a), some (V.int y)] H1 (.int ((y * 241 + 2017) % 2077503403 + 131)) := fun H1 =>
      ev_add (ev_mod (ev_int (ev_add (Evl.ev_op (Evl.ev_var rfl) Evl.ev_c (Evl.rv_I (C := CMulB) (g := fun i j => .int (i * j)) hmul)) Evl.ev_c)) Evl.ev_c (by decide)) Evl.ev_c
    have hA : ∀ H1, ∃ A : Int, 0 ≤ A ∧ Ev (tIf (tTest (tOp (rI0 fun i j => .bl (decide (j ≤ i))) (tVar 1) (tOp (rI CPow fun i j => .int (i ^ j.toNat)) (tC (.int 10)) (tC (.int 18))))) (tOp (rI CDivW fun i j => .int (i / j)) (tVar 1) (tC (.int 41))) (tC (.int 0))) [some (V.ref a), some (V.int y)] H1 (.int A) := fun H1 => by
      have ht : EvT (tTest (tOp (rI0 fun i j => .bl (decide (j ≤ i))) (tVar 1) (tOp (rI CPow fun i j => .int (i ^ j.toNat)) (tC (.int 10)) (tC (.int 18))))) [some (V.ref a), some (V.int y)] H1 (decide ((10 : Int) ^ (18 : Int).toNat ≤ y)) :=
        Evl.et_test (Evl.ev_op (Evl.ev_var rfl) (Evl.ev_op Evl.ev_c Evl.ev_c (Evl.rv_I (C := CPow) (g := fun i j => .int (i ^ j.toNat)) ⟨by decide, by decide, by decide⟩)) (Evl.rv_I0 (g := fun i j => .bl (decide (j ≤ i)))))
      by_cases c : (10 : Int) ^ (18 : Int).toNat ≤ y
      · rw [decide_eq_true c] at ht
        exact ⟨y / 41, Int.ediv_nonneg hy0 (by decide), Evl.ev_if ht (fun _ => Evl.ev_op (Evl.ev_var rfl) Evl.ev_c (Evl.rv_I (C := CDivW) (g := fun i j => .int (i / j)) ⟨by decide, by decide⟩)) (fun h => by cases h)⟩
      · rw [decide_eq_false c] at ht
        exact ⟨0, Int.le_refl _, Evl.ev_if ht (fun h => by cases h) (fun _ => Evl.ev_c)⟩
    obtain ⟨A, hA0, hA1⟩ := hA (upd (upd (upd H l (.lst (ns.map V.int))) b (.lst [.int 0])) p (.lst (ns.map V.int ++ [.int 0])))
    refine Evl.s_retL (Evl.el_lst (Evl.ea_cons hA1 (Evl.ea_cons (hB _) Evl.ea_nil)) (by show 2 ≤ 100000; decide)) fun c H1 hc e2 hC => q c H1 (Evl.fresh_back e1 hc) (e1.trans e2) ⟨A, _, hC, hA0, ?_, ?_⟩
    · have := Int.emod_nonneg (y * 241 + 2017) (b := 2077503403) (by decide); omega
    · have := Int.emod_lt_of_pos (y * 241 + 2017) (b := 2077503403) (by decide); omega
def spRoll : Sp := fun vs H Q _ => ∃ (c : Addr) (m : Int), vs = [.ref c, .int m] ∧ Cup H c ∧ 1 ≤ m ∧ m ≤ 1000 ∧ ∀ (r : Int) H', 0 ≤ r → r < m → ExB c H H' → Cup H' c → Q (.int r) H'
theorem ok_roll (T : Tx K mg) : FnOk P w K mg base CX0 1 T.a_law_roll T.d_law_roll P_law_roll spRoll := by
  refine T.F_law_roll.ok sc_law_roll (fun vs H Q E h => ?_) (fun cdv A outer s H vs Q E hr h => ?_)
  · obtain ⟨c, m, rfl, _⟩ := h; rfl
  · obtain ⟨c, m, rfl, hc, h1, h2, q⟩ := h
    refine ⟨_, pss_cons (ps_if (pt_cmpR op_gt (pe_ix ix_list (pv 0) pe_int (fun _ _ => rfl)) pe_int (nomark _))
        (pss_cons (ps_set (i := 2) sc_law_roll.nd rfl (.inl rfl) (pe_op op_mod (pe_callTy call_int1 (by rfl) T.z_int (by decide +kernel) (pa_cons (pe_ix ix_list (pv 0) pe_int (fun _ _ => rfl)) pa_nil)) (pv 1)))
        (pss_cons (ps_asg (pe_op op_fdiv (pe_ix ix_list (pv 0) pe_int (fun _ _ => rfl)) (pv 1)) (pg_sub (pv 0) pe_int set_list))
        (pss_one (ps_ret (pv 2))))) pss_nil)
      (pss_cons (ps_asg (pe_op op_mod (pe_callTy call_int1 (by rfl) T.z_int (by decide +kernel) (pa_cons (pe_op op_add (pe_op op_mul (pe_ix ix_list (pv 0) pe_int (fun _ _ => rfl)) pe_int) pe_int) pa_nil)) pe_int) (pg_sub (pv 0) pe_int set_list))
      (pss_cons (ps_set (i := 3) sc_law_roll.nd rfl (.inl rfl) (pe_op op_mod (pe_callTy call_int1 (by rfl) T.z_int (by decide +kernel) (pa_cons (pe_op op_mul (pe_ix ix_list (pv 0) pe_int (fun _ _ => rfl)) (pe_op op_add (pe_ix ix_list (pv 0) pe_int (fun _ _ => rfl)) pe_int)) pa_nil)) pe_int))
      (pss_one (ps_ret (pe_op op_mod (pe_callTy call_int1 (by rfl) T.z_int (by decide +kernel) (pa_cons (pe_op op_fdiv (pv 3) pe_int) pa_nil)) (pv 1)))))), ?_⟩
    obtain ⟨a, b, hC, ha, hb0, hb1⟩ := hc
    have ix0 : ∀ {σ : L2.St} {H1 : Hp} {a b : Int}, σ[0]? = some (some (.ref c)) → H1 c = some (.lst [.int a, .int b]) → Ev (tOp (rIxL K) (tVar 0) (tC (.int 0))) σ H1 (.int a) := fun h0 h => Evl.ev_op (Evl.ev_var h0) Evl.ev_c (Evl.rv_ixL (SqL.of h) rfl)
    have ix1 : ∀ {σ : L2.St} {H1 : Hp} {a b : Int}, σ[0]? = some (some (.ref c)) → H1 c = some (.lst [.int a, .int b]) → Ev (tOp (rIxL K) (tVar 0) (tC (.int 1))) σ H1 (.int b) := fun h0 h => Evl.ev_op (Evl.ev_var h0) Evl.ev_c (Evl.rv_ixL (SqL.of h) rfl)
    refine Evl.q_when (b := decide (0 < a)) (Evl.et_test (Evl.ev_op (ix0 rfl hC) Evl.ev_c (Evl.rv_I0 (g := fun i j => .bl (decide (j < i)))))) (fun _ H1 e1 => ?_) (fun _ H1 e1 => ?_)
    · have hC1 := e1 _ _ hC
      refine Evl.q_asg (v := .int (a % m)) (ev_mod (ev_int (ix0 rfl hC1)) (Evl.ev_var rfl) (by omega)) (fun H2 e2 => ?_)
      have hC2 := e2 _ _ hC1
      refine Evl.q_setL (j := 0) (v := .int (a / m)) hC2 (ev_fdiv (ix0 rfl hC2) (Evl.ev_var rfl) ⟨by omega, by omega⟩) (Evl.ev_var rfl) Evl.ev_c (by show 0 < 2; decide) (fun H3 e3 => ?_)
      refine ⟨_, rfl, q (a % m) _ (Int.emod_nonneg _ (by omega)) (Int.emod_lt_of_pos _ (by omega)) ((ExB.of ((e1.trans e2).trans e3)).trans ExB.upd) ⟨a / m, b, upd_same, Int.ediv_nonneg ha (by omega), hb0, hb1⟩⟩
    · have hC1 := e1 _ _ hC
      refine Evl.q_setL (j := 1) (v := .int ((b * 30971 + 7927) % 2147483549)) hC1 (ev_mod (ev_int (ev_add (ev_mul (ix1 rfl hC1) Evl.ev_c (.inr ⟨by decide, by decide⟩)) Evl.ev_c)) Evl.ev_c (by decide)) (Evl.ev_var rfl) Evl.ev_c (by show 1 < 2; decide) (fun H2 e2 => ?_)
      generalize hb2 : (b * 30971 + 7927) % 2147483549 = b2
      have hb3 : 0 ≤ b2 := by rw [← hb2]; exact Int.emod_nonneg _ (by decide)
      have hb4 : b2 < 2147483549 := by rw [← hb2]; exact Int.emod_lt_of_pos _ (by decide)
      have hC2 : (upd H2 c (.lst [.int a, .int b2])) c = some (.lst [.int a, .int b2]) := upd_same
      refine Evl.q_asg (v := .int ((b2 * (b2 + 193)) % 2147483587)) (ev_mod (ev_int (ev_mul (ix1 rfl hC2) (ev_add (ix1 rfl hC2) Evl.ev_c) (.inl ⟨by omega, by omega⟩))) Evl.ev_c (by decide)) (fun H3 e3 => ?_)
      refine Evl.s_ret (v := .int (((b2 * (b2 + 193)) % 2147483587 / 769) % m)) (ev_mod (ev_int (ev_fdiv (Evl.ev_var rfl) Evl.ev_c ⟨by decide, by decide⟩)) (Evl.ev_var rfl) (by omega)) (fun H4 e4 => ?_)
      exact q _ _ (Int.emod_nonneg _ (by omega)) (Int.emod_lt_of_pos _ (by omega)) (((ExB.of (e1.trans e2)).trans ExB.upd).trans (ExB.of (e3.trans e4))) ⟨a, b2, (e3.trans e4) _ _ hC2, ha, hb3, by omega⟩
end
end Bk

namespace Bk
open PySem PySem.Spec PyProof.Rows L2
open Evl (Ex Ev EvT EvL EvU EvA)
theorem et_eqI {σ : L2.St} {H : Hp} {te : TE} {i j : Int} (h : Ev te σ H (.int i)) : EvT (tTest (tOp rEq te (tC (.int j)))) σ H (decide (i = j)) := by
  have := Evl.et_test (Evl.ev_op h (Evl.ev_c (v := .int j)) (Evl.rv_eq (x := .int i) (y := .int j) rfl))
  refine Evl.et_is this ?_
  by_cases e : i = j
  · subst e; simp
  · rw [decide_eq_false e, decide_eq_false (fun x => e (V.int.inj x))]
theorem decV {i j : Int} : decide (V.int i = V.int j) = decide (i = j) := by
  by_cases e : i = j
  · subst e; simp
  · rw [decide_eq_false e, decide_eq_false (fun x => e (V.int.inj x))]
theorem q_forRm {D : Ends} {σ : L2.St} {H : Hp} {tu tz : TS} {ta : TA} {j : Nat} {n : Int} (h : EvA ta σ H [.int n]) (hn : -1 ≤ n ∧ n ≤ 100000) (Pv : Nat → L2.St → Hp → Prop) (h0 : ∀ H1, Ex H H1 → Pv 0 σ H1)
    (hs : ∀ (i : Nat) σ' H', (i : Int) < n → Pv i σ' H' → tu { D with nx := Pv (i + 1), ct := Pv (i + 1), bk := tz D } (σ'.set j (some (.int (i : Int)))) H') (hd : ∀ σ' H', Pv n.toNat σ' H' → tz D σ' H') : tSeq (tFor (iRng1 ta) (gName j) tu) tz D σ H :=
  s_forRm (D := { D with nx := tz D }) h hn Pv h0 hs hd
theorem lay_tups {bs : List Bu} (h : okBs bs = true) (hd : deps bs ≤ 60) : SeqAt.shaped (.tuple (bs.map toD)) = true := by
  have h1 := lay_map h
  have h2 := depth_toDs bs
  rw [toDs_map] at h2
  show ((PyData.tuple (bs.map toD)).canLay0 && decide ((PyData.tuple (bs.map toD)).depth ≤ 64)) = true
  have e1 : (PyData.tuple (bs.map toD)).canLay0 = true := by simp only [PyData.canLay0]; exact h1
  have e2 : (PyData.tuple (bs.map toD)).depth ≤ 64 := by simp only [PyData.depth]; omega
  rw [e1, decide_eq_true e2]
  rfl
theorem eqv_tup0 (ds : List PyData) : PyData.eqv (.tuple ds) (.tuple []) = ds.isEmpty := by
  cases ds with
  | nil => simp [PyData.eqv, PyData.eqvAll]
  | cons d ds => simp [PyData.eqv, PyData.eqvAll]
/-- drawn bushes: as many knots, at most four branches -/
structure Rn (k : Nat) (b : Bu) : Prop where
  ok : okB b = true
  kn : knots b ≤ k
  tp : tips b ≤ 1 + 3 * knots b
  dp : dep b ≤ knots b
theorem Rn.tip (k : Nat) : Rn k .tip := ⟨rfl, Nat.zero_le _, by decide, by decide⟩
theorem Rn.knot {c L k : Nat} {bs : List Bu} (h1 : 97 ≤ c) (h2 : c ≤ 122) (hm1 : 1 ≤ bs.length) (hm4 : bs.length ≤ 4) (hb : ∀ b ∈ bs, Rn L b) (hk : bs.length * L + 1 ≤ k) : Rn k (.knot c bs) := by
  have e1 : knotss bs ≤ bs.length * L ∧ tipss bs ≤ bs.length + 3 * knotss bs ∧ deps bs ≤ knotss bs ∧ okBs bs = true := by
    clear hm1 hm4 hk
    induction bs with
    | nil => exact ⟨Nat.zero_le _, Nat.zero_le _, Nat.zero_le _, rfl⟩
    | cons b bs ih =>
      obtain ⟨i1, i2, i3, i4⟩ := ih fun x hx => hb x (List.mem_cons_of_mem _ hx)
      have B := hb b List.mem_cons_self
      have b1 := B.kn
      have b2 := B.tp
      have b3 := B.dp
      simp only [knotss, tipss, deps, okBs, List.length_cons, B.ok, i4, Bool.and_self, Nat.succ_mul]
      refine ⟨by omega, by omega, by omega, trivial⟩
  obtain ⟨i1, i2, i3, i4⟩ := e1
  have e3 : bs.length ≤ 6 := by omega
  refine ⟨?_, by show knotss bs + 1 ≤ k; omega, by show tipss bs ≤ 1 + 3 * (knotss bs + 1); omega, by show deps bs + 1 ≤ knotss bs + 1; omega⟩
  simp [okB, h1, h2, hm1, e3, i4]
section
variable {P : Program} {w : World} {K : PySem.W.Frag} {mg : Str → Option Value} {base : Heap}
theorem roll_c {σ : L2.St} {H : Hp} {c : Addr} {tm : TE} {m : Int} {E : XK} {Q : VK} (h0 : σ[0]? = some (some (.ref c))) (hm : Ev tm σ H (.int m)) (hc : Cup H c) (h1 : 1 ≤ m) (h2 : m ≤ 1000)
    (k : ∀ (r : Int) H2, 0 ≤ r → r < m → ExB c H H2 → Cup H2 c → Q (.int r) H2) : tCall spRoll [] E (tCons (tVar 0) (tCons tm tNil)) σ H Q :=
  ⟨_, h0, hm H (Ex.refl H) _ fun H1 e1 => ⟨c, m, rfl, hc.ex e1, h1, h2, fun r H2 a b eb hc2 => k r H2 a b ((ExB.of e1).trans eb) hc2⟩⟩
def spSome : Sp := fun vs H Q _ => ∃ (c l : Addr) (xs : List V), vs = [.ref c, .ref l] ∧ Cup H c ∧ H l = some (.lst xs) ∧ l ≠ c ∧ 1 ≤ xs.length ∧ xs.length ≤ 1000 ∧ ∀ v H', v ∈ xs → ExB c H H' → Cup H' c → Q v H'
theorem ok_some (T : Tx K mg) : FnOk P w K mg base CX0 2 T.a_law_some T.d_law_some P_law_some spSome := by
  have G1 : FnOk P w K mg base CX0 1 T.a_law_roll T.d_law_roll P_law_roll spRoll := ok_roll T
  refine T.F_law_some.ok sc_law_some (fun vs H Q E h => ?_) (fun cdv A outer s H vs Q E hr h => ?_)
  · obtain ⟨c, l, xs, rfl, _⟩ := h; rfl
  · obtain ⟨c, l, xs, rfl, hc, hL, hn, h1, h2, q⟩ := h
    refine ⟨_, pss_one (ps_ret (pe_ix ix_list (pv 1) (pe_call G1 hr (by rfl) T.g_law_roll T.F_law_roll.kp T.b_law_roll .nil pass0 (pa_cons (pv 0) (pa_cons (pe_callB call_len_seq (by rfl) T.z_len PySem.boot_len (pa_cons (pv 1) pa_nil)) pa_nil))) (fun _ _ => rfl))), ?_⟩
    refine ⟨_, rfl, roll_c (m := (xs.length : Nat)) rfl (Evl.ev_len (K := K) (Evl.ev_var rfl) (SqL.of hL)) hc (by omega) (by omega) fun r H2 a b eb hc2 => ?_⟩
    obtain ⟨j, rfl⟩ : ∃ j : Nat, r = (j : Int) := ⟨r.toNat, by omega⟩
    have hj : j < xs.length := by omega
    exact ⟨l, xs, j, xs[j], rfl, rfl, SqL.of (eb l _ hn hL), atI_nat (by simp [hj]), q _ H2 (List.getElem_mem hj) eb hc2⟩
/-- one of some new things -/
theorem some_c {σ : L2.St} {H : Hp} {c : Addr} {ta : TA} {xs : List V} {E : XK} {Q : VK} (h0 : σ[0]? = some (some (.ref c))) (ha : EvA ta σ H xs) (hc : Cup H c) (h1 : 1 ≤ xs.length) (h2 : xs.length ≤ 1000)
    (k : ∀ v H2, v ∈ xs → ExB c H H2 → Cup H2 c → Q v H2) : tCall spSome [] E (tCons (tVar 0) (tCons (tLst ta) tNil)) σ H Q :=
  ⟨_, h0, ha H (Ex.refl H) _ fun H1 e1 => ⟨Evl.sz_of (by omega), fun l hl => by
    have hc1 := hc.ex e1
    have e2 : Ex H1 (upd H1 l (.lst xs)) := ex_new hl
    exact ⟨c, l, xs, rfl, hc1.ex e2, upd_same, hc1.ne hl, h1, h2, fun v H' hv eb hc' => k v H' hv ((ExB.of (e1.trans e2)).trans eb) hc'⟩⟩⟩
def spBush (K : PySem.W.Frag) (n : Nat) : Sp := fun vs H Q _ => ∃ (c : Addr) (k : Nat), vs = [.ref c, .int (k : Int)] ∧ Cup H c ∧ k ≤ n ∧ n ≤ 60 ∧ ∀ (r : V) (b : Bu) H', Rn k b → Dp K H' r (toD b) → ExB c H H' → Cup H' c → Q r H'
end
end Bk

namespace Bk
open PySem PySem.Spec PyProof.Rows L2
open Evl (Ex Ev EvT EvL EvU EvA)
theorem ed_val {K : PySem.W.Frag} {σ : L2.St} {H : Hp} {x : V} {d : PyData} (h : Dp K H x d) : EvD K (tC x) σ H d := fun H1 a R r => r x H1 (Ex.refl H1) (Dp.ex a _ _ h)
theorem cat_vals {K : PySem.W.Frag} {H : Hp} {x y : V} {ds es : List PyData} {R : VK} (hx : Dp K H x (.tuple ds)) (hy : Dp K H y (.tuple es)) (hz : ds.length + es.length ≤ 100000) (k : ∀ v H2, Ex H H2 → Dp K H2 v (.tuple (ds ++ es)) → R v H2) : rCatA K x y H R :=
  ed_cat (σ := []) (ed_val hx) (ed_val hy) hz H (Ex.refl H) R k
theorem rep_vals {K : PySem.W.Frag} {H : Hp} {x : V} {ds : List PyData} {k : Nat} {R : VK} (hx : Dp K H x (.tuple ds)) (hn : ds ≠ []) (h1 : 1 ≤ k) (h2 : k ≤ 1000) (hz : ds.length ≤ 1000) (kk : ∀ v H2, Ex H H2 → Dp K H2 v (.tuple (List.replicate k ds).flatten) → R v H2) : rRepT1 K x (.int (k : Int)) H R :=
  ed_rep (σ := []) (ed_val hx) (Evl.ev_c (v := .int (k : Int))) hn h1 h2 hz H (Ex.refl H) R kk
theorem forR_at {σ : L2.St} {H : Hp} {te : TE} {g : TG} {tb : TS} {D : Ends} (h : te σ H fun x H1 => tFor (iRng1 (tCons (tC x) tNil)) g tb D σ H1) : tFor (iRng1 (tCons te tNil)) g tb D σ H := h
theorem q_un2 {K : PySem.W.Frag} {σ : L2.St} {H : Hp} {te : TE} {d e : PyData} {D : Ends} {tz : TS} {i j : Nat} (h : EvD K te σ H (.tuple [d, e])) (k : ∀ x y H1, Ex H H1 → Dp K H1 x d → Dp K H1 y e → tz D ((σ.set i (some x)).set j (some y)) H1) :
    tSeq (tAsg te (gTup K 2 (gCons (gName i) (gCons (gName j) gNil)))) tz D σ H := h H (Ex.refl H) _ fun v H1 e1 hv => by
  obtain ⟨a, xs, rfl, hs, ha⟩ := dp_tup hv
  cases ha with
  | cons d1 d2 =>
    cases d2 with
    | cons d2 d3 =>
      cases d3
      exact ⟨a, _, rfl, hs, rfl, _, _, rfl, _, _, rfl, rfl, k _ _ H1 e1 d1 d2⟩
theorem q_lstD {K : PySem.W.Frag} {σ : L2.St} {H : Hp} {ta : TA} {ds : List PyData} {D : Ends} {tz : TS} {i : Nat} (h : EvAD K ta σ H ds) (hl : ds.length ≤ 100000)
    (k : ∀ l H1 vs, H l = none → Ex H H1 → H1 l = some (.lst vs) → DpAll K H1 vs ds → tz D (σ.set i (some (.ref l))) H1) : tSeq (tAsg (tLst ta) (gName i)) tz D σ H :=
  h H (Ex.refl H) _ fun vs H1 e hv => ⟨Evl.sz_of (by rw [DpAll.len hv]; exact hl), fun l hl2 => k l _ vs (Evl.fresh_back e hl2) (e.trans (ex_new hl2)) upd_same (DpAll.ex (ex_new hl2) _ _ hv)⟩
theorem flat_tips : ∀ k : Nat, (List.replicate k [toD .tip]).flatten = (List.replicate k Bu.tip).map toD
  | 0 => rfl
  | k + 1 => by rw [List.replicate_succ, List.replicate_succ, List.flatten_cons, flat_tips k]; rfl
def rnB (k : Nat) (b : Bu) : Bool := okB b && decide (knots b ≤ k) && decide (tips b ≤ 1 + 3 * knots b) && decide (dep b ≤ knots b)
theorem rnB_of {k : Nat} {b : Bu} (h : rnB k b = true) : Rn k b := by
  unfold rnB at h
  simp only [Bool.and_eq_true, decide_eq_true_eq] at h
  exact ⟨h.1.1.1, h.1.1.2, h.1.2, h.2⟩
def kA : Bu := .knot 97 [.tip]
def kF : Bu := .knot 102 [.tip, .tip]
def kB : Bu := .knot 98 [.tip]
def knownBs : List Bu := [kA, kF, kB, .knot 102 [kA, .tip], .knot 102 [.tip, kA], .knot 102 [kF, .tip], .knot 103 [.tip, .tip, .tip], .knot 102 [kA, kA], .knot 102 [kB, kA], .knot 97 [kF]]
theorem known_rn : ∀ b ∈ knownBs, Rn 4 b := by
  have : knownBs.all (rnB 4) = true := by decide +kernel
  intro b hb
  exact rnB_of (List.all_eq_true.mp this b hb)
theorem Rn.dr {k : Nat} {b : Bu} (h : Rn k b) (hk : k ≤ 60) : Dr b := ⟨h.ok, by have := h.dp; have := h.kn; omega, by have := h.tp; have := h.kn; omega⟩
theorem dpAll_mem {K : PySem.W.Frag} {H : Hp} {vs : List V} {bs : List Bu} {v : V} (h : DpAll K H vs (bs.map toD)) (hv : v ∈ vs) : ∃ b ∈ bs, Dp K H v (toD b) := by
  obtain ⟨i, hi⟩ := List.getElem?_of_mem hv
  obtain ⟨b, hb, hd⟩ := dpAll_map h hi
  exact ⟨b, List.mem_of_getElem? hb, hd⟩
section
variable {P : Program} {w : World} {K : PySem.W.Frag} {mg : Str → Option Value} {base : Heap}
def spGrowth (K : PySem.W.Frag) : Sp := fun vs H Q _ => ∃ (c : Addr) (m : Nat), vs = [.ref c, .int (m : Int)] ∧ m ≤ 4 ∧ Cup H c ∧ ∀ (r : V) (b : Bu) H', Rn 4 b → Dp K H' r (toD b) → ExB c H H' → Cup H' c → Q r H'
def spKnown (K : PySem.W.Frag) : Sp := fun vs H Q _ => ∃ (c : Addr), vs = [.ref c] ∧ Cup H c ∧ ∀ (r : V) (b : Bu) H', Rn 4 b → Dp K H' r (toD b) → ExB c H H' → Cup H' c → Q r H'
end
end Bk

namespace Bk
open PySem PySem.Spec PyProof.Rows L2
/-! ### bushes cut: what the upper bush is, and the primes -/
theorem grow_tip : ∀ b : Bu, grow b .tip = b := by
  have key : ∀ n, ∀ b : Bu, sizeOf b ≤ n → grow b .tip = b := by
    intro n
    induction n with
    | zero => intro b h; cases b <;> simp at h
    | succ n ih =>
      intro b h
      cases b with
      | tip => rfl
      | knot c bs =>
        rw [grow, growL_map]
        congr 1
        refine (List.map_congr_left fun x hx => ?_).trans (List.map_id bs)
        have := List.sizeOf_lt_of_mem hx
        simp only [Bu.knot.sizeOf_spec] at h
        exact ih x (by omega)
  exact fun b => key _ b (Nat.le_refl _)
theorem grow_assoc : ∀ a b c : Bu, grow (grow a b) c = grow a (grow b c) := by
  have key : ∀ n, ∀ a : Bu, sizeOf a ≤ n → ∀ b c, grow (grow a b) c = grow a (grow b c) := by
    intro n
    induction n with
    | zero => intro a h; cases a <;> simp at h
    | succ n ih =>
      intro a h b c
      cases a with
      | tip => rfl
      | knot x bs =>
        rw [grow, grow, grow, growL_map, growL_map, growL_map, List.map_map]
        congr 1
        refine List.map_congr_left fun y hy => ?_
        have := List.sizeOf_lt_of_mem hy
        simp only [Bu.knot.sizeOf_spec] at h
        exact ih y (by omega) b c
  exact fun a b c => key _ a (Nat.le_refl _) b c
mutual
theorem ok_of_grow {g : Bu} : ∀ b : Bu, okB (grow b g) = true → okB b = true
  | .tip, _ => rfl
  | .knot c bs, h => by
    rw [grow] at h
    obtain ⟨h1, h2, h3⟩ := okB_knot h
    have h5 : (growL bs g).length = bs.length := by rw [growL_map, List.length_map]
    rw [h5] at h2
    simp [okB, h1, h2, ok_of_growL bs h3]
theorem ok_of_growL {g : Bu} : ∀ bs : List Bu, okBs (growL bs g) = true → okBs bs = true
  | [], _ => rfl
  | b :: bs, h => by
    have h' : okB (grow b g) = true ∧ okBs (growL bs g) = true := by simpa [growL, okBs] using h
    simp [okBs, ok_of_grow b h'.1, ok_of_growL bs h'.2]
end
theorem dep0 {b : Bu} (h : dep b = 0) : b = .tip := by
  cases b with
  | tip => rfl
  | knot c bs => simp [dep] at h
/-- what grows one bush by one growth is one bush -/
theorem grow_right : ∀ (u v g : Bu), okB u = true → okB v = true → grow u g = grow v g → u = v := by
  have key : ∀ n, ∀ u v g : Bu, sizeOf u ≤ n → okB u = true → okB v = true → grow u g = grow v g → u = v := by
    intro n
    induction n with
    | zero => intro u v g h; cases u <;> simp at h
    | succ n ih =>
      intro u v g hs hu hv e
      have hd : dep u = dep v := by
        have h1 := dep_grow g u hu
        have h2 := dep_grow g v hv
        rw [e] at h1
        omega
      cases u with
      | tip => exact (dep0 hd.symm).symm
      | knot c bs =>
        cases v with
        | tip => simp [dep] at hd
        | knot c' bs' =>
          rw [grow, grow] at e
          injection e with e1 e2
          subst e1
          congr 1
          have hb := (okB_knot hu).2.2
          have hb' := (okB_knot hv).2.2
          rw [growL_map, growL_map] at e2
          simp only [Bu.knot.sizeOf_spec] at hs
          clear hu hv hd
          induction bs generalizing bs' with
          | nil =>
            cases bs' with
            | nil => rfl
            | cons y t => simp at e2
          | cons x bs ihb =>
            cases bs' with
            | nil => simp at e2
            | cons y t =>
              rw [List.map_cons, List.map_cons] at e2
              injection e2 with e3 e4
              have h1 : okB x = true ∧ okBs bs = true := by simpa [okBs] using hb
              have h2 : okB y = true ∧ okBs t = true := by simpa [okBs] using hb'
              simp only [List.cons.sizeOf_spec] at hs
              have e5 : bs = t := by
                refine ihb t e4 ?_ ?_ ?_
                all_goals first | exact h1.2 | exact h2.2 | omega
              rw [ih x y g (by omega) h1.1 h2.1 e3, e5]
  exact fun u v g => key _ u v g (Nat.le_refl _)
open Classical in
mutual
/-- the upper bush of the cut with a lower one -/
noncomputable def up : Bu → Bu → Option Bu
  | .tip, l => if l = .tip then some .tip else none
  | .knot c bs, l => if l = .knot c bs then some .tip else (upL bs l).map (.knot c)
noncomputable def upL : List Bu → Bu → Option (List Bu)
  | [], _ => some []
  | b :: bs, l => match up b l, upL bs l with
    | some u, some us => some (u :: us)
    | _, _ => none
end
mutual
theorem up_grow : ∀ (b l u : Bu), up b l = some u → grow u l = b
  | .tip, l, u, h => by
    rw [up] at h
    split at h
    · rename_i e; injection h with h; rw [← h, e]; rfl
    · cases h
  | .knot c bs, l, u, h => by
    rw [up] at h
    split at h
    · rename_i e; injection h with h; rw [← h, e]; rfl
    · obtain ⟨us, h1, h2⟩ := Option.map_eq_some_iff.mp h
      rw [← h2, grow, upL_grow bs l us h1]
theorem upL_grow : ∀ (bs : List Bu) (l : Bu) (us : List Bu), upL bs l = some us → growL us l = bs
  | [], l, us, h => by rw [upL] at h; injection h with h; rw [← h]; rfl
  | b :: bs, l, us, h => by
    rw [upL] at h
    split at h
    · rename_i u us' e1 e2
      injection h with h
      rw [← h, growL, up_grow b l u e1, upL_grow bs l us' e2]
    · cases h
end
theorem up_of : ∀ (u l : Bu), okB u = true → up (grow u l) l = some u := by
  have key : ∀ n, ∀ u l : Bu, sizeOf u ≤ n → okB u = true → up (grow u l) l = some u := by
    intro n
    induction n with
    | zero => intro u l h; cases u <;> simp at h
    | succ n ih =>
      intro u l hs hu
      cases u with
      | tip =>
        show up l l = some .tip
        cases l with
        | tip => rw [up, if_pos rfl]
        | knot c bs => rw [up, if_pos rfl]
      | knot c bs =>
        have hd := dep_grow l (.knot c bs) hu
        have hne : ¬ l = .knot c (growL bs l) := fun e => by
          have : dep l = dep (grow (.knot c bs) l) := by rw [grow, ← e]
          rw [hd] at this
          have h2 : dep (.knot c bs) = deps bs + 1 := rfl
          omega
        rw [grow, up, if_neg hne]
        have hb := (okB_knot hu).2.2
        simp only [Bu.knot.sizeOf_spec] at hs
        have : upL (growL bs l) l = some bs := by
          clear hd hne hu
          induction bs with
          | nil => rfl
          | cons x bs ihb =>
            have h1 : okB x = true ∧ okBs bs = true := by simpa [okBs] using hb
            simp only [List.cons.sizeOf_spec] at hs
            rw [growL, upL, ih x l (by omega) h1.1, ihb h1.2 (by omega)]
        rw [this]
        rfl
  exact fun u l => key _ u l (Nat.le_refl _)
theorem up_iff {b l u : Bu} (hb : okB b = true) : up b l = some u ↔ grow u l = b := by
  constructor
  · exact up_grow b l u
  · intro e
    rw [← e]
    exact up_of u l (ok_of_grow u (by rw [e]; exact hb))
theorem ok_up {b l u : Bu} (hb : okB b = true) (h : up b l = some u) : okB u = true := ok_of_grow u (by rw [up_grow b l u h]; exact hb)
/-- a lower bush that is no deeper lies in the lower one -/
theorem levi : ∀ (u l u' l' : Bu), okB u = true → okB u' = true → grow u' l' = grow u l → dep l' ≤ dep l → ∃ v, l = grow v l' := by
  have key : ∀ n, ∀ u l u' l' : Bu, sizeOf u ≤ n → okB u = true → okB u' = true → grow u' l' = grow u l → dep l' ≤ dep l → ∃ v, l = grow v l' := by
    intro n
    induction n with
    | zero => intro u l u' l' h; cases u <;> simp at h
    | succ n ih =>
      intro u l u' l' hs hu hu' e hd
      cases u with
      | tip => exact ⟨u', e.symm⟩
      | knot c bs =>
        cases u' with
        | tip =>
          have h1 := dep_grow l (.knot c bs) hu
          have h2 : dep (.knot c bs) = deps bs + 1 := rfl
          have h3 : dep l' = dep (grow (.knot c bs) l) := congrArg dep e
          omega
        | knot c' bs' =>
          rw [grow, grow, growL_map, growL_map] at e
          injection e with e1 e2
          obtain ⟨_, ⟨h4, _⟩, h5⟩ := okB_knot hu
          obtain ⟨_, ⟨h6, _⟩, h7⟩ := okB_knot hu'
          cases bs with
          | nil => simp at h4
          | cons x t =>
            cases bs' with
            | nil => simp at h6
            | cons x' t' =>
              rw [List.map_cons, List.map_cons] at e2
              injection e2 with e3 e4
              simp only [Bu.knot.sizeOf_spec, List.cons.sizeOf_spec] at hs
              exact ih x l x' l' (by omega) (okBs_mem h5 List.mem_cons_self) (okBs_mem h7 List.mem_cons_self) e3 hd
  exact fun u l u' l' => key _ u l u' l' (Nat.le_refl _)
mutual
/-- the parts on the road to the first of the nearest tips -/
def chn : Bu → List Bu
  | .tip => [.tip]
  | .knot c bs => .knot c bs :: chnL bs (nears bs)
def chnL : List Bu → Nat → List Bu
  | [], _ => []
  | b :: bs, m => if near b = m then chn b else chnL bs m
end
theorem near_mem : ∀ {bs : List Bu}, bs ≠ [] → ∃ b ∈ bs, near b = nears bs
  | [], h => absurd rfl h
  | b :: bs, _ => by
    by_cases e : bs = []
    · subst e
      exact ⟨b, List.mem_cons_self, (nears_one b).symm⟩
    · obtain ⟨x, hx, hn⟩ := near_mem e
      rw [nears_cons b e]
      by_cases c : near b ≤ nears bs
      · exact ⟨b, List.mem_cons_self, by omega⟩
      · exact ⟨x, List.mem_cons_of_mem _ hx, by omega⟩
theorem chnL_of : ∀ {bs : List Bu} {m : Nat}, (∃ b ∈ bs, near b = m) → ∃ b ∈ bs, near b = m ∧ chnL bs m = chn b
  | [], _, h => by obtain ⟨_, h, _⟩ := h; simp at h
  | b :: bs, m, h => by
    rw [chnL]
    by_cases c : near b = m
    · rw [if_pos c]
      exact ⟨b, List.mem_cons_self, c, rfl⟩
    · rw [if_neg c]
      obtain ⟨x, hx, hn⟩ := h
      rcases List.mem_cons.mp hx with e | e
      · subst e; exact absurd hn c
      · obtain ⟨y, hy, h1, h2⟩ := chnL_of ⟨x, e, hn⟩
        exact ⟨y, List.mem_cons_of_mem _ hy, h1, h2⟩
theorem chn_spec : ∀ b : Bu, okB b = true → (chn b).length = near b + 1 ∧ (∃ M, chn b = M ++ [.tip]) ∧ (∃ t, chn b = b :: t) ∧ (chn b).Pairwise (fun x y => dep y < dep x) ∧ ∀ x ∈ chn b, okB x = true ∧ dep x ≤ dep b := by
  have key : ∀ n, ∀ b : Bu, sizeOf b ≤ n → okB b = true → (chn b).length = near b + 1 ∧ (∃ M, chn b = M ++ [.tip]) ∧ (∃ t, chn b = b :: t) ∧ (chn b).Pairwise (fun x y => dep y < dep x) ∧ ∀ x ∈ chn b, okB x = true ∧ dep x ≤ dep b := by
    intro n
    induction n with
    | zero => intro b h; cases b <;> simp at h
    | succ n ih =>
      intro b hs hb
      cases b with
      | tip => exact ⟨rfl, ⟨[], rfl⟩, ⟨[], rfl⟩, by simp [chn], fun x hx => by simp [chn] at hx; subst hx; exact ⟨rfl, Nat.le_refl _⟩⟩
      | knot c bs =>
        obtain ⟨_, ⟨h4, _⟩, h5⟩ := okB_knot hb
        obtain ⟨x, hx, hn, hc⟩ := chnL_of (near_mem (bs := bs) (by intro e; rw [e] at h4; simp at h4))
        have := List.sizeOf_lt_of_mem hx
        simp only [Bu.knot.sizeOf_spec] at hs
        obtain ⟨i1, ⟨M, i2⟩, _, i4, i5⟩ := ih x (by omega) (okBs_mem h5 hx)
        have hd := dep_le hx
        have hdk : dep (.knot c bs) = deps bs + 1 := rfl
        refine ⟨?_, ⟨.knot c bs :: M, ?_⟩, ⟨_, by rw [chn]⟩, ?_, ?_⟩
        · rw [chn, List.length_cons, hc, i1, hn]; rfl
        · rw [chn, hc, i2]; rfl
        · rw [chn, hc]
          exact List.pairwise_cons.mpr ⟨fun y hy => by have := (i5 y hy).2; omega, i4⟩
        · intro y hy
          rw [chn, hc] at hy
          rcases List.mem_cons.mp hy with e | e
          · subst e; exact ⟨hb, Nat.le_refl _⟩
          · exact ⟨(i5 y e).1, by have := (i5 y e).2; omega⟩
  exact fun b => key _ b (Nat.le_refl _)
theorem chn_grow (g : Bu) : ∀ b : Bu, okB b = true → ∀ M, chn b = M ++ [.tip] → chn (grow b g) = M.map (grow · g) ++ chn g := by
  have key : ∀ n, ∀ b : Bu, sizeOf b ≤ n → okB b = true → ∀ M, chn b = M ++ [.tip] → chn (grow b g) = M.map (grow · g) ++ chn g := by
    intro n
    induction n with
    | zero => intro b h; cases b <;> simp at h
    | succ n ih =>
      intro b hs hb M hM
      cases b with
      | tip =>
        have : M = [] := by
          rw [chn] at hM
          cases M with
          | nil => rfl
          | cons x t => cases t <;> simp at hM
        subst this
        rfl
      | knot c bs =>
        obtain ⟨_, ⟨h4, _⟩, h5⟩ := okB_knot hb
        have hne : bs ≠ [] := by intro e; rw [e] at h4; simp at h4
        obtain ⟨x, hx, hn, hc⟩ := chnL_of (near_mem hne)
        have hsz := List.sizeOf_lt_of_mem hx
        simp only [Bu.knot.sizeOf_spec] at hs
        obtain ⟨_, ⟨M', i2⟩, _⟩ := chn_spec x (okBs_mem h5 hx)
        have hM' : M = .knot c bs :: M' := by
          rw [chn, hc, i2, ← List.cons_append] at hM
          exact (List.append_cancel_right hM).symm
        subst hM'
        have hg : chnL (growL bs g) (nears (growL bs g)) = M'.map (grow · g) ++ chn g := by
          rw [nears_growL g bs h5 hne]
          have : ∀ (ys : List Bu) (m : Nat), okBs ys = true → (∀ y ∈ ys, sizeOf y ≤ n) → (∃ b ∈ ys, near b = m) → (∀ N, chnL ys m = N ++ [.tip] → chnL (growL ys g) (m + near g) = N.map (grow · g) ++ chn g) := by
            intro ys
            induction ys with
            | nil => intro m _ _ h; obtain ⟨_, h, _⟩ := h; simp at h
            | cons y ys ihy =>
              intro m hok hsy he N hN
              have h1 : okB y = true ∧ okBs ys = true := by simpa [okBs] using hok
              rw [chnL] at hN
              rw [growL, chnL, near_grow g y h1.1]
              by_cases q : near y = m
              · rw [if_pos q] at hN
                rw [if_pos (by omega)]
                exact ih y (hsy y List.mem_cons_self) h1.1 N hN
              · rw [if_neg q] at hN
                rw [if_neg (by omega)]
                refine ihy m h1.2 (fun z hz => hsy z (List.mem_cons_of_mem _ hz)) ?_ N hN
                obtain ⟨z, hz, hzn⟩ := he
                rcases List.mem_cons.mp hz with e | e
                · subst e; exact absurd hzn q
                · exact ⟨z, e, hzn⟩
          refine this bs (nears bs) h5 (fun y hy => ?_) (near_mem hne) M' (by rw [hc, i2])
          have := List.sizeOf_lt_of_mem hy
          omega
        rw [grow, chn, hg, List.map_cons, grow]
        rfl
  exact fun b => key _ b (Nat.le_refl _)
/-- the lower bushes of all cuts -/
noncomputable def lows (b : Bu) : List Bu := (chn b).filter fun l => (up b l).isSome
/-- what stands between neighbours -/
noncomputable def quo : List Bu → List Bu
  | [] => []
  | x :: t => match t with
    | [] => []
    | y :: _ => (up x y).getD .tip :: quo t
noncomputable def primes (b : Bu) : List Bu := quo (lows b)
theorem up_self {b : Bu} (hb : okB b = true) : up b b = some .tip := (up_iff hb).mpr rfl
theorem up_tip {b : Bu} (hb : okB b = true) : up b .tip = some b := (up_iff hb).mpr (grow_tip b)
theorem lows_spec {b : Bu} (hb : okB b = true) : (∃ M, lows b = M ++ [.tip]) ∧ (∃ t, lows b = b :: t) ∧ ∀ M, chn b = M ++ [.tip] → lows b = M.filter (fun l => (up b l).isSome) ++ [.tip] := by
  obtain ⟨_, ⟨M, h2⟩, ⟨t, h3⟩, _⟩ := chn_spec b hb
  have h4 : ∀ M, chn b = M ++ [.tip] → lows b = M.filter (fun l => (up b l).isSome) ++ [.tip] := by
    intro M hM
    unfold lows
    rw [hM, List.filter_append]
    congr 1
    rw [List.filter_cons_of_pos (by rw [up_tip hb]; rfl)]
    rfl
  refine ⟨⟨_, h4 M h2⟩, ⟨t.filter fun l => (up b l).isSome, ?_⟩, h4⟩
  unfold lows
  rw [h3, List.filter_cons_of_pos (by rw [up_self hb]; rfl)]
theorem up_both {x y g : Bu} (hx : okB x = true) (hg : okB g = true) : up (grow x g) (grow y g) = up x y := by
  have hxg := ok_grow2 hg x hx
  refine Option.ext fun u => ?_
  rw [up_iff hxg, up_iff hx]
  constructor
  · intro e
    rw [← grow_assoc] at e
    have hu : okB (grow (grow u y) g) = true := by rw [e]; exact hxg
    exact grow_right _ _ g (ok_of_grow _ hu) hx e
  · intro e
    rw [← grow_assoc, e]
theorem lows_grow {a g : Bu} (ha : okB a = true) (hg : okB g = true) {M : List Bu} (hM : lows a = M ++ [.tip]) : lows (grow a g) = M.map (grow · g) ++ lows g := by
  have hag := ok_grow2 hg a ha
  obtain ⟨_, ⟨N, hN⟩, _⟩ := chn_spec a ha
  have h1 := (lows_spec ha).2.2 N hN
  rw [hM] at h1
  have h2 := List.append_cancel_right h1
  subst h2
  unfold lows
  rw [chn_grow g a ha N hN, List.filter_append]
  congr 1
  · rw [List.filter_map]
    congr 1
    refine List.filter_congr fun x _ => ?_
    show (up (grow a g) (grow x g)).isSome = _
    rw [up_both ha hg]
  · refine List.filter_congr fun l hl => ?_
    obtain ⟨_, _, _, _, h5⟩ := chn_spec g hg
    obtain ⟨hlo, hld⟩ := h5 l hl
    rw [Bool.eq_iff_iff, Option.isSome_iff_exists, Option.isSome_iff_exists]
    constructor
    · rintro ⟨u, hu⟩
      obtain ⟨v, hv⟩ := levi a g u l ha (ok_up hag hu) (up_grow _ _ _ hu) hld
      exact ⟨v, (up_iff hg).mpr hv.symm⟩
    · rintro ⟨v, hv⟩
      exact ⟨grow a v, (up_iff hag).mpr (by rw [grow_assoc, up_grow _ _ _ hv])⟩
theorem quo_app : ∀ (M : List Bu) (b : Bu) (t : List Bu), quo (M ++ b :: t) = quo (M ++ [b]) ++ quo (b :: t)
  | [], b, t => by simp [quo]
  | [x], b, t => by simp [quo]
  | x :: y :: M, b, t => by
    have := quo_app (y :: M) b t
    show (up x y).getD .tip :: quo (y :: M ++ b :: t) = ((up x y).getD .tip :: quo (y :: M ++ [b])) ++ quo (b :: t)
    rw [this]
    rfl
theorem quo_map {g : Bu} (hg : okB g = true) : ∀ (L : List Bu), (∀ x ∈ L, okB x = true) → quo (L.map (grow · g)) = quo L
  | [], _ => rfl
  | [x], _ => rfl
  | x :: y :: L, h => by
    have ih := quo_map hg (y :: L) fun z hz => h z (List.mem_cons_of_mem _ hz)
    show (up (grow x g) (grow y g)).getD .tip :: quo ((y :: L).map (grow · g)) = (up x y).getD .tip :: quo (y :: L)
    rw [ih, up_both (h x List.mem_cons_self) hg]
theorem lows_ok {b : Bu} (hb : okB b = true) : ∀ x ∈ lows b, okB x = true := fun x hx => ((chn_spec b hb).2.2.2.2 x (List.mem_filter.mp hx).1).1
/-- THE PRIMES OF A BUSH GROWN -/
theorem primes_grow {a g : Bu} (ha : okB a = true) (hg : okB g = true) : primes (grow a g) = primes a ++ primes g := by
  obtain ⟨⟨M, hM⟩, _⟩ := lows_spec ha
  obtain ⟨_, ⟨t, ht⟩, _⟩ := lows_spec hg
  unfold primes
  rw [lows_grow ha hg hM, ht, quo_app]
  congr 1
  have e : M.map (grow · g) ++ [g] = (M ++ [Bu.tip]).map (grow · g) := by rw [List.map_append]; rfl
  rw [e, ← hM, quo_map hg _ (lows_ok ha)]
/-- the row grows the bush -/
theorem primes_prod {b : Bu} (hb : okB b = true) : (primes b).foldr grow .tip = b := by
  obtain ⟨⟨M, hM⟩, ⟨t, ht⟩, _⟩ := lows_spec hb
  have hp : (lows b).Pairwise fun x y => dep y < dep x := (chn_spec b hb).2.2.2.1.sublist List.filter_sublist
  have hs : ∀ x ∈ lows b, ∃ u, grow u x = b ∧ okB u = true := fun x hx => by
    have := (List.mem_filter.mp hx).2
    obtain ⟨u, hu⟩ := Option.isSome_iff_exists.mp this
    exact ⟨u, up_grow _ _ _ hu, ok_up hb hu⟩
  have hok := lows_ok hb
  have key : ∀ (L : List Bu) (x : Bu), L.Pairwise (fun x y => dep y < dep x) → (∀ x ∈ L, ∃ u, grow u x = b ∧ okB u = true) → (∀ x ∈ L, okB x = true) → (∃ M : List Bu, L = M ++ [Bu.tip]) → L.head? = some x → (quo L).foldr grow .tip = x := by
    intro L
    induction L with
    | nil => intro x _ _ _ _ h; simp at h
    | cons y L ih =>
      intro x hp hs ho he hx
      have hyx : y = x := by simpa using hx
      subst hyx
      cases L with
      | nil =>
        obtain ⟨M, hM⟩ := he
        have : M = [] := by
          cases M with
          | nil => rfl
          | cons z t => cases t <;> simp at hM
        subst this
        simp at hM
        subst hM
        rfl
      | cons z L =>
        have h1 := ih z (List.pairwise_cons.mp hp).2 (fun w hw => hs w (List.mem_cons_of_mem _ hw)) (fun w hw => ho w (List.mem_cons_of_mem _ hw)) (by
          obtain ⟨M, hM⟩ := he
          cases M with
          | nil => simp at hM
          | cons m M => exact ⟨M, by simpa using congrArg List.tail hM⟩) rfl
        show grow ((up y z).getD .tip) ((quo (z :: L)).foldr grow .tip) = y
        rw [h1]
        obtain ⟨u, hu1, hu2⟩ := hs y List.mem_cons_self
        obtain ⟨v, hv1, hv2⟩ := hs z (List.mem_cons_of_mem _ List.mem_cons_self)
        have hd := (List.pairwise_cons.mp hp).1 z List.mem_cons_self
        obtain ⟨q, hq⟩ := levi u y v z hu2 hv2 (by rw [hv1, hu1]) (by omega)
        have := (up_iff (ho y List.mem_cons_self)).mpr hq.symm
        rw [this]
        exact hq.symm
  exact key (lows b) b hp hs hok ⟨M, hM⟩ (by rw [ht]; rfl)
theorem primes_inj {a b : Bu} (ha : okB a = true) (hb : okB b = true) : primes a = primes b ↔ a = b := by
  constructor
  · intro e
    rw [← primes_prod ha, ← primes_prod hb, e]
  · intro e; rw [e]
theorem primes_tip : primes .tip = [] := by
  obtain ⟨⟨M, hM⟩, ⟨t, ht⟩, h⟩ := lows_spec (b := .tip) rfl
  have := h [] rfl
  unfold primes
  rw [this]
  rfl
/-- a knot with a tip for a branch is prime -/
theorem primes_one {b : Bu} (hb : okB b = true) (hn : near b = 1) : primes b = [b] := by
  obtain ⟨h1, ⟨M, h2⟩, ⟨t, h3⟩, _⟩ := chn_spec b hb
  rw [hn] at h1
  have h4 : chn b = [b, .tip] := by
    rw [h3] at h1 h2
    have h5 : t.length = 1 := by simpa using h1
    cases t with
    | nil => simp at h5
    | cons y t =>
      cases t with
      | cons z t => simp at h5
      | nil =>
        rw [h3]
        cases M with
        | nil => simp at h2
        | cons m M =>
          cases M with
          | nil => simp at h2; rw [h2.2]
          | cons m2 M => cases M <;> simp at h2
  have h5 := (lows_spec hb).2.2 [b] (by rw [h4]; rfl)
  unfold primes
  rw [h5, List.filter_cons_of_pos (by rw [up_self hb]; rfl)]
  show [(up b .tip).getD .tip] = [b]
  rw [up_tip hb]
  rfl
theorem primes_all : ∀ {gs : List Bu} {b : Bu}, okB b = true → (∀ g ∈ gs, okB g = true) → primes (growAll b gs) = primes b ++ gs.flatMap primes
  | [], b, _, _ => by simp [growAll]
  | g :: gs, b, h, hg => by
    have hgo := hg g List.mem_cons_self
    have ih := primes_all (gs := gs) (b := grow b g) (ok_grow2 hgo b h) fun x hx => hg x (List.mem_cons_of_mem _ hx)
    show primes (growAll (grow b g) gs) = _
    rw [ih, primes_grow h hgo, List.flatMap_cons, List.append_assoc]
end Bk

namespace Bk
open PySem PySem.Spec PyProof.Rows L2
/-! ### parts level by level, with their roads; the road to the first of the nearest tips -/
mutual
def lvR : Nat → Bu → List Rb
  | 0, b => [([], b)]
  | _ + 1, .tip => []
  | n + 1, .knot _ bs => lvRL n 0 bs
def lvRL : Nat → Nat → List Bu → List Rb
  | _, _, [] => []
  | n, i, b :: bs => (lvR n b).map (at1 i) ++ lvRL n (i + 1) bs
end
def stp (l : List Rb) : List Rb := l.flatMap fun p => chs p.1 0 (kids p.2)
theorem chs_at1 (i : Int) (r : List Int) : ∀ (j : Nat) (bs : List Bu), chs (i :: r) j bs = (chs r j bs).map (at1 i)
  | _, [] => rfl
  | j, b :: bs => by
    rw [chs, chs, List.map_cons, chs_at1 i r (j + 1) bs]
    rfl
theorem stp_at1 (i : Int) (l : List Rb) : stp (l.map (at1 i)) = (stp l).map (at1 i) := by
  unfold stp
  rw [List.flatMap_map, List.map_flatMap]
  refine congrArg (fun f => List.flatMap f l) ?_
  funext p
  exact chs_at1 i p.1 0 (kids p.2)
theorem stp_app (a b : List Rb) : stp (a ++ b) = stp a ++ stp b := by unfold stp; rw [List.flatMap_append]
theorem lvRL_zero : ∀ (i : Nat) (bs : List Bu), lvRL 0 i bs = chs [] i bs
  | _, [] => by simp [lvRL, chs]
  | i, b :: bs => by
    rw [lvRL, chs, lvRL_zero (i + 1) bs, lvR]
    rfl
theorem stp_lvR : ∀ (n : Nat) (b : Bu), stp (lvR n b) = lvR (n + 1) b := by
  have key : ∀ m, ∀ (n : Nat) (b : Bu), sizeOf b ≤ m → stp (lvR n b) = lvR (n + 1) b := by
    intro m
    induction m with
    | zero => intro n b h; cases b <;> simp at h
    | succ m ih =>
      intro n b h
      cases n with
      | zero =>
        cases b with
        | tip => simp [lvR, stp, kids, chs]
        | knot c bs =>
          rw [lvR, lvR, lvRL_zero]
          simp [stp, kids]
      | succ n =>
        cases b with
        | tip => simp [lvR, stp]
        | knot c bs =>
          rw [lvR, lvR]
          simp only [Bu.knot.sizeOf_spec] at h
          have : ∀ (i : Nat) (bs : List Bu), (∀ x ∈ bs, sizeOf x ≤ m) → stp (lvRL n i bs) = lvRL (n + 1) i bs := by
            intro i bs
            induction bs generalizing i with
            | nil => intro _; simp [lvRL, stp]
            | cons x bs ihb =>
              intro hx
              rw [lvRL, lvRL, stp_app, stp_at1, ih n x (hx x List.mem_cons_self), ihb (i + 1) fun y hy => hx y (List.mem_cons_of_mem _ hy)]
          refine this 0 bs fun x hx => ?_
          have := List.sizeOf_lt_of_mem hx
          omega
  exact fun n b => key _ n b (Nat.le_refl _)
mutual
def nrd : Bu → List Int
  | .tip => []
  | .knot _ bs => nrdL 0 bs (nears bs)
def nrdL : Nat → List Bu → Nat → List Int
  | _, [], _ => []
  | i, b :: bs, m => if near b = m then (i : Int) :: nrd b else nrdL (i + 1) bs m
end
theorem nears_le : ∀ {bs : List Bu} {b : Bu}, b ∈ bs → nears bs ≤ near b
  | x :: bs, b, h => by
    by_cases e : bs = []
    · subst e
      have : b = x := by simpa using h
      rw [this, nears_one]; exact Nat.le_refl _
    · rw [nears_cons x e]
      rcases List.mem_cons.mp h with q | q
      · subst q; omega
      · have := nears_le q; omega
/-- what is chosen on the way -/
theorem chosen : ∀ {bs : List Bu} {m : Nat} (i : Nat), (∃ b ∈ bs, near b = m) → ∃ (j : Nat) (b : Bu), bs[j]? = some b ∧ near b = m ∧ chnL bs m = chn b ∧ nrdL i bs m = ((i + j : Nat) : Int) :: nrd b
  | [], _, _, h => by obtain ⟨_, h, _⟩ := h; simp at h
  | b :: bs, m, i, h => by
    rw [chnL, nrdL]
    by_cases c : near b = m
    · rw [if_pos c, if_pos c]
      exact ⟨0, b, rfl, c, rfl, rfl⟩
    · rw [if_neg c, if_neg c]
      obtain ⟨x, hx, hn⟩ := h
      rcases List.mem_cons.mp hx with e | e
      · subst e; exact absurd hn c
      · obtain ⟨j, y, h1, h2, h3, h4⟩ := chosen (i + 1) ⟨x, e, hn⟩
        refine ⟨j + 1, y, by simpa using h1, h2, h3, ?_⟩
        rw [h4, show i + 1 + j = i + (j + 1) by omega]
def prt : Bu → List Int → Bu
  | b, [] => b
  | b, i :: r => prt ((kids b).getD i.toNat .tip) r
theorem nrd_spec : ∀ b : Bu, okB b = true → (nrd b).length = near b ∧ (∀ d, d ≤ near b → (chn b)[d]? = some (prt b ((nrd b).take d)) ∧ inB b ((nrd b).take d)) := by
  have key : ∀ n, ∀ b : Bu, sizeOf b ≤ n → okB b = true → (nrd b).length = near b ∧ (∀ d, d ≤ near b → (chn b)[d]? = some (prt b ((nrd b).take d)) ∧ inB b ((nrd b).take d)) := by
    intro n
    induction n with
    | zero => intro b h; cases b <;> simp at h
    | succ n ih =>
      intro b hs hb
      cases b with
      | tip =>
        refine ⟨rfl, fun d hd => ?_⟩
        have hz : near .tip = 0 := rfl
        have : d = 0 := by omega
        subst this
        exact ⟨rfl, by rw [List.take_zero, inB]; trivial⟩
      | knot c bs =>
        obtain ⟨_, ⟨h4, _⟩, h5⟩ := okB_knot hb
        obtain ⟨j, x, hx, hn, hc, hr⟩ := chosen 0 (near_mem (bs := bs) (by intro e; rw [e] at h4; simp at h4))
        rw [Nat.zero_add] at hr
        have hm := List.mem_of_getElem? hx
        have := List.sizeOf_lt_of_mem hm
        simp only [Bu.knot.sizeOf_spec] at hs
        obtain ⟨i1, i2⟩ := ih x (by omega) (okBs_mem h5 hm)
        have hnk : near (.knot c bs) = nears bs + 1 := rfl
        refine ⟨by rw [nrd, hr, List.length_cons, i1, hn]; rfl, fun d hd => ?_⟩
        cases d with
        | zero => exact ⟨by rw [chn]; rfl, by rw [List.take_zero, inB]; trivial⟩
        | succ d =>
          obtain ⟨j1, j2⟩ := i2 d (by omega)
          rw [chn, nrd, hc, hr, List.take_succ_cons, prt, inB]
          have e1 : (kids (.knot c bs)).getD ((j : Nat) : Int).toNat .tip = x := by
            show bs.getD j .tip = x
            rw [List.getD_eq_getElem?_getD, hx]; rfl
          refine ⟨by rw [e1]; exact j1, by omega, ?_⟩
          have : ∀ (bs : List Bu) (j : Nat), bs[j]? = some x → inL bs j ((nrd x).take d) := by
            intro bs
            induction bs with
            | nil => intro j h; simp at h
            | cons y bs ihb =>
              intro j h
              cases j with
              | zero =>
                have : y = x := by simpa using h
                rw [inL, this]; exact j2
              | succ j => rw [inL]; exact ihb j (by simpa using h)
          exact this bs j hx
  exact fun b => key _ b (Nat.le_refl _)
theorem lvR_tips : ∀ b : Bu, okB b = true → (∀ n, n < near b → (lvR n b).filter (fun p => isTip p.2) = []) ∧ ∃ t, (lvR (near b) b).filter (fun p => isTip p.2) = (nrd b, .tip) :: t := by
  have key : ∀ m, ∀ b : Bu, sizeOf b ≤ m → okB b = true → (∀ n, n < near b → (lvR n b).filter (fun p => isTip p.2) = []) ∧ ∃ t, (lvR (near b) b).filter (fun p => isTip p.2) = (nrd b, .tip) :: t := by
    intro m
    induction m with
    | zero => intro b h; cases b <;> simp at h
    | succ m ih =>
      intro b hs hb
      cases b with
      | tip => exact ⟨fun n hn => absurd hn (Nat.not_lt_zero _), [], rfl⟩
      | knot c bs =>
        obtain ⟨_, ⟨h4, _⟩, h5⟩ := okB_knot hb
        have hne : bs ≠ [] := by intro e; rw [e] at h4; simp at h4
        have hnk : near (.knot c bs) = nears bs + 1 := rfl
        simp only [Bu.knot.sizeOf_spec] at hs
        have fm : ∀ (l : List Rb) (i : Nat), (l.map (at1 i)).filter (fun p => isTip p.2) = (l.filter (fun p => isTip p.2)).map (at1 i) := by
          intro l i
          rw [List.filter_map]
          rfl
        have none : ∀ (i n : Nat) (bs : List Bu), okBs bs = true → (∀ x ∈ bs, sizeOf x ≤ m ∧ n < near x) → (lvRL n i bs).filter (fun p => isTip p.2) = [] := by
          intro i n bs
          induction bs generalizing i with
          | nil => intro _ _; simp [lvRL]
          | cons x bs ihb =>
            intro ho h
            have h1 : okB x = true ∧ okBs bs = true := by simpa [okBs] using ho
            rw [lvRL, List.filter_append, fm, (ih x (h x List.mem_cons_self).1 h1.1).1 n (h x List.mem_cons_self).2, ihb (i + 1) h1.2 fun y hy => h y (List.mem_cons_of_mem _ hy)]
            rfl
        refine ⟨fun n hn => ?_, ?_⟩
        · cases n with
          | zero => simp [lvR, isTip]
          | succ n =>
            rw [lvR]
            refine none 0 n bs h5 fun x hx => ⟨?_, ?_⟩
            · have := List.sizeOf_lt_of_mem hx; omega
            · have := nears_le hx; omega
        · rw [hnk, lvR, nrd]
          have : ∀ (i n : Nat) (bs : List Bu), okBs bs = true → (∀ x ∈ bs, sizeOf x ≤ m ∧ n ≤ near x) → (∃ x ∈ bs, near x = n) → ∃ t, (lvRL n i bs).filter (fun p => isTip p.2) = (nrdL i bs n, .tip) :: t := by
            intro i n bs
            induction bs generalizing i with
            | nil => intro _ _ h; obtain ⟨_, h, _⟩ := h; simp at h
            | cons x bs ihb =>
              intro ho h he
              have h1 : okB x = true ∧ okBs bs = true := by simpa [okBs] using ho
              obtain ⟨q1, q2⟩ := ih x (h x List.mem_cons_self).1 h1.1
              rw [lvRL, List.filter_append, fm, nrdL]
              by_cases c : near x = n
              · obtain ⟨t, ht⟩ := q2
                rw [c] at ht
                rw [if_pos c, ht]
                exact ⟨_, rfl⟩
              · rw [if_neg c, q1 n (by have := (h x List.mem_cons_self).2; omega)]
                obtain ⟨y, hy, hn⟩ := he
                rcases List.mem_cons.mp hy with e | e
                · subst e; exact absurd hn c
                · obtain ⟨t, ht⟩ := ihb (i + 1) h1.2 (fun z hz => h z (List.mem_cons_of_mem _ hz)) ⟨y, e, hn⟩
                  exact ⟨t, by rw [ht]; rfl⟩
          refine this 0 (nears bs) bs h5 (fun x hx => ⟨?_, nears_le hx⟩) (near_mem hne)
          have := List.sizeOf_lt_of_mem hx
          omega
  exact fun b => key _ b (Nat.le_refl _)
/-- all parts, level by level -/
def bfs (b : Bu) (k : Nat) : List Rb := (List.range k).flatMap fun n => lvR n b
theorem bfs_succ (b : Bu) (k : Nat) : bfs b (k + 1) = bfs b k ++ lvR k b := by
  unfold bfs
  rw [List.range_succ, List.flatMap_append]
  simp
theorem bfs_near {b : Bu} (hb : okB b = true) : ∀ {k : Nat}, near b < k → ∃ t, (bfs b k).filter (fun p => isTip p.2) = (nrd b, .tip) :: t := by
  obtain ⟨h1, t, h2⟩ := lvR_tips b hb
  have h0 : ∀ k, k ≤ near b → (bfs b k).filter (fun p => isTip p.2) = [] := by
    intro k
    induction k with
    | zero => intro _; rfl
    | succ k ih => intro hk; rw [bfs_succ, List.filter_append, ih (by omega), h1 k (by omega)]; rfl
  intro k
  induction k with
  | zero => intro h; omega
  | succ k ih =>
    intro hk
    rw [bfs_succ, List.filter_append]
    by_cases c : near b < k
    · obtain ⟨t, ht⟩ := ih c
      exact ⟨_, by rw [ht]; rfl⟩
    · have : k = near b := by omega
      rw [this, h0 _ (Nat.le_refl _), h2]
      exact ⟨t, rfl⟩
/-- how many parts there are on a level, and how deep they are -/
theorem lvR_dep : ∀ (n : Nat) (b : Bu), okB b = true → ∀ p ∈ lvR n b, okB p.2 = true ∧ dep p.2 + n ≤ dep b ∧ p.1.length = n := by
  have key : ∀ m, ∀ (n : Nat) (b : Bu), sizeOf b ≤ m → okB b = true → ∀ p ∈ lvR n b, okB p.2 = true ∧ dep p.2 + n ≤ dep b ∧ p.1.length = n := by
    intro m
    induction m with
    | zero => intro n b h; cases b <;> simp at h
    | succ m ih =>
      intro n b hs hb p hp
      cases n with
      | zero =>
        rw [lvR] at hp
        have : p = ([], b) := by simpa using hp
        subst this
        exact ⟨hb, Nat.le_refl _, rfl⟩
      | succ n =>
        cases b with
        | tip => simp [lvR] at hp
        | knot c bs =>
          rw [lvR] at hp
          simp only [Bu.knot.sizeOf_spec] at hs
          have h5 := (okB_knot hb).2.2
          have : ∀ (i : Nat) (bs : List Bu), okBs bs = true → (∀ x ∈ bs, sizeOf x ≤ m) → ∀ p ∈ lvRL n i bs, okB p.2 = true ∧ dep p.2 + n ≤ deps bs ∧ p.1.length = n + 1 := by
            intro i bs
            induction bs generalizing i with
            | nil => intro _ _ p hp; simp [lvRL] at hp
            | cons x bs ihb =>
              intro ho hx p hp
              have h1 : okB x = true ∧ okBs bs = true := by simpa [okBs] using ho
              rw [lvRL] at hp
              rw [deps]
              rcases List.mem_append.mp hp with e | e
              · obtain ⟨q, hq, rfl⟩ := List.mem_map.mp e
                have := ih n x (hx x List.mem_cons_self) h1.1 q hq
                exact ⟨this.1, by have := this.2.1; show dep q.2 + n ≤ _; omega, by show (_ :: q.1).length = _; rw [List.length_cons, this.2.2]⟩
              · have := ihb (i + 1) h1.2 (fun y hy => hx y (List.mem_cons_of_mem _ hy)) p e
                exact ⟨this.1, by have := this.2.1; omega, this.2.2⟩
          have r := this 0 bs h5 (fun x hx => by have := List.sizeOf_lt_of_mem hx; omega) p hp
          exact ⟨r.1, by have := r.2.1; show dep p.2 + (n + 1) ≤ deps bs + 1; omega, r.2.2⟩
  exact fun n b => key _ n b (Nat.le_refl _)
theorem lvR_parts : ∀ (n : Nat) (b : Bu), (lvR n b).map (·.2) = itN n [b]
  | 0, b => by simp [lvR, itN]
  | n + 1, b => by
    rw [← stp_lvR n b, itN, ← lvR_parts n b]
    unfold stp nxt
    rw [List.map_flatMap, List.flatMap_map]
    refine congrArg (fun f => List.flatMap f (lvR n b)) ?_
    funext p
    have : ∀ (r : List Int) (i : Nat) (bs : List Bu), (chs r i bs).map (·.2) = bs := by
      intro r i bs
      induction bs generalizing i with
      | nil => rfl
      | cons x bs ih => rw [chs, List.map_cons, ih (i + 1)]
    exact this p.1 0 (kids p.2)
theorem lvR_len (n : Nat) (b : Bu) : (lvR n b).length ≤ knots b + tips b := by
  have h1 := congrArg List.length (lvR_parts n b)
  rw [List.length_map] at h1
  have h2 := kt_nxt (itN n [b])
  have h3 := itN_kt [b] n
  have h4 : kt [b] = knots b + tips b := rfl
  omega
theorem bfs_len (b : Bu) : ∀ k, (bfs b k).length = sumL [b] k
  | 0 => rfl
  | k + 1 => by
    rw [bfs_succ, List.length_append, bfs_len b k, sumL]
    have h1 := congrArg List.length (lvR_parts k b)
    rw [List.length_map] at h1
    omega
end Bk

namespace Bk
open PySem PySem.Spec PyProof.Rows L2
open Evl (Ex Ev EvT EvL EvU EvA)
section
variable (K : PySem.W.Frag) (c : Option Addr) (H0 : Hp)
/-- raw | in what does not change | one of some, the cup may turn | a new list -/
def EvH (te : TE) (Γ : GE) (d : PyData) : Prop := ∀ ⦃σ : L2.St⦄ ⦃H : Hp⦄, Env K c H0 Γ σ H → EvD K te σ H d
def EvG (te : TE) (Γ : GE) (d : PyData) : Prop := ∀ ⦃σ : L2.St⦄ ⦃H : Hp⦄, Env K c H0 Γ σ H → ∀ R : VK, (∀ v H2, Ex H H2 → Dp K (hd c Γ H2) v d → R v H2) → te σ H R
def EvP (te : TE) (Γ : GE) (P : PyData → Prop) : Prop := ∀ ⦃σ : L2.St⦄ ⦃H : Hp⦄, Env K c H0 Γ σ H → ∀ R : VK, (∀ v H2 d, Wd c H H2 → P d → Dp K (hd c Γ H2) v d → R v H2) → te σ H R
def EvO (te : TE) (Γ : GE) (ds : List PyData) : Prop := ∀ ⦃σ : L2.St⦄ ⦃H : Hp⦄, Env K c H0 Γ σ H → ∀ R : VK, (∀ p H2 us, H p = none → Ex H H2 → H2 p = some (.lst us) → DpAll K H2 us ds → R (.ref p) H2) → te σ H R
def EtH (tt : TT) (Γ : GE) (b : Bool) : Prop := ∀ ⦃σ : L2.St⦄ ⦃H : Hp⦄, Env K c H0 Γ σ H → EvT tt σ H b
def EtP (tt : TT) (Γ : GE) (P : Bool → Prop) : Prop := ∀ ⦃σ : L2.St⦄ ⦃H : Hp⦄, Env K c H0 Γ σ H → ∀ R : Bool → Hp → Prop, (∀ b H2, Wd c H H2 → P b → R b H2) → tt σ H R
/-- arguments, some drawn: raw -/
def EaP (ta : TA) (Γ : GE) (P : List PyData → Prop) : Prop := ∀ ⦃σ : L2.St⦄ ⦃H : Hp⦄, Env K c H0 Γ σ H → ∀ R : List V → Hp → Prop, (∀ vs H2 ds, Wd c H H2 → P ds → DpAll K (hd c Γ H2) vs ds → R vs H2) → ta σ H R
/-- what a def gives back -/
def Fin (v : V) (H' : Hp) : AV → Prop
  | .d x => Wd c H0 H' ∧ Dp K H' v x
  | .cup => False
  | .own p ds => Wd c H0 H' ∧ v = .ref p ∧ H0 p = none ∧ ∃ us, H' p = some (.lst us) ∧ DpAll K H' us ds
def SG (ts : TS) (Γ : GE) (N : GE → Prop) (Rt : AV → Prop) : Prop := ∀ (D : Ends) (σ : L2.St) (H : Hp), Env K c H0 Γ σ H → (∀ σ' H' Γ', Env K c H0 Γ' σ' H' → Ex (hd c Γ H) (hd c Γ' H') → N Γ' → D.nx σ' H') → (∀ v H' r, Fin K c H0 v H' r → Rt r → D.rt v H') → ts D σ H
/-- a target -/
def GtG (g : TG) (Γ : GE) (d : PyData) (Γ' : GE) : Prop := ∀ ⦃σ : L2.St⦄ ⦃H : Hp⦄ ⦃v : V⦄, Env K c H0 Γ σ H → Dp K (hd c Γ H) v d → ∀ Q : L2.St → Hp → Prop, (∀ σ', Env K c H0 Γ' σ' H → Ex (hd c Γ H) (hd c Γ' H) → Q σ' H) → g v σ H Q
end
section
variable {K : PySem.W.Frag} {c : Option Addr} {H0 : Hp} {Γ Γ1 Γ2 : GE} {te tb tl : TE} {ta tr : TA} {tt : TT} {d e : PyData} {ds es : List PyData} {P : PyData → Prop} {N : GE → Prop} {Rt : AV → Prop} {rest tu tw : TS} {i j : Nat} {g : TG}
theorem EvH.fz (h : EvH K c H0 te Γ d) (hf : fz d = true) : EvG K c H0 te Γ d := fun σ H e R r => h e H (Ex.refl H) R fun v H2 e2 hv => r v H2 e2 ((e.ex e2).hide hf hv)
theorem EvG.p (h : EvG K c H0 te Γ d) : EvP K c H0 te Γ (· = d) := fun σ H e R r => h e R fun v H2 e2 hv => r v H2 d (.ex e.cup e2) rfl hv
theorem EvP.imp {P' : PyData → Prop} (h : EvP K c H0 te Γ P) (q : ∀ d, P d → P' d) : EvP K c H0 te Γ P' := fun σ H e R r => h e R fun v H2 d w p hv => r v H2 d w (q d p) hv
theorem EtH.p {b : Bool} (h : EtH K c H0 tt Γ b) : EtP K c H0 tt Γ (· = b) := fun σ H e R r => h e H (Ex.refl H) R fun H2 e2 => r b H2 (.ex e.cup e2) rfl
theorem EvG.h (h : EvG K c H0 te Γ d) : EvH K c H0 te Γ d := fun σ H e H1 e1 R r => h (e.ex e1) R fun v H2 e2 hv => r v H2 e2 (Dp.ex hd_sub _ _ hv)
theorem EvO.ls (h : EvO K c H0 te Γ ds) (hf : fzA ds = true) : EvG K c H0 te Γ (.list ds) := fun σ H e R r => h e R fun p H2 us hp e2 hL hA =>
  r _ H2 e2 (.lst (SqL.of (by rw [hd_get fun q => by have := e.fresh hp; exact this q]; exact hL)) ((e.ex e2).hideA hf hA))
theorem eo_lst (h : ∀ ⦃σ : L2.St⦄ ⦃H : Hp⦄, Env K c H0 Γ σ H → EvAD K ta σ H ds) (hl : ds.length ≤ 100000 := by decide) : EvO K c H0 (tLst ta) Γ ds := fun σ H e R r =>
  h e H (Ex.refl H) _ fun vs H1 e1 hv => ⟨Evl.sz_of (by rw [DpAll.len hv]; exact hl), fun p hp => r p _ vs (Evl.fresh_back e1 hp) (e1.trans (ex_new hp)) upd_same (DpAll.ex (ex_new hp) _ _ hv)⟩
theorem eg_v (h : At Γ i (.d d)) : EvG K c H0 (tVar i) Γ d := fun σ H e R r => let ⟨v, h1, h2⟩ := e.d i d h; ⟨v, h1, r v H (Ex.refl H) h2⟩
theorem eap_nil : EaP K c H0 tNil Γ (· = []) := fun σ H e R r => r [] H [] (.refl e.cup) rfl .nil
theorem eap_cons {Q : List PyData → Prop} (h : EvP K c H0 te Γ P) (hr : EaP K c H0 tr Γ Q) : EaP K c H0 (tCons te tr) Γ (fun l => ∃ d ds, l = d :: ds ∧ P d ∧ Q ds) := fun σ H e R r =>
  h e _ fun v H1 d w1 p hv => hr (e.step w1) _ fun vs H2 ds w2 q hvs => r (v :: vs) H2 (d :: ds) (w1.trans w2) ⟨d, ds, rfl, p, q⟩ (.cons (Dp.ex (hd_ex w2) _ _ hv) hvs)
theorem Ex.kp (e : Ex H H2) (w : Env K c H0 Γ σ H) : Ex (hd c Γ H) (hd c Γ H2) := hd_ex (.ex w.cup e)
/-! statements -/
theorem sg_last {t : TS} (h : SG K c H0 (tSeq t tNext) Γ N Rt) : SG K c H0 t Γ N Rt := h
theorem sg_nx (h : N Γ) : SG K c H0 tNext Γ N Rt := fun D σ H e hn _ => hn σ H Γ e (Ex.refl _) h
theorem sg_fg (f : Fg Γ Γ1) (h : SG K c H0 rest Γ1 N Rt) : SG K c H0 rest Γ N Rt := fun D σ H e hn hr => h D σ H (e.fg f) (fun σ' H' Γ' e' x q => hn σ' H' Γ' e' ((Fg.ex f).trans x) q) hr
theorem sg_imp {N' : GE → Prop} {Rt' : AV → Prop} (h : SG K c H0 rest Γ N Rt) (h1 : ∀ Γ', N Γ' → N' Γ') (h2 : ∀ r, Rt r → Rt' r) : SG K c H0 rest Γ N' Rt' := fun D σ H e hn hr => h D σ H e (fun σ' H' Γ' e' x q => hn σ' H' Γ' e' x (h1 _ q)) fun v H' r f q => hr v H' r f (h2 _ q)
theorem sg_q (h : EvG K c H0 te Γ d) (k : SG K c H0 rest (Γ.set i (some (.d d))) N Rt) : SG K c H0 (tSeq (tAsg te (gName i)) rest) Γ N Rt := fun D σ H e hn hr => h e _ fun v H2 e2 hv =>
  let ⟨a, b⟩ := (e.ex e2).setX hv
  k D _ H2 a (fun σ' H' Γ' e' x q => hn σ' H' Γ' e' (((hd_ex (.ex e.cup e2)).trans b).trans x) q) hr
theorem sg_qp (h : EvP K c H0 te Γ P) (k : ∀ d, P d → SG K c H0 rest (Γ.set i (some (.d d))) N Rt) : SG K c H0 (tSeq (tAsg te (gName i)) rest) Γ N Rt := fun D σ H e hn hr => h e _ fun v H2 d w p hv =>
  let ⟨a, b⟩ := (e.step w).setX hv
  k d p D _ H2 a (fun σ' H' Γ' e' x q => hn σ' H' Γ' e' (((hd_ex w).trans b).trans x) q) hr
theorem sg_qo (h : EvO K c H0 te Γ ds) (hf : fzA ds = true) (k : ∀ p, SG K c H0 rest (Γ.set i (some (.own p ds))) N Rt) : SG K c H0 (tSeq (tAsg te (gName i)) rest) Γ N Rt := fun D σ H e hn hr => h e _ fun p H2 us hp e2 hL hA =>
  let ⟨a, b⟩ := e.setO hp e2 hL hf hA
  k p D _ H2 a (fun σ' H' Γ' e' x q => hn σ' H' Γ' e' (b.trans x) q) hr
theorem sg_ret (h : EvH K c H0 te Γ d) (k : Rt (.d d)) : SG K c H0 (tRet te) Γ N Rt := fun D σ H e hn hr => h e H (Ex.refl H) _ fun v H2 e2 hv => hr v H2 (.d d) ⟨(e.ex e2).wd, hv⟩ k
theorem sg_retq (h : EvH K c H0 te Γ d) (k : Rt (.d d)) : SG K c H0 (tSeq (tRet te) rest) Γ N Rt := fun D σ H e hn hr => h e H (Ex.refl H) _ fun v H2 e2 hv => hr v H2 (.d d) ⟨(e.ex e2).wd, hv⟩ k
theorem sg_retp (h : EvP K c H0 te Γ P) (k : ∀ d, P d → Rt (.d d)) : SG K c H0 (tRet te) Γ N Rt := fun D σ H e hn hr => h e _ fun v H2 d w p hv => hr v H2 (.d d) ⟨(e.step w).wd, Dp.ex hd_sub _ _ hv⟩ (k d p)
theorem sg_retpq (h : EvP K c H0 te Γ P) (k : ∀ d, P d → Rt (.d d)) : SG K c H0 (tSeq (tRet te) rest) Γ N Rt := fun D σ H e hn hr => h e _ fun v H2 d w p hv => hr v H2 (.d d) ⟨(e.step w).wd, Dp.ex hd_sub _ _ hv⟩ (k d p)
theorem sg_reto {p : Addr} (h : At Γ i (.own p ds)) (k : Rt (.own p ds)) : SG K c H0 (tRet (tVar i)) Γ N Rt := fun D σ H e hn hr =>
  let ⟨h1, h2, _, _, us, h5, h6⟩ := e.ow i p ds h
  ⟨_, h1, hr _ H (.own p ds) ⟨e.wd, rfl, h2, us, h5, DpAll.ex hd_sub _ _ h6⟩ k⟩
theorem sg_retO (h : EvO K c H0 te Γ ds) (k : ∀ p, Rt (.own p ds)) : SG K c H0 (tRet te) Γ N Rt := fun D σ H e hn hr => h e _ fun p H2 us hp e2 hL hA => hr _ H2 (.own p ds) ⟨(e.ex e2).wd, rfl, e.fresh0 hp, us, hL, hA⟩ (k p)
theorem sg_retN (k : Rt (.d .none)) : SG K c H0 tRetN Γ N Rt := fun D σ H e hn hr => hr _ H (.d .none) ⟨e.wd, .non⟩ k
theorem sg_if {b : Bool} {t : TT} (h : EtH K c H0 t Γ b) (h1 : b = true → SG K c H0 (tSeq tu rest) Γ N Rt) (h2 : b = false → SG K c H0 (tSeq tw rest) Γ N Rt) : SG K c H0 (tSeq (tIfS t tu tw) rest) Γ N Rt := fun D σ H e hn hr => h e H (Ex.refl H) _ fun H1 e1 => by
  have e' := e.ex e1
  have hx : Ex (hd c Γ H) (hd c Γ H1) := hd_ex (.ex e.cup e1)
  cases b with
  | true => exact h1 rfl D σ H1 e' (fun σ' H' Γ' a x q => hn σ' H' Γ' a (hx.trans x) q) hr
  | false => exact h2 rfl D σ H1 e' (fun σ' H' Γ' a x q => hn σ' H' Γ' a (hx.trans x) q) hr
theorem sg_when {b : Bool} {t : TT} (h : EtH K c H0 t Γ b) (h1 : b = true → SG K c H0 (tSeq tu rest) Γ N Rt) (h2 : b = false → SG K c H0 rest Γ N Rt) : SG K c H0 (tSeq (tIfS t tu tNext) rest) Γ N Rt := sg_if h h1 h2
/-- if what is never so: .. -/
theorem sg_never {t : TT} (h : EtH K c H0 t Γ false) (h2 : SG K c H0 rest Γ N Rt) : SG K c H0 (tSeq (tIfS t tu tNext) rest) Γ N Rt := sg_if h (fun z => by cases z) fun _ => h2
theorem sg_ifp {Pb : Bool → Prop} {t : TT} (h : EtP K c H0 t Γ Pb) (h1 : Pb true → SG K c H0 (tSeq tu rest) Γ N Rt) (h2 : Pb false → SG K c H0 (tSeq tw rest) Γ N Rt) : SG K c H0 (tSeq (tIfS t tu tw) rest) Γ N Rt := fun D σ H e hn hr => h e _ fun b H1 w pb => by
  have e' := e.step w
  have hx : Ex (hd c Γ H) (hd c Γ H1) := hd_ex w
  cases b with
  | true => exact h1 pb D σ H1 e' (fun σ' H' Γ' a x q => hn σ' H' Γ' a (hx.trans x) q) hr
  | false => exact h2 pb D σ H1 e' (fun σ' H' Γ' a x q => hn σ' H' Γ' a (hx.trans x) q) hr
theorem sg_whenp {Pb : Bool → Prop} {t : TT} (h : EtP K c H0 t Γ Pb) (h1 : Pb true → SG K c H0 (tSeq tu rest) Γ N Rt) (h2 : Pb false → SG K c H0 rest Γ N Rt) : SG K c H0 (tSeq (tIfS t tu tNext) rest) Γ N Rt := sg_ifp h h1 h2
theorem sg_neverp {t : TT} (h : EtP K c H0 t Γ (· = false)) (h2 : SG K c H0 rest Γ N Rt) : SG K c H0 (tSeq (tIfS t tu tNext) rest) Γ N Rt := sg_ifp h (fun z => by cases z) fun _ => h2
theorem sg_drop (h : EvH K c H0 te Γ d) (k : SG K c H0 rest Γ N Rt) : SG K c H0 (tSeq (tDrop te) rest) Γ N Rt := fun D σ H e hn hr => h e H (Ex.refl H) _ fun v H2 e2 _ =>
  k D σ H2 (e.ex e2) (fun σ' H' Γ' a x q => hn σ' H' Γ' a ((hd_ex (.ex e.cup e2)).trans x) q) hr
theorem sg_app {p : Addr} (hi : At Γ i (.own p ds)) (h : EvH K c H0 te Γ d) (hf : fz d = true) (hz : ds.length < 100000) (k : SG K c H0 rest (Γ.set i (some (.own p (ds ++ [d])))) N Rt) :
    SG K c H0 (tSeq (tDrop (tBM K "list" rAppend (tVar i) (tCons te tNil))) rest) Γ N Rt := fun D σ H e hn hr => by
  obtain ⟨h1, h2, h3, h4, us, h5, h6⟩ := e.ow i p ds hi
  refine ⟨_, h1, .inl ⟨rfl, us, Evl.sq_of h5⟩, h e H (Ex.refl H) _ fun v H2 e2 hv => ⟨p, us, v, rfl, rfl, e2 p _ h5, Evl.sz_lt (by rw [DpAll.len h6]; exact hz), ?_⟩⟩
  have e' := e.ex e2
  have hx : Ex (hd c Γ H) (hd c Γ H2) := hd_ex (.ex e.cup e2)
  obtain ⟨a, b⟩ := e'.mut (us := us ++ [v]) (es := ds ++ [d]) hi (by rw [fzA_app, h4]; simp [fzA, hf]) (DpAll.snoc (DpAll.ex hx _ _ h6) (e'.hide hf hv))
  exact k D σ _ a (fun σ' H' Γ' a' x q => hn σ' H' Γ' a' ((hx.trans b).trans x) q) hr
theorem sg_aug {a b : Int} {f : Int → Int → Int} (hi : At Γ i (.d (.int a))) (h : EvH K c H0 te Γ (.int b)) (k : SG K c H0 rest (Γ.set i (some (.d (.int (f a b))))) N Rt) : SG K c H0 (tSeq (tAug i te (ipI f)) rest) Γ N Rt := fun D σ H e hn hr => by
  obtain ⟨v, h1, h2⟩ := e.d i _ hi
  obtain rfl := dp_int h2
  refine ⟨_, h1, h e H (Ex.refl H) _ fun u H2 e2 hu => ?_⟩
  obtain rfl := dp_int hu
  obtain ⟨a', b'⟩ := (e.ex e2).setX (i := i) (d := .int (f a b)) (v := .int (f a b)) (.int _)
  exact ⟨a, b, rfl, rfl, k D _ H2 a' (fun σ' H' Γ' a x q => hn σ' H' Γ' a (((hd_ex (.ex e.cup e2)).trans b').trans x) q) hr⟩
theorem sg_par (h : ∀ ⦃σ : L2.St⦄ ⦃H : Hp⦄, Env K c H0 Γ σ H → EvAD K ta σ H [d, e]) (f1 : fz d = true) (f2 : fz e = true) (k : SG K c H0 rest ((Γ.set i (some (.d d))).set j (some (.d e))) N Rt) : SG K c H0 (tSeq (tPar i j ta) rest) Γ N Rt := fun D σ H w hn hr => h w H (Ex.refl H) _ fun vs H1 e1 hvs => by
  cases hvs with
  | cons h1 h2 =>
    cases h2 with
    | cons h3 h4 =>
      cases h4
      have w' := w.ex e1
      obtain ⟨a1, b1⟩ := w'.setX (i := i) (w'.hide f1 h1)
      obtain ⟨a2, b2⟩ := a1.setX (i := j) (a1.hide f2 h3)
      exact ⟨_, _, rfl, k D _ H1 a2 (fun σ' H' Γ' a x q => hn σ' H' Γ' a ((((hd_ex (.ex w.cup e1)).trans b1).trans b2).trans x) q) hr⟩
/-! targets, loops -/
theorem gt_name : GtG K c H0 (gName i) Γ d (Γ.set i (some (.d d))) := fun σ H v e hv Q q => let ⟨a, b⟩ := e.setX hv; q _ a b
theorem gt_two (h1 : d = .tuple [x, y]) : GtG K c H0 (gTup K 2 (gCons (gName i) (gCons (gName j) gNil))) Γ d ((Γ.set i (some (.d x))).set j (some (.d y))) := fun σ H v e hv Q q => by
  subst h1
  obtain ⟨a, xs, rfl, hs, hA⟩ := dp_tup hv
  cases hA with
  | cons h1 h2 =>
    cases h2 with
    | cons h3 h4 =>
      cases h4
      obtain ⟨a1, b1⟩ := e.setX (i := i) h1
      obtain ⟨a2, b2⟩ := a1.setX (i := j) (Dp.ex b1 _ _ h3)
      exact ⟨a, _, rfl, Evl.ex_t hd_sub hs, rfl, _, _, rfl, _, _, rfl, rfl, q _ a2 (b1.trans b2)⟩
theorem gt_three {k : Nat} {z : PyData} (h1 : d = .tuple [x, y, z]) : GtG K c H0 (gTup K 3 (gCons (gName i) (gCons (gName j) (gCons (gName k) gNil)))) Γ d (((Γ.set i (some (.d x))).set j (some (.d y))).set k (some (.d z))) := fun σ H v e hv Q q => by
  subst h1
  obtain ⟨a, xs, rfl, hs, hA⟩ := dp_tup hv
  cases hA with
  | cons h1 h2 =>
    cases h2 with
    | cons h3 h4 =>
      cases h4 with
      | cons h5 h6 =>
        cases h6
        obtain ⟨a1, b1⟩ := e.setX (i := i) h1
        obtain ⟨a2, b2⟩ := a1.setX (i := j) (Dp.ex b1 _ _ h3)
        obtain ⟨a3, b3⟩ := a2.setX (i := k) (Dp.ex (b1.trans b2) _ _ h5)
        exact ⟨a, _, rfl, Evl.ex_t hd_sub hs, rfl, _, _, rfl, _, _, rfl, _, _, rfl, rfl, q _ a3 ((b1.trans b2).trans b3)⟩
/-- x, y = e -/
theorem sg_un (h : EvG K c H0 te Γ d) (hg : GtG K c H0 g Γ d Γ1) (k : SG K c H0 rest Γ1 N Rt) : SG K c H0 (tSeq (tAsg te g) rest) Γ N Rt := fun D σ H e hn hr => h e _ fun v H2 e2 hv =>
  hg (e.ex e2) hv _ fun σ' e' x => k D _ H2 e' (fun σ' H' Γ' a y q => hn σ' H' Γ' a (((hd_ex (.ex e.cup e2)).trans x).trans y) q) hr
theorem sg_unp {f : PyData → GE} (h : EvP K c H0 te Γ P) (hg : ∀ d, P d → GtG K c H0 g Γ d (f d)) (k : ∀ d, P d → SG K c H0 rest (f d) N Rt) : SG K c H0 (tSeq (tAsg te g) rest) Γ N Rt := fun D σ H e hn hr => h e _ fun v H2 d w p hv =>
  hg d p (e.step w) hv _ fun σ' e' x => k d p D _ H2 e' (fun σ' H' Γ' a y q => hn σ' H' Γ' a (((hd_ex w).trans x).trans y) q) hr
/-- for j in range(n): the slots at each turn are f i -/
theorem sg_forR {n : Nat} (f : Nat → GE) (h : ∀ ⦃σ : L2.St⦄ ⦃H : Hp⦄, Env K c H0 Γ σ H → EvA ta σ H [.int (n : Int)]) (hn : n ≤ 100000) (h0 : Fg Γ (f 0)) (hs : ∀ i, i < n → SG K c H0 tu ((f i).set j (some (.d (.int (i : Int))))) (fun Γ' => Fg Γ' (f (i + 1))) Rt) (k : SG K c H0 rest (f n) N Rt) :
    SG K c H0 (tSeq (tFor (iRng1 ta) (gName j) tu) rest) Γ N Rt := fun D σ H e hx hr => by
  refine h e H (Ex.refl H) _ fun H1 e1 => ⟨(n : Int), rfl, by omega, by omega, for_range (lo := 0) (n := n) (fun i σ' H' => Env K c H0 (f i) σ' H' ∧ Ex (hd c Γ H) (hd c (f i) H')) ⟨(e.ex e1).fg h0, (hd_ex (.ex e.cup e1)).trans (Fg.ex h0)⟩ (fun i σ' H' hi p => ?_) (fun σ' H' p => ?_)⟩
  · have e0 : (0 : Int) + (i : Int) = (i : Int) := Int.zero_add _
    show tu _ (σ'.set j (some (.int ((0 : Int) + (i : Int))))) H'
    rw [e0]
    obtain ⟨a, b⟩ := p.1.setX (i := j) (d := .int (i : Int)) (v := .int (i : Int)) (.int _)
    exact hs i hi _ _ H' a (fun σ2 H2 Γ2 a2 x2 q2 => ⟨a2.fg q2, (((p.2).trans b).trans x2).trans (Fg.ex q2)⟩) hr
  · exact k D σ' H' p.1 (fun σ2 H2 Γ2 a2 x2 q2 => hx σ2 H2 Γ2 a2 (p.2.trans x2) q2) hr
/-- over a tuple -/
theorem sg_forT (f : Nat → GE) (fx : Nat → GE) (h : EvG K c H0 tl Γ (.tuple ds)) (h0 : Fg Γ (f 0)) (hg : ∀ i d, ds[i]? = some d → GtG K c H0 g (f i) d (fx i)) (hs : ∀ i d, ds[i]? = some d → SG K c H0 tu (fx i) (fun Γ' => Fg Γ' (f (i + 1))) Rt) (k : SG K c H0 rest (f ds.length) N Rt) :
    SG K c H0 (tSeq (tFor (iTup K tl) g tu) rest) Γ N Rt := fun D σ H e hx hr => by
  refine h e _ fun v H1 e1 hv => ?_
  obtain ⟨a, xs, rfl, hT, hA⟩ := dp_tup hv
  have hl : xs.length = ds.length := DpAll.len hA
  refine ⟨a, rfl, ⟨xs, Evl.ex_t hd_sub hT⟩, for_tup (xs := xs) (fun i σ' H' => Env K c H0 (f i) σ' H' ∧ Ex (hd c Γ H1) (hd c (f i) H')) ⟨(e.ex e1).fg h0, Fg.ex h0⟩ (fun i σ' H' _ p => Evl.ex_t (p.2.trans hd_sub) hT) (fun i x σ' H' hi p => ?_) (fun σ' H' p => ?_)⟩
  · obtain ⟨d, hd1, hd2⟩ := DpAll.get hA hi
    refine hg i d hd1 p.1 (Dp.ex p.2 _ _ hd2) _ fun σ2 e2 x2 => ?_
    exact hs i d hd1 _ _ H' e2 (fun σ3 H3 Γ3 a3 x3 q3 => ⟨a3.fg q3, ((p.2.trans x2).trans x3).trans (Fg.ex q3)⟩) hr
  · rw [hl] at p
    exact k D σ' H' p.1 (fun σ2 H2 Γ2 a2 x2 q2 => hx σ2 H2 Γ2 a2 (((hd_ex (.ex e.cup e1)).trans p.2).trans x2) q2) hr
/-- over a list that does not change -/
theorem sg_forL (f : Nat → GE) (fx : Nat → GE) (h : EvG K c H0 tl Γ (.list ds)) (h0 : Fg Γ (f 0)) (hg : ∀ i d, ds[i]? = some d → GtG K c H0 g (f i) d (fx i)) (hs : ∀ i d, ds[i]? = some d → SG K c H0 tu (fx i) (fun Γ' => Fg Γ' (f (i + 1))) Rt) (k : SG K c H0 rest (f ds.length) N Rt) :
    SG K c H0 (tSeq (tFor (iList K tl) g tu) rest) Γ N Rt := fun D σ H e hx hr => by
  refine h e _ fun v H1 e1 hv => ?_
  obtain ⟨a, xs, rfl, hT, hA⟩ := dp_lst hv
  have hl : xs.length = ds.length := DpAll.len hA
  refine ⟨a, rfl, ⟨xs, Evl.ex_l hd_sub hT⟩, for_list (xs := xs) (fun i σ' H' => Env K c H0 (f i) σ' H' ∧ Ex (hd c Γ H1) (hd c (f i) H')) ⟨(e.ex e1).fg h0, Fg.ex h0⟩ (fun i σ' H' _ p => Evl.ex_l (p.2.trans hd_sub) hT) (fun i x σ' H' hi p => ?_) (fun σ' H' p => ?_)⟩
  · obtain ⟨d, hd1, hd2⟩ := DpAll.get hA hi
    refine hg i d hd1 p.1 (Dp.ex p.2 _ _ hd2) _ fun σ2 e2 x2 => ?_
    exact hs i d hd1 _ _ H' e2 (fun σ3 H3 Γ3 a3 x3 q3 => ⟨a3.fg q3, ((p.2.trans x2).trans x3).trans (Fg.ex q3)⟩) hr
  · rw [hl] at p
    exact k D σ' H' p.1 (fun σ2 H2 Γ2 a2 x2 q2 => hx σ2 H2 Γ2 a2 (((hd_ex (.ex e.cup e1)).trans p.2).trans x2) q2) hr
/-- a def's body, at its arguments -/
theorem sg_run {ts : TS} {vs : List V} {as : List AV} {Ns : List Str} {Q : VK} (h : Ars K c H0 vs as) (hc : ∀ a, c = some a → Cup H0 a) (k : SG K c H0 ts (as.map some ++ List.replicate (Ns.length - vs.length) none) N Rt) (hN : ∀ Γ', N Γ' → Rt (.d .none)) (hQ : ∀ v H' r, Fin K c H0 v H' r → Rt r → Q v H') :
    ts { nx := fun _ H' => Q .non H', rt := Q } (L2.start Ns vs) H0 := k _ _ _ (h.env hc) (fun σ' H' Γ' e _ q => hQ .non H' (.d .none) ⟨e.wd, .non⟩ (hN Γ' q)) hQ
end
end Bk

namespace Bk
open PySem PySem.Spec PyProof.Rows L2
open Evl (Ex Ev EvT EvL EvU EvA)
/-- a promise: for x with ok x, arguments enc x, what comes is told by res -/
def spE (K : PySem.W.Frag) {α : Type} (n : Nat) (enc : α → List AV) (ok : α → Prop) (res : α → AV → Prop) : Sp := fun vs H Q _ => vs.length = n ∧ ∃ (c : Option Addr) (x : α), Ars K c H vs (enc x) ∧ (∀ a, c = some a → Cup H a) ∧ ok x ∧ ∀ v H' r, Fin K c H v H' r → res x r → Q v H'
section
variable {P : Program} {w : World} {K : PySem.W.Frag} {mg : Str → Option Value} {base : Heap}
theorem okE {α : Type} {n : Nat} {enc : α → List AV} {ok : α → Prop} {res : α → AV → Prop} {x qual : Str} {st : Stmt} {f : Addr} {fd : FuncData} {N ps : List Str} {k : Nat} (F : Fun K x qual st f fd) (S : FnScope N ps (defScope st)) (hn : ps.length = n)
    (hbody : ∀ (cdv : Value) (A : Around) (outer : List PySem.Env) (s : Shared) (H : Hp) (E : XK), Room k (A.deeper (envOfC qual (defScope st) s.heap.objs.size f cdv)) →
      ∃ t, PSs (cxOf CX0 P w K mg base N qual (defScope st) f cdv A outer s H E).nox (defBody st) t ∧ ∀ (c : Option Addr) (H0 : Hp) (x : α), ok x → SG K c H0 t ((enc x).map some ++ List.replicate (N.length - n) none) (fun _ => res x (.d .none)) (res x)) :
    FnOk P w K mg base CX0 (k + 1) f fd ps (spE K n enc ok res) := by
  refine F.ok S (fun vs H Q E h => h.1.trans hn.symm) (fun cdv A outer s H vs Q E hr h => ?_)
  obtain ⟨hl, c, y, ha, hc, ho, q⟩ := h
  obtain ⟨t, ht, hS⟩ := hbody cdv A outer s H E hr
  have hS := hS c H y ho
  rw [← hl] at hS
  exact ⟨t, ht, sg_run ha hc hS (fun _ z => z) q⟩
end
section
variable {K : PySem.W.Frag} {c : Option Addr} {H0 : Hp} {Γ Γ1 Γ2 : GE} {te tb tl : TE} {ta tr : TA} {tt tu : TT} {d e : PyData} {ds es : List PyData} {P Q : PyData → Prop} {i j : Nat} {α : Type} {n : Nat} {enc : α → List AV} {ok : α → Prop} {res : α → AV → Prop} {E : XK}
theorem ars_of {H : Hp} {vs : List V} (h : DpAll K H vs ds) (hf : fzA ds = true) : Ars K c H vs (ds.map AV.d) := by
  induction ds generalizing vs with
  | nil => cases h; exact .nil
  | cons d l ih =>
    cases h with
    | cons h1 h2 =>
      have hf' : fz d = true ∧ fzA l = true := by simpa [fzA] using hf
      exact .d h1 hf'.1 (ih h2 hf'.2)
theorem eh_call (x : α) (ha : ∀ ⦃σ : L2.St⦄ ⦃H : Hp⦄, Env K c H0 Γ σ H → EvAD K ta σ H ds) (hx : enc x = ds.map AV.d) (hf : fzA ds = true) (ho : ok x) (hr : ∀ r, res x r → r = .d d) (hn : ds.length = n := by rfl) : EvH K c H0 (tCall (spE K n enc ok res) [] E ta) Γ d := fun σ H e =>
  ed_call (ha e) fun vs H1 e1 hv R r => ⟨(DpAll.len hv).trans hn, none, x, by rw [hx]; exact ars_of hv hf, (fun a q => by cases q), ho, fun v H' rr hF hR => by
    have := hr rr hR
    subst this
    exact r v H' hF.1.toEx hF.2⟩
theorem eo_call (x : α) (ha : ∀ ⦃σ : L2.St⦄ ⦃H : Hp⦄, Env K c H0 Γ σ H → EvAD K ta σ H ds) (hx : enc x = ds.map AV.d) (hf : fzA ds = true) (ho : ok x) (hr : ∀ r, res x r → ∃ p, r = .own p es) (hn : ds.length = n := by rfl) : EvO K c H0 (tCall (spE K n enc ok res) [] E ta) Γ es := fun σ H e R r =>
  ha e H (Ex.refl H) _ fun vs H1 e1 hv => by
    rw [List.append_nil]
    refine ⟨(DpAll.len hv).trans hn, none, x, by rw [hx]; exact ars_of hv hf, (fun a q => by cases q), ho, fun v H' rr hF hR => ?_⟩
    obtain ⟨p, rfl⟩ := hr rr hR
    obtain ⟨h1, rfl, h3, us, h4, h5⟩ := hF
    exact r p H' us (Evl.fresh_back e1 h3) (e1.trans h1.toEx) h4 h5
/-- the cup first, then others -/
theorem ep_call {Qa : List PyData → Prop} (hi : At Γ i .cup) (ha : EaP K c H0 ta Γ Qa) (hq : ∀ ds, Qa ds → ∃ x, enc x = .cup :: ds.map AV.d ∧ fzA ds = true ∧ ok x ∧ ds.length + 1 = n ∧ ∀ r, res x r → ∃ d, r = .d d ∧ fz d = true ∧ P d) : EvP K c H0 (tCall (spE K n enc ok res) [] E (tCons (tVar i) ta)) Γ P := fun σ H e R r => by
  obtain ⟨a, h1, h2⟩ := e.cu i hi
  refine ⟨_, h2, ha e _ fun vs H1 ds w1 q hvs => ?_⟩
  obtain ⟨x, hx, hf, ho, hn, hr⟩ := hq ds q
  rw [List.append_nil]
  have e1 := e.step w1
  refine ⟨by rw [List.length_cons, DpAll.len hvs, hn], c, x, by rw [hx]; exact .cup h1 (ars_of (DpAll.ex hd_sub _ _ hvs) hf), e1.cup, ho, fun v H' rr hF hR => ?_⟩
  obtain ⟨d, rfl, hfd, hp⟩ := hr rr hR
  exact r v H' d (w1.trans hF.1) hp ((e1.step hF.1).hide hfd hF.2)
theorem ep_call1 (hi : At Γ i .cup) (x : α) (hx : enc x = [.cup]) (ho : ok x) (hr : ∀ r, res x r → ∃ d, r = .d d ∧ fz d = true ∧ P d) : EvP K c H0 (tCall (spE K 1 enc ok res) [] E (tCons (tVar i) tNil)) Γ P :=
  ep_call hi eap_nil fun ds q => ⟨x, by rw [q]; exact hx, by rw [q]; rfl, ho, by rw [q]; rfl, hr⟩
/-- no cup, some arguments drawn -/
theorem ep_callN {Qa : List PyData → Prop} (ha : EaP K c H0 ta Γ Qa) (hq : ∀ ds, Qa ds → ∃ x, enc x = ds.map AV.d ∧ fzA ds = true ∧ ok x ∧ ds.length = n ∧ ∀ r, res x r → ∃ d, r = .d d ∧ fz d = true ∧ P d) : EvP K c H0 (tCall (spE K n enc ok res) [] E ta) Γ P := fun σ H e R r => by
  refine ha e _ fun vs H1 ds w1 q hvs => ?_
  obtain ⟨x, hx, hf, ho, hn, hr⟩ := hq ds q
  rw [List.append_nil]
  have e1 := e.step w1
  refine ⟨(DpAll.len hvs).trans hn, none, x, by rw [hx]; exact ars_of (DpAll.ex hd_sub _ _ hvs) hf, (fun a q => by cases q), ho, fun v H' rr hF hR => ?_⟩
  obtain ⟨d, rfl, hfd, hp⟩ := hr rr hR
  have w2 : Wd c H1 H' := .ex e1.cup hF.1.toEx
  exact r v H' d (w1.trans w2) hp ((e1.step w2).hide hfd hF.2)
/-- a def with a promise of any other form: what it gives never changes -/
theorem ep_old {sp : Sp} {Qa : List PyData → Prop} (ha : EaP K c H0 ta Γ Qa) (hs : ∀ ds, Qa ds → ∀ vs H1, DpAll K H1 vs ds → ∀ R : VK, (∀ v H2 d, Ex H1 H2 → fz d = true → P d → Dp K H2 v d → R v H2) → sp vs H1 R E) : EvP K c H0 (tCall sp [] E ta) Γ P := fun σ H e R r =>
  ha e _ fun vs H1 ds w1 q hvs => by
    rw [List.append_nil]
    have e1 := e.step w1
    exact hs ds q vs H1 (DpAll.ex hd_sub _ _ hvs) _ fun v H2 d e2 hf hp hv => r v H2 d (w1.trans (.ex e1.cup e2)) hp ((e1.ex e2).hide hf hv)
theorem sg_parp {rest : TS} {N : GE → Prop} {Rt : AV → Prop} {Qa : List PyData → Prop} (h : EaP K c H0 ta Γ Qa) (hq : ∀ ds, Qa ds → ∃ d e, ds = [d, e]) (k : ∀ d e, Qa [d, e] → SG K c H0 rest ((Γ.set i (some (.d d))).set j (some (.d e))) N Rt) : SG K c H0 (tSeq (tPar i j ta) rest) Γ N Rt := fun D σ H w hn hr => h w _ fun vs H1 ds w1 q hvs => by
  obtain ⟨d, e, rfl⟩ := hq ds q
  cases hvs with
  | cons h1 h2 =>
    cases h2 with
    | cons h3 h4 =>
      cases h4
      have w' := w.step w1
      obtain ⟨a1, b1⟩ := w'.setX (i := i) h1
      obtain ⟨a2, b2⟩ := a1.setX (i := j) (Dp.ex b1 _ _ h3)
      exact ⟨_, _, rfl, k d e q D _ H1 a2 (fun σ' H' Γ' a x q => hn σ' H' Γ' a ((((hd_ex w1).trans b1).trans b2).trans x) q) hr⟩
/-! tests, drawn -/
theorem etp_B {b : Bool} (h : EvP K c H0 te Γ (· = .bool b)) : EtP K c H0 (tB te) Γ (· = b) := fun σ H e R r => h e _ fun v H2 d w q hv => by
  subst q; rw [dp_bl (Dp.ex hd_sub _ _ hv)]; exact ⟨b, rfl, r b H2 w rfl⟩
theorem etp_T {b : Bool} (h : EvP K c H0 te Γ (· = .bool b)) : EtP K c H0 (tTest te) Γ (· = b) := fun σ H e R r => h e _ fun v H2 d w q hv => by
  subst q; rw [dp_bl (Dp.ex hd_sub _ _ hv)]; exact ⟨b, rfl, r b H2 w rfl⟩
theorem etp_any (h : EvP K c H0 te Γ (fun d => ∃ b, d = .bool b)) : EtP K c H0 (tTest te) Γ (fun _ => True) := fun σ H e R r => h e _ fun v H2 d w q hv => by
  obtain ⟨b, rfl⟩ := q
  rw [dp_bl (Dp.ex hd_sub _ _ hv)]; exact ⟨b, rfl, r b H2 w trivial⟩
theorem etp_not {b : Bool} (h : EtP K c H0 tt Γ (· = b)) : EtP K c H0 (tNot tt) Γ (· = !b) := fun σ H e R r => h e _ fun b' H2 w q => r _ H2 w (by rw [q])
theorem etp_orF (h1 : EtP K c H0 tt Γ (· = false)) (h2 : EtP K c H0 tu Γ (· = false)) : EtP K c H0 (tOr tt tu) Γ (· = false) := fun σ H e R r => h1 e _ fun b H1 w1 q1 => by
  subst q1
  exact h2 (e.step w1) _ fun b H2 w2 q2 => r b H2 (w1.trans w2) q2
theorem etp_eqI {m : Int} (h : EvP K c H0 te Γ (fun d => ∃ r : Nat, d = .int (r : Int) ∧ P d)) : EtP K c H0 (tTest (tOp rEq te (tC (.int m)))) Γ (fun b => ∃ r : Nat, P (.int (r : Int)) ∧ b = decide ((r : Int) = m)) := fun σ H e R r => h e _ fun v H2 d w q hv => by
  obtain ⟨k, rfl, hp⟩ := q
  rw [dp_int (Dp.ex hd_sub _ _ hv)]
  refine ⟨rfl, _, rfl, r _ H2 w ⟨k, hp, ?_⟩⟩
  by_cases hk : (k : Int) = m
  · subst hk; simp
  · rw [decide_eq_false hk, decide_eq_false (fun x => hk (V.int.inj x))]
/-! more readings -/
theorem eh_of (h : ∀ ⦃σ : L2.St⦄ ⦃H : Hp⦄, Env K c H0 Γ σ H → EvD K te σ H d) : EvH K c H0 te Γ d := h
theorem ed_bool {σ : L2.St} {H : Hp} {b : Bool} (h : Ev te σ H (.bl b)) : EvD K te σ H (.bool b) := fun H1 a R r => h H1 a _ fun H2 e2 => r _ H2 e2 (.bl b)
theorem ed_noneV {σ : L2.St} {H : Hp} (h : Ev te σ H .non) : EvD K te σ H .none := fun H1 a R r => h H1 a _ fun H2 e2 => r _ H2 e2 .non
theorem ed_none {σ : L2.St} {H : Hp} : EvD K (tC .non) σ H .none := fun H1 _ R r => r _ H1 (Ex.refl H1) .non
theorem ed_tc {σ : L2.St} {H : Hp} {b : Bool} : EvD K (tC (.bl b)) σ H (.bool b) := fun H1 _ R r => r _ H1 (Ex.refl H1) (.bl b)
theorem ev_ofI {σ : L2.St} {H : Hp} {m : Int} (h : EvD K te σ H (.int m)) : Ev te σ H (.int m) := fun H1 a R r => h H1 a _ fun v H2 e2 hv => by rw [dp_int hv]; exact r H2 e2
theorem ev_ofB {σ : L2.St} {H : Hp} {m : Bool} (h : EvD K te σ H (.bool m)) : Ev te σ H (.bl m) := fun H1 a R r => h H1 a _ fun v H2 e2 hv => by rw [dp_bl hv]; exact r H2 e2
theorem ed_addI {σ : L2.St} {H : Hp} {a b : Int} (h1 : EvD K te σ H (.int a)) (h2 : EvD K tb σ H (.int b)) : EvD K (tOp (rI0 fun i j => .int (i + j)) te tb) σ H (.int (a + b)) := ed_ev (Evl.ev_op (ev_ofI h1) (ev_ofI h2) (Evl.rv_I0 (g := fun i j => .int (i + j))))
theorem ed_subI {σ : L2.St} {H : Hp} {a b : Int} (h1 : EvD K te σ H (.int a)) (h2 : EvD K tb σ H (.int b)) : EvD K (tOp (rI0 fun i j => .int (i - j)) te tb) σ H (.int (a - b)) := ed_ev (Evl.ev_op (ev_ofI h1) (ev_ofI h2) (Evl.rv_I0 (g := fun i j => .int (i - j))))
theorem ev_leI {σ : L2.St} {H : Hp} {a b : Int} (h1 : EvD K te σ H (.int a)) (h2 : EvD K tb σ H (.int b)) : Ev (tOp (rI0 fun i j => .bl (decide (i ≤ j))) te tb) σ H (.bl (decide (a ≤ b))) := Evl.ev_op (ev_ofI h1) (ev_ofI h2) (Evl.rv_I0 (g := fun i j => .bl (decide (i ≤ j))))
theorem ev_ltI {σ : L2.St} {H : Hp} {a b : Int} (h1 : EvD K te σ H (.int a)) (h2 : EvD K tb σ H (.int b)) : Ev (tOp (rI0 fun i j => .bl (decide (i < j))) te tb) σ H (.bl (decide (a < b))) := Evl.ev_op (ev_ofI h1) (ev_ofI h2) (Evl.rv_I0 (g := fun i j => .bl (decide (i < j))))
theorem ev_gtI {σ : L2.St} {H : Hp} {a b : Int} (h1 : EvD K te σ H (.int a)) (h2 : EvD K tb σ H (.int b)) : Ev (tOp (rI0 fun i j => .bl (decide (j < i))) te tb) σ H (.bl (decide (b < a))) := Evl.ev_op (ev_ofI h1) (ev_ofI h2) (Evl.rv_I0 (g := fun i j => .bl (decide (j < i))))
theorem ed_len {σ : L2.St} {H : Hp} (h : EvD K te σ H (.tuple ds)) : EvD K (tCB (Evl.rLenS K) (tCons te tNil)) σ H (.int (ds.length : Nat)) := ed_ev (ev_lenD h)
theorem ed_lenL {σ : L2.St} {H : Hp} (h : EvD K te σ H (.list ds)) : EvD K (tCB (Evl.rLenS K) (tCons te tNil)) σ H (.int (ds.length : Nat)) := ed_ev (ev_lenDL h)
end
end Bk

namespace Bk
open PySem PySem.Spec PyProof.Rows L2 HT
open Evl (Ex Ev EvT EvL EvU EvA)
/-! ### t[::-1], t[:0:-1] of tuples -/
theorem pick_back (xs : Array Value) (m : Nat) (hm : m ≤ xs.size) : ((List.range m).filterMap fun (k : Nat) => xs[(((xs.size : Int) - 1) + (k : Int) * (-1)).toNat]?) = (xs.toList.drop (xs.size - m)).reverse := by
  induction m with
  | zero => simp
  | succ m ih =>
    rw [List.range_succ, List.filterMap_append, ih (by omega)]
    have e1 : (((xs.size : Int) - 1) + (m : Int) * (-1)).toNat = xs.size - (m + 1) := by omega
    have e2 : xs.toList.drop (xs.size - (m + 1)) = xs.toList[xs.size - (m + 1)]'(by rw [Array.length_toList]; omega) :: xs.toList.drop (xs.size - m) := by
      rw [List.drop_eq_getElem_cons (by rw [Array.length_toList]; omega)]
      congr 2
      omega
    rw [e2, List.reverse_cons]
    simp only [List.filterMap_cons, List.filterMap_nil, e1]
    rw [Array.getElem?_eq_getElem (show xs.size - (m + 1) < xs.size by omega)]
    simp
section
variable {prog : Program} {w : World} {A : Around} {E : Value → Shared → Prop} {s : Shared}
theorem sliceApplied_back {sl : Addr} {vl vu vs : Value} {hi : Option Int} {n m : Nat} {Q : Int × Int × Nat → Shared → Prop} (hs : s.heap.IsSliceOf sl vl vu vs) (pl : IsPart vl none) (pu : IsPart vu hi) (ps : IsPart vs (some (-1)))
    (hm : (hi = none ∧ m = n) ∨ (hi = some 0 ∧ m = n - 1)) (h : Q ((n : Int) - 1, -1, m) s) : wpAny (model prog w) A (Builtin.Slice.sliceApplied (.ref sl) (pure (n : Int))) Q E s := by
  obtain ⟨os, hos, hcs, hds⟩ := id hs
  unfold Builtin.Slice.sliceApplied Builtin.Slice.sliceFields
  refine wpAny_bind (wpAny_bind (wpAny_field hos hds (x := vl) rfl (wpAny_bind (wpAny_field hos hds (x := vu) rfl (wpAny_bind (wpAny_field hos hds (x := vs) rfl (wpAny_pure ?_)))))))
  refine wpAny_bind (slicePart_ ps ?_)
  show wpAny _ _ (if ((-1 : Int) == 0) = true then _ else _) _ _ s
  rw [if_neg (by decide)]
  refine wpAny_bind (slicePart_ pl (wpAny_bind (slicePart_ pu (wpAny_bind (wpAny_pure ?_)))))
  have e : ∃ b, Builtin.Slice.sliceAdjust none hi (-1) (n : Int) = ((n : Int) - 1, b) ∧ Builtin.Slice.slicePlaces ((n : Int) - 1) b (-1) = m := by
    rcases hm with ⟨rfl, rfl⟩ | ⟨rfl, rfl⟩
    · refine ⟨-1, by unfold Builtin.Slice.sliceAdjust; simp, ?_⟩
      unfold Builtin.Slice.slicePlaces
      simp
      split <;> omega
    · refine ⟨min 0 ((n : Int) - 1), by unfold Builtin.Slice.sliceAdjust; simp, ?_⟩
      unfold Builtin.Slice.slicePlaces
      simp
      split <;> omega
  obtain ⟨b, e1, e2⟩ := e
  show wpAny _ _ (match Builtin.Slice.sliceAdjust none hi (-1) (n : Int) with | (lo, hi) => pure (lo, (-1 : Int), Builtin.Slice.slicePlaces lo hi (-1))) _ _ s
  rw [e1]
  show wpAny _ _ (pure ((n : Int) - 1, (-1 : Int), Builtin.Slice.slicePlaces ((n : Int) - 1) b (-1))) _ _ s
  rw [e2]
  exact wpAny_pure h
theorem getItem_tuple_back {t sl : Addr} {items : Array Value} {vl vu vs : Value} {hi : Option Int} {m : Nat} {Q : Value → Shared → Prop} (ht : IsTup s.heap t items) (hs : s.heap.IsSliceOf sl vl vu vs) (pl : IsPart vl none) (pu : IsPart vu hi) (ps : IsPart vs (some (-1)))
    (hm : (hi = none ∧ m = items.size) ∨ (hi = some 0 ∧ m = items.size - 1))
    (h : Q (.ref s.heap.objs.size) { s with heap := s.heap.push { cls := .type "tuple", data := .seq (items.toList.drop (items.size - m)).reverse.toArray } })
    (hsz : items.size ≤ sizeLine) : wpAny (model prog w) A (getItem (.ref t) (.ref sl)) Q E s := by
  have hmn : m ≤ items.size := by rcases hm with ⟨_, h⟩ | ⟨_, h⟩ <;> omega
  have htake : sizeOk (.seq (items.toList.drop (items.size - m)).reverse.toArray) := by
    show (items.toList.drop (items.size - m)).reverse.toArray.size ≤ sizeLine
    rw [List.size_toArray, List.length_reverse, List.length_drop, Array.length_toList]
    omega
  obtain ⟨os, hos, hcs, hds⟩ := id hs
  have hTs : s.TypeIs (.ref sl) "slice" := ⟨os, hos, hcs⟩
  unfold getItem
  try with_reducible refine wpAny_holding ?_
  first | refine wpAny_bind (wpAny_pure ?_) | skip
  refine wpAny_bind (wpAny_sequenceKey ht.typeIs (by decide) ?_)
  refine wpAny_bind (wpAny_callSpecial?_slot (name := Str.ofString "__getitem__") ht.typeIs PyProof.Rows.slot_tuple_getitem
    (wpAny_call_entry PyProof.Rows.slot_tuple_getitem ht.typeIs entry_tuple_getitem ?_ (args_tuple_getitem _ _)))
  show wpAny _ _ (Builtin.Tuple.tupleItemsOf (.ref t) >>= _) _ _ s
  refine wpAny_bind (tupleItemsOf_ ht ?_)
  refine wpAny_bind (wpAny_typeOf hTs ?_)
  rw [if_pos (by decide)]
  refine wpAny_bind (sliceApplied_back hs pl pu ps hm ?_)
  have hno : ¬ ((((items.size : Int) - 1) == 0 && (-1 : Int) == 1 && m == items.size) = true) := by simp
  show wpAny _ _ (if (((items.size : Int) - 1) == 0 && (-1 : Int) == 1 && m == items.size) = true then _ else _) _ _ s
  rw [if_neg hno, pick_back items m hmn]
  first
    | exact wpAny_bind (m := Builtin.Tuple.tupleExact _) (wpAny_newObj_type (wpAny_pure ⟨_, rfl, wpAny_pure h⟩) htake)
    | exact wpAny_bind (m := Builtin.Tuple.tupleExact _) (wpAny_newObj_type (wpAny_bind (wpAny_pure (wpAny_pure ⟨_, rfl, wpAny_pure h⟩))) htake)
    | exact wpAny_bind (wpAny_bind (m := Builtin.Tuple.tupleExact _) (wpAny_newObj_type (wpAny_pure (wpAny_pure ⟨_, rfl, wpAny_pure h⟩)) htake))
    | exact wpAny_bind (wpAny_bind (m := Builtin.Tuple.tupleExact _) (wpAny_newObj_type (wpAny_pure ⟨_, rfl, wpAny_pure h⟩) htake))
end
section
variable {X : Cx}
/-- the items of t[::-1] (hi none), of t[:0:-1] -/
def backV (xs : List V) (hi : Option Int) : List V := if hi = none then xs.reverse else (xs.drop 1).reverse
def tBackT (K : PySem.W.Frag) (te : TE) (hi : Option Int) : TE := fun σ H Q => te σ H fun x H1 => ∃ a xs, x = .ref a ∧ SqT K H1 a xs ∧ ∀ p, H1 p = none → Q (.ref p) (upd H1 p (.tup (backV xs hi)))
theorem back_core {e : Expr} {te : TE} {k : Nat} {hix : Option Expr} {hi : Option Int} {th : TO} {p1 p2 p3 pos : Pos} (he : PE X e te) (hh : PO X hix th) (hth : ∀ σ H, th σ H (fun o H2 => o = hi ∧ H2 = H)) (hhi : hi = none ∨ hi = some 0)
    (hops : ∀ (a sl : Addr), subscripted (.Slice none hix (some (.UnaryOp .USub (.Constant (.int 1) k p1) p2)) p3) false (.ref a) (.ref sl) = operate [.ref a, .ref sl] (getItem (.ref a) (.ref sl))) :
    PE X (.Subscript e (.Slice none hix (some (.UnaryOp .USub (.Constant (.int 1) k p1) p2)) p3) pos) (tBackT X.K te hi) := by
  refine ⟨fun pins s σ H Q I h => ?_⟩
  refine Subscript_ (thn (he.run pins s σ H _ I h) fun v s1 ⟨x, H1, I1, r1, q1⟩ => ?_)
  obtain ⟨a, xs, ex, hx, q⟩ := q1
  subst ex
  cases r1
  have hst : PO X (some (.UnaryOp .USub (.Constant (.int 1) k p1) p2)) (tPart (tUn (rU fun i => .int (-i)) (tC (.int 1)))) := po_some (pe_un un_neg pe_int)
  refine wpAny_Slice (thn (po_none.run pins s1 σ H1 (fun o H2 => o = none ∧ H2 = H1) I1 ⟨rfl, rfl⟩) fun vl s2 ⟨l, H2, I2, pl, el, e2⟩ => ?_)
  subst el e2
  refine thn (hh.run pins s2 σ H2 (fun o H3 => o = hi ∧ H3 = H2) I2 (hth σ H2)) fun vu s3 ⟨u, H3, I3, pu, eu, e3⟩ => ?_
  subst eu e3
  refine thn (hst.run pins s3 σ H3 (fun o H4 => o = some (-1) ∧ H4 = H3) I3 ⟨1, rfl, -1, rfl, rfl, rfl⟩) fun vs s4 ⟨o, H4, I4, ps, eo, e4⟩ => ?_
  subst eo e4
  have I5 : Inv X pins σ H4 { s4 with heap := s4.heap.push { cls := .type "slice", data := .fields #[vl, vu, vs] } } := I4.kept (t' := s4.toks) fun b ob q => Heap.get?_push_of_some _ q
  obtain ⟨its, r, ht, hz⟩ := I5.tuple hx
  have hlen := r.length
  have hsz : its.toArray.size = xs.length := by rw [List.size_toArray]; exact hlen.symm
  show wpAny (model X.prog X.w) X.A (subscriptTail e (.Slice none hix (some (.UnaryOp .USub (.Constant (.int 1) k p1) p2)) p3) (.ref a) (.ref s4.heap.objs.size)) (EP X pins σ Q) X.xe { s4 with heap := s4.heap.push { cls := .type "slice", data := .fields #[vl, vu, vs] } }
  refine tail_any (ops := [.ref a, .ref s4.heap.objs.size]) ht.typeIs (PyProof.Rows.slot_tuple_getitem.lookup) ?_ (hops _ _)
  have key : ∀ m, (u = none ∧ m = its.toArray.size) ∨ (u = some 0 ∧ m = its.toArray.size - 1) → (its.toArray.toList.drop (its.toArray.size - m)).reverse = (if u = none then its.reverse else (its.drop 1).reverse) := by
    intro m hm
    rcases hm with ⟨rfl, rfl⟩ | ⟨rfl, rfl⟩
    · simp
    · rw [if_neg (by simp)]
      have hd : its.drop (its.length - (its.length - 1)) = its.drop 1 := by
        cases its with
        | nil => rfl
        | cons y l => congr 1; simp
      simpa using hd
  have fin : ∀ m, (u = none ∧ m = its.toArray.size) ∨ (u = some 0 ∧ m = its.toArray.size - 1) → wpAny (model X.prog X.w) X.A (getItem (.ref a) (.ref s4.heap.objs.size)) (EP X pins σ Q) X.xe { s4 with heap := s4.heap.push { cls := .type "slice", data := .fields #[vl, vu, vs] } } := fun m hm => by
    refine getItem_tuple_back ht (Heap.IsSliceOf.new _ vl vu vs) pl pu ps hm ?_ (by rw [hsz]; exact hz)
    rw [key m hm]
    refine ⟨.ref _, _, I5.laid (t' := s4.toks) (o := .tup (backV xs u)) (fun b ob q => Heap.get?_push_of_some _ q) (Nat.le_refl _) ?_, rfl, q _ (I5.hok.fresh (Nat.le_refl _))⟩
    have hv : Vals (backV xs u) (if u = none then its.reverse else (its.drop 1).reverse) := by
      unfold backV
      by_cases hu : u = none
      · rw [if_pos hu, if_pos hu]; exact r.reverse
      · rw [if_neg hu, if_neg hu]
        exact (Vals.drop 1 r).reverse
    have hl2 : (backV xs u).length ≤ sizeLine := by
      unfold backV
      split
      · rw [List.length_reverse]; exact hz
      · rw [List.length_reverse, List.length_drop]; omega
    first
      | exact ⟨hl2, _, 0, hv, Heap.get?_push_size _ rfl⟩
      | exact ⟨hl2, _, hv, Heap.get?_push_size _ rfl⟩
      | exact ⟨hl2, _, hv, _, Heap.get?_push_size _ rfl, rfl, _, rfl⟩
  rcases hhi with h0 | h0
  · exact fin _ (.inl ⟨h0, rfl⟩)
  · exact fin _ (.inr ⟨h0, rfl⟩)
theorem pe_revT {e : Expr} {te : TE} {k : Nat} {p1 p2 p3 pos : Pos} (he : PE X e te) : PE X (.Subscript e (.Slice none none (some (.UnaryOp .USub (.Constant (.int 1) k p1) p2)) p3) pos) (tBackT X.K te none) :=
  back_core he po_none (fun σ H => ⟨rfl, rfl⟩) (.inl rfl) (fun _ _ => by with_unfolding_all rfl)
theorem pe_rev1T {e : Expr} {te : TE} {k j : Nat} {p1 p2 p3 p4 pos : Pos} (he : PE X e te) : PE X (.Subscript e (.Slice none (some (.Constant (.int 0) j p4)) (some (.UnaryOp .USub (.Constant (.int 1) k p1) p2)) p3) pos) (tBackT X.K te (some 0)) :=
  back_core he (po_some pe_int) (fun σ H => ⟨0, rfl, rfl, rfl⟩) (.inr rfl) (fun _ _ => by with_unfolding_all rfl)
end
section
variable {K : PySem.W.Frag} {σ : L2.St} {H : Hp} {te : TE} {ds : List PyData}
theorem DpAll.rev {vs : List V} (h : DpAll K H vs ds) : DpAll K H vs.reverse ds.reverse := by
  induction ds generalizing vs with
  | nil => cases h; exact .nil
  | cons d l ih =>
    cases h with
    | cons h1 h2 => rw [List.reverse_cons, List.reverse_cons]; exact DpAll.app (ih h2) (.cons h1 .nil)
theorem ed_revT (h : EvD K te σ H (.tuple ds)) : EvD K (tBackT K te none) σ H (.tuple ds.reverse) := fun H1 a R r => h H1 a _ fun v H2 e2 hv => by
  obtain ⟨p, xs, rfl, hxs, hxa⟩ := dp_tup hv
  exact ⟨p, xs, rfl, hxs, fun q hq => r _ _ (e2.trans (ex_new hq)) (.tup (SqT.of upd_same) (DpAll.ex (ex_new hq) _ _ (DpAll.rev hxa)))⟩
theorem ed_rev1T (h : EvD K te σ H (.tuple ds)) : EvD K (tBackT K te (some 0)) σ H (.tuple (ds.drop 1).reverse) := fun H1 a R r => h H1 a _ fun v H2 e2 hv => by
  obtain ⟨p, xs, rfl, hxs, hxa⟩ := dp_tup hv
  exact ⟨p, xs, rfl, hxs, fun q hq => r _ _ (e2.trans (ex_new hq)) (.tup (SqT.of upd_same) (DpAll.ex (ex_new hq) _ _ (DpAll.rev (DpAll.drop 1 hxa))))⟩
end
end Bk

namespace Bk
open PySem PySem.Spec PyProof.Rows L2
open Evl (Ex Ev EvT EvL EvU EvA)
/-! ### defs that are called where no text is being shown (for repr) -/
structure FnG (P : Program) (w : World) (K : PySem.W.Frag) (mg : Str → Option Value) (base : Heap) (CX : CXT) (k : Nat) (f : Addr) (fd : FuncData) (ps : List Str) (sp : Sp) : Prop where
  len : ∀ vs H Q E, sp vs H Q E → vs.length = ps.length
  run : ∀ (A : Around) (outer : List PySem.Env) (s : Shared) (H : Hp) (args : Args) (us : List Value) (vs : List V) (Q : VK) (E : XK), A.guards = some [] → Room k A → Env0 P w K mg base A outer s H → BindsTo s fd args (ps.zip us) → Vals vs us → sp vs H Q E →
    codeAny (model P w) A (.call (.ref f) args) (CR CX outer P w H s Q E) s
section
variable {P : Program} {w : World} {K : PySem.W.Frag} {mg : Str → Option Value} {base : Heap} {CX : CXT}
theorem FnOk.toG {k : Nat} {f : Addr} {fd : FuncData} {ps : List Str} {sp : Sp} (F : FnOk P w K mg base CX k f fd ps sp) : FnG P w K mg base CX k f fd ps sp := ⟨F.len, fun A o s H a us vs Q E _ => F.run A o s H a us vs Q E⟩
theorem FnG.mono {j k : Nat} {f : Addr} {fd : FuncData} {ps : List Str} {sp : Sp} (F : FnG P w K mg base CX j f fd ps sp) (h : j ≤ k) : FnG P w K mg base CX k f fd ps sp := ⟨F.len, fun A o s H a us vs Q E g hr => F.run A o s H a us vs Q E g (hr.mono h)⟩
theorem fnG_of {k : Nat} {f : Addr} {name qual : Str} {params : Arguments} {body : List Stmt} {scope : Scope} {dV kV doc pm cdv ct oc : Value} {an od : Option Addr}
    {osl : Array (Option Value)} {N ps : List Str} {sp : Sp} (lk : K.lookup f = some ⟨oc, od, .func (PySem.W.fnOf name qual params body scope dV kV doc pm an cdv ct), osl⟩) (hcd : PySem.W.codeIn K cdv qual = true) (S : FnScope N ps scope)
    (len : ∀ vs H Q E, sp vs H Q E → vs.length = ps.length)
    (hbody : ∀ (A : Around) (outer : List PySem.Env) (s : Shared) (H : Hp) (vs : List V) (Q : VK) (E : XK), (A.deeper (envOfC qual scope s.heap.objs.size f cdv)).guards = some [] → Room k (A.deeper (envOfC qual scope s.heap.objs.size f cdv)) → sp vs H Q E →
      ∃ t, PSs (cxOf CX P w K mg base N qual scope f cdv A outer s H E) body t ∧ t { nx := fun _ H' => Q .non H', rt := Q } (L2.start N vs) H) :
    FnG P w K mg base CX (k + 1) f (PySem.W.fnOf name qual params body scope dV kV doc pm an cdv ct) ps sp := ⟨len, fun A outer s H args us vs Q E hgd hr e0 hb r hsp => by
  have KX : K.In s.heap := e0.mod.kin.keeps fun b o e => (e0.bs b o e).1
  have lim : s.heap.NoLimit := e0.mod.nolimit.keeps fun b o e => (e0.bs b o e).1
  have vis : ∀ y ∈ ps.zip us, scope.names.lookup y.1 = some .local ∨ (scope.names.lookup y.1 = some .cell ∧ ((cellsFrom (s.heap.objs.size + 1) scope.names []).lookup y.1).isSome = true) := by
    rintro ⟨n, v⟩ hy
    rcases S.par n (List.of_mem_zip hy).1 with q | q
    · exact .inl q
    · exact .inr ⟨q, PySem.W.cellsFrom_some _ _ _ (.inl q)⟩
  refine codeAny_call_function hr.depth (KX _ _ lk) rfl S.co S.gen rfl (PySem.W.codeRec_of KX hcd) (hb _ _ _ _ (wpAny_newFunctionEnv_cells S.kind vis fun env he s1 x => ?_))
  subst he
  obtain ⟨t, ht, hq⟩ := hbody A outer s H vs Q E hgd (hr.deeper _) hsp
  refine ⟨lim.keeps x.toInCall.keep, codeAny_func (wpAny_mono (ht.run [] s1 (L2.start N vs) H _ (inv_start S hr.hd e0 (len _ _ _ _ hsp) r x) hq) (fun fl s' hs => ?_) fun e s' hs => hs)⟩
  have fin : ∀ {σ' : L2.St} {H' : Hp} {v : V} {u : Value}, Inv (cxOf CX P w K mg base N qual scope f cdv A outer s H E) [] σ' H' s' → RelV v u → Q v H' → CE outer P w H s Q u s' := fun {σ' H' v u} J rv q => ⟨v, H', J.os, J.bare, J.base, J.hok, rv, q⟩
  cases fl with
  | ret u => obtain ⟨v, σ', H', J, rv, q⟩ := hs; exact fin J rv q
  | next => obtain ⟨σ', H', J, q⟩ := hs; exact fin (v := V.non) (u := Value.none) J rfl q
  | brk => obtain ⟨_, _, _, q⟩ := hs; exact False.elim q
  | cont => obtain ⟨_, _, _, q⟩ := hs; exact False.elim q⟩
/-- the rule for a def, as Fun.ok -/
theorem Fun.okg {x qual : Str} {st : Stmt} {f : Addr} {fd : FuncData} {N ps : List Str} {k : Nat} {sp : Sp} (F : Fun K x qual st f fd) (S : FnScope N ps (defScope st)) (len : ∀ vs H Q E, sp vs H Q E → vs.length = ps.length)
    (hbody : ∀ (cdv : Value) (A : Around) (outer : List PySem.Env) (s : Shared) (H : Hp) (vs : List V) (Q : VK) (E : XK), (A.deeper (envOfC qual (defScope st) s.heap.objs.size f cdv)).guards = some [] → Room k (A.deeper (envOfC qual (defScope st) s.heap.objs.size f cdv)) → sp vs H Q E →
      ∃ t, PSs (cxOf CX0 P w K mg base N qual (defScope st) f cdv A outer s H E).nox (defBody st) t ∧ t { nx := fun _ H' => Q .non H', rt := Q } (L2.start N vs) H) : FnG P w K mg base CX0 (k + 1) f fd ps sp := by
  obtain ⟨oc, od, kV, doc, pm, an, cdv, ct, osl, rfl, lk, hcd⟩ := F.ex
  refine fnG_of lk hcd S len fun A outer s H vs Q E hg hr hsp => ?_
  obtain ⟨t, h, q⟩ := hbody cdv A outer s H vs Q E hg hr hsp
  exact ⟨t, h.nox, q⟩
end
section
variable {X : Cx} {CX : CXT} {k : Nat} {f : Addr} {fd : FuncData} {ps : List Str} {sp : Sp} {dvs : List V} {ds : List Value} {E : XK} {x : Str} {p pos : Pos} {e : Expr} {es : List Expr} {t : TA}
theorem pe_callG (F : FnG X.prog X.w X.K X.mg X.base CX k f fd ps sp) (hgd : X.A.guards = some []) (hr : Room k X.A) (hg : Gl X x) (hm : X.mg x = some (.ref f)) (hk : PySem.W.keepIn X.K (.ref f) = true) (hb : Binds X.K fd ps ds) (hd : Vals dvs ds) (hx : Passes CX X E)
    (ha : PA X (e :: es) t) (hdb : (x == ("__debug__" : Str)) = false := by decide) (he : starEach (e :: es) X.env = (false, eval e X.env) :: starEach es X.env := by rfl) (hpl : (backTo pos (starEach es X.env)).any (·.1) = false := by rfl) :
    PE X (.Call (.Name x p) (e :: es) [] pos) (tCall sp dvs E t) := ⟨fun pins s σ H Q I h => wpAny_Call_Name_kw (ld_glob I hg hm (PySem.W.callWith_K (h₀ := X.base) I.ok.mod.kin hk (thn (ha.run pos pins s σ H _ I h) fun us s1 ⟨vs, H1, I1, r, q⟩ => ⟨I1.kIn, by
  have r2 : Vals (vs ++ dvs) (us ++ ds) := r.append hd
  have hl : (us ++ ds).length = ps.length := by rw [← r2.length]; exact F.len _ _ _ _ q
  refine wpAny_call (codeAny_mono (F.run X.A X.stack s1 H1 ⟨us, []⟩ (us ++ ds) (vs ++ dvs) Q E hgd hr I1.env0 (hb s1 us I1.kIn hl) r2 q) fun r s' hq => ?_)
  cases r with
  | error e => exact hx pins σ H1 s1 e s' I1 hq
  | ok fl =>
    cases fl with
    | ret u => exact I1.after hq
    | next => exact False.elim hq
    | brk => exact False.elim hq
    | cont => exact False.elim hq⟩) he hpl) hdb)⟩
/-- repr(x) of data: its text -/
def rReprD (K : PySem.W.Frag) : List V → Hp → VK → Prop := fun xs H Q => (∃ (v : V) (d : PyData), xs = [v] ∧ Dp K H v d ∧ d.showable = true ∧ d.hasDict = false ∧ d.depth ≤ 60 ∧ d.shown.length ≤ sizeLine ∧ (∃ a, v = .ref a) ∧ Q (.str d.shown) H) ∨ (∃ b : Bool, xs = [.bl b] ∧ Q (.str (if b then "True" else "False")) H) ∨ (xs = [.non] ∧ Q (.str "None") H)
theorem call_reprD (hgd : X.A.guards = some []) (hu : X.A.units + 64 < cLine) : CallR X (.builtin "repr") (rReprD X.K) := by
  intro pins s σ H xs us Q I r h
  rcases h with ⟨v, d, rfl, hv, hs, hd, h60, hz, ⟨a, rfl⟩, q⟩ | ⟨b, rfl, q⟩ | ⟨rfl, q⟩
  rotate_left
  · obtain ⟨u, rfl, ru⟩ := r.one
    cases ru
    exact PySem.P.repr_of_bool ⟨.str _, H, I.tok _, ⟨_, rfl⟩, q⟩
  · obtain ⟨u, rfl, ru⟩ := r.one
    cases ru
    exact PySem.P.repr_of_none ⟨.str _, H, I.tok _, ⟨_, rfl⟩, q⟩
  obtain ⟨u, rfl, ru⟩ := r.one
  cases ru
  obtain ⟨as, rd⟩ := Dp.reads I d _ _ hv rfl
  refine repr_of_reads' rd hs (fun z => by rw [hd] at z; cases z) hgd (by omega) (fun _ _ e => e) (fun h' u tk hk => ?_) hz
  exact ⟨.str d.shown, H, I.kept (t' := tk) (fun b o e => hk b o e), ⟨u, rfl⟩, q⟩
end
end Bk

namespace Bk
open PySem PySem.Spec PyProof.Rows L2
/-- the heap in which nothing but the script at a is told -/
def scriptHp (a : Addr) (ob : Obj) (xs : List V) : Hp := fun b => if b = a then some (.frz ob (.lst xs)) else none
/-- the law's call, its def promised where no text is being shown -/
theorem law_runG {P : Program} {w : World} {K : PySem.W.Frag} {mg mb : Str → Option Value} {k : Nat} {fa a : Addr} {fd : FuncData} {x : Str} {sp : Sp} {s₁ : Shared} {vs : List Value} {H : Hp}
    (KX : K.In s₁.heap) (hns : s₁.heap.Ns mainGlobals mg) (hb : s₁.heap.Ns builtinsNs mb) (hbb : ∀ x : Str, x ≠ "__name__" → mb x = bootBuiltins x) (hlim : s₁.heap.NoLimit) (hg : s₁.gens = #[])
    (ha : s₁.heap.get? a = some { cls := .type "list", data := .seq vs.toArray }) (hr : Room k callerA)
    (F : ∀ base : Heap, K.In base → base.Ns mainGlobals mg → FnG P w K mg base CX0 k fa fd [x] sp) (hbind : ∀ (s : Shared) (u : Value), BindsTo s fd ⟨[u], []⟩ [(x, u)])
    (hO : Only H) (hok : HOk P w H s₁.heap) (hA : ∀ b, H b ≠ none → b = a) (hK : H a ≠ none → K.lookup a = none)
    (hsp : sp [.ref a] H (fun v _ => v = .bl true) fun _ _ _ => False) :
    codeAny (model P w) callerA (.call (.ref fa) ⟨[.ref a], []⟩) (fun r s' => r = .ok (.ret (.bool true)) ∧ OldK s₁.heap s'.heap ∧ s'.os = s₁.os ∧ AllBare s'.gens) s₁ := by
  have keepT : ∀ {b : Addr} {o : Obj}, s₁.heap.get? b = some o → H b = none → (hidT s₁.heap H).get? b = some o := fun e n => hidT_get e n
  have dictNone : ∀ {b : Addr} {o : Obj} {es : Array DictEntry} {ep : Nat}, s₁.heap.get? b = some o → o.data = .dict es ep → H b = none := by
    intro b o es ep e d
    by_cases q : H b = none
    · exact q
    · have hba := hA b q
      rw [hba, ha] at e
      have eo := Option.some.inj e
      rw [← eo] at d
      cases (show Data.seq vs.toArray _ = Data.dict es ep from d)
  have nsT : ∀ {b : Addr} {m : Str → Option Value}, s₁.heap.Ns b m → (hidT s₁.heap H).Ns b m := fun {b m} h => let ⟨o, es, ep, e, d, r⟩ := h; ⟨o, es, ep, keepT e (dictNone e d), d, r⟩
  have inT : K.In (hidT s₁.heap H) := by
    intro b o e
    refine keepT (KX b o e) ?_
    by_cases q : H b = none
    · exact q
    · have hba := hA b q
      rw [hba] at e q
      rw [hK q] at e
      cases e
  have modT : Mod K mg (hidT s₁.heap H) := ⟨inT, nsT hns, ⟨mb, nsT hb, hbb⟩, let ⟨mc, h1, h2⟩ := hlim; ⟨mc, nsT h1, h2⟩⟩
  have env : Env0 P w K mg (hidT s₁.heap H) callerA [] s₁ H := { frames := rfl, mod := modT, bs := fun b o e => of_hidT e, bsz := Nat.le_of_eq (hidT_size _ _), funs := trivial, frf := fun b h => absurd (show b ∈ ([] : List Addr) from h) (by simp), hok := hok, bare := .of_eq hg }
  have run := (F _ inT (nsT hns)).run callerA [] s₁ H ⟨[.ref a], []⟩ [.ref a] [.ref a] (fun v _ => v = .bl true) (fun _ _ _ => False) rfl hr env (hbind s₁ (.ref a)) (.cons rfl .nil) hsp
  refine codeAny_mono run fun r s' h => ?_
  match r, h with
  | .error e, h => exact (show False from h).elim
  | .ok .next, h => exact False.elim h
  | .ok .brk, h => exact False.elim h
  | .ok .cont, h => exact False.elim h
  | .ok (.ret u), ⟨v, H', os, bare, un, hok', rv, q⟩ =>
    have hv : v = .bl true := q
    rw [hv] at rv
    have hu : u = Value.bool true := rv
    rw [hu]
    refine ⟨rfl, OldK.of_keep fun b o e => ?_, os, bare⟩
    by_cases q : H b = none
    · exact un.keep b o e q (fun z => absurd (show b ∈ ([] : List Addr) from z) (by simp)) (by simp)
    · rcases hO b with z | ⟨ob, xs, z⟩
      · exact absurd z q
      · obtain ⟨e1, _⟩ := hok b _ z
        obtain ⟨e2, _⟩ := hok' b _ (un.frzs b ob _ z)
        rw [e] at e1
        rw [e2, ← Option.some.inj e1]
theorem law_callG {P : Program} {w : World} {K : PySem.W.Frag} {mg mb : Str → Option Value} {k : Nat} {fa a : Addr} {fd : FuncData} {x : Str} {sp : Sp} {s₁ : Shared} {vs : List Value} {ns : List Int}
    (KX : K.In s₁.heap) (hns : s₁.heap.Ns mainGlobals mg) (hb : s₁.heap.Ns builtinsNs mb) (hbb : ∀ x : Str, x ≠ "__name__" → mb x = bootBuiltins x) (hlim : s₁.heap.NoLimit) (hg : s₁.gens = #[])
    (ha : s₁.heap.get? a = some { cls := .type "list", data := .seq vs.toArray }) (hi : IntsAre vs ns) (hl : ns.length ≤ sizeLine) (hr : Room k callerA)
    (F : ∀ base : Heap, K.In base → base.Ns mainGlobals mg → FnG P w K mg base CX0 k fa fd [x] sp) (hbind : ∀ (s : Shared) (u : Value), BindsTo s fd ⟨[u], []⟩ [(x, u)])
    (hsp : ∀ H : Hp, Only H → SqL K H a (ns.map V.int) → sp [.ref a] H (fun v _ => v = .bl true) fun _ _ _ => False) :
    codeAny (model P w) callerA (.call (.ref fa) ⟨[.ref a], []⟩) (fun r s' => r = .ok (.ret (.bool true)) ∧ OldK s₁.heap s'.heap ∧ s'.os = s₁.os ∧ AllBare s'.gens) s₁ := by
  have rv := vals_ints hi
  have hlv : vs.length = ns.length := hi.length
  by_cases hk : K.lookup a = none
  · have h1 : scriptHp a { cls := .type "list", data := .seq vs.toArray } (ns.map V.int) a = some (.frz { cls := .type "list", data := .seq vs.toArray } (.lst (ns.map V.int))) := if_pos rfl
    have hO : Only (scriptHp a { cls := .type "list", data := .seq vs.toArray } (ns.map V.int)) := fun b => by
      by_cases hba : b = a
      · exact .inr ⟨_, _, by rw [hba]; exact h1⟩
      · exact .inl (if_neg hba)
    refine law_runG KX hns hb hbb hlim hg ha hr F hbind hO (fun b u z => ?_) (fun b z => ?_) (fun _ => hk) (hsp _ hO (.inl (.inr ⟨_, h1⟩)))
    · by_cases hba : b = a
      · have z' := (show scriptHp a _ _ b = _ from if_pos hba).symm.trans z
        cases z'
        rw [hba]
        exact ⟨ha, by rw [List.length_map]; exact hl, vs, _, rv, ha⟩
      · have z' := (show scriptHp a _ _ b = none from if_neg hba).symm.trans z
        cases z'
    · by_cases hba : b = a
      · exact hba
      · exact absurd (if_neg hba) z
  · obtain ⟨o, ho⟩ := Option.ne_none_iff_exists'.mp hk
    have e := KX a o ho
    rw [ha] at e
    have e' := Option.some.inj e
    subst e'
    exact law_runG (H := fun _ => none) KX hns hb hbb hlim hg ha hr F hbind (fun _ => .inl rfl) (fun b u z => (by cases (show (none : Option HO) = some u from z))) (fun b z => absurd rfl z) (fun z => absurd rfl z) (hsp _ (fun _ => .inl rfl) (.inr ⟨_, vs.toArray, _, ho, rfl, rfl, rfl, by rw [List.size_toArray, hlv]; exact hl, by simpa using rv⟩))
end Bk
namespace PySem.W
open PySem PySem.Spec PyProof.Rows
theorem walk_ofBG {l : PySem.W.OpenLaw} {n k : Nat} {q : Program} {loose : List Str} {XP : (Str → Option Value) → Heap → Prop} {YP : World → Heap → Prop} {d : DefRec} {K : Params → PySem.W.Frag} {CX : World → L2.CXT} {sp : World → L2.Sp} {x : Str}
    (hn : l.most = some n) (hn2 : n ≤ sizeLine) (hdf : d.params.defaults = []) (hr : L2.Room k callerA)
    (hY : ∀ (w : World) (h : Heap), YP w h → (K w.params).In h)
    (F : ∀ (w : World) (mg : Str → Option Value) (fa : Addr) (h : Heap), (K w.params).In h → h.Ns mainGlobals mg → mg d.name = some (.ref fa) →
      ∃ fd : FuncData, (∀ (s : Shared) (u : Value), BindsTo s fd ⟨[u], []⟩ [(x, u)]) ∧
        ∀ base : Heap, (K w.params).In base → base.Ns mainGlobals mg → Bk.FnG l.prog w (K w.params) mg base L2.CX0 k fa fd [x] (sp w))
    (hsp : ∀ (w : World) (H : L2.Hp) (a : Addr) (ns : List Int), ns.length ≤ n → (∀ z ∈ ns, Builtin.Int.intBits z ≤ 1048576) → L2.Only H → L2.SqL (K w.params) H a (ns.map L2.V.int) → sp w [.ref a] H (fun v _ => v = .bl true) fun _ _ _ => False) :
    PySem.W.WalkO q loose XP YP l.row.toRowW d [] (fun f vs => PySem.call f vs) :=
  Att.attach_callB hn hdf fun w s₀ s₁ mg mb fa o pm cd doc a vs ns G Y ho hd hcd hmg hobj hints hlen hbits hg => by
    obtain ⟨fd, hb, hF⟩ := F w mg fa s₁.heap (hY w s₁.heap Y) G.T.g hmg
    exact Bk.law_callG (hY w s₁.heap Y) G.T.g G.T.b G.T.builtins G.T.nolimit hg hobj hints (Nat.le_trans hlen hn2) hr hF hb fun H hO hS => hsp w H a ns hlen hbits hO hS
end PySem.W

namespace Bk
open PySem PySem.Spec PyProof.Rows L2
open Evl (Ex Ev EvT EvL EvU EvA)
/-! ### d[r], r in d: r a tuple of ints that is known as data -/
/-- what a dict with roads as keys has at a road that is told by y -/
def RGet (K : PySem.W.Frag) (H : Hp) (a : Addr) (y : V) (o : Option V) : Prop := ∃ (kvs : List (List Key × V)) (k : List Key) (b : Addr), H a = some (.dT kvs) ∧ y = .ref b ∧ SqT K H b (k.map kV) ∧ o = valV kvs k
def tRGet (K : PySem.W.Frag) (td ty : TE) : TE := fun σ H Q => td σ H fun x H1 => ty σ H1 fun y H2 => ∃ a v, x = .ref a ∧ RGet K H2 a y (some v) ∧ Q v H2
def rRIn (K : PySem.W.Frag) (neg : Bool) : R2 := fun y x H Q => ∃ a o, x = .ref a ∧ RGet K H a y o ∧ Q (.bl (if neg then !o.isSome else o.isSome)) H
section
variable {X : Cx} {pins : List (Addr × Obj)} {σ : L2.St} {H : Hp} {s : Shared}
theorem key_ofS {ks : List Key} {a : Addr} (I : Inv X pins σ H s) (h : SqT X.K H a (ks.map kV)) : (tupleKind (mixKind X.prog X.w)).is s.heap ks a := by
  obtain ⟨its, r, ⟨o, ho, hc, n, hd⟩, _⟩ := I.tuple h
  exact ⟨o, its.toArray, n, ho, hc, hd, by simpa using items_are r⟩
variable {o i : Expr} {pos : Pos} {td ty : TE}
theorem pe_rget (hu : X.A.units + 1 < cLine) (ho : PE X o td) (hi : PE X i ty) (hs : NoSl i) : PE X (.Subscript o i pos) (tRGet X.K td ty) := ⟨fun pins s σ H Q I h =>
  subD_of PySem.F.slot_dict_getitem.lookup hs (thn (ho.run pins s σ H _ I h) fun u s1 ⟨x, H1, I1, rx, q1⟩ => thn (hi.run pins s1 σ H1 _ I1 q1) fun iv s2 ⟨y, H2, I2, ry, a, v, ex, ⟨kvs, k, b, e, ey, eb, l⟩, q2⟩ => by
    subst ex
    subst ey
    obtain rfl : u = Value.ref a := rx
    cases (show iv = Value.ref b from ry)
    obtain ⟨z, hd, xs, rel, dd⟩ := dt_rd I2.hok (.inl e)
    obtain ⟨w', hw, rw'⟩ := RelO.some_of (v := v) (o := (atKey xs k).map (·.2)) (by rw [l]; exact rel.val k)
    obtain ⟨p, hp, hp2⟩ := Option.map_eq_some_iff.mp hw
    refine ⟨dd.typeIs, wpAny_getItem_heap (tupleKind_room_in1 hu) (key_ofS I2 eb) dd hp ?_⟩
    rw [hp2]
    exact ⟨v, H2, I2.tok _, rw', q2⟩)⟩
theorem op_rin (hu : X.A.units + 1 < cLine) : OpR X (compareOp .In) (rRIn X.K false) := by
  intro pins s σ H y x v u Q I ry rx h
  obtain ⟨a, ov, ex, ⟨kvs, k, b, e, ey, eb, l⟩, q⟩ := h
  subst ex
  subst ey
  obtain rfl : u = Value.ref a := rx
  cases (show v = Value.ref b from ry)
  obtain ⟨z, hd, xs, rel, dd⟩ := dt_rd I.hok (.inl e)
  refine wpAny_in_heap (tupleKind_room_in1 hu) (key_ofS I eb) hd dd ?_
  have q2 := (rel.val k).isSome_eq
  rw [Option.isSome_map, ← l] at q2
  rw [← q2]
  exact ⟨.bl ov.isSome, H, I.tok _, rfl, q⟩
theorem op_rnin (hu : X.A.units + 1 < cLine) : OpR X (compareOp .NotIn) (rRIn X.K true) := by
  intro pins s σ H y x v u Q I ry rx h
  obtain ⟨a, ov, ex, ⟨kvs, k, b, e, ey, eb, l⟩, q⟩ := h
  subst ex
  subst ey
  obtain rfl : u = Value.ref a := rx
  cases (show v = Value.ref b from ry)
  obtain ⟨z, hd, xs, rel, dd⟩ := dt_rd I.hok (.inl e)
  refine wpAny_notIn_heap (tupleKind_room_in1 hu) (key_ofS I eb) hd dd ?_
  have q2 := (rel.val k).isSome_eq
  rw [Option.isSome_map, ← l] at q2
  rw [← q2]
  exact ⟨.bl (!ov.isSome), H, I.tok _, rfl, q⟩
end
end Bk

namespace Bk
open PySem PySem.Spec PyProof.Rows L2
open Evl (Ex Ev EvT EvL EvU EvA)
/-! ### draws -/
section
variable {K : PySem.W.Frag} {c : Option Addr} {H0 : Hp} {Γ : GE} {te tb tl tm : TE} {ta tr : TA} {d : PyData} {ds es : List PyData} {P Q : PyData → Prop} {i : Nat} {E : XK}
theorem ep_roll {m : Nat} (hi : At Γ i .cup) (hm : EvH K c H0 tm Γ (.int (m : Int))) (h1 : 1 ≤ m) (h2 : m ≤ 1000) : EvP K c H0 (tCall spRoll [] E (tCons (tVar i) (tCons tm tNil))) Γ (fun d => ∃ r : Nat, d = .int (r : Int) ∧ r < m) := fun σ H e R r => by
  obtain ⟨a, h3, h4⟩ := e.cu i hi
  subst h3
  refine ⟨_, h4, hm e H (Ex.refl H) _ fun v H1 e1 hv => ?_⟩
  obtain rfl := dp_int hv
  refine ⟨a, (m : Int), rfl, (e.cup a rfl).ex e1, by omega, by omega, fun z H' z0 z1 eb hc => ?_⟩
  obtain ⟨n, rfl⟩ : ∃ n : Nat, z = (n : Int) := ⟨z.toNat, by omega⟩
  have w : Wd (some a) H H' := (Wd.ex e.cup e1).trans (.exB eb hc)
  exact r _ H' (.int (n : Int)) w ⟨n, rfl, by omega⟩ (.int _)
/-- one of a list that is made there, or of one that stands -/
def spSomeL (K : PySem.W.Frag) : Sp := fun vs H Q _ => ∃ (c l : Addr) (xs : List V), vs = [.ref c, .ref l] ∧ Cup H c ∧ SqL K (hd (some c) [] H) l xs ∧ 1 ≤ xs.length ∧ xs.length ≤ 1000 ∧ ∀ v H', v ∈ xs → ExB c H H' → Cup H' c → Q v H'
theorem ep_some (hi : At Γ i .cup) (hl : EvG K c H0 tl Γ (.list ds)) (h1 : 1 ≤ ds.length) (h2 : ds.length ≤ 1000) : EvP K c H0 (tCall (spSomeL K) [] E (tCons (tVar i) (tCons tl tNil))) Γ (· ∈ ds) := fun σ H e R r => by
  obtain ⟨a, h3, h4⟩ := e.cu i hi
  subst h3
  refine ⟨_, h4, hl e _ fun v H1 e1 hv => ?_⟩
  obtain ⟨p, xs, rfl, hs, hA⟩ := dp_lst hv
  have hlen := DpAll.len hA
  have hless : Ex (hd (some a) Γ H1) (hd (some a) [] H1) := hd_less fun x q => by
    rcases q with q | ⟨j, es, q⟩
    · exact .inl q
    · simp at q
  refine ⟨a, p, xs, rfl, (e.cup a rfl).ex e1, Evl.ex_l hless hs, by omega, by omega, fun v H' hm eb hc => ?_⟩
  obtain ⟨j, hj⟩ := List.getElem?_of_mem hm
  obtain ⟨d, hd1, hd2⟩ := DpAll.get hA hj
  have w2 : Wd (some a) H1 H' := .exB eb hc
  exact r v H' d ((Wd.ex e.cup e1).trans w2) (List.mem_of_getElem? hd1) (Dp.ex (hd_ex w2) _ _ hd2)
/-- one of some new things, themselves drawn -/
theorem ep_someP {Qa : List PyData → Prop} (hi : At Γ i .cup) (ha : EaP K c H0 ta Γ Qa) (hq : ∀ ds, Qa ds → 1 ≤ ds.length ∧ ds.length ≤ 1000 ∧ ∀ d ∈ ds, P d) : EvP K c H0 (tCall (spSomeL K) [] E (tCons (tVar i) (tCons (tLst ta) tNil))) Γ P := fun σ H e R r => by
  obtain ⟨a, h3, h4⟩ := e.cu i hi
  subst h3
  refine ⟨_, h4, ha e _ fun vs H1 ds w1 q hvs => ?_⟩
  obtain ⟨n1, n2, hP⟩ := hq ds q
  have hlen := DpAll.len hvs
  refine ⟨Evl.sz_of (by omega), fun l hl => ?_⟩
  have e1 := e.step w1
  have f1 : Ex H1 (upd H1 l (.lst vs)) := ex_new hl
  have e2 := e1.ex f1
  have hnl : ¬ Hides (some a) Γ l := e1.fresh hl
  refine ⟨a, l, vs, rfl, e2.cup a rfl, SqL.of (by rw [hd_get (fun q => by rcases q with q | ⟨j, es, q⟩; exact hnl (.inl q); simp at q)]; exact upd_same), by omega, by omega, fun v H' hm eb hc => ?_⟩
  obtain ⟨j, hj⟩ := List.getElem?_of_mem hm
  obtain ⟨d, hd1, hd2⟩ := DpAll.get hvs hj
  have w2 : Wd (some a) (upd H1 l (.lst vs)) H' := .exB eb hc
  have w3 : Wd (some a) H1 H' := (Wd.ex e1.cup f1).trans w2
  exact r v H' d (w1.trans w3) (hP d (List.mem_of_getElem? hd1)) (Dp.ex (hd_ex w3) _ _ hd2)
theorem ep_bush {n k : Nat} (hi : At Γ i .cup) (hk : EvH K c H0 tm Γ (.int (k : Int))) (h1 : k ≤ n) (h2 : n ≤ 60) : EvP K c H0 (tCall (spBush K n) [] E (tCons (tVar i) (tCons tm tNil))) Γ (fun d => ∃ b, d = toD b ∧ Rn k b) := fun σ H e R r => by
  obtain ⟨a, h3, h4⟩ := e.cu i hi
  subst h3
  refine ⟨_, h4, hk e H (Ex.refl H) _ fun v H1 e1 hv => ?_⟩
  obtain rfl := dp_int hv
  refine ⟨a, k, rfl, (e.cup a rfl).ex e1, h1, h2, fun v b H' hb hv eb hc => ?_⟩
  have w : Wd (some a) H H' := (Wd.ex e.cup e1).trans (.exB eb hc)
  exact r v H' _ w ⟨b, rfl, hb⟩ ((e.step w).hide (fz_toD b) hv)
theorem ep_cat (h1 : EvP K c H0 te Γ P) (h2 : EvP K c H0 tb Γ Q) (hp : ∀ d, P d → ∃ ds, d = .tuple ds ∧ ds.length ≤ 1000 ∧ fzA ds = true) (hq : ∀ d, Q d → ∃ ds, d = .tuple ds ∧ ds.length ≤ 1000 ∧ fzA ds = true) : EvP K c H0 (tOp (rCatA K) te tb) Γ (fun z => ∃ ds es, P (.tuple ds) ∧ Q (.tuple es) ∧ z = .tuple (ds ++ es)) := fun σ H e R r =>
  h1 e _ fun v H1 d w1 p1 hv => h2 (e.step w1) _ fun u H2 d2 w2 p2 hu => by
    obtain ⟨ds, rfl, l1, f1⟩ := hp d p1
    obtain ⟨es, rfl, l2, f2⟩ := hq d2 p2
    have hv2 := Dp.ex hd_sub _ _ (Dp.ex (hd_ex w2) _ _ hv)
    have hu2 := Dp.ex hd_sub _ _ hu
    have e2 := (e.step w1).step w2
    obtain ⟨x, xs, rfl, hxs, hxa⟩ := dp_tup hv2
    obtain ⟨y, ys, rfl, hys, hya⟩ := dp_tup hu2
    have n1 := DpAll.len hxa
    have n2 := DpAll.len hya
    have fz2 : fz (.tuple (ds ++ es)) = true := by show fzA (ds ++ es) = true; rw [fzA_app, f1, f2]; rfl
    refine ⟨x, y, xs, ys, rfl, rfl, hxs, hys, Evl.sz_of (by omega), fun h0 => ?_, fun _ h0 => ?_, fun _ _ p2' hp2 => ?_⟩
    · subst h0
      cases hxa
      exact r _ H2 _ (w1.trans w2) ⟨[], es, p1, p2, rfl⟩ (e2.hide fz2 (.tup hys hya))
    · subst h0
      cases hya
      exact r _ H2 _ (w1.trans w2) ⟨ds, [], p1, p2, rfl⟩ (e2.hide fz2 (by rw [List.append_nil]; exact .tup hxs hxa))
    · have e3 : Ex H2 (upd H2 p2' (.tup (xs ++ ys))) := ex_new hp2
      exact r _ _ _ ((w1.trans w2).trans (.ex e2.cup e3)) ⟨ds, es, p1, p2, rfl⟩ ((e2.ex e3).hide fz2 (.tup (SqT.of upd_same) (DpAll.ex e3 _ _ (DpAll.app hxa hya))))
theorem ep_tup {Qa : List PyData → Prop} (h : EaP K c H0 ta Γ Qa) (hl : ∀ ds, Qa ds → ds.length ≤ 1000 ∧ fzA ds = true) : EvP K c H0 (tTup ta) Γ (fun d => ∃ ds, d = .tuple ds ∧ Qa ds) := fun σ H e R r => h e _ fun vs H1 ds w q hvs => by
  obtain ⟨n, f⟩ := hl ds q
  refine ⟨Evl.sz_of (by rw [DpAll.len hvs]; omega), fun p hp => ?_⟩
  have e1 := e.step w
  have e3 : Ex H1 (upd H1 p (.tup vs)) := ex_new hp
  exact r _ _ (.tuple ds) (w.trans (.ex e1.cup e3)) ⟨ds, rfl, q⟩ ((e1.ex e3).hide (by show fzA ds = true; exact f) (.tup (SqT.of upd_same) (DpAll.ex e3 _ _ (DpAll.ex hd_sub _ _ hvs))))
theorem EvH.p (h : EvH K c H0 te Γ d) (hf : Bk.fz d = true) : EvP K c H0 te Γ (· = d) := (h.fz hf).p
/-! ### the law's dict of parts -/
theorem eo_roads {b : Bu} (h : EvH K c H0 tl Γ (toD b)) (hD : Dr b) : EvO K c H0 (tCB (rSortDT K) (tCons (tCall (spParts K) [] E (tCons tl tNil)) tNil)) Γ ((pre b).map fun z => enc z.1) := fun σ H e R r =>
  h e H (Ex.refl H) _ fun v H1 e1 hv => ⟨v, b, rfl, hv, hD, fun p H2 kvs hp e2 hP hK => ⟨p, kvs, (vis b).map (·.1), rfl, .inl hP, by rw [hK.1, List.map_map]; rfl, vis_first b, fun ys l hR hl => by
    rw [sort_vis] at hR
    have f : Ex H2 (upd H2 l (.lst ys)) := ex_new hl
    refine r l _ ys (Evl.fresh_back (e1.trans e2) hl) ((e1.trans e2).trans f) upd_same ?_
    have := Rds.dp (K := K) hR
    rw [List.map_map] at this
    exact DpAll.ex f _ _ this⟩⟩
theorem eh_partAt {b : Bu} {z : Rb} (h : EvH K c H0 tl Γ (toD b)) (hD : Dr b) (hz : z ∈ pre b) (hk : EvH K c H0 tm Γ (enc z.1)) : EvH K c H0 (tRGet K (tCall (spParts K) [] E (tCons tl tNil)) tm) Γ (toD z.2) := fun σ H e H1 a R r =>
  h e H1 a _ fun v H2 e2 hv => ⟨v, b, rfl, hv, hD, fun p H3 kvs hp e3 hP hK => hk e H3 ((a.trans e2).trans e3) _ fun y H4 e4 hy => by
    obtain ⟨bb, xs, rfl, hxs, hxa⟩ := dp_tup hy
    have hm2 : (z.1, z.2) ∈ vis b := (vis_perm b).mem_iff.mpr hz
    obtain ⟨vv, hvv, hdv⟩ := hK.get (nodup_vis b) hm2
    have ex : xs = (z.1.map Sum.inl).map kV := by
      have : ∀ (l : List Int) (xs : List V), DpAll K H4 xs (l.map .int) → xs = (l.map Sum.inl).map kV := by
        intro l
        induction l with
        | nil => intro xs q; cases q; rfl
        | cons x l ih => intro xs q; cases q with
          | cons q1 q2 => rw [dp_int q1, ih _ q2]; rfl
      exact this _ _ hxa
    exact ⟨p, vv, rfl, ⟨kvs, z.1.map Sum.inl, bb, e4 _ _ hP, rfl, by rw [← ex]; exact hxs, hvv.symm⟩, r vv H4 ((e2.trans e3).trans e4) (Dp.ex e4 _ _ hdv)⟩⟩
end
section
variable {P : Program} {w : World} {K : PySem.W.Frag} {mg : Str → Option Value} {base : Heap}
theorem ok_someL (T : Tx K mg) : FnOk P w K mg base CX0 2 T.a_law_some T.d_law_some P_law_some (spSomeL K) := by
  have g_law_roll : FnOk P w K mg base CX0 1 T.a_law_roll T.d_law_roll P_law_roll spRoll := ok_roll T
  refine T.F_law_some.ok sc_law_some (fun vs H Q E h => ?_) (fun cdv A outer s H vs Q E hr h => ?_)
  · obtain ⟨c, l, xs, rfl, _⟩ := h; rfl
  · obtain ⟨c, l, xs, rfl, hc, hL, h1, h2, q⟩ := h
    refine ⟨_, (pss_one (ps_ret (pe_ix ix_list (pv 1) (pe_call (g_law_roll.mono (by decide)) hr (by rfl) T.g_law_roll T.F_law_roll.kp T.b_law_roll .nil pass0 (pa_cons (pv 0) (pa_cons (pe_callB call_len_seq (by rfl) T.z_len PySem.boot_len (pa_cons (pv 1) pa_nil)) pa_nil))) (fun _ _ => rfl)))), ?_⟩
    refine ⟨_, rfl, roll_c (m := (xs.length : Nat)) rfl (Evl.ev_len (K := K) (Evl.ev_var rfl) (Evl.ex_l hd_sub hL)) hc (by omega) (by omega) fun r H2 a b eb hc2 => ?_⟩
    obtain ⟨j, rfl⟩ : ∃ j : Nat, r = (j : Int) := ⟨r.toNat, by omega⟩
    have hj : j < xs.length := by omega
    exact ⟨l, xs, j, xs[j], rfl, rfl, Evl.ex_l hd_sub (Evl.ex_l (hd_ex (.exB eb hc2)) hL), atI_nat (by simp [hj]), q _ H2 (List.getElem_mem hj) eb hc2⟩
end
end Bk

namespace Bk
open PySem PySem.Spec PyProof.Rows L2
open Evl (Ex Ev EvT EvL EvU EvA)
theorem prt_snoc : ∀ (b : Bu) (r : List Int) (j : Int), prt b (r ++ [j]) = (kids (prt b r)).getD j.toNat .tip
  | b, [], j => rfl
  | b, i :: r, j => by
    show prt ((kids b).getD i.toNat .tip) (r ++ [j]) = _
    rw [prt_snoc]
    rfl
theorem inB_drop : ∀ (r : List Int) (b : Bu) (i : Nat), inB b r → inB (prt b (r.take i)) (r.drop i)
  | [], b, i, h => by rw [List.take_nil, List.drop_nil]; exact h
  | x :: r, b, 0, h => h
  | x :: r, b, i + 1, h => by
    cases b with
    | tip => simp [inB] at h
    | knot c bs =>
      rw [inB] at h
      obtain ⟨y, hy, hr⟩ := inL_get h.2
      have e : (kids (.knot c bs)).getD x.toNat .tip = y := by
        show bs.getD x.toNat .tip = y
        rw [List.getD_eq_getElem?_getD, hy]; rfl
      rw [List.take_succ_cons, List.drop_succ_cons, prt, e]
      exact inB_drop r y i hr
theorem upL_none : ∀ {bs : List Bu} {i : Nat} {x l : Bu}, bs[i]? = some x → up x l = none → upL bs l = none
  | [], _, _, _, h, _ => by simp at h
  | b :: bs, 0, x, l, h, e => by
    have : b = x := by simpa using h
    rw [upL, this, e]
  | b :: bs, i + 1, x, l, h, e => by
    rw [upL, upL_none (bs := bs) (i := i) (by simpa using h) e]
    cases up b l <;> rfl
theorem upL_snoc : ∀ {bs us : List Bu} {x u l : Bu}, upL bs l = some us → up x l = some u → upL (bs ++ [x]) l = some (us ++ [u])
  | [], us, x, u, l, h, e => by
    rw [upL] at h
    injection h with h
    subst h
    simp [upL, e]
  | b :: bs, us, x, u, l, h, e => by
    rw [upL] at h
    split at h
    · rename_i v vs e1 e2
      injection h with h
      subst h
      rw [List.cons_append, upL, e1, upL_snoc e2 e]
      rfl
    · cases h
section
variable {P : Program} {w : World} {K : PySem.W.Frag} {mg : Str → Option Value} {base : Heap}
theorem forT_at {σ : L2.St} {H : Hp} {tl : TE} {g : TG} {tb : TS} {D : Ends} (h : tl σ H fun x H1 => tFor (iTup K (tC x)) g tb D σ H1) : tFor (iTup K tl) g tb D σ H := h
theorem forTq_at {σ : L2.St} {H : Hp} {tl : TE} {g : TG} {tb tz : TS} {D : Ends} (h : tl σ H fun x H1 => tSeq (tFor (iTup K (tC x)) g tb) tz D σ H1) : tSeq (tFor (iTup K tl) g tb) tz D σ H := h
def spIsNum : Sp := fun vs H Q _ => ∃ (i a b : Int), vs = [.int i, .int a, .int b] ∧ a ≤ i ∧ i ≤ b ∧ ∀ H', Ex H H' → Q (.bl true) H'
theorem ok_is_number (T : Tx K mg) : FnOk P w K mg base CX0 1 T.a_is_number T.d_is_number P_is_number spIsNum := by
  refine T.F_is_number.ok sc_is_number (fun vs H Q E h => ?_) (fun cdv A outer s H vs Q E hr h => ?_)
  · obtain ⟨i, a, b, rfl, _⟩ := h; rfl
  · obtain ⟨i, a, b, rfl, h1, h2, q⟩ := h
    refine ⟨_, pss_cons (ps_if (PW.pt (pw_or (pt_val (pe_callB call_isi (by rfl) T.z_isinstance (by decide +kernel) (pa_cons (pv 0) (pa_cons (pe_bltn (v := .ty "bool") (u := .type "bool") (by rfl) T.z_bool (by decide +kernel) rfl) pa_nil))))
        (pw_or1 (pt_not (pt_val (pe_callB call_isi (by rfl) T.z_isinstance (by decide +kernel) (pa_cons (pv 0) (pa_cons (pe_bltn (v := .ty "int") (u := .type "int") (by rfl) T.z_int (by decide +kernel) rfl) pa_nil)))))))) pss_never pss_nil)
      (pss_one (ps_ret (pe_chain op_le op_le (pv 1) (pv 0) (pv 2)))), ?_⟩
    refine Evl.q_when (b := false) (Evl.et_or (a := false) (b := false) (fun H1 e Q k => ?_) (fun _ => fun H1 e Q k => ?_)) (fun hb => by cases hb) (fun _ H1 e1 => ?_)
    · exact ⟨_, rfl, _, .ty "bool", .type "int", .type "bool", false, rfl, .ty _, .base (.int i), kit_ty rfl, false, rfl, k H1 (Ex.refl H1)⟩
    · exact ⟨_, rfl, _, .ty "int", .type "int", .type "int", true, rfl, .ty _, .base (.int i), kit_ty rfl, true, rfl, k H1 (Ex.refl H1)⟩
    · refine ⟨_, rfl, _, rfl, _, _, rfl, rfl, true, congrArg V.bl (decide_eq_true h1), iteT ⟨_, rfl, _, _, rfl, rfl, ?_⟩⟩
      have : decide (i ≤ b) = true := decide_eq_true h2
      show Q (V.bl (decide (i ≤ b))) H1
      rw [this]
      exact q H1 e1
def spPartOn (K : PySem.W.Frag) : Sp := fun vs H Q _ => ∃ (v rv : V) (b : Bu) (r : List Int), vs = [v, rv] ∧ Dp K H v (toD b) ∧ Dp K H rv (enc r) ∧ inB b r ∧ ∀ x H', Ex H H' → Dp K H' x (toD (prt b r)) → Q x H'
theorem ok_part_on_road (T : Tx K mg) : FnOk P w K mg base CX0 2 T.a_part_on_road T.d_part_on_road P_part_on_road (spPartOn K) := by
  have G1 : FnOk P w K mg base CX0 1 T.a_is_number T.d_is_number P_is_number spIsNum := ok_is_number T
  refine T.F_part_on_road.ok sc_part_on_road (fun vs H Q E h => ?_) (fun cdv A outer s H vs Q E hr h => ?_)
  · obtain ⟨v, rv, b, r, rfl, _⟩ := h; rfl
  · obtain ⟨v, rv, b, r, rfl, hv, hrv, hi, q⟩ := h
    obtain ⟨ar, xs, rfl, hxs, hxa⟩ := dp_tup hrv
    have hl : xs.length = r.length := by rw [DpAll.len hxa, List.length_map]
    refine ⟨_, pss_cons (ps_if (pt_not (pt_val (pe_callB call_isi (by rfl) T.z_isinstance (by decide +kernel) (pa_cons (pv 1) (pa_cons (pe_bltn (v := .ty "tuple") (u := .type "tuple") (by rfl) T.z_tuple (by decide +kernel) rfl) pa_nil))))) pss_never pss_nil)
      (pss_cons (ps_set (i := 2) sc_part_on_road.nd rfl (.inl rfl) (pv 0))
      (pss_cons (ps_for PassesOwn.never rfl (pi_tup (pv 1)) (pg_name (i := 3) sc_part_on_road.nd rfl (.inl rfl))
        (pss_cons (ps_if (pt_not (pt_val (pe_call G1 hr (by rfl) T.g_is_number T.F_is_number.kp T.b_is_number .nil pass0 (pa_cons (pv 3) (pa_cons pe_int (pa_cons (pe_op op_sub (pe_callB call_len_seq (by rfl) T.z_len PySem.boot_len (pa_cons (pv 2) pa_nil)) pe_int) pa_nil)))))) pss_never pss_nil)
        (pss_one (ps_set (i := 2) sc_part_on_road.nd rfl (.inl rfl) (pe_ix ix_tup (pv 2) (pe_op op_add (pv 3) pe_int) (fun _ _ => rfl))))))
      (pss_one (ps_ret (pv 2))))), ?_⟩
    refine Evl.q_when (b := false) (fun H1 e Q k => ⟨_, rfl, _, .ty "tuple", .type "tuple", .type "tuple", true, rfl, .ty _, ty_tup (Evl.ex_t e hxs), kit_ty rfl, true, rfl, k H1 (Ex.refl H1)⟩) (fun hb => by cases hb) (fun _ H1 e1 => ?_)
    refine q_asgD (K := K) (d := toD b) (ed_var (j := 0) rfl (Dp.ex e1 _ _ hv)) fun v2 H2 e2 hv2 => ?_
    have e12 := e1.trans e2
    refine Evl.s_forT (D := { nx := tRet (tVar 2) { nx := fun _ H' => Q .non H', rt := Q }, rt := Q }) (a := ar) (xs := xs) (Evl.ev_var rfl) (Evl.ex_t e12 hxs)
      (fun i σ H' => ∃ v' x3, σ = [some v, some (.ref ar), some v', x3] ∧ Ex H H' ∧ Dp K H' v' (toD (prt b (r.take i))))
      (fun H3 e3 => ⟨v2, none, rfl, e12.trans e3, by rw [List.take_zero]; exact Dp.ex e3 _ _ hv2⟩) (fun i σ' H' _ ⟨_, _, _, e, _⟩ => Evl.ex_t e hxs) ?_ ?_
    · rintro i x σ' H' hx ⟨v', x3, rfl, e, hv'⟩
      obtain ⟨d, hd, hxd⟩ := DpAll.get hxa hx
      rw [List.getElem?_map] at hd
      obtain ⟨j, hj, rfl⟩ := Option.map_eq_some_iff.mp hd
      have ej := dp_int hxd
      subst ej
      have htk : r.take (i + 1) = r.take i ++ [j] := by rw [List.take_add_one, hj]; rfl
      have hin := inB_drop r b i hi
      have hil : i < r.length := (List.getElem?_eq_some_iff.mp hj).1
      have hdr : r.drop i = j :: r.drop (i + 1) := by rw [List.drop_eq_getElem_cons hil, (List.getElem?_eq_some_iff.mp hj).2]
      rw [hdr] at hin
      generalize hgp : prt b (r.take i) = p at hin hv'
      cases hp : p with
      | tip => rw [hp] at hin; simp [inB] at hin
      | knot c bs =>
        rw [hp] at hin hv'
        rw [inB] at hin
        obtain ⟨hj0, hjl⟩ := hin
        obtain ⟨y, hy, _⟩ := inL_get hjl
        obtain ⟨m, rfl⟩ : ∃ m : Nat, j = (m : Int) := ⟨j.toNat, by omega⟩
        have hy' : bs[m]? = some y := hy
        have hml : m < bs.length := (List.getElem?_eq_some_iff.mp hy').1
        have hit : toD (.knot c bs) = .tuple (itm (.knot c bs)) := toD_itm _
        have hil2 : (itm (.knot c bs)).length = bs.length + 1 := by simp [itm]
        rw [hit] at hv'
        refine Evl.q_when (b := false) (Evl.et_not (a := true) (Evl.et_B (ev_callD (K := K) (ds := [.int (m : Int), .int 0, .int (((itm (.knot c bs)).length : Nat) - 2)]) (ead_cons (ed_var rfl (.int _)) (ead_cons ed_int (ead_cons (ed_ev (Evl.ev_op (ev_lenD (ed_var rfl hv')) Evl.ev_c (Evl.rv_I0 (g := fun i j => .int (i - j))))) ead_nil))) (fun vs H3 e3 hvs R rr => ?_)))) (fun hb => by cases hb) (fun _ H3 e3 => ?_)
        · cases hvs with
          | cons h1 h2 =>
            cases h2 with
            | cons h3 h4 =>
              cases h4 with
              | cons h5 h6 =>
                cases h6
                cases h1; cases h3; cases h5
                exact ⟨_, _, _, rfl, by omega, by omega, rr⟩
        · refine s_asgD (K := K) (d := toD y) (ed_ixT (k := m + 1) (ed_var rfl (Dp.ex e3 _ _ hv')) (Evl.ev_op (z := .int ((m + 1 : Nat) : Int)) (Evl.ev_var rfl) Evl.ev_c (Evl.rv_I0 (g := fun i j => .int (i + j)))) (by simp [itm, hy'])) fun z H4 e4 hz => ⟨z, some (.int (m : Int)), rfl, (e.trans e3).trans e4, ?_⟩
          have hpp : prt b (r.take (i + 1)) = y := by
            rw [htk, prt_snoc, hgp, hp]
            show bs.getD m .tip = y
            rw [List.getD_eq_getElem?_getD, hy']; rfl
          rw [hpp]
          exact hz
    · rintro σ' H' ⟨v', x3, rfl, e, hv'⟩
      rw [hl, List.take_length] at hv'
      exact ⟨_, rfl, q v' H' e hv'⟩
def spUpper (K : PySem.W.Frag) (n : Nat) : Sp := fun vs H Q _ => ∃ (v lv : V) (b l : Bu), vs = [v, lv] ∧ Dp K H v (toD b) ∧ Dp K H lv (toD l) ∧ okB b = true ∧ okB l = true ∧ dep b ≤ n ∧ n ≤ 60 ∧ dep l ≤ 60 ∧
  (∀ u x H', up b l = some u → Ex H H' → Dp K H' x (toD u) → Q x H') ∧ ∀ H', up b l = none → Ex H H' → Q .non H'
theorem et_eqB {σ : L2.St} {H : Hp} {ta tb : TE} {a b : Bu} (oa : okB a = true) (ob : okB b = true) (da : dep a ≤ 60) (db : dep b ≤ 60) (h1 : EvD K ta σ H (toD a)) (h2 : EvD K tb σ H (toD b)) : EvT (tTest (tOp (rEqD K) ta tb)) σ H (PyData.eqv (toD a) (toD b)) :=
  Evl.et_test (ev_eqD h1 h2 (shaped_toD oa da) (shaped_toD ob db))
theorem ok_upper_of (T : Tx K mg) : ∀ n : Nat, FnOk P w K mg base CX0 (n + 1) T.a_upper_of T.d_upper_of P_upper_of (spUpper K n)
  | 0 => by
    refine T.F_upper_of.ok sc_upper_of (fun vs H Q E h => ?_) (fun cdv A outer s H vs Q E hr h => ?_)
    · obtain ⟨v, lv, b, l, rfl, _⟩ := h; rfl
    · obtain ⟨v, lv, b, l, rfl, hv, hlv, ho, hol, hd, hn, hdl, q1, q2⟩ := h
      have hu : (A.deeper (envOfC "upper_of" (defScope s_upper_of) s.heap.objs.size T.a_upper_of cdv)).units + 64 < cLine := by have := hr.un; omega
      refine ⟨_, pss_cons (ps_if (pt_cmpR (op_eqD hu) (pv 0) (pv 1) (nomark _)) (pss_one (ps_ret (pe_tup pa_nil))) pss_nil)
        (pss_cons (ps_if (pt_not (pt_truth (pv 0) (by intro _; rfl))) (pss_one (ps_ret pe_non)) pss_nil) pss_never), ?_⟩
      have hb : b = .tip := dep0 (by omega)
      subst hb
      refine Evl.q_when (et_eqB (K := K) ho hol (by omega) hdl (ed_var (j := 0) rfl hv) (ed_var (j := 1) rfl hlv)) (fun hb H1 e1 => ?_) (fun hb H1 e1 => ?_)
      · have e : Bu.tip = l := (eqv_toD _ _).mp hb
        subst e
        refine ⟨Nat.zero_le _, fun p hp => q1 .tip _ _ (up_self rfl) (e1.trans (ex_new hp)) (.tup (SqT.of upd_same) .nil)⟩
      · have hne : ¬ l = .tip := fun e => by subst e; rw [(eqv_toD _ _).mpr rfl] at hb; cases hb
        have hnone : up .tip l = none := by rw [up, if_neg hne]
        obtain ⟨a, xs, rfl, hs, ha⟩ := bu_dp hv
        have h0 : xs = [] := List.eq_nil_of_length_eq_zero (DpAll.len ha)
        subst h0
        exact ⟨_, rfl, _, tru_tup (Evl.ex_t e1 hs), iteT (q2 H1 hnone e1)⟩
  | n + 1 => by
    have G := ok_upper_of T n
    refine T.F_upper_of.ok sc_upper_of (fun vs H Q E h => ?_) (fun cdv A outer s H vs Q E hr h => ?_)
    · obtain ⟨v, lv, b, l, rfl, _⟩ := h; rfl
    · obtain ⟨v, lv, b, l, rfl, hv, hlv, ho, hol, hd, hn, hdl, q1, q2⟩ := h
      have hu : (A.deeper (envOfC "upper_of" (defScope s_upper_of) s.heap.objs.size T.a_upper_of cdv)).units + 64 < cLine := by have := hr.un; omega
      refine ⟨_, pss_cons (ps_if (pt_cmpR (op_eqD hu) (pv 0) (pv 1) (nomark _)) (pss_one (ps_ret (pe_tup pa_nil))) pss_nil)
        (pss_cons (ps_if (pt_not (pt_truth (pv 0) (by intro _; rfl))) (pss_one (ps_ret pe_non)) pss_nil)
        (pss_cons (ps_set (i := 2) sc_upper_of.nd rfl (.inl rfl) (pe_lst (pa_cons (pe_ix ix_tup (pv 0) pe_int (fun _ _ => rfl)) pa_nil)))
        (pss_cons (ps_for PassesOwn.never rfl (pi_tup (pe_slice sl_tupA (pv 0) (po_some pe_int) po_none)) (pg_name (i := 3) sc_upper_of.nd rfl (.inl rfl))
          (pss_cons (ps_set (i := 4) sc_upper_of.nd rfl (.inl rfl) (pe_call G hr (by rfl) T.g_upper_of T.F_upper_of.kp T.b_upper_of .nil pass0 (pa_cons (pv 3) (pa_cons (pv 1) pa_nil))))
          (pss_cons (ps_if (pt_cmpR op_isN (pv 4) pe_non (nomark _)) (pss_one (ps_ret pe_non)) pss_nil)
          (pss_one (ps_expr (pe_bm PySem.F.plainAttrs_list PySem.F.slot_list_append PySem.F.type_list_append mt_append (pv 2) (pa_cons (pv 4) pa_nil)))))))
        (pss_one (ps_ret (pe_callTy call_tuple_of (by rfl) T.z_tuple (by decide +kernel) (pa_cons (pv 2) pa_nil))))))), ?_⟩
      refine Evl.q_when (et_eqB (K := K) ho hol (by omega) hdl (ed_var (j := 0) rfl hv) (ed_var (j := 1) rfl hlv)) (fun hb H1 e1 => ?_) (fun hb H1 e1 => ?_)
      · have e : b = l := (eqv_toD _ _).mp hb
        subst e
        exact ⟨Nat.zero_le _, fun p hp => q1 .tip _ _ (up_self ho) (e1.trans (ex_new hp)) (.tup (SqT.of upd_same) .nil)⟩
      · have hne : ¬ l = b := fun e => by subst e; rw [(eqv_toD _ _).mpr rfl] at hb; cases hb
        obtain ⟨a, xs, rfl, hs, ha⟩ := bu_dp hv
        cases b with
        | tip =>
          have hnone : up .tip l = none := by rw [up, if_neg hne]
          have h0 : xs = [] := List.eq_nil_of_length_eq_zero (DpAll.len ha)
          subst h0
          exact ⟨_, rfl, _, tru_tup (Evl.ex_t e1 hs), iteT (q2 H1 hnone e1)⟩
        | knot c bs =>
          have hupk : up (.knot c bs) l = (upL bs l).map (.knot c) := by rw [up, if_neg hne]
          obtain ⟨_, ⟨hb1, hb2⟩, hob⟩ := okB_knot ho
          have hxe : xs.isEmpty = false := by
            have := DpAll.len ha
            cases xs with
            | nil => simp [itm] at this
            | cons y t => rfl
          refine ⟨_, rfl, _, tru_tup (Evl.ex_t e1 hs), ?_⟩
          rw [hxe]
          refine iteF (nx_of ?_)
          have hv1 : Dp K H1 (.ref a) (.tuple (itm (.knot c bs))) := by have := Dp.ex e1 _ _ hv; rw [toD_itm] at this; exact this
          refine q_lstD (K := K) (σ := [some (.ref a), some lv, none, none, none]) (ds := [.str ⟨#[c]⟩]) (ead_cons (ed_ixT (k := 0) (ed_var rfl hv1) Evl.ev_c rfl) ead_nil) (by show 1 ≤ 100000; decide) fun q0 H2 us0 hq0 e2 hL0 hu0 => ?_
          have e12 := e1.trans e2
          have hq0' : H q0 = none := Evl.fresh_back e1 hq0
          dsimp only
          refine forTq_at (ed_slFrom (K := K) (σ := [some (.ref a), some lv, some (.ref q0), none, none]) (H := H2) (k := 1) (ed_var rfl (Dp.ex e2 _ _ hv1)) Evl.ev_c H2 (Ex.refl H2) _ fun v3 H3 e3 hv3 => ?_)
          obtain ⟨a3, ys, rfl, hys, hya⟩ := dp_tup hv3
          have hya' : DpAll K H3 ys (bs.map toD) := hya
          have hyl : ys.length = bs.length := by rw [DpAll.len hya', List.length_map]
          have e13 := e12.trans e3
          refine Evl.q_forT (a := a3) (xs := ys) Evl.ev_c hys
            (fun i σ H' => ∃ x3 x4 us uv, σ = [some (.ref a), some lv, some (.ref q0), x3, x4] ∧ Ex H H' ∧ SqT K H' a3 ys ∧ DpAll K H' ys (bs.map toD) ∧ H' q0 = some (.lst (us0 ++ uv)) ∧ DpAll K H' us0 [.str ⟨#[c]⟩] ∧ upL (bs.take i) l = some us ∧ DpAll K H' uv (us.map toD))
            (fun H4 e4 => ⟨none, none, [], [], rfl, e13.trans e4, Evl.ex_t e4 hys, DpAll.ex e4 _ _ hya', by rw [List.append_nil]; exact (e3.trans e4) _ _ hL0, DpAll.ex (e3.trans e4) _ _ hu0, by rw [List.take_zero, upL], .nil⟩) (fun i σ' H' _ ⟨_, _, _, _, _, _, h, _⟩ => h) ?_ ?_
          · rintro i x σ' H4 hx ⟨x3, x4, us, uv, rfl, e4, hq4, ha4, hL4, hu4, hup4, hv4⟩
            obtain ⟨y, hy, hxy⟩ := dpAll_map ha4 hx
            have hym := List.mem_of_getElem? hy
            have htk : bs.take (i + 1) = bs.take i ++ [y] := by rw [List.take_add_one, hy]; rfl
            have hdy := dep_le hym
            have hdk : dep (.knot c bs) = deps bs + 1 := rfl
            refine ⟨x, rfl, lv, rfl, x, lv, y, l, rfl, hxy, Dp.ex e4 _ _ hlv, okBs_mem hob hym, hol, by omega, by omega, hdl, fun u z H5 hup e5 hz => ?_, fun H5 hup e5 => ?_⟩
            · obtain ⟨az, zs, rfl, hzs, hza⟩ := bu_dp hz
              dsimp only
              refine ⟨_, rfl, rfl, _, rfl, ?_⟩
              rw [decide_eq_false (by simp)]
              refine iteF (nx_of ?_)
              have hL5 := e5 _ _ hL4
              have hlen : (us0 ++ uv).length ≤ 100 := by
                have l1 := DpAll.len hu4
                have l2 := DpAll.len hv4
                have l3 : us.length = (bs.take i).length := by
                  have : ∀ (bs us : List Bu), upL bs l = some us → us.length = bs.length := by
                    intro bs
                    induction bs with
                    | nil => intro us h; rw [upL] at h; injection h with h; subst h; rfl
                    | cons b bs ih =>
                      intro us h
                      rw [upL] at h
                      split at h
                      · rename_i v vs e1 e2
                        injection h with h
                        subst h
                        rw [List.length_cons, List.length_cons, ih vs e2]
                      · cases h
                  exact this _ _ hup4
                rw [List.length_map] at l2
                rw [List.length_append, l1, l2, l3, List.length_take]
                simp only [List.length_singleton]
                omega
              refine ⟨_, rfl, Or.inl ⟨rfl, _, SqL.of hL5⟩, _, rfl, q0, _, _, rfl, rfl, hL5, Nat.lt_of_le_of_lt hlen (by decide), ?_⟩
              have t6 : Tu H5 (upd H5 q0 (.lst (us0 ++ uv ++ [.ref az]))) := tu_lst hL5
              refine ⟨some x, some (.ref az), us ++ [u], uv ++ [.ref az], rfl, Evl.Ex.mut (e4.trans e5) hq0', t6.seq (Evl.ex_t e5 hq4), DpAll.tu t6 _ _ (fz_map bs) (DpAll.ex e5 _ _ ha4), by rw [upd_same, List.append_assoc], DpAll.tu t6 _ _ rfl (DpAll.ex e5 _ _ hu4), by rw [htk]; exact upL_snoc hup4 hup, ?_⟩
              rw [List.map_append]
              exact DpAll.app (DpAll.tu t6 _ _ (fz_map us) (DpAll.ex e5 _ _ hv4)) (.cons (Dp.tu t6 _ _ (fz_toD u) hz) .nil)
            · dsimp only
              refine ⟨_, rfl, rfl, _, rfl, ?_⟩
              rw [decide_eq_true rfl]
              refine iteT (q2 H5 ?_ (e4.trans e5))
              rw [hupk, upL_none hy hup]
              rfl
          · rintro σ' H4 ⟨x3, x4, us, uv, rfl, e4, hq4, ha4, hL4, hu4, hup4, hv4⟩
            rw [hyl, List.take_length] at hup4
            refine ⟨_, rfl, q0, _, rfl, .inl ⟨SqL.of hL4, fun p hp => q1 (.knot c us) _ _ (by rw [hupk, hup4]; rfl) (e4.trans (ex_new hp)) ?_⟩⟩
            rw [toD, toDs_map]
            exact .tup (SqT.of upd_same) (DpAll.ex (ex_new hp) _ _ (DpAll.app hu4 hv4))
end
end Bk

namespace Bk
open PySem PySem.Spec PyProof.Rows L2
/-! ### parts at roads; a part in the place of another one (no Python here) -/
mutual
theorem pre_in : ∀ (b : Bu) (z : Rb), z ∈ pre b → inB b z.1 ∧ prt b z.1 = z.2 ∧ z.1.length + dep z.2 ≤ dep b
  | .tip, z, h => by
    have : z = ([], .tip) := by simpa [pre] using h
    subst this
    exact ⟨trivial, rfl, Nat.le_refl _⟩
  | .knot c bs, z, h => by
    rcases List.mem_cons.mp (by simpa [pre] using h : z ∈ ([], Bu.knot c bs) :: preL 0 bs) with h | h
    · subst h; exact ⟨by simp [inB], rfl, by simp⟩
    · obtain ⟨i, r, hz, hi, h1, h2, h3⟩ := preL_in 0 bs z h
      obtain ⟨y, hy, hyr⟩ := inL_get h1
      rw [hz]
      refine ⟨by rw [inB]; exact ⟨by omega, by simpa using h1⟩, ?_, ?_⟩
      · rw [prt]
        show prt (bs.getD (((0 + i : Nat) : Int)).toNat .tip) r = z.2
        simpa using h2
      · rw [dep, List.length_cons]; omega
theorem preL_in : ∀ (n : Nat) (bs : List Bu) (z : Rb), z ∈ preL n bs → ∃ (i : Nat) (r : List Int), z.1 = ((n + i : Nat) : Int) :: r ∧ 0 ≤ n ∧ inL bs i r ∧ prt (bs.getD i .tip) r = z.2 ∧ r.length + dep z.2 ≤ deps bs
  | _, [], z, h => by simp [preL] at h
  | n, b :: bs, z, h => by
    rw [preL] at h
    rcases List.mem_append.mp h with h | h
    · obtain ⟨y, hy, rfl⟩ := List.mem_map.mp h
      obtain ⟨h1, h2, h3⟩ := pre_in b y hy
      exact ⟨0, y.1, rfl, Nat.zero_le _, by simpa [inL] using h1, h2, Nat.le_trans h3 (Nat.le_max_left _ _)⟩
    · obtain ⟨i, r, h0, _, h1, h2, h3⟩ := preL_in (n + 1) bs z h
      exact ⟨i + 1, r, by rw [h0]; congr 1; congr 1; omega, Nat.zero_le _, by simpa [inL] using h1, by simpa using h2, Nat.le_trans h3 (Nat.le_max_right _ _)⟩
end
theorem knotss_app (a b : List Bu) : knotss (a ++ b) = knotss a + knotss b := by
  induction a with
  | nil => simp [knotss]
  | cons x a ih => simp [knotss, ih, Nat.add_assoc]
theorem split_at {bs : List Bu} {n : Nat} {x : Bu} (h : bs[n]? = some x) : bs = bs.take n ++ x :: bs.drop (n + 1) := by
  have h1 := List.take_append_drop n bs
  have h2 : bs.drop n = x :: bs.drop (n + 1) := by
    obtain ⟨hn, hx⟩ := List.getElem?_eq_some_iff.mp h
    rw [List.drop_eq_getElem_cons hn, hx]
  rw [h2] at h1
  exact h1.symm
/-- how much is in it when one part is put in the place of another one -/
theorem put_size (g : Bu) : ∀ (r : List Int) (b : Bu), inB b r → knots (putB b r g) + knots (prt b r) = knots b + knots g ∧ tips (putB b r g) + tips (prt b r) = tips b + tips g ∧ dep (putB b r g) ≤ max (dep b) (r.length + dep g)
  | [], b, _ => by
    have h1 : putB b [] g = g := by cases b <;> simp [putB]
    have h2 : prt b [] = b := by cases b <;> simp [prt]
    rw [h1, h2]
    refine ⟨by omega, by omega, ?_⟩
    have : (([] : List Int).length + dep g) = dep g := by simp
    rw [this]
    exact Nat.le_max_right _ _
  | i :: r, .tip, h => by simp [inB] at h
  | i :: r, .knot c bs, h => by
    have h' : 0 ≤ i ∧ inL bs i.toNat r := by simpa [inB] using h
    obtain ⟨x, hx, hxr⟩ := inL_get h'.2
    obtain ⟨e1, e2, e3⟩ := put_size g r x hxr
    have hs := split_at hx
    have hp : prt (.knot c bs) (i :: r) = prt x r := by
      rw [prt]
      congr 1
      show (bs.getD i.toNat .tip) = x
      rw [List.getD_eq_getElem?_getD, hx]; rfl
    have hq : putB (.knot c bs) (i :: r) g = .knot c (bs.take i.toNat ++ putB x r g :: bs.drop (i.toNat + 1)) := by rw [putB, putL_eq hx]
    have k1 : knotss bs = knotss (bs.take i.toNat) + (knots x + knotss (bs.drop (i.toNat + 1))) := by
      conv => lhs; rw [hs]
      rw [knotss_app, knotss]
    have k2 : tipss bs = tipss (bs.take i.toNat) + (tips x + tipss (bs.drop (i.toNat + 1))) := by
      conv => lhs; rw [hs]
      rw [tipss_app, tipss]
    have k3 : deps bs = max (deps (bs.take i.toNat)) (max (dep x) (deps (bs.drop (i.toNat + 1)))) := by
      conv => lhs; rw [hs]
      rw [deps_app, deps]
    rw [hp, hq]
    simp only [knots, tips, dep, knotss_app, tipss_app, deps_app, knotss, tipss, deps, List.length_cons, k1, k2, k3]
    refine ⟨by omega, by omega, by omega⟩
end Bk

namespace Bk
open PySem PySem.Spec PyProof.Rows L2
open Evl (Ex Ev EvT EvL EvU EvA)
/-! ### a bush near another one -/
structure Near (b b' : Bu) : Prop where
  ok : okB b' = true
  kn : knots b' ≤ knots b + 2
  tp : tips b' ≤ tips b + 7
  dp : dep b' ≤ dep b + 2
theorem near_put {b g : Bu} {z : Rb} (hb : okB b = true) (hz : z ∈ pre b) (hg : okB g = true) (hk : knots g ≤ knots z.2 + 2) (ht : tips g ≤ tips z.2 + 7) (hd : dep g ≤ dep z.2 + 2) : Near b (putB b z.1 g) := by
  obtain ⟨h1, h2, h3⟩ := pre_in b z hz
  obtain ⟨e1, e2, e3⟩ := put_size g z.1 b h1
  rw [h2] at e1 e2
  exact ⟨ok_put hg b z.1 hb, by omega, by omega, by omega⟩
theorem okB_of {c : Nat} {bs : List Bu} (h1 : 97 ≤ c) (h2 : c ≤ 122) (h3 : 1 ≤ bs.length) (h4 : bs.length ≤ 6) (h5 : okBs bs = true) : okB (.knot c bs) = true := by simp [okB, h1, h2, h3, h4, h5]
theorem knotss_rev (bs : List Bu) : knotss bs.reverse = knotss bs ∧ tipss bs.reverse = tipss bs ∧ deps bs.reverse = deps bs ∧ okBs bs.reverse = okBs bs := by
  induction bs with
  | nil => exact ⟨rfl, rfl, rfl, rfl⟩
  | cons b l ih =>
    obtain ⟨a1, a2, a3, a4⟩ := ih
    rw [List.reverse_cons, knotss_app, tipss_app, deps_app, okBs_app, a1, a2, a3, a4]
    simp only [knotss, tipss, deps, okBs]
    refine ⟨by omega, by omega, by omega, ?_⟩
    rw [Bool.and_true, Bool.and_comm]
theorem take6 {bs : List Bu} (h : bs.length ≤ 6) (h1 : 1 ≤ bs.length) (ho : okBs bs = true) : knotss ((bs ++ [Bu.tip]).take 6) ≤ knotss bs ∧ tipss ((bs ++ [Bu.tip]).take 6) ≤ tipss bs + 1 ∧ deps ((bs ++ [Bu.tip]).take 6) ≤ deps bs ∧ okBs ((bs ++ [Bu.tip]).take 6) = true ∧ 1 ≤ ((bs ++ [Bu.tip]).take 6).length := by
  have t : ((bs ++ [Bu.tip]).take 6 = bs ++ [.tip]) ∨ ((bs ++ [Bu.tip]).take 6 = bs) := by
    by_cases q : bs.length ≤ 5
    · exact .inl (List.take_of_length_le (by simp; omega))
    · right
      rw [List.take_append_of_le_length (by omega), List.take_of_length_le (by omega)]
  rcases t with t | t
  · rw [t, knotss_app, tipss_app, deps_app, okBs_app]
    simp only [knotss, tipss, deps, okBs, knots, tips, dep, okB, ho, List.length_append, List.length_cons, List.length_nil]
    refine ⟨by omega, by omega, by omega, rfl, by omega⟩
  · rw [t]
    exact ⟨Nat.le_refl _, by omega, Nat.le_refl _, ho, h1⟩
section
variable {P : Program} {w : World} {K : PySem.W.Frag} {mg : Str → Option Value} {base : Heap}
theorem ep_putN {c : Option Addr} {H0 : Hp} {Γ : GE} {E : XK} {tb tr tg : TE} {b : Bu} {z : Rb} {Pg : PyData → Prop} (hb : EvH K c H0 tb Γ (toD b)) (hr : EvH K c H0 tr Γ (enc z.1)) (hg : EvP K c H0 tg Γ Pg) (ho : okB b = true) (h60 : dep b ≤ 60) (hz : z ∈ pre b) (hP : ∀ d, Pg d → ∃ g, d = toD g ∧ okB g = true ∧ knots g ≤ knots z.2 + 2 ∧ tips g ≤ tips z.2 + 7 ∧ dep g ≤ dep z.2 + 2) :
    EvP K c H0 (tCall (spPut K 60) [] E (tCons tb (tCons tr (tCons tg tNil)))) Γ (fun d => ∃ b', d = toD b' ∧ Near b b') :=
  ep_old (eap_cons (EvH.p hb (fz_toD b)) (eap_cons (EvH.p hr (by show fzA _ = true; exact fzA_of fun d hd => by obtain ⟨x, _, rfl⟩ := List.mem_map.mp hd; rfl)) (eap_cons hg eap_nil))) fun ds q vs H1 hv R r => by
    obtain ⟨d1, l1, rfl, rfl, d2, l2, rfl, rfl, d3, l3, rfl, q3, rfl⟩ := q
    obtain ⟨g, rfl, g1, g2, g3, g4⟩ := hP d3 q3
    cases hv with
    | cons v1 hv =>
      cases hv with
      | cons v2 hv =>
        cases hv with
        | cons v3 hv =>
          cases hv
          obtain ⟨i1, i2, i3⟩ := pre_in b z hz
          exact ⟨_, _, _, b, g, z.1, rfl, v1, v2, v3, ho, i1, by omega, fun x H' e hx => r x H' _ e (fz_toD _) ⟨_, rfl, near_put ho hz g1 g2 g3 g4⟩ hx⟩
end
end Bk

namespace Bk
open PySem PySem.Spec PyProof.Rows L2
/-! ### how many parts there are at each depth -/
theorem preL_cnt0 : ∀ (i : Nat) (bs : List Bu), ((preL i bs).countP fun z => decide (z.1.length = 0)) = 0
  | _, [] => rfl
  | i, b :: bs => by
    rw [preL, List.countP_append, preL_cnt0 (i + 1) bs, List.countP_map]
    have : ((pre b).countP ((fun z : Rb => decide (z.1.length = 0)) ∘ at1 i)) = 0 := by
      rw [List.countP_eq_zero]
      intro z _
      simp [at1]
    rw [this]
mutual
theorem pre_cnt : ∀ (n : Nat) (b : Bu), ((pre b).countP fun z => decide (z.1.length = n)) = (lvR n b).length
  | 0, .tip => by simp [pre, lvR]
  | n + 1, .tip => by simp [pre, lvR]
  | 0, .knot c bs => by rw [pre, lvR, List.countP_cons, preL_cnt0]; simp
  | n + 1, .knot c bs => by rw [pre, lvR, List.countP_cons, preL_cnt n 0 bs]; simp
theorem preL_cnt : ∀ (n i : Nat) (bs : List Bu), ((preL i bs).countP fun z => decide (z.1.length = n + 1)) = (lvRL n i bs).length
  | _, _, [] => by simp [preL, lvRL]
  | n, i, b :: bs => by
    rw [preL, lvRL, List.countP_append, preL_cnt n (i + 1) bs, List.countP_map, List.length_append, List.length_map, ← pre_cnt n b]
    congr 1
    apply List.countP_congr
    intro z _
    simp [at1]
end
def wid (b : Bu) : List Int := (List.range (dep b + 1)).map fun d => (((lvR d b).length : Nat) : Int)
theorem itN_nxt (l : List Bu) : ∀ n, itN n (nxt l) = itN (n + 1) l
  | 0 => rfl
  | n + 1 => by show nxt (itN n (nxt l)) = nxt (itN (n + 1) l); rw [itN_nxt l n]
theorem lvs_it : ∀ (n : Nat) (l : List Bu), l ≠ [] → okBs l = true → deps l < n → lvsN n l = (List.range (deps l + 1)).map fun d => itN d l
  | 0, l, _, _, h => absurd h (by omega)
  | n + 1, l, hne, ho, h => by
    rw [lvsN_cons hne, List.range_succ_eq_map, List.map_cons, List.map_map]
    congr 1
    by_cases hx : nxt l = []
    · rw [hx, lvsN_nil, nxt_nil ho hx]; rfl
    · have h1 := deps_nxt l
      have h2 := deps_nxt2 l
      have h3 : deps l = deps (nxt l) + 1 := by rcases h1 with h1 | h1; omega; exact absurd h1 hx
      rw [lvs_it n (nxt l) hx (okBs_nxt ho) (by omega), h3]
      apply List.map_congr_left
      intro d _
      exact itN_nxt l d
theorem lens_wid {b : Bu} (hb : okB b = true) : lens b = wid b := by
  have h1 : okBs [b] = true := by simp [okBs, hb]
  have h2 : deps [b] = dep b := by simp [deps]
  unfold lens wid lvls
  rw [lvs_it (dep b + 1) [b] (by simp) h1 (by rw [h2]; omega), h2, List.map_map]
  apply List.map_congr_left
  intro d _
  show (((itN d [b]).length : Nat) : Int) = _
  rw [← lvR_parts, List.length_map]
theorem wid_sum {b : Bu} (hb : okB b = true) : (wid b).sum = ((knots b + tips b : Nat) : Int) := by
  rw [← lens_wid hb]
  unfold lens lvls
  rw [lv_sum (dep b + 1) [b] (.inr (by simp [deps]))]
  simp [kt, knotss, tipss]
theorem wid_len (b : Bu) : (wid b).length = dep b + 1 := by simp [wid]
/-- some part stands at each depth up to the height, none behind it -/
theorem lvR_pos {b : Bu} (hb : okB b = true) (n : Nat) : (lvR n b).length = 0 ↔ dep b < n := by
  constructor
  · intro h
    by_cases q : dep b < n
    · exact q
    · exfalso
      have key : ∀ (k : Nat) (l : List Bu), okBs l = true → l ≠ [] → k ≤ deps l → itN k l ≠ [] := by
        intro k
        induction k with
        | zero => intro l _ h _; exact h
        | succ k ih =>
          intro l ho hne hk
          rw [← itN_nxt]
          have hx : nxt l ≠ [] := fun hx => by have := nxt_nil ho hx; omega
          have h1 := deps_nxt2 l
          exact ih (nxt l) (okBs_nxt ho) hx (by omega)
      have h2 := key n [b] (by simp [okBs, hb]) (by simp) (by simp [deps]; omega)
      rw [← lvR_parts] at h2
      exact h2 (by rw [List.length_eq_zero_iff.mp h]; rfl)
  · intro h
    cases q : lvR n b with
    | nil => rfl
    | cons p t =>
      have := lvR_dep n b hb p (by rw [q]; exact List.mem_cons_self)
      omega
/-! ### the dict of how often each number comes -/
def ik (n : Nat) : Key := Sum.inl (n : Int)
def cn (l : List Nat) (n : Nat) : Nat := l.countP fun m => decide (m = n)
structure Tal (l : List Nat) (ds : List (Key × V)) : Prop where
  val : ∀ n : Nat, valV ds (ik n) = if cn l n = 0 then none else some (.int ((cn l n : Nat) : Int))
  keys : ∃ ks : List Nat, ds.map (·.1) = ks.map (fun n => ik n) ∧ ks.Nodup
theorem Tal.nil : Tal [] [] := ⟨fun n => rfl, [], rfl, List.nodup_nil⟩
theorem cn_snoc (l : List Nat) (m n : Nat) : cn (l ++ [m]) n = cn l n + if m = n then 1 else 0 := by
  unfold cn
  rw [List.countP_append, List.countP_cons, List.countP_nil]
  by_cases h : m = n <;> simp [h]
theorem ik_inj {a b : Nat} (h : ik a = ik b) : a = b := by
  have := Sum.inl.inj h
  omega
theorem Tal.put {l : List Nat} {ds : List (Key × V)} (h : Tal l ds) (m : Nat) : Tal (l ++ [m]) (putK ds (ik m) (.int (((cn l m : Nat) : Int) + 1))) := by
  obtain ⟨hv, ks, hk, hn⟩ := h
  refine ⟨fun n => ?_, ?_⟩
  · rw [valV_put, cn_snoc]
    by_cases q : m = n
    · subst q
      rw [if_pos rfl, if_pos rfl, if_neg (by omega)]
      congr 2
    · rw [if_neg (fun z => q (ik_inj z).symm), if_neg q]
      exact hv n
  · by_cases q : valV ds (ik m) = none
    · rw [putK_new _ q]
      refine ⟨ks ++ [m], by rw [List.map_append, hk, List.map_append]; rfl, ?_⟩
      rw [List.nodup_append]
      refine ⟨hn, by simp, fun a ha b hb => ?_⟩
      have hb' : b = m := by simpa using hb
      subst hb'
      rintro rfl
      have h1 : (valV ds (ik a)).isSome = true := by
        rw [← valV_any, List.any_eq_true]
        have : ik a ∈ ds.map (·.1) := by rw [hk]; exact List.mem_map.mpr ⟨a, ha, rfl⟩
        obtain ⟨p, hp, hp2⟩ := List.mem_map.mp this
        exact ⟨p, hp, by rw [hp2]; simp⟩
      rw [q] at h1
      cases h1
    · refine ⟨ks, ?_, hn⟩
      rw [← hk]
      have h1 : (ds.any fun kv => decide (kv.1 = ik m)) = true := by
        rw [valV_any]
        cases hq : valV ds (ik m) with
        | none => exact absurd hq q
        | some x => rfl
      unfold putK
      rw [if_pos h1, List.map_map]
      apply List.map_congr_left
      intro p _
      show (if p.1 = _ then _ else p).1 = p.1
      split
      · rfl
      · rfl
theorem Tal.mem {l : List Nat} {ds : List (Key × V)} (h : Tal l ds) {ks : List Nat} (hk : ds.map (·.1) = ks.map (fun n => ik n)) (n : Nat) : n ∈ ks ↔ cn l n ≠ 0 := by
  have h1 := h.val n
  have h2 : (valV ds (ik n)).isSome = decide (n ∈ ks) := by
    rw [← valV_any]
    have : (ds.any fun kv => decide (kv.1 = ik n)) = (ds.map (·.1)).any fun k => decide (k = ik n) := by rw [List.any_map]; rfl
    rw [this, hk, List.any_map, Bool.eq_iff_iff, List.any_eq_true, decide_eq_true_eq]
    constructor
    · rintro ⟨x, hx, e⟩
      have := ik_inj (by simpa using e)
      subst this; exact hx
    · intro hx; exact ⟨n, hx, by simp⟩
  rw [h1] at h2
  by_cases q : cn l n = 0
  · rw [if_pos q] at h2
    simp at h2
    simp [q, h2]
  · rw [if_neg q] at h2
    simp at h2
    simp [q, h2]
end Bk

namespace Bk
open PySem PySem.Spec PyProof.Rows L2
open Evl (Ex Ev EvT EvL EvU EvA)
theorem forq_at {K : PySem.W.Frag} {σ : L2.St} {H : Hp} {tl : TE} {g : TG} {tb tz : TS} {D : Ends} (h : tl σ H fun x H1 => tSeq (tFor (iList K (tC x)) g tb) tz D σ H1) : tSeq (tFor (iList K tl) g tb) tz D σ H := h
def chB : Nat → Bu
  | 0 => .tip
  | n + 1 => .knot 115 [chB n]
def wideB : Bu := .knot 103 [.tip, .tip, .tip, .tip, .tip, .tip]
def bigB : Bu := growAll .tip [wideB, wideB, wideB]
def big2 : Bu := puts wideB bigB ((tr bigB).take 23)
def greatN (n : Nat) : Bu := putB big2 [5, 5, 5] (chB n)
abbrev greatB : Bu := greatN 3
mutual
def inC : Bu → List Int → Bool
  | _, [] => true
  | .tip, _ :: _ => false
  | .knot _ bs, i :: r => decide (0 ≤ i) && inCL bs i.toNat r
def inCL : List Bu → Nat → List Int → Bool
  | [], _, _ => false
  | b :: _, 0, r => inC b r
  | _ :: bs, n + 1, r => inCL bs n r
end
mutual
theorem inC_of : ∀ (b : Bu) (r : List Int), inC b r = true → inB b r
  | .tip, [], _ => by rw [inB]; trivial
  | .knot _ _, [], _ => by rw [inB]; trivial
  | .tip, _ :: _, h => by simp [inC] at h
  | .knot c bs, i :: r, h => by
    rw [inC, Bool.and_eq_true, decide_eq_true_eq] at h
    rw [inB]
    exact ⟨h.1, inCL_of bs i.toNat r h.2⟩
theorem inCL_of : ∀ (bs : List Bu) (n : Nat) (r : List Int), inCL bs n r = true → inL bs n r
  | [], _, _, h => by simp [inCL] at h
  | b :: _, 0, r, h => by rw [inL]; exact inC_of b r (by simpa [inCL] using h)
  | _ :: bs, n + 1, r, h => by rw [inL]; exact inCL_of bs n r (by simpa [inCL] using h)
end
def goodB (b : Bu) : Bool := okB b && decide (knots b + tips b ≤ 400) && decide (dep b ≤ 60)
theorem goodB_of {b : Bu} (h : goodB b = true) : Good b := by
  unfold goodB at h
  simp only [Bool.and_eq_true, decide_eq_true_eq] at h
  exact ⟨h.1.1, h.1.2, h.2⟩
def canB (b : Bu) (gs : List Bu) : Bool := goodB b && gs.all goodB && decide (gs.length ≤ 12) && decide (knots (growAll b gs) + tips (growAll b gs) ≤ 400) && decide (dep (growAll b gs) ≤ 60)
theorem canB_of {b : Bu} {gs : List Bu} (h : canB b gs = true) : Can b gs := by
  unfold canB at h
  simp only [Bool.and_eq_true, decide_eq_true_eq, List.all_eq_true] at h
  exact ⟨goodB_of h.1.1.1.1, fun g hg => goodB_of (h.1.1.1.2 g hg), h.1.1.2, h.1.2, h.2⟩
theorem can_big : Can .tip [wideB, wideB, wideB] := canB_of (by decide +kernel)
theorem last_big : (tr bigB).getLast? = some [5, 5, 5] := by decide +kernel
theorem in_big2 : inB big2 [5, 5, 5] := inC_of _ _ (by decide +kernel)
theorem ok_big2 : okB big2 = true := by decide +kernel
theorem good_great : Good greatB := goodB_of (by decide +kernel)
theorem can_great : Can greatB [.tip, .tip] := canB_of (by decide +kernel)
theorem Can.pre {b : Bu} {gs : List Bu} (C : Can b gs) (i : Nat) : Can b (gs.take i) := by
  have hou : ∀ g ∈ gs, okB g = true := fun g hg => (C.hg g hg).ok
  have hok : okB (growAll b (gs.take i)) = true := ok_growAll C.hb.ok fun z hz => hou z (List.mem_of_mem_take hz)
  have h2 : growAll (growAll b (gs.take i)) (gs.drop i) = growAll b gs := by unfold growAll; rw [← List.foldl_append, List.take_append_drop]
  have h1 := dep_growAll (gs := gs.drop i) hok fun z hz => hou z (List.mem_of_mem_drop hz)
  have h3 := size_growAll (gs := gs.drop i) hok fun z hz => hou z (List.mem_of_mem_drop hz)
  rw [h2] at h1 h3
  refine ⟨C.hb, fun g hg => C.hg g (List.mem_of_mem_take hg), ?_, Nat.le_trans h3 C.few, Nat.le_trans h1 C.deep⟩
  rw [List.length_take]
  have := C.n
  omega
theorem shaped_lst {bs : List Bu} (h : okBs bs = true) (hd : deps bs ≤ 60) : SeqAt.shaped (.list (bs.map toD)) = true := by
  have h1 := lay_map h
  have h2 := depth_toDs bs
  rw [toDs_map] at h2
  show ((PyData.list (bs.map toD)).canLay0 && decide ((PyData.list (bs.map toD)).depth ≤ 64)) = true
  have e1 : (PyData.list (bs.map toD)).canLay0 = true := by simp only [PyData.canLay0]; exact h1
  have e2 : (PyData.list (bs.map toD)).depth ≤ 64 := by simp only [PyData.depth]; omega
  rw [e1, decide_eq_true e2]
  rfl
theorem eqv_lst (bs : List Bu) : PyData.eqv (.list (bs.map toD)) (.list (bs.map toD)) = true := by
  have := (eqv_toDs bs bs).mpr rfl
  rw [toDs_map] at this
  simpa [PyData.eqv] using this
theorem yrs_dr {b : Bu} {gs : List Bu} (C : Can b gs) (n : Nat) : okBs (yrs b gs n) = true ∧ deps (yrs b gs n) ≤ 60 := by
  constructor
  · refine okBs_of fun x hx => ?_
    obtain ⟨i, _, rfl⟩ := List.mem_map.mp hx
    exact (C.dr i).ok
  · refine deps_le fun x hx => ?_
    obtain ⟨i, _, rfl⟩ := List.mem_map.mp hx
    exact (C.dr i).dep
section
variable {P : Program} {w : World} {K : PySem.W.Frag} {mg : Str → Option Value} {base : Heap}
def spChain (K : PySem.W.Frag) : Sp := fun vs H Q _ => ∃ (n : Nat), vs = [.int (n : Int)] ∧ n ≤ 60 ∧ ∀ (r : V) H', Ex H H' → Dp K H' r (toD (chB n)) → Q r H'
theorem ed_put {σ : L2.St} {H : Hp} {ta : TA} {E : XK} {b g : Bu} {r : List Int} {n : Nat} (ho : okB b = true) (hi : inB b r) (hl : r.length ≤ n) (h : EvAD K ta σ H [toD b, enc r, toD g]) : EvD K (tCall (spPut K n) [] E ta) σ H (toD (putB b r g)) :=
  ed_call h fun vs H1 e1 hvs R rr => by
    cases hvs with
    | cons h1 h2 =>
      cases h2 with
      | cons h3 h4 =>
        cases h4 with
        | cons h5 h6 =>
          cases h6
          exact ⟨_, _, _, b, g, r, rfl, h1, h3, h5, ho, hi, hl, rr⟩
def spGreat (K : PySem.W.Frag) : Sp := fun vs H Q _ => ∃ n : Nat, vs = [.int (n : Int)] ∧ n ≤ 60 ∧ ∀ (r : V) H', Ex H H' → Dp K H' r (toD (greatN n)) → Q r H'
end
end Bk

namespace Bk
open PySem PySem.Spec PyProof.Rows L2
open Evl (Ex Ev EvT EvL EvU EvA)
/-! ### sum of a tuple of ints -/
def rSumT (K : PySem.W.Frag) : List V → Hp → VK → Prop := fun vs H Q => ∃ (a : Addr) (ns : List Int), vs = [V.ref a] ∧ SqT K H a (ns.map V.int) ∧ Q (.int ns.sum) H
theorem cr_sumT {X : Cx} (hc : X.calm = true) : CallR X (.builtin "sum") (rSumT X.K) := by
  intro pins s σ H vs us Q I r h
  obtain ⟨a, ns, rfl, hs, q⟩ := h
  obtain ⟨its, rv, ht, _⟩ := I.tuple hs
  rw [Vals.ref1 r]
  obtain ⟨xs, e⟩ := rv.ints.allInts.items
  have hn : numsOf (intItems xs).toList = ns := by rw [← e]; exact rv.ints.numsOf
  rw [nums_intItems] at hn
  rw [e] at ht
  refine PySem.W.ktm_sumG (I.ok.hd hc) ht fun h' tk t' hk => ?_
  rw [preSum_eq, List.take_of_length_le (by simp), hn]
  exact ⟨.int _, H, I.kept hk, ⟨_, rfl⟩, q⟩
theorem dp_ints {K : PySem.W.Frag} {H : Hp} : ∀ (ns : List Int) (xs : List V), DpAll K H xs (ns.map .int) → xs = ns.map V.int
  | [], _, h => by cases h; rfl
  | n :: ns, _, h => by
    cases h with
    | cons h1 h2 => rw [dp_int h1, dp_ints ns _ h2]; rfl
theorem ed_sumT {K : PySem.W.Frag} {σ : L2.St} {H : Hp} {te : TE} {ns : List Int} (h : EvD K te σ H (.tuple (ns.map .int))) : EvD K (tCB (rSumT K) (tCons te tNil)) σ H (.int ns.sum) := fun H1 a R r => h H1 a _ fun v H2 e2 hv => by
  obtain ⟨p, xs, rfl, hxs, hxa⟩ := dp_tup hv
  have ex := dp_ints ns xs hxa
  rw [ex] at hxs
  exact ⟨p, ns, rfl, hxs, r _ _ e2 (.int _)⟩
end Bk

namespace Bk
open PySem PySem.Spec PyProof.Rows L2
open Evl (Ex Ev EvT EvL EvU EvA)
/-! ### how many parts at each depth: the law's way -/
theorem q_for_at {K : PySem.W.Frag} {σ : L2.St} {H : Hp} {tl : TE} {g : TG} {tb tz : TS} {D : Ends} (h : tl σ H fun x H1 => tSeq (tFor (iList K (tC x)) g tb) tz D σ H1) : tSeq (tFor (iList K tl) g tb) tz D σ H := h
theorem keys_get {H : Hp} {kvs : List (List Key × V)} {bs : List Addr} (h : IsKeys H kvs bs) : ∀ {i : Nat} {x : V}, (bs.map V.ref)[i]? = some x → ∃ b p, x = .ref b ∧ kvs[i]? = some p ∧ H b = some (.tup (p.1.map kV)) := by
  unfold IsKeys at h
  induction h with
  | nil => intro i x q; simp at q
  | @cons p b ps bs h1 h2 ih =>
    intro i x q
    cases i with
    | zero => simp at q; exact ⟨b, p, q.symm, rfl, h1⟩
    | succ i => exact ih (i := i) (by simpa using q)
theorem vis_lens (b : Bu) (n : Nat) : cn ((vis b).map fun z => z.1.length) n = (lvR n b).length := by
  unfold cn
  rw [List.countP_map, ← pre_cnt, ← (vis_perm b).countP_eq]
  rfl
section
variable {P : Program} {w : World} {K : PySem.W.Frag} {mg : Str → Option Value} {base : Heap}
def spWid (K : PySem.W.Frag) : Sp := fun vs H Q _ => ∃ (v : V) (b : Bu), vs = [v] ∧ Dp K H v (toD b) ∧ Dr b ∧ ∀ x H', Ex H H' → Dp K H' x (.tuple ((wid b).map .int)) → Q x H'
end
end Bk

namespace Bk
open PySem PySem.Spec PyProof.Rows L2
open Evl (Ex Ev EvT EvL EvU EvA)
/-! ### the sizes that the program tells -/
def spNumG (K : PySem.W.Frag) (f : Bu → Nat) : Sp := fun vs H Q _ => ∃ (v : V) (b : Bu), vs = [v] ∧ Dp K H v (toD b) ∧ Good b ∧ ∀ H', Ex H H' → Q (.int ((f b : Nat) : Int)) H'
def spWidG (K : PySem.W.Frag) : Sp := fun vs H Q _ => ∃ (v : V) (b : Bu), vs = [v] ∧ Dp K H v (toD b) ∧ Good b ∧ ∀ x H', Ex H H' → Dp K H' x (.tuple ((wid b).map .int)) → Q x H'
section
variable {P : Program} {w : World} {K : PySem.W.Frag} {mg : Str → Option Value} {base : Heap}
end
end Bk

namespace Bk
open PySem PySem.Spec PyProof.Rows L2
open Evl (Ex Ev EvT EvL EvU EvA)
/-! ### defs where no text is being shown, by slots -/
section
variable {P : Program} {w : World} {K : PySem.W.Frag} {mg : Str → Option Value} {base : Heap}
theorem okEg {α : Type} {n : Nat} {enc : α → List AV} {ok : α → Prop} {res : α → AV → Prop} {x qual : Str} {st : Stmt} {f : Addr} {fd : FuncData} {N ps : List Str} {k : Nat} (F : Fun K x qual st f fd) (S : FnScope N ps (defScope st)) (hn : ps.length = n)
    (hbody : ∀ (cdv : Value) (A : Around) (outer : List PySem.Env) (s : Shared) (H : Hp) (E : XK), (A.deeper (envOfC qual (defScope st) s.heap.objs.size f cdv)).guards = some [] → Room k (A.deeper (envOfC qual (defScope st) s.heap.objs.size f cdv)) →
      ∃ t, PSs (cxOf CX0 P w K mg base N qual (defScope st) f cdv A outer s H E).nox (defBody st) t ∧ ∀ (c : Option Addr) (H0 : Hp) (x : α), ok x → SG K c H0 t ((enc x).map some ++ List.replicate (N.length - n) none) (fun _ => res x (.d .none)) (res x)) :
    FnG P w K mg base CX0 (k + 1) f fd ps (spE K n enc ok res) := by
  refine Bk.Fun.okg F S (fun vs H Q E h => h.1.trans hn.symm) (fun cdv A outer s H vs Q E hgd hr h => ?_)
  obtain ⟨hl, c, y, ha, hc, ho, q⟩ := h
  obtain ⟨t, ht, hS⟩ := hbody cdv A outer s H E hgd hr
  have hS := hS c H y ho
  rw [← hl] at hS
  exact ⟨t, ht, sg_run ha hc hS (fun _ z => z) q⟩
end
/-! repr -/
structure Rep (d : PyData) : Prop where
  sh : d.showable = true
  nd : d.hasDict = false
  dp : d.depth ≤ 60
  sz : d.shown.length ≤ sizeLine
/-- an int that is short -/
def Sm (i : Int) : Prop := 0 ≤ i ∧ i ≤ 999999999999
theorem Sm.log {i : Int} (h : Sm i) : i.natAbs.log2 ≤ 39 := by
  obtain ⟨h1, h2⟩ := h
  have : i.natAbs < 2 ^ 40 := by
    have e : (2 : Nat) ^ 40 = 1099511627776 := by decide
    omega
  by_cases z : i.natAbs = 0
  · rw [z]; decide
  · have := (Nat.log2_lt z).mpr this; omega
theorem Sm.weight {i : Int} (h : Sm i) : (PyData.int i).weight ≤ 40 := by
  unfold PyData.weight
  have := h.log
  split <;> omega
theorem ints_all (ns : List Int) (h : ∀ n ∈ ns, Sm n) : PyData.canLayAll0 (ns.map .int) = true ∧ PyData.showableAll (ns.map .int) = true ∧ PyData.hasDictAll (ns.map .int) = false ∧ PyData.depthAll (ns.map .int) = 0 ∧ PyData.weightAll (ns.map .int) ≤ 41 * ns.length ∧ PyData.intsShortAll 13 (ns.map .int) = true := by
  refine ⟨?_, ?_, ?_, ?_, ?_, intsShortAll_ints2 ns fun n hn => by obtain ⟨a, b⟩ := h n hn; omega⟩
  all_goals induction ns with
    | nil => first | rfl | exact Nat.le_refl _
    | cons n l ih =>
      have hn := h n List.mem_cons_self
      have ih := ih fun m hm => h m (List.mem_cons_of_mem _ hm)
      have hl := hn.log
      have hw := hn.weight
      rw [List.map_cons]
      first
        | (simp only [PyData.canLayAll0, PyData.canLay0, ih]; rfl)
        | (simp only [PyData.showableAll, PyData.showable, ih]; simp; omega)
        | (simp only [PyData.hasDictAll, PyData.hasDict, ih]; rfl)
        | (simp only [PyData.depthAll, PyData.depth, ih]; rfl)
        | (simp only [PyData.weightAll, List.length_cons]; omega)
theorem rep_of {d : PyData} (h1 : d.canLay0 = true) (h2 : d.showable = true) (h3 : d.hasDict = false) (h4 : d.depth ≤ 60) (h5 : d.weight ≤ 2 ^ 20) (h6 : d.intsShort 13 = true) : Rep d := ⟨h2, h3, h4, by
  have hl : PyData.layable0 d = true := by
    unfold PyData.layable0
    rw [h1, decide_eq_true (show d.depth ≤ 64 by omega), decide_eq_true h5]; rfl
  have := shown_le13 hl h6
  rw [sizeLine_eq]
  omega⟩
section
variable {K : PySem.W.Frag} {c : Option Addr} {H0 : Hp} {Γ Γ1 Γ2 : GE} {te tb tl : TE} {ta tr : TA} {tt tu : TT} {d e : PyData} {ds es : List PyData} {i j : Nat} {N : GE → Prop} {Rt : AV → Prop} {rest : TS}
theorem ev_repr {σ : L2.St} {H : Hp} (h : EvD K te σ H d) (hR : Rep d) (hd : (∃ l, d = .list l) ∨ ∃ l, d = .tuple l) : Ev (tCB (rReprD K) (tCons te tNil)) σ H (.str d.shown) := fun H1 a R r => h H1 a _ fun v H2 e2 hv => by
  refine .inl ⟨v, d, rfl, hv, hR.sh, hR.nd, hR.dp, hR.sz, ?_, r H2 e2⟩
  rcases hd with ⟨l, rfl⟩ | ⟨l, rfl⟩
  · obtain ⟨p, _, rfl, _⟩ := dp_lst hv; exact ⟨_, rfl⟩
  · obtain ⟨p, _, rfl, _⟩ := dp_tup hv; exact ⟨_, rfl⟩
theorem ev_reprB {σ : L2.St} {H : Hp} {b : Bool} (h : Ev te σ H (.bl b)) : Ev (tCB (rReprD K) (tCons te tNil)) σ H (.str (if b then "True" else "False")) := fun H1 a R r => h H1 a _ fun H2 e2 => .inr (.inl ⟨b, rfl, r H2 e2⟩)
theorem ev_reprN {σ : L2.St} {H : Hp} (h : Ev te σ H .non) : Ev (tCB (rReprD K) (tCons te tNil)) σ H (.str "None") := fun H1 a R r => h H1 a _ fun H2 e2 => .inr (.inr ⟨rfl, r H2 e2⟩)
theorem sg_parG (h1 : EvG K c H0 te Γ d) (h2 : EvG K c H0 tb Γ e) (k : SG K c H0 rest ((Γ.set i (some (.d d))).set j (some (.d e))) N Rt) : SG K c H0 (tSeq (tPar i j (tCons te (tCons tb tNil))) rest) Γ N Rt := fun D σ H w hn hr => h1 w _ fun v H1 e1 hv => h2 (w.ex e1) _ fun u H2 e2 hu => by
  have w1 := w.ex e1
  have w2 := w1.ex e2
  have x1 : Ex (hd c Γ H) (hd c Γ H1) := hd_ex (.ex w.cup e1)
  have x2 : Ex (hd c Γ H1) (hd c Γ H2) := hd_ex (.ex w1.cup e2)
  obtain ⟨a1, b1⟩ := w2.setX (i := i) (Dp.ex x2 _ _ hv)
  obtain ⟨a2, b2⟩ := a1.setX (i := j) (Dp.ex b1 _ _ hu)
  exact ⟨_, _, rfl, k D _ H2 a2 (fun σ' H' Γ' a x q => hn σ' H' Γ' a (((((x1.trans x2).trans b1).trans b2)).trans x) q) hr⟩
/-! more readings -/
theorem ed_minL {σ : L2.St} {H : Hp} {ns : List Int} {m : Int} (h : EvD K te σ H (.list (ns.map .int))) (hm : m ∈ ns) (hl : ∀ y ∈ ns, m ≤ y) : EvD K (tCB (rMin K) (tCons te tNil)) σ H (.int m) := fun H1 a R r => h H1 a _ fun v H2 e2 hv => by
  obtain ⟨p, xs, rfl, hxs, hxa⟩ := dp_lst hv
  rw [dp_ints ns xs hxa] at hxs
  refine ⟨p, ns, rfl, hxs, List.length_pos_iff.mpr (List.ne_nil_of_mem hm), fun m' h1 h2 => ?_⟩
  have : m' = m := Int.le_antisymm (h2 m hm) (hl m' h1)
  rw [this]
  exact r _ _ e2 (.int _)
theorem ed_maxL {σ : L2.St} {H : Hp} {ns : List Int} {m : Int} (h : EvD K te σ H (.list (ns.map .int))) (hm : m ∈ ns) (hl : ∀ y ∈ ns, y ≤ m) : EvD K (tCB (rMax K) (tCons te tNil)) σ H (.int m) := fun H1 a R r => h H1 a _ fun v H2 e2 hv => by
  obtain ⟨p, xs, rfl, hxs, hxa⟩ := dp_lst hv
  rw [dp_ints ns xs hxa] at hxs
  refine ⟨p, ns, rfl, hxs, List.length_pos_iff.mpr (List.ne_nil_of_mem hm), fun m' h1 h2 => ?_⟩
  have : m' = m := Int.le_antisymm (hl m' h1) (h2 m hm)
  rw [this]
  exact r _ _ e2 (.int _)
theorem ev_eqI {σ : L2.St} {H : Hp} {a b : Int} (h1 : EvD K te σ H (.int a)) (h2 : EvD K tb σ H (.int b)) : Ev (tOp rEq te tb) σ H (.bl (decide (a = b))) := fun H1 x R r => ev_ofI h1 H1 x _ fun H2 e2 => ev_ofI h2 H2 (x.trans e2) _ fun H3 e3 => ⟨rfl, by
  have e : (V.bl (decide (a = b))) = V.bl (decide ((V.int a) = V.int b)) := by
    congr 1
    by_cases q : a = b
    · subst q; simp
    · rw [decide_eq_false q, decide_eq_false fun z => q (V.int.inj z)]
  rw [← e]
  exact r _ (e2.trans e3)⟩
theorem ev_neS {σ : L2.St} {H : Hp} {a : Str} (h1 : Ev te σ H (.str a)) (h2 : Ev tb σ H (.str a)) : Ev (tOp rNe te tb) σ H (.bl false) := fun H1 x R r => h1 H1 x _ fun H2 e2 => h2 H2 (x.trans e2) _ fun H3 e3 => ⟨rfl, by
  have e : (!decide (V.str a = V.str a)) = false := by simp
  rw [e]
  exact r _ (e2.trans e3)⟩
end
end Bk

namespace Bk
open PySem PySem.Spec PyProof.Rows L2
open Evl (Ex Ev EvT EvL EvU EvA)
/-! ### k07: whether the sizes of a bush are told rightly -/
section
variable {K : PySem.W.Frag} {c : Option Addr} {H0 : Hp} {Γ : GE} {te tb tl : TE} {E : XK} {σ : L2.St} {H : Hp} {b : Bu}
theorem ed_knotsL (h : EvD K te σ H (toD b)) (hD : Dr b) : EvD K (tCall (spKnots K) [] E (tCons te tNil)) σ H (.int (knots b : Nat)) := fun H1 a R r => h H1 a _ fun v H2 e2 hv => ⟨v, b, rfl, hv, hD, fun H' e3 => r _ H' (e2.trans e3) (.int _)⟩
theorem ed_numG {f : Bu → Nat} (h : EvD K te σ H (toD b)) (hG : Good b) : EvD K (tCall (spNumG K f) [] E (tCons te tNil)) σ H (.int (f b : Nat)) := fun H1 a R r => h H1 a _ fun v H2 e2 hv => ⟨v, b, rfl, hv, hG, fun H' e3 => r _ H' (e2.trans e3) (.int _)⟩
theorem ed_widL (h : EvD K te σ H (toD b)) (hD : Dr b) : EvD K (tCall (spWid K) [] E (tCons te tNil)) σ H (.tuple ((wid b).map .int)) := fun H1 a R r => h H1 a _ fun v H2 e2 hv => ⟨v, b, rfl, hv, hD, fun x H' e3 hx => r _ H' (e2.trans e3) hx⟩
theorem ed_widG (h : EvD K te σ H (toD b)) (hG : Good b) : EvD K (tCall (spWidG K) [] E (tCons te tNil)) σ H (.tuple ((wid b).map .int)) := fun H1 a R r => h H1 a _ fun v H2 e2 hv => ⟨v, b, rfl, hv, hG, fun x H' e3 hx => r _ H' (e2.trans e3) hx⟩
def lens_tr (b : Bu) : List Int := (tr b).map fun r => ((r.length : Nat) : Int)
theorem dpA_ints {H : Hp} : ∀ ns : List Int, DpAll K H (ns.map V.int) (ns.map .int)
  | [] => .nil
  | n :: l => .cons (.int n) (dpA_ints l)
theorem eo_depths (h : EvH K c H0 te Γ (toD b)) (hD : Dr b) : EvO K c H0 (tCall (spDepths K) [] E (tCons te tNil)) Γ ((lens_tr b).map .int) := fun σ H e R r => h e H (Ex.refl H) _ fun v H1 e1 hv => ⟨v, b, rfl, hv, hD, fun p H' hp e2 hL => r p H' _ (Evl.fresh_back e1 hp) (e1.trans e2) hL (dpA_ints _)⟩
theorem ed_true {x : Bool} (h : Ev te σ H (.bl x)) (hx : x = true) : EvD K te σ H (.bool true) := by subst hx; exact ed_bool h
theorem fz_ints (ns : List Int) : fzA (ns.map .int) = true := fzA_of fun d hd => by obtain ⟨y, _, rfl⟩ := List.mem_map.mp hd; rfl
end
theorem rep_due {a b m n : Int} {ws : List Int} (ha : Sm a) (hb : Sm b) (hm : Sm m) (hn : Sm n) (hw : ∀ x ∈ ws, Sm x) (hl : ws.length ≤ 1000) : Rep (.list [.int a, .int b, .int m, .int n, .tuple (ws.map .int)]) := by
  obtain ⟨w1, w2, w3, w4, w5, w6⟩ := ints_all ws hw
  obtain ⟨u1, u2, u3, u4, u5, u6⟩ := ints_all [a, b, m, n] (fun x hx => by simp at hx; rcases hx with rfl | rfl | rfl | rfl <;> assumption)
  simp only [List.map_cons, List.map_nil, PyData.canLayAll0, PyData.showableAll, PyData.hasDictAll, PyData.depthAll, PyData.weightAll, PyData.intsShortAll, Bool.and_eq_true, Bool.or_eq_false_iff, List.length_cons, List.length_nil] at u1 u2 u3 u4 u5 u6
  refine rep_of ?_ ?_ ?_ ?_ ?_ ?_
  · simp only [PyData.canLay0, PyData.canLayAll0, w1]; rfl
  · simp only [PyData.showable, PyData.showableAll, w2] at *; simp [u2]
  · simp only [PyData.hasDict, PyData.hasDictAll, w3]; rfl
  · simp only [PyData.depth, PyData.depthAll, w4]; omega
  · simp only [PyData.weight, PyData.weightAll] at *; omega
  · simp only [PyData.intsShort, PyData.intsShortAll, w6] at *; simp [u6]
theorem wid_sm {b : Bu} (h : Good b) : ∀ x ∈ wid b, Sm x := by
  intro x hx
  have hs := wid_sum h.ok
  have h4 := h.few
  have hn : ∀ y ∈ wid b, 0 ≤ y := fun y hy => by
    obtain ⟨n, _, rfl⟩ := List.mem_map.mp hy
    omega
  have key : ∀ (l : List Int), (∀ y ∈ l, 0 ≤ y) → ∀ x ∈ l, x ≤ l.sum := by
    intro l
    induction l with
    | nil => intro _ x hx; simp at hx
    | cons a l ih =>
      intro h x hx
      have h0 : 0 ≤ l.sum := by
        clear ih hx
        induction l with
        | nil => simp
        | cons b l ih2 =>
          have := ih2 fun y hy => h y (by simp at hy ⊢; rcases hy with h | h <;> simp [h])
          have := h b (by simp)
          simp; omega
      have ha := h a (by simp)
      rw [List.sum_cons]
      rcases List.mem_cons.mp hx with rfl | hx
      · omega
      · have := ih (fun y hy => h y (List.mem_cons_of_mem _ hy)) x hx; omega
  have := key _ hn x hx
  have := hn x hx
  exact ⟨by omega, by omega⟩
theorem tr_min {b : Bu} (h : okB b = true) : ((near b : Nat) : Int) ∈ lens_tr b ∧ (∀ y ∈ lens_tr b, ((near b : Nat) : Int) ≤ y) ∧ ((dep b : Nat) : Int) ∈ lens_tr b ∧ ∀ y ∈ lens_tr b, y ≤ ((dep b : Nat) : Int) := by
  obtain ⟨⟨r1, m1, e1⟩, r2, m2, e2⟩ := tr_ends b h
  refine ⟨List.mem_map.mpr ⟨r2, m2, by rw [e2]⟩, fun y hy => ?_, List.mem_map.mpr ⟨r1, m1, by rw [e1]⟩, fun y hy => ?_⟩
  · obtain ⟨r, hr, rfl⟩ := List.mem_map.mp hy
    have := tr_near b r hr
    omega
  · obtain ⟨r, hr, rfl⟩ := List.mem_map.mp hy
    have := tr_dep b r hr
    omega
end Bk

namespace Bk
open PySem PySem.Spec PyProof.Rows L2
open Evl (Ex Ev EvT EvL EvU EvA)
/-! ### more readings, by slots -/
def rIsN0 : R2 := fun x y H Q => y = .non ∧ Q (.bl (decide (x = .non))) H
def rNotN0 : R2 := fun x y H Q => y = .non ∧ Q (.bl (!decide (x = .non))) H
theorem op_isN0 {X : Cx} : OpR X (compareOp .Is) rIsN0 := op_isN
theorem op_notN0 {X : Cx} : OpR X (compareOp .IsNot) rNotN0 := op_notN
theorem rv_isN1 {x : V} {H : Hp} : Evl.RV rIsN0 x .non H (.bl (decide (x = .non))) := fun H1 _ _ q => ⟨rfl, q H1 (Ex.refl H1)⟩
theorem rv_notN1 {x : V} {H : Hp} : Evl.RV rNotN0 x .non H (.bl (!decide (x = .non))) := fun H1 _ _ q => ⟨rfl, q H1 (Ex.refl H1)⟩
theorem shaped_lay {d : PyData} (h : SeqAt.shaped d = true) : d.canLay0 = true := by
  have h1 : (d.canLay0 && decide (d.depth ≤ 64)) = true := h
  rw [Bool.and_eq_true] at h1
  exact h1.1
theorem shaped_of {d : PyData} (h : d.canLay0 = true) (h2 : d.depth ≤ 64) : SeqAt.shaped d = true := by
  show (d.canLay0 && decide (d.depth ≤ 64)) = true
  rw [h, decide_eq_true h2]; rfl
section
variable {K : PySem.W.Frag} {c : Option Addr} {H0 : Hp} {Γ : GE} {te tb tl : TE} {ta : TA} {d e : PyData} {ds es : List PyData} {i : Nat} {σ : L2.St} {H : Hp}
theorem ev_neSelf (h1 : EvD K te σ H d) (h2 : EvD K tb σ H d) (hs : SeqAt.shaped d = true) : Ev (tOp (rNeD K) te tb) σ H (.bl false) := by
  have := ev_neD h1 h2 hs hs
  rw [PySem.SeqAt.eqv_refl d (shaped_lay hs)] at this
  exact this
theorem ev_eqSelf (h1 : EvD K te σ H d) (h2 : EvD K tb σ H d) (hs : SeqAt.shaped d = true) : Ev (tOp (rEqD K) te tb) σ H (.bl true) := by
  have := ev_eqD h1 h2 hs hs
  rw [PySem.SeqAt.eqv_refl d (shaped_lay hs)] at this
  exact this
theorem ev_notN0 (h : EvD K te σ H .none) : Ev (tOp rNotN0 te (tC .non)) σ H (.bl false) := fun H1 a R r => h H1 a _ fun v H2 e2 hv => by
  cases hv
  exact ⟨rfl, r _ e2⟩
theorem ev_notN1 (h : EvD K te σ H (.tuple ds)) : Ev (tOp rNotN0 te (tC .non)) σ H (.bl true) := fun H1 a R r => h H1 a _ fun v H2 e2 hv => by
  obtain ⟨p, xs, rfl, _⟩ := dp_tup hv
  exact ⟨rfl, r _ e2⟩
theorem ev_isN0 (h : EvD K te σ H .none) : Ev (tOp rIsN0 te (tC .non)) σ H (.bl true) := fun H1 a R r => h H1 a _ fun v H2 e2 hv => by
  cases hv
  exact ⟨rfl, r _ e2⟩
theorem ev_isN1 (h : EvD K te σ H (.tuple ds)) : Ev (tOp rIsN0 te (tC .non)) σ H (.bl false) := fun H1 a R r => h H1 a _ fun v H2 e2 hv => by
  obtain ⟨p, xs, rfl, _⟩ := dp_tup hv
  exact ⟨rfl, r _ e2⟩
theorem sg_assoc {a b : TS} {N : GE → Prop} {Rt : AV → Prop} {rest : TS} (h : SG K c H0 (tSeq a (tSeq b rest)) Γ N Rt) : SG K c H0 (tSeq (tSeq a b) rest) Γ N Rt := h
/-- a list of its own and a new one -/
theorem eo_cat {p : Addr} (h1 : At Γ i (.own p ds)) (h2 : EvO K c H0 tb Γ es) (hz : ds.length + es.length ≤ 100000) : EvO K c H0 (tOp rCat (tVar i) tb) Γ (ds ++ es) := fun σ H e R r => by
  obtain ⟨a1, _, _, _, us, a5, a6⟩ := e.ow i p ds h1
  refine ⟨_, a1, h2 e _ fun p2 H2 us2 hp2 e2 hL2 hA2 => ⟨p, p2, us, us2, rfl, rfl, e2 _ _ a5, hL2, Evl.sz_of (by rw [DpAll.len a6, DpAll.len hA2]; exact hz), fun q hq => ?_⟩⟩
  have e3 := ex_new (o := .lst (us ++ us2)) hq
  exact r q _ (us ++ us2) (Evl.fresh_back e2 hq) (e2.trans e3) upd_same (DpAll.ex e3 _ _ (DpAll.app (DpAll.ex e2 _ _ (DpAll.ex hd_sub _ _ a6)) hA2))
/-- a, b, c, e = .. -/
theorem gt_four {Γ : GE} {i j k l : Nat} {x y z u : PyData} (h1 : d = .tuple [x, y, z, u]) : GtG K c H0 (gTup K 4 (gCons (gName i) (gCons (gName j) (gCons (gName k) (gCons (gName l) gNil))))) Γ d ((((Γ.set i (some (.d x))).set j (some (.d y))).set k (some (.d z))).set l (some (.d u))) := fun σ H v e hv Q q => by
  subst h1
  obtain ⟨a, xs, rfl, hs, hA⟩ := dp_tup hv
  cases hA with
  | cons h1 h2 =>
    cases h2 with
    | cons h3 h4 =>
      cases h4 with
      | cons h5 h6 =>
        cases h6 with
        | cons h7 h8 =>
          cases h8
          obtain ⟨a1, b1⟩ := e.setX (i := i) h1
          obtain ⟨a2, b2⟩ := a1.setX (i := j) (Dp.ex b1 _ _ h3)
          obtain ⟨a3, b3⟩ := a2.setX (i := k) (Dp.ex (b1.trans b2) _ _ h5)
          obtain ⟨a4, b4⟩ := a3.setX (i := l) (Dp.ex ((b1.trans b2).trans b3) _ _ h7)
          exact ⟨a, _, rfl, Evl.ex_t hd_sub hs, rfl, _, _, rfl, _, _, rfl, _, _, rfl, _, _, rfl, rfl, q _ a4 (((b1.trans b2).trans b3).trans b4)⟩
theorem etp_andF {tt tu : TT} {b : Bool} (h1 : EtH K c H0 tt Γ b) (h2 : EtP K c H0 tu Γ (· = false)) : EtP K c H0 (tAnd tt tu) Γ (· = false) := fun σ H e R r => h1 e H (Ex.refl H) _ fun H1 e1 => by
  cases b with
  | true => exact h2 (e.ex e1) _ fun b H2 w q => r b H2 ((Wd.ex e.cup e1).trans w) q
  | false => exact r false H1 (.ex e.cup e1) rfl
/-- [x for x in t if ..], t a tuple -/
theorem ed_lcTf {tl : TE} {ps : List (PyData × Bool)} {j : Nat} {vs : List Nat} {tt : TT} (h : EvD K tl σ H (.tuple (ps.map (·.1)))) (hz : ps.length ≤ 40000) (hw : ∀ x, wipe ((wipe σ vs).set j (some x)) vs = wipe σ vs) (hj : j < σ.length)
    (hl : (wipe σ vs).length = σ.length) (ht : ∀ (p : PyData × Bool) (x : V) H1, Ex H H1 → p ∈ ps → Dp K H1 x p.1 → EvT tt ((wipe σ vs).set j (some x)) H1 p.2) :
    EvD K (tLc (iTup K tl) (gName j) tt (tVar j) vs) σ H (.list ((ps.filter (·.2)).map (·.1))) := fun H0 a R r => h H0 a _ fun v H1 e1 hv => by
  obtain ⟨p, xs, rfl, hxs, hxa⟩ := dp_tup hv
  have hlen : xs.length = ps.length := by rw [DpAll.len hxa, List.length_map]
  refine ⟨p, rfl, ⟨xs, hxs⟩, fun Dl hD => lc_tup (xs := xs) (fun i H' => Ex H1 H' ∧ ∃ us, H' Dl = some (.lst us) ∧ DpAll K H1 us (((ps.take i).filter (·.2)).map (·.1))) ⟨ex_new hD, [], upd_same, by rw [List.take_zero]; exact .nil⟩ (fun i H' _ q => Evl.ex_t q.1 hxs) (fun i x H' hi q => ⟨hw x, ?_⟩) (fun H' q => ?_)⟩
  · obtain ⟨e, us, hL, hA⟩ := q
    obtain ⟨d, hd, hdx⟩ := DpAll.get hxa hi
    rw [List.getElem?_map] at hd
    obtain ⟨pr, hpr, rfl⟩ := Option.map_eq_some_iff.mp hd
    have htk : ps.take (i + 1) = ps.take i ++ [pr] := by rw [List.take_add_one, hpr]; rfl
    have hle : us.length ≤ i := by
      rw [DpAll.len hA, List.length_map]
      exact Nat.le_trans (List.length_filter_le _ _) (by rw [List.length_take]; omega)
    have hi2 : i < ps.length := by have := (List.getElem?_eq_some_iff.mp hi).1; omega
    refine ht pr x H1 (a.trans e1) (List.mem_of_getElem? hpr) hdx H' e _ fun H2 e2 => ?_
    cases hb : pr.2 with
    | true =>
      refine ⟨x, by rw [List.getElem?_set, if_pos rfl, if_pos (by rw [hl]; exact hj)], us, e2 _ _ hL, Evl.sz_lt (by omega), Evl.Ex.mut (e.trans e2) hD, _, upd_same, ?_⟩
      rw [htk, List.filter_append, List.map_append, List.filter_cons, if_pos hb]
      exact DpAll.snoc hA hdx
    | false =>
      refine ⟨e.trans e2, us, e2 _ _ hL, ?_⟩
      rw [htk, List.filter_append, List.map_append, List.filter_cons, if_neg (by rw [hb]; simp)]
      simpa using hA
  · obtain ⟨e, us, hL, hA⟩ := q
    rw [hlen, List.take_length] at hA
    exact r _ H' (e1.trans e) (.lst (SqL.of hL) (DpAll.ex e _ _ hA))
theorem ed_callE {α : Type} {n : Nat} {enc : α → List AV} {ok : α → Prop} {res : α → AV → Prop} {E : XK} (x : α) (ha : EvAD K ta σ H ds) (hx : enc x = ds.map AV.d) (hf : fzA ds = true) (ho : ok x) (hr : ∀ r, res x r → r = .d d) (hn : ds.length = n := by rfl) : EvD K (tCall (spE K n enc ok res) [] E ta) σ H d :=
  ed_call ha fun vs H1 e1 hv R r => ⟨(DpAll.len hv).trans hn, none, x, by rw [hx]; exact ars_of hv hf, (fun a q => by cases q), ho, fun v H' rr hF hR => by
    have := hr rr hR
    subst this
    exact r v H' hF.1.toEx hF.2⟩
theorem ev_isB {a b : Bool} (h1 : Ev te σ H (.bl a)) (h2 : Ev tb σ H (.bl b)) : Ev (tOp rIsB te tb) σ H (.bl (decide (a = b))) := fun H1 x R r => h1 H1 x _ fun H2 e2 => h2 H2 (x.trans e2) _ fun H3 e3 => ⟨a, b, rfl, rfl, r _ (e2.trans e3)⟩
end
end Bk

namespace Bk
open PySem PySem.Spec PyProof.Rows L2
open Evl (Ex Ev EvT EvL EvU EvA)
/-! ### how a law begins: the cup out of the script -/
def spLaw (K : PySem.W.Frag) : Sp := fun vs H Q _ => ∃ (a : Addr) (ns : List Int), vs = [.ref a] ∧ SqL K H a (ns.map V.int) ∧ ns.length ≤ 63 ∧ (∀ z ∈ ns, Builtin.Int.intBits z ≤ 1048576) ∧ ∀ H', Q (.bl true) H'
theorem env_cup {K : PySem.W.Frag} {c : Addr} {H : Hp} {v : V} {n : Nat} (hc : Cup H c) : Env K (some c) H ([none, some .cup] ++ List.replicate n none) ([some v, some (.ref c)] ++ List.replicate n none) H := by
  have no : ∀ {j : Nat} {x : AV}, (([none, some .cup] ++ List.replicate n none : GE))[j]? = some (some x) → j = 1 ∧ x = .cup := by
    intro j x h
    match j, h with
    | 0, h => simp at h
    | 1, h => simp at h; exact ⟨rfl, h.symm⟩
    | j + 2, h =>
      simp only [List.cons_append, List.nil_append, List.getElem?_cons_succ, List.getElem?_replicate] at h
      split at h <;> simp at h
  refine ⟨fun a q => by cases q; exact hc, fun a o _ h => h, by simp, fun i x h => ?_, fun i h => ?_, fun i p ds h => ?_, fun i j p ds es h => ?_⟩
  · obtain ⟨_, h2⟩ := no h; cases h2
  · obtain ⟨rfl, _⟩ := no h; exact ⟨c, rfl, rfl⟩
  · obtain ⟨_, h2⟩ := no h; cases h2
  · obtain ⟨_, h2⟩ := no h; cases h2
theorem sg_cup {K : PySem.W.Frag} {E : XK} {rest : TS} {D : Ends} {H : Hp} {a : Addr} {ns : List Int} {n : Nat} (hL : SqL K H a (ns.map V.int)) (hl : ns.length ≤ 63) (hb : ∀ z ∈ ns, Builtin.Int.intBits z ≤ 1048576) (q : ∀ H', D.rt (.bl true) H')
    (k : ∀ c H1, SG K (some c) H1 rest ([none, some .cup] ++ List.replicate n none) (fun _ => False) (fun r => r = .d (.bool true))) : tSeq (tAsg (tCall (spCup K) [] E (tCons (tVar 0) tNil)) (gName 1)) rest D ([some (.ref a), none] ++ List.replicate n none) H := by
  refine ⟨_, rfl, a, ns, rfl, hL, hl, hb, fun c H1 hc0 e1 hc => ?_⟩
  refine k c H1 D _ H1 (env_cup hc) (fun _ _ _ _ _ z => z.elim) fun v H' r hF hr => ?_
  subst hr
  rw [dp_bl hF.2]
  exact q H'
end Bk

namespace Bk
open PySem PySem.Spec PyProof.Rows L2
open Evl (Ex Ev EvT EvL EvU EvA)
/-! ### how great the bush of a row is: the program's way -/
def ctrD (z : C4) : PyData := .tuple [.int (z.1 : Nat), .int (z.2.1 : Nat), .int (z.2.2.1 : Nat), .int (z.2.2.2 : Nat)]
def fitsB (z : C4) : Bool := decide (((z.1 : Nat) : Int) + ((z.2.1 : Nat) : Int) ≤ 400) && decide (((z.2.2.2 : Nat) : Int) ≤ 60)
theorem fz_ctr (z : C4) : fz (ctrD z) = true := by simp [ctrD, fz, fzA]
abbrev rowV (gs : List Bu) : PyData := .tuple (gs.map toD)
theorem fz_row1 (gs : List Bu) : fz (rowV gs) = true := fz_map gs
structure GoodR (gs : List Bu) : Prop where
  g : ∀ b ∈ gs, Good b
  n : gs.length ≤ 12
structure DrR (gs : List Bu) : Prop where
  g : ∀ b ∈ gs, Dr b
  n : gs.length ≤ 13
theorem Good.dr1 {b : Bu} (h : Good b) : Dr b := ⟨h.ok, h.dep, by have := h.few; omega⟩
theorem GoodR.dr {gs : List Bu} (h : GoodR gs) : DrR gs := ⟨fun b hb => (h.g b hb).dr1, by have := h.n; omega⟩
section
variable {K : PySem.W.Frag} {te tb tl : TE} {E : XK} {σ : L2.St} {H : Hp} {b : Bu} {gs : List Bu}
theorem dp_ints4 {H : Hp} {p : Addr} {z : C4} (h : H p = some (.tup (ints4 z))) : Dp K H (.ref p) (ctrD z) := .tup (SqT.of h) (.cons (.int _) (.cons (.int _) (.cons (.int _) (.cons (.int _) .nil))))
theorem ed_checkG (h : EvD K te σ H (rowV gs)) (g : GoodR gs) : EvD K (tCall (spCheckG K) [] E (tCons te tNil)) σ H .none := fun H1 a R r => h H1 a _ fun v H2 e2 hv => ⟨v, gs, rfl, hv, g.g, g.n, fun H' e3 => r _ H' (e2.trans e3) .non⟩
theorem ed_cg (hb : EvD K tb σ H (toD .tip)) (h : EvD K te σ H (rowV gs)) (g : GoodR gs) : EvD K (tCall (spCG K) [] E (tCons tb (tCons te tNil))) σ H (ctrD (ctrs .tip gs)) := ed_call (ds := [toD .tip, rowV gs]) (ead_cons hb (ead_cons h ead_nil)) fun vs H1 e1 hvs R r => by
  cases hvs with
  | cons h1 h2 =>
    cases h2 with
    | cons h3 h4 =>
      cases h4
      exact ⟨_, _, .tip, gs, rfl, h1, h3, (show Good .tip from ⟨rfl, by decide, by decide⟩).fits, fun x hx => (g.g x hx).fits, by have := g.n; omega, fun p H' _ e hp => r _ H' e (dp_ints4 hp)⟩
theorem ed_sizes (h : EvD K te σ H (rowV gs)) (g : DrR gs) : EvD K (tCall (spSizes K) [] E (tCons te tNil)) σ H (ctrD (ctrs .tip gs)) := fun H1 a R r => h H1 a _ fun v H2 e2 hv => ⟨v, gs, rfl, hv, g.g, g.n, fun p H' _ e hp => r _ H' (e2.trans e) (dp_ints4 hp)⟩
end
section
variable {P : Program} {w : World} {K : PySem.W.Frag} {mg : Str → Option Value} {base : Heap}
abbrev spRowC (K : PySem.W.Frag) : Sp := spE K 1 (fun gs : List Bu => [.d (rowV gs)]) GoodR (fun gs r => r = .d (ctrD (ctrs .tip gs)))
abbrev spDrawn (K : PySem.W.Frag) : Sp := spE K 1 (fun gs : List Bu => [.d (rowV gs)]) GoodR (fun gs r => r = .d (.bool (fitsB (ctrs .tip gs))))
end
end Bk

namespace Bk
open PySem PySem.Spec PyProof.Rows L2
open Evl (Ex Ev EvT EvL EvU EvA)
theorem et_le {σ : L2.St} {H : Hp} {ta tb : TE} {i j : Int} (ha : Ev ta σ H (.int i)) (hb : Ev tb σ H (.int j)) : EvT (tTest (tOp (rI0 fun i j => .bl (decide (i ≤ j))) ta tb)) σ H (decide (i ≤ j)) :=
  Evl.et_test (Evl.ev_op ha hb (Evl.rv_I0 (g := fun i j => .bl (decide (i ≤ j)))))
theorem et_lt {σ : L2.St} {H : Hp} {ta tb : TE} {i j : Int} (ha : Ev ta σ H (.int i)) (hb : Ev tb σ H (.int j)) : EvT (tTest (tOp (rI0 fun i j => .bl (decide (i < j))) ta tb)) σ H (decide (i < j)) :=
  Evl.et_test (Evl.ev_op ha hb (Evl.rv_I0 (g := fun i j => .bl (decide (i < j)))))
/-- the four sizes, stored -/
theorem q_un4 {K : PySem.W.Frag} {σ : L2.St} {H : Hp} {te : TE} {D : Ends} {tz : TS} {i j k l : Nat} {z : C4} (h : ∀ Q : VK, (∀ p H1, H p = none → Ex H H1 → H1 p = some (.tup (ints4 z)) → Q (.ref p) H1) → te σ H Q)
    (kk : ∀ H1, Ex H H1 → tz D ((((σ.set i (some (.int (z.1 : Nat)))).set j (some (.int (z.2.1 : Nat)))).set k (some (.int (z.2.2.1 : Nat)))).set l (some (.int (z.2.2.2 : Nat)))) H1) :
    tSeq (tAsg te (gTup K 4 (gCons (gName i) (gCons (gName j) (gCons (gName k) (gCons (gName l) gNil)))))) tz D σ H :=
  h _ fun p H1 hp e h1 => ⟨p, _, rfl, SqT.of h1, rfl, _, _, rfl, _, _, rfl, _, _, rfl, _, _, rfl, rfl, kk H1 e⟩
theorem ctrs_rn {gs : List Bu} (h : ∀ g ∈ gs, okB g = true) : ctrs .tip gs = (knots (growAll .tip gs), tips (growAll .tip gs), near (growAll .tip gs), dep (growAll .tip gs)) := ctrs_grow rfl h
/-- rows that are drawn -/
structure Rw (y p : Nat) (gs : List Bu) : Prop where
  n : gs.length ≤ y
  rn : ∀ g ∈ gs, Rn 4 g
  few : (ctrs .tip gs).1 + (ctrs .tip gs).2.1 ≤ p
theorem deps_rn {gs : List Bu} {b : Bu} (hb : okB b = true) (h : ∀ g ∈ gs, Rn 4 g) : dep (growAll b gs) ≤ dep b + 4 * gs.length := by
  induction gs generalizing b with
  | nil => exact Nat.le_refl _
  | cons g gs ih =>
    have G := h g List.mem_cons_self
    have h1 := ih (b := grow b g) (ok_grow2 G.ok b hb) fun x hx => h x (List.mem_cons_of_mem _ hx)
    have h2 := dep_grow g b hb
    have h3 := G.dp
    have h4 := G.kn
    show dep (growAll (grow b g) gs) ≤ _
    rw [List.length_cons]
    omega
theorem Rn.good {k : Nat} {b : Bu} (h : Rn k b) (hk : k ≤ 60) : Good b := ⟨h.ok, by have := h.tp; have := h.kn; omega, by have := h.dp; have := h.kn; omega⟩
theorem Rw.can {y p : Nat} {gs : List Bu} (h : Rw y p gs) (hy : y ≤ 12) (hp : p ≤ 400) : Can .tip gs := by
  have hok : ∀ g ∈ gs, okB g = true := fun g hg => (h.rn g hg).ok
  have hf := h.few
  rw [ctrs_rn hok] at hf
  refine ⟨(Rn.tip 0).good (by decide), fun g hg => (h.rn g hg).good (by decide), by have := h.n; omega, ?_, ?_⟩
  · have hf' : knots (growAll .tip gs) + tips (growAll .tip gs) ≤ p := hf
    omega
  · have := deps_rn (b := .tip) rfl h.rn
    have h1 := h.n
    have : dep .tip = 0 := rfl
    omega
section
variable {P : Program} {w : World} {K : PySem.W.Frag} {mg : Str → Option Value} {base : Heap}
theorem sizes_c {σ : L2.St} {H : Hp} {ta : TA} {E : XK} {gs : List Bu} (hd : ∀ g ∈ gs, Dr g) (hn : gs.length ≤ 13) (h : EvAD K ta σ H [.tuple (gs.map toD)]) : ∀ Q : VK, (∀ p H1, H p = none → Ex H H1 → H1 p = some (.tup (ints4 (ctrs .tip gs))) → Q (.ref p) H1) → tCall (spSizes K) [] E ta σ H Q := fun Q q =>
  h H (Ex.refl H) _ fun vs H1 e1 hvs => by
    cases hvs with
    | cons h1 h2 =>
      cases h2
      exact ⟨_, gs, rfl, h1, hd, hn, fun p H2 hp e2 h3 => q p H2 (Evl.fresh_back e1 hp) (e1.trans e2) h3⟩
def spRow (K : PySem.W.Frag) : Sp := fun vs H Q _ => ∃ (c : Addr) (y p : Nat), vs = [.ref c, .int (y : Int), .int (p : Int)] ∧ y ≤ 12 ∧ 1 ≤ p ∧ Cup H c ∧ ∀ (r : V) (gs : List Bu) H', Rw y p gs → Dp K H' r (.tuple (gs.map toD)) → ExB c H H' → Cup H' c → Q r H'
end
end Bk

namespace Bk
open PySem PySem.Spec PyProof.Rows L2
open Evl (Ex Ev EvT EvL EvU EvA)
/-! ### k11: sums of growing -/
mutual
theorem grow_left {b c : Bu} : ∀ a : Bu, okB a = true → grow a b = grow a c → b = c
  | .tip, _, h => by simpa [grow] using h
  | .knot x bs, ho, h => by
    obtain ⟨_, ⟨h1, _⟩, h3⟩ := okB_knot ho
    have h' : growL bs b = growL bs c := by simpa [grow] using h
    exact grow_leftL bs h1 h3 h'
theorem grow_leftL {b c : Bu} : ∀ bs : List Bu, 1 ≤ bs.length → okBs bs = true → growL bs b = growL bs c → b = c
  | [], h, _, _ => absurd h (by simp)
  | a :: l, _, ho, h => by
    have h1 : okB a = true ∧ okBs l = true := by simpa [okBs] using ho
    have h2 : grow a b = grow a c ∧ growL l b = growL l c := by simpa [growL] using h
    exact grow_left a h1.1 h2.1
end
theorem fits_can {gs : List Bu} (g : GoodR gs) (h : fitsB (ctrs .tip gs) = true) : Can .tip gs := by
  have hok : ∀ b ∈ gs, okB b = true := fun b hb => (g.g b hb).ok
  rw [ctrs_rn hok] at h
  unfold fitsB at h
  rw [Bool.and_eq_true, decide_eq_true_eq, decide_eq_true_eq] at h
  obtain ⟨h1, h2⟩ := h
  dsimp only at h1 h2
  exact ⟨⟨rfl, by decide, by decide⟩, g.g, g.n, by omega, by omega⟩
theorem Can.end_ {b : Bu} {gs : List Bu} (C : Can b gs) : Good (growAll b gs) := ⟨ok_growAll C.hb.ok fun x hx => (C.hg x hx).ok, C.few, C.deep⟩
theorem can_one {a b : Bu} (ha : Good a) (hb : Good b) (h : Good (grow a b)) : Can a [b] := ⟨ha, fun x hx => by simp at hx; subst hx; exact hb, by simp, h.few, h.dep⟩
theorem good_in {a b : Bu} (ha : okB a = true) (hb : okB b = true) (h : Good (grow a b)) : Good a ∧ Good b := by
  have h1 := sizes_grow b a
  have h2 := dep_grow b a ha
  have h3 := tips_pos ha
  have h4 := tips_pos hb
  have h5 := h.few
  have h6 := h.dep
  rw [h1.1, h1.2] at h5
  have h7 := Nat.le_mul_of_pos_right (tips a) h4
  have h8 := Nat.le_mul_of_pos_left (tips b) h3
  have h9 := Nat.le_mul_of_pos_left (knots b) h3
  exact ⟨⟨ha, by omega, by omega⟩, ⟨hb, by omega, by omega⟩⟩
section
variable {K : PySem.W.Frag} {te tb tl : TE} {E : XK} {σ : L2.St} {H : Hp} {a b : Bu} {gs : List Bu}
theorem ed_grownP (h1 : EvD K te σ H (toD a)) (h2 : EvD K tb σ H (toD b)) (C : Can a [b]) : EvD K (tCall (spGrown K) [] E (tCons te (tCons tb tNil))) σ H (toD (grow a b)) := ed_call (ds := [toD a, toD b]) (ead_cons h1 (ead_cons h2 ead_nil)) fun vs H1 e1 hvs R r => by
  cases hvs with
  | cons h1 h2 =>
    cases h2 with
    | cons h3 h4 =>
      cases h4
      exact ⟨_, _, a, b, rfl, h1, h3, C, r⟩
theorem ed_bushOf (h : EvD K te σ H (rowV gs)) (C : Can .tip gs) : EvD K (tCall (spBushOf K) [] E (tCons te tNil)) σ H (toD (growAll .tip gs)) := fun H1 x R r => h H1 x _ fun v H2 e2 hv => ⟨v, gs, rfl, hv, C, fun y H' e3 hy => r y H' (e2.trans e3) hy⟩
theorem ev_eqBu (ha : Good a) (hb : Good b) (h1 : EvD K te σ H (toD a)) (h2 : EvD K tb σ H (toD b)) : Ev (tOp (rEqD K) te tb) σ H (.bl (PyData.eqv (toD a) (toD b))) := ev_eqD h1 h2 (shaped_toD ha.ok ha.dep) (shaped_toD hb.ok hb.dep)
theorem ed_fits11 (h : EvD K te σ H (rowV gs)) (g : DrR gs) : EvD K (tCall (spE K 1 (fun gs : List Bu => [.d (rowV gs)]) DrR (fun gs r => r = .d (.bool (fitsB (ctrs .tip gs))))) [] E (tCons te tNil)) σ H (.bool (fitsB (ctrs .tip gs))) :=
  ed_callE (ds := [rowV gs]) gs (ead_cons h ead_nil) rfl (by simp [fzA, fz_row1]) g (fun r hr => hr)
theorem ed_drawn (h : EvD K te σ H (rowV gs)) (g : GoodR gs) : EvD K (tCall (spDrawn K) [] E (tCons te tNil)) σ H (.bool (fitsB (ctrs .tip gs))) :=
  ed_callE (ds := [rowV gs]) gs (ead_cons h ead_nil) rfl (by simp [fzA, fz_row1]) g (fun r hr => hr)
theorem ed_rowC (h : EvD K te σ H (rowV gs)) (g : GoodR gs) : EvD K (tCall (spRowC K) [] E (tCons te tNil)) σ H (ctrD (ctrs .tip gs)) :=
  ed_callE (ds := [rowV gs]) gs (ead_cons h ead_nil) rfl (by simp [fzA, fz_row1]) g (fun r hr => hr)
theorem eqv_same {a b c d : Bu} (h : a = b ↔ c = d) : PyData.eqv (toD a) (toD b) = PyData.eqv (toD c) (toD d) := by
  rw [Bool.eq_iff_iff, eqv_toD, eqv_toD]; exact h
end
theorem rep_ctr {z : C4} (h1 : z.1 ≤ 999999999999) (h2 : z.2.1 ≤ 999999999999) (h3 : z.2.2.1 ≤ 999999999999) (h4 : z.2.2.2 ≤ 999999999999) : Rep (ctrD z) := by
  obtain ⟨u1, u2, u3, u4, u5, u6⟩ := ints_all [((z.1 : Nat) : Int), ((z.2.1 : Nat) : Int), ((z.2.2.1 : Nat) : Int), ((z.2.2.2 : Nat) : Int)] (fun x hx => by simp at hx; rcases hx with rfl | rfl | rfl | rfl <;> exact ⟨by omega, by omega⟩)
  refine rep_of (by simp only [ctrD, PyData.canLay0]; exact u1) (by simp only [ctrD, PyData.showable]; exact u2) (by simp only [ctrD, PyData.hasDict]; exact u3) ?_ ?_ (by simp only [ctrD, PyData.intsShort]; exact u6)
  · simp only [ctrD, PyData.depth]
    have : PyData.depthAll [.int ((z.1 : Nat) : Int), .int ((z.2.1 : Nat) : Int), .int ((z.2.2.1 : Nat) : Int), .int ((z.2.2.2 : Nat) : Int)] = 0 := u4
    omega
  · simp only [ctrD, PyData.weight]
    have : PyData.weightAll [.int ((z.1 : Nat) : Int), .int ((z.2.1 : Nat) : Int), .int ((z.2.2.1 : Nat) : Int), .int ((z.2.2.2 : Nat) : Int)] ≤ 41 * 4 := u5
    omega
theorem shaped_ctr (z : C4) : SeqAt.shaped (ctrD z) = true := shaped_of (by simp [ctrD, PyData.canLay0, PyData.canLayAll0]) (by simp [ctrD, PyData.depth, PyData.depthAll])
theorem near_le_ctr {gs : List Bu} (h : ∀ g ∈ gs, okB g = true) : (ctrs .tip gs).2.2.1 ≤ (ctrs .tip gs).2.2.2 := by
  rw [ctrs_rn h]
  have hok : okB (growAll .tip gs) = true := ok_growAll rfl h
  obtain ⟨_, a, b, _⟩ := tr_min hok
  have := a _ b
  dsimp only
  omega
/-- rows that are asked -/
structure Ask (gs : List Bu) : Prop where
  g : GoodR gs
  few : (ctrs .tip gs).1 + (ctrs .tip gs).2.1 ≤ 999999999999
  dep : (ctrs .tip gs).2.2.2 ≤ 999999999999
end Bk

namespace Bk
open PySem PySem.Spec PyProof.Rows L2
open Evl (Ex Ev EvT EvL EvU EvA)
/-! ### sorted of a list of data (tuples of ints, of texts, of such ..) -/
def rSortD (K : PySem.W.Frag) : List V → Hp → VK → Prop := fun vs H Q => ∃ (v : V) (ds : List PyData), vs = [v] ∧ Dp K H v (.list ds) ∧ PySem.W.AllAlike ds ∧ PySem.W.Sortable ds ∧ (∀ d ∈ ds, d.depth ≤ 61) ∧
  ∀ (us : List V) (p : Addr), DpAll K H us (ds.mergeSort (PySem.W.dataLe false id)) → H p = none → Q (.ref p) (upd H p (.lst us))
theorem dpAll_zip {K : PySem.W.Frag} {H : Hp} : ∀ {xs : List V} {ds : List PyData}, DpAll K H xs ds → ((xs.zip ds).map (·.1) = xs ∧ (xs.zip ds).map (·.2) = ds ∧ ∀ z ∈ xs.zip ds, Dp K H z.1 z.2)
  | _, _, .nil => ⟨rfl, rfl, by simp⟩
  | _, _, .cons h t => by
    obtain ⟨a, b, c⟩ := dpAll_zip t
    refine ⟨by simp [a], by simp [b], ?_⟩
    intro z hz
    simp only [List.zip_cons_cons, List.mem_cons] at hz
    rcases hz with rfl | hz
    · exact h
    · exact c z hz
theorem dpAll_of {K : PySem.W.Frag} {H : Hp} : ∀ (l : List (V × PyData)), (∀ z ∈ l, Dp K H z.1 z.2) → DpAll K H (l.map (·.1)) (l.map (·.2))
  | [], _ => .nil
  | z :: l, h => .cons (h z List.mem_cons_self) (dpAll_of l fun y hy => h y (List.mem_cons_of_mem _ hy))
theorem each_zip {xs : List V} {us : List Value} (h : Vals xs us) : ∀ {ds : List PyData}, ds.length = xs.length → PySem.W.EachIs (fun v (b : V × PyData) => RelV b.1 v) us (xs.zip ds) := by
  induction h with
  | nil => intro ds _; simp; exact .nil
  | cons h1 h2 ih =>
    intro ds hl
    cases ds with
    | nil => simp at hl
    | cons d ds => exact .cons h1 (ih (by simpa using hl))
theorem each_vals : ∀ {us : List Value} {l : List (V × PyData)}, PySem.W.EachIs (fun v (b : V × PyData) => RelV b.1 v) us l → Vals (l.map (·.1)) us
  | _, _, .nil => .nil
  | _, _, .cons h t => .cons h (each_vals t)
theorem cr_sortD {X : Cx} (hu : X.A.units + 64 < cLine) : CallR X (.builtin "sorted") (rSortD X.K) := by
  intro pins s σ H vs us Q I r h
  obtain ⟨v, ds, rfl, hv, hal, hk, hdp, q⟩ := h
  obtain ⟨u, rfl, ru⟩ := r.one
  obtain ⟨a, xs, rfl, hs, hA⟩ := dp_lst hv
  obtain rfl : u = Value.ref a := ru
  obtain ⟨its, rv, hl, hz⟩ := I.list hs
  have hlen : ds.length = xs.length := (DpAll.len hA).symm
  obtain ⟨z1, z2, z3⟩ := dpAll_zip hA
  have hE := each_zip rv hlen
  have hR : PySem.W.EachIs (fun v (b : V × PyData) => ∃ as, Reads s.heap v b.2 as) its (xs.zip ds) := by
    have : ∀ {us : List Value} {l : List (V × PyData)}, PySem.W.EachIs (fun v (b : V × PyData) => RelV b.1 v) us l → (∀ z ∈ l, Dp X.K H z.1 z.2) → PySem.W.EachIs (fun v (b : V × PyData) => ∃ as, Reads s.heap v b.2 as) us l := by
      intro us l h
      induction h with
      | nil => intro _; exact .nil
      | cons h1 h2 ih => intro hz; exact .cons (Dp.reads I _ _ _ (hz _ List.mem_cons_self) h1) (ih fun y hy => hz y (List.mem_cons_of_mem _ hy))
    exact this hE z3
  have hm : (xs.zip ds).map (·.2) = ds := z2
  refine PySem.W.sorted_data (enc := fun b : V × PyData => b.2) (R := fun v (b : V × PyData) => RelV b.1 v) hl.isList hE hR (by rw [hm]; exact hal) (by rw [hm]; exact hk) (by rw [List.length_zip, hlen, Nat.min_self]; exact hz) (fun b hb => ?_) fun out ho hout => ?_
  · have : b.2 ∈ ds := by rw [← hm]; exact List.mem_map.mpr ⟨b, hb, rfl⟩
    have := hdp _ this
    omega
  · obtain ⟨e, he⟩ := sortedAll_at s.heap its out.toArray
    have hz' := dpAll_of ((xs.zip ds).mergeSort (PySem.W.dataLe false fun b : V × PyData => b.2)) (fun z hz => z3 z (List.mem_mergeSort.mp hz))
    have hmap : ((xs.zip ds).mergeSort (PySem.W.dataLe false fun b : V × PyData => b.2)).map (·.2) = ds.mergeSort (PySem.W.dataLe false id) := by
      rw [List.map_mergeSort (r := PySem.W.dataLe false fun b : V × PyData => b.2) (s := PySem.W.dataLe false id) (f := fun b : V × PyData => b.2) (fun a _ b _ => rfl), hm]
    rw [hmap] at hz'
    refine ⟨.ref (s.heap.objs.size + 1), upd H (s.heap.objs.size + 1) (.lst _), I.laid (t' := s.toks) (fun b o e => sortedAll_old e) (Nat.le_succ _) ⟨?_, out, e, each_vals hout, by simpa using he⟩, rfl, q _ _ hz' (I.hok.fresh (Nat.le_succ _))⟩
    rw [List.length_map, List.length_mergeSort, List.length_zip, hlen, Nat.min_self]
    exact hz
/-! ### min of a list of data -/
def rMinD (K : PySem.W.Frag) : List V → Hp → VK → Prop := fun vs H Q => ∃ (v : V) (d : PyData) (ds : List PyData), vs = [v] ∧ Dp K H v (.list (d :: ds)) ∧ PySem.W.AlikeAll (d :: ds) ∧ PyData.depthAll (d :: ds) ≤ 61 ∧ ∀ x : V, Dp K H x (PySem.W.minD d ds) → Q x H
theorem minD_mem : ∀ (ds : List PyData) (d : PyData), PySem.W.minD d ds ∈ d :: ds
  | [], d => by simp [PySem.W.minD]
  | e :: ds, d => by
    have h := minD_mem ds (if PySem.W.dataLt e d then e else d)
    have e1 : PySem.W.minD d (e :: ds) = PySem.W.minD (if PySem.W.dataLt e d then e else d) ds := rfl
    rw [e1]
    rcases List.mem_cons.mp h with h | h
    · rw [h]; split <;> simp
    · simp [h]
theorem cr_minD {X : Cx} (hc : X.calm = true) (hu : X.A.units + 64 < cLine) : CallR X (.builtin "min") (rMinD X.K) := by
  intro pins s σ H vs us Q I r h
  obtain ⟨v, d, ds, rfl, hv, hal, hdp, q⟩ := h
  obtain ⟨u, rfl, ru⟩ := r.one
  obtain ⟨a, xs, rfl, hs, hA⟩ := dp_lst hv
  obtain rfl : u = Value.ref a := ru
  obtain ⟨its, rv, hl, hz⟩ := I.list hs
  obtain ⟨as, hr⟩ := Dp.readsAll I _ _ _ hA rv
  refine PySem.W.min_list_data (I.ok.hd hc) hl.isList (by simpa using hr) hal (by omega) fun i v h' tk bs hi hR hk => ?_
  have hi' : its[i]? = some v := by simpa using hi
  have hil : i < xs.length := by have := (List.getElem?_eq_some_iff.mp hi').1; rw [rv.length]; exact this
  obtain ⟨v2, e2, rx⟩ := rv.get (List.getElem?_eq_getElem hil)
  rw [hi'] at e2
  obtain rfl := Option.some.inj e2
  obtain ⟨di, hdi, hdx⟩ := DpAll.get hA (List.getElem?_eq_getElem hil)
  obtain ⟨as2, hr2⟩ := Dp.reads I _ _ _ hdx rx
  have hm := minD_mem ds d
  have he : di = PySem.W.minD d ds := PySem.W.alike_unique _ _ _ _ _ (hal.1 _ (List.mem_of_getElem? hdi) _ hm) (PySem.W.reads_keeps hk hr2) hR
  rw [he] at hdx
  exact ⟨_, H, I.kept (t' := tk) hk, rx, q _ hdx⟩
end Bk

namespace Bk
open PySem PySem.Spec PyProof.Rows L2
open Evl (Ex Ev EvT EvL EvU EvA)
/-! ### list(zip(t, u)) of two tuples -/
section
variable {prog : Program} {w : World} {A : Around} {E : Value → Shared → Prop} {s : Shared}
theorem zt_item_held {z TI TO T i1 i2 l1 l2 : Addr} {f : Bool} {oT : Obj} {k1 k2 : Nat} {xs ys : Array Value} {x y : Value} {Q : Option Value → Shared → Prop} (D : ZipApart z TI TO i1 i2 l1 l2)
    (hz : IsZipHeld s.heap z TI TO T f) (hT : s.heap.get? T = some oT) (hTI : IsPair s.heap TI (.ref i1) (.ref i2))
    (h1 : s.heap.IsTupleIter i1 l1 k1) (h2 : s.heap.IsTupleIter i2 l2 k2) (hl1 : s.heap.IsTuple l1 xs) (hl2 : s.heap.IsTuple l2 ys) (hx : xs[k1]? = some x) (hy : ys[k2]? = some y)
    (hQ : ∀ h', IsZipHeld h' z TI TO T true → h'.IsTupleIter i1 l1 (k1 + 1) → h'.IsTupleIter i2 l2 (k2 + 1) → IsPair h' s.heap.objs.size x y → h'.objs.size = s.heap.objs.size + 1 →
      (∀ c o, c ≠ z → c ≠ i1 → c ≠ i2 → s.heap.get? c = some o → h'.get? c = some o) → Q (some (.ref s.heap.objs.size)) { s with heap := h' }) : wpAny (model prog w) A (pyNext (.ref z)) Q E s := by
  have hTy : s.TypeIs (.ref z) "zip" := ⟨_, hz, rfl⟩
  unfold pyNext
  refine wpAny_bind (wpAny_attempt (wpAny_callSpecial?_slot (name := Str.ofString "__next__") hTy PySem.F.slot_zip_next (wpAny_call_entry PySem.F.slot_zip_next hTy PySem.F.entry_zip_next ?_ (PySem.F.args_zip_next_1 _))))
  show wpAny _ _ (field (.ref z) 2 >>= _) _ _ _
  refine wpAny_bind (wpAny_field hz rfl (x := .bool false) rfl ?_)
  show wpAny _ _ (field (.ref z) 3 >>= _) _ _ _
  refine wpAny_bind (wpAny_field hz rfl (x := .ref TI) rfl ?_)
  refine wpAny_bind (wpAny_seqItems hTI rfl ?_)
  show wpAny _ _ (Builtin.SmallTypes.ownedTupleIsFree (.ref z) >>= _) _ _ _
  refine wpAny_bind (wpAny_tupleHeld_zip hz hT fun g₁ hz₁ hs₁ => ?_)
  simp only [Bool.false_eq_true, if_false]
  refine wpAny_bind ?_
  rw [← Array.forIn_toList]
  simp only [List.forIn_cons, List.forIn_nil]
  refine wpAny_bind (wpAny_bind (wpAny_holding ?_))
  show wpAny _ _ (Builtin.SmallTypes.nextOf (.ref i1) >>= _) _ _ _
  refine wpAny_bind (RZ.nextOf_tuple_item (s := { s with heap := g₁ }) (h1.extBut hs₁.extBut D.i1z) (hl1.extBut hs₁.extBut D.l1z) hx fun g₂ n1 hs₂ => wpAny_pure ?_)
  refine wpAny_pure ?_
  refine wpAny_bind (wpAny_bind (wpAny_holding ?_))
  show wpAny _ _ (Builtin.SmallTypes.nextOf (.ref i2) >>= _) _ _ _
  refine wpAny_bind (RZ.nextOf_tuple_item (s := { s with heap := g₂ }) ((h2.extBut hs₁.extBut D.i2z).extBut hs₂.extBut D.i12.symm) ((hl2.extBut hs₁.extBut D.l2z).extBut hs₂.extBut D.l2i1) hy fun g₃ n2 hs₃ => wpAny_pure ?_)
  refine wpAny_pure (wpAny_pure ?_)
  show wpAny _ _ (newTuple [x, y] >>= _) _ _ _
  refine wpAny_bind (wpAny_newTuple ?_)
  have hsz : g₃.objs.size = s.heap.objs.size := by rw [hs₃.1, hs₂.1, hs₁.1]
  have kz : IsZipHeld g₃ z TI TO T true := hs₃.extBut _ _ D.i2z.symm (hs₂.extBut _ _ D.i1z.symm hz₁)
  have k1' := n1.extBut hs₃.extBut D.i12
  refine wpAny_pure ⟨_, rfl, ?_⟩
  show wpAny _ _ (pure _) _ _ _
  refine wpAny_pure ?_
  show Q (some (.ref g₃.objs.size)) _
  have hp : IsPair (g₃.push { cls := .type "tuple", data := .seq #[x, y] }) g₃.objs.size x y := Heap.get?_push_size _ rfl
  have hz4 : (g₃.push { cls := .type "tuple", data := .seq #[x, y] }).objs.size = g₃.objs.size + 1 := Heap.size_push ..
  rw [hsz] at hp hz4 ⊢
  exact hQ _ (Heap.get?_push_of_some _ kz) (k1'.at fun o e => Heap.get?_push_of_some _ e) (n2.at fun o e => Heap.get?_push_of_some _ e) hp hz4 fun c o c1 c2 c3 e => Heap.get?_push_of_some _ (hs₃.extBut _ _ c3 (hs₂.extBut _ _ c2 (hs₁.extBut _ _ c1 e)))
theorem zt_end_held {z TI TO T i1 i2 l1 l2 : Addr} {f : Bool} {oT : Obj} {k1 k2 : Nat} {xs ys : Array Value} {Q : Option Value → Shared → Prop} (hh : A.handled = none) (D : ZipApart z TI TO i1 i2 l1 l2)
    (hz : IsZipHeld s.heap z TI TO T f) (hT : s.heap.get? T = some oT) (hTI : IsPair s.heap TI (.ref i1) (.ref i2))
    (h1 : s.heap.IsTupleIter i1 l1 k1) (h2 : s.heap.IsTupleIter i2 l2 k2) (hl1 : s.heap.IsTuple l1 xs) (hl2 : s.heap.IsTuple l2 ys) (hend : xs[k1]? = none ∨ ys[k2]? = none)
    (hQ : ∀ h', (∀ c o, c ≠ z → c ≠ i1 → c ≠ i2 → s.heap.get? c = some o → h'.get? c = some o) → Q none { s with heap := h' }) : wpAny (model prog w) A (pyNext (.ref z)) Q E s := by
  have hTy : s.TypeIs (.ref z) "zip" := ⟨_, hz, rfl⟩
  have fin : ∀ (h' : Heap) (e : Addr), (∀ c o, c ≠ z → c ≠ i1 → c ≠ i2 → s.heap.get? c = some o → h'.get? c = some o) → (∃ o, h'.get? e = some o ∧ o.cls = .type "StopIteration") → True := fun _ _ _ _ => trivial
  unfold pyNext
  refine wpAny_bind (wpAny_attempt (wpAny_callSpecial?_slot (name := Str.ofString "__next__") hTy PySem.F.slot_zip_next (wpAny_call_entry PySem.F.slot_zip_next hTy PySem.F.entry_zip_next ?_ (PySem.F.args_zip_next_1 _))))
  show wpAny _ _ (field (.ref z) 2 >>= _) _ _ _
  refine wpAny_bind (wpAny_field hz rfl (x := .bool false) rfl ?_)
  show wpAny _ _ (field (.ref z) 3 >>= _) _ _ _
  refine wpAny_bind (wpAny_field hz rfl (x := .ref TI) rfl ?_)
  refine wpAny_bind (wpAny_seqItems hTI rfl ?_)
  show wpAny _ _ (Builtin.SmallTypes.ownedTupleIsFree (.ref z) >>= _) _ _ _
  refine wpAny_bind (wpAny_tupleHeld_zip hz hT fun g₁ hz₁ hs₁ => ?_)
  simp only [Bool.false_eq_true, if_false]
  refine wpAny_bind ?_
  rw [← Array.forIn_toList]
  simp only [List.forIn_cons, List.forIn_nil]
  refine wpAny_bind (wpAny_bind (wpAny_holding ?_))
  show wpAny _ _ (Builtin.SmallTypes.nextOf (.ref i1) >>= _) _ _ _
  cases hx : xs[k1]? with
  | none =>
    refine wpAny_bind (RZ.nextOf_tuple_end (s := { s with heap := g₁ }) hh (h1.extBut hs₁.extBut D.i1z) (hl1.extBut hs₁.extBut D.l1z) hx fun g₂ e hs₂ he => ?_)
    obtain ⟨o, ho, hc⟩ := he
    refine wpAny_bind (wpAny_isInstance (T := "StopIteration") (b := true) ⟨o, ho, hc⟩ isSubtype_stop ?_)
    exact wpAny_pure (hQ _ fun c o c1 c2 _ x => hs₂ _ _ c2 (hs₁.extBut _ _ c1 x))
  | some x =>
    have hy : ys[k2]? = none := by rcases hend with h | h; rw [hx] at h; cases h; exact h
    refine wpAny_bind (RZ.nextOf_tuple_item (s := { s with heap := g₁ }) (h1.extBut hs₁.extBut D.i1z) (hl1.extBut hs₁.extBut D.l1z) hx fun g₂ n1 hs₂ => wpAny_pure ?_)
    refine wpAny_pure ?_
    refine wpAny_bind (wpAny_bind (wpAny_holding ?_))
    show wpAny _ _ (Builtin.SmallTypes.nextOf (.ref i2) >>= _) _ _ _
    refine wpAny_bind (RZ.nextOf_tuple_end (s := { s with heap := g₂ }) hh ((h2.extBut hs₁.extBut D.i2z).extBut hs₂.extBut D.i12.symm) ((hl2.extBut hs₁.extBut D.l2z).extBut hs₂.extBut D.l2i1) hy fun g₃ e hs₃ he => ?_)
    obtain ⟨o, ho, hc⟩ := he
    refine wpAny_bind (wpAny_isInstance (T := "StopIteration") (b := true) ⟨o, ho, hc⟩ isSubtype_stop ?_)
    exact wpAny_pure (hQ _ fun c o c1 c2 c3 x => hs₃ _ _ c3 (hs₂.extBut _ _ c2 (hs₁.extBut _ _ c1 x)))
/-- where a zip of two tuples stands at turn k; S: the list that is filled -/
structure Zt (h : Heap) (z TI TO i1 i2 l1 l2 S : Addr) (k : Nat) : Prop where
  ti : IsPair h TI (.ref i1) (.ref i2)
  a : h.IsTupleIter i1 l1 k
  b : h.IsTupleIter i2 l2 k
  st : (IsZip h z TI TO .none ∧ ∃ x y, IsPair h TO x y) ∨ ∃ T f oT, IsZipHeld h z TI TO T f ∧ h.get? T = some oT ∧ T ≠ z ∧ T ≠ i1 ∧ T ≠ i2 ∧ T ≠ S
theorem Zt.keep {h h' : Heap} {z TI TO i1 i2 l1 l2 S : Addr} {k : Nat} (t : Zt h z TI TO i1 i2 l1 l2 S k) (hk : ∀ b o, b ≠ S → h.get? b = some o → h'.get? b = some o) (n1 : TI ≠ S) (n2 : TO ≠ S) (n3 : i1 ≠ S) (n4 : i2 ≠ S) (n5 : z ≠ S) : Zt h' z TI TO i1 i2 l1 l2 S k := by
  refine ⟨hk _ _ n1 t.ti, t.a.at fun o e => hk _ _ n3 e, t.b.at fun o e => hk _ _ n4 e, ?_⟩
  rcases t.st with ⟨hz, x, y, hp⟩ | ⟨T, f, oT, hz, hT, m1, m2, m3, m4⟩
  · exact .inl ⟨hk _ _ n5 hz, x, y, hk _ _ n2 hp⟩
  · exact .inr ⟨T, f, oT, hk _ _ n5 hz, hk _ _ m4 hT, m1, m2, m3, m4⟩
theorem zt_item {z TI TO i1 i2 l1 l2 S : Addr} {k : Nat} {xs ys : Array Value} {x y : Value} {Q : Option Value → Shared → Prop} (D : ZipApart z TI TO i1 i2 l1 l2) (t : Zt s.heap z TI TO i1 i2 l1 l2 S k) (hS : S < s.heap.objs.size)
    (hl1 : s.heap.IsTuple l1 xs) (hl2 : s.heap.IsTuple l2 ys) (hx : xs[k]? = some x) (hy : ys[k]? = some y)
    (hQ : ∀ h', Zt h' z TI TO i1 i2 l1 l2 S (k + 1) → IsPair h' s.heap.objs.size x y → h'.objs.size = s.heap.objs.size + 1 → (∀ c o, c ≠ z → c ≠ TO → c ≠ i1 → c ≠ i2 → s.heap.get? c = some o → h'.get? c = some o) → Q (some (.ref s.heap.objs.size)) { s with heap := h' }) :
    wpAny (model prog w) A (pyNext (.ref z)) Q E s := by
  rcases t.st with ⟨hz, u, v, hp⟩ | ⟨T, f, oT, hz, hT, m1, m2, m3, m4⟩
  · refine RZ.pyNext_zipT_item D hz t.ti hp t.a t.b hl1 hl2 hx hy fun h' a1 a2 a3 a4 a5 a6 a7 => ?_
    have l1' : z < s.heap.objs.size := Heap.lt_size hz
    have l2' : i1 < s.heap.objs.size := by obtain ⟨_, e, _⟩ := t.a; exact Heap.lt_size e
    have l3' : i2 < s.heap.objs.size := by obtain ⟨_, e, _⟩ := t.b; exact Heap.lt_size e
    exact hQ h' ⟨a7 _ _ D.TIz D.TITO D.TIi1 D.TIi2 t.ti, a3, a4, .inr ⟨s.heap.objs.size, false, _, a1, a5, Nat.ne_of_gt l1', Nat.ne_of_gt l2', Nat.ne_of_gt l3', Nat.ne_of_gt hS⟩⟩ a5 a6 a7
  · refine zt_item_held D hz hT t.ti t.a t.b hl1 hl2 hx hy fun h' a1 a3 a4 a5 a6 a7 => ?_
    exact hQ h' ⟨a7 _ _ D.TIz D.TIi1 D.TIi2 t.ti, a3, a4, .inr ⟨T, true, _, a1, a7 _ _ m1 m2 m3 hT, m1, m2, m3, m4⟩⟩ a5 a6 fun c o c1 _ c3 c4 e => a7 c o c1 c3 c4 e
theorem zt_end {z TI TO i1 i2 l1 l2 S : Addr} {k : Nat} {xs ys : Array Value} {Q : Option Value → Shared → Prop} (hh : A.handled = none) (D : ZipApart z TI TO i1 i2 l1 l2) (t : Zt s.heap z TI TO i1 i2 l1 l2 S k)
    (hl1 : s.heap.IsTuple l1 xs) (hl2 : s.heap.IsTuple l2 ys) (hend : xs[k]? = none ∨ ys[k]? = none)
    (hQ : ∀ h', (∀ c o, c ≠ z → c ≠ TO → c ≠ i1 → c ≠ i2 → s.heap.get? c = some o → h'.get? c = some o) → Q none { s with heap := h' }) : wpAny (model prog w) A (pyNext (.ref z)) Q E s := by
  rcases t.st with ⟨hz, u, v, hp⟩ | ⟨T, f, oT, hz, hT, _, _, _, _⟩
  · exact RZ.pyNext_zipT_end hh D hz t.ti hp t.a t.b hl1 hl2 hend hQ
  · exact zt_end_held hh D hz hT t.ti t.a t.b hl1 hl2 hend fun h' hk => hQ h' fun c o c1 _ c3 c4 e => hk c o c1 c3 c4 e
end
end Bk

namespace Bk
open PySem PySem.Calls PySem.Spec PyProof.Rows L2
open Evl (Ex Ev EvT EvL EvU EvA)
/-! ### list(zip(t, u)): the list that is filled -/
theorem zip_no_len : typeLookup (.type "zip") "__len__" = pure none := by rw [typeLookup_type, builtinLookup_eq_fast]; kernel_rfl
theorem zip_no_hint : typeLookup (.type "zip") "__length_hint__" = pure none := by rw [typeLookup_type, builtinLookup_eq_fast]; kernel_rfl
/-- all stands but what the zip writes -/
def ZKp (S z TO i1 i2 : Addr) (h h' : Heap) : Prop := ∀ b o, b ≠ S → b ≠ z → b ≠ TO → b ≠ i1 → b ≠ i2 → h.get? b = some o → h'.get? b = some o
structure ZPr (xs ys : Array Value) (lo : Nat) (h : Heap) (as : List Addr) : Prop where
  rise : as.Pairwise (· < ·)
  low : ∀ a ∈ as, lo ≤ a
  pair : ∀ (j : Nat) (a : Addr), as[j]? = some a → ∃ x y, xs[j]? = some x ∧ ys[j]? = some y ∧ IsPair h a x y
section
variable {prog : Program} {w : World} {A : Around} {E : Value → Shared → Prop} {s : Shared} {R : Result → Shared → Prop}
theorem zl_loop {S z TI TO i1 i2 l1 l2 : Addr} {xs ys : Array Value} {n lo : Nat} (hh : A.handled = none) (D : ZipApart z TI TO i1 i2 l1 l2) (q1 : z ≠ S) (q2 : TI ≠ S) (q3 : TO ≠ S) (q4 : i1 ≠ S) (q5 : i2 ≠ S) (q6 : l1 ≠ S) (q7 : l2 ≠ S)
    (hn : n = min xs.size ys.size) (hz : n ≤ sizeLine) (hlo : S < lo ∧ z < lo ∧ TO < lo ∧ i1 < lo ∧ i2 < lo) (res : Value) {h₁ : Heap} (hl1 : h₁.IsTuple l1 xs) (hl2 : h₁.IsTuple l2 ys)
    (hR : ∀ h' acc c as, ZKp S z TO i1 i2 h₁ h' → h'.get? S = some { cls := .type "list", dict := none, data := .seq acc c, slots := #[] } → as.length = n → ZPr xs ys lo h' as → acc.toList = as.map Value.ref → R (.ok (.ret res)) { s with heap := h' }) :
    ∀ (k i : Nat) (h : Heap) (c : Nat) (acc : Array Value) (as : List Addr), n - i = k → i ≤ n → Zt h z TI TO i1 i2 l1 l2 S i → ZKp S z TO i1 i2 h₁ h →
      h.get? S = some { cls := .type "list", dict := none, data := .seq acc c, slots := #[] } → acc.toList = as.map Value.ref → as.length = i → ZPr xs ys lo h as → lo ≤ h.objs.size →
      codeAny (model prog w) A (.builtin "list.extend.loop" ⟨[.ref S, .ref z, res], []⟩) R { s with heap := h } := by
  have tup : ∀ {h : Heap}, ZKp S z TO i1 i2 h₁ h → h.IsTuple l1 xs ∧ h.IsTuple l2 ys := fun {h} K => by
    obtain ⟨o, ho, r⟩ := hl1
    obtain ⟨o2, ho2, r2⟩ := hl2
    exact ⟨⟨o, K l1 o q6 D.l1z D.l1TO D.l1i1 D.l1i2 ho, r⟩, ⟨o2, K l2 o2 q7 D.l2z D.l2TO D.l2i1 D.l2i2 ho2, r2⟩⟩
  intro k
  induction k with
  | zero =>
    intro i h c acc as hk hi t K hS hacc hal P hsz
    have hin : i = n := by omega
    obtain ⟨t1, t2⟩ := tup K
    refine codeAny_builtin PySem.F.entry_extend_loop ?_
    rw [Around.under_plainId PySem.F.plain_extend_loop _]
    show wpAny _ A.in1 (pyNext (.ref z) >>= _) _ _ _
    refine wpAny_bind (zt_end (s := { s with heap := h }) (A := A.in1) hh D t t1 t2 ?_ fun h' hk' => ?_)
    · rw [hin, hn]
      by_cases hc : xs.size ≤ ys.size
      · left; exact Array.getElem?_eq_none (by omega)
      · right; exact Array.getElem?_eq_none (by omega)
    · have lt : ∀ a ∈ as, a ≠ z ∧ a ≠ TO ∧ a ≠ i1 ∧ a ≠ i2 := fun a ha => by
        have := P.low a ha
        obtain ⟨_, b2, b3, b4, b5⟩ := hlo
        exact ⟨Nat.ne_of_gt (Nat.lt_of_lt_of_le b2 this), Nat.ne_of_gt (Nat.lt_of_lt_of_le b3 this), Nat.ne_of_gt (Nat.lt_of_lt_of_le b4 this), Nat.ne_of_gt (Nat.lt_of_lt_of_le b5 this)⟩
      refine wpAny_pure (hR h' acc c as (fun b o n1 n2 n3 n4 n5 e => hk' b o n2 n3 n4 n5 (K b o n1 n2 n3 n4 n5 e)) (hk' S _ (Ne.symm q1) (Ne.symm q3) (Ne.symm q4) (Ne.symm q5) hS) (by omega) ⟨P.rise, P.low, fun j a hj => ?_⟩ hacc)
      obtain ⟨x, y, e1, e2, e3⟩ := P.pair j a hj
      obtain ⟨m1, m2, m3, m4⟩ := lt a (List.mem_of_getElem? hj)
      exact ⟨x, y, e1, e2, hk' _ _ m1 m2 m3 m4 e3⟩
  | succ k ih =>
    intro i h c acc as hk hi t K hS hacc hal P hsz
    have hlt : i < n := by omega
    have hx : i < xs.size := by omega
    have hy : i < ys.size := by omega
    obtain ⟨t1, t2⟩ := tup K
    have hacs : acc.size = i := by rw [← Array.length_toList, hacc, List.length_map, hal]
    have hSl : S < h.objs.size := Heap.lt_size hS
    refine codeAny_builtin PySem.F.entry_extend_loop ?_
    rw [Around.under_plainId PySem.F.plain_extend_loop _]
    show wpAny _ A.in1 (pyNext (.ref z) >>= _) _ _ _
    refine wpAny_bind (zt_item (s := { s with heap := h }) (S := S) D t hSl t1 t2 (Array.getElem?_eq_getElem hx) (Array.getElem?_eq_getElem hy) fun h' t' hp hz' hk' => ?_)
    dsimp only at hp hz' hk' ⊢
    have hS' := hk' S _ (Ne.symm q1) (Ne.symm q3) (Ne.symm q4) (Ne.symm q5) hS
    have up : ∀ b o, b ≠ S → h'.get? b = some o → (h'.update S (Obj.mapSeq (·.push (Value.ref h.objs.size)))).get? b = some o := fun b o hb e => (Heap.get?_update_other _ _ (Ne.symm hb)).trans e
    show wpAny _ A.in1 (updateSeq S (·.push (Value.ref h.objs.size)) >>= _) _ _ _
    refine wpAny_bind ?_
    refine wpAny_updateSeq hS' rfl (wpAny_pure ⟨plainId_quiet PySem.F.plain_extend_loop _, ih (i + 1) _ _ (acc.push (Value.ref h.objs.size)) (as ++ [h.objs.size]) (by omega) hlt (t'.keep up q2 q3 q4 q5 q1)
      (fun b o n1 n2 n3 n4 n5 e => up b o n1 (hk' b o n2 n3 n4 n5 (K b o n1 n2 n3 n4 n5 e))) (Heap.get?_update_self _ hS' rfl) (by rw [Array.toList_push, hacc, List.map_append]; rfl) (by rw [List.length_append, hal]; rfl) ⟨?_, ?_, ?_⟩ ?_⟩) (by rw [hacs]; omega) (by show (acc.push (Value.ref h.objs.size)).size ≤ sizeLine + 1; rw [Array.size_push, hacs]; omega)
    · refine List.pairwise_append.mpr ⟨P.rise, List.pairwise_singleton _ _, fun a ha b hb => ?_⟩
      rw [List.mem_singleton.mp hb]
      obtain ⟨j, hj⟩ := List.mem_iff_getElem?.mp ha
      obtain ⟨_, _, _, _, e⟩ := P.pair j a hj
      exact Heap.lt_size e
    · intro a ha
      rcases List.mem_append.mp ha with ha | ha
      · exact P.low a ha
      · rw [List.mem_singleton.mp ha]; exact hsz
    · intro j b hj
      have lt : ∀ a, lo ≤ a → a ≠ S ∧ a ≠ z ∧ a ≠ TO ∧ a ≠ i1 ∧ a ≠ i2 := fun a this => by
        obtain ⟨b1, b2, b3, b4, b5⟩ := hlo
        exact ⟨Nat.ne_of_gt (Nat.lt_of_lt_of_le b1 this), Nat.ne_of_gt (Nat.lt_of_lt_of_le b2 this), Nat.ne_of_gt (Nat.lt_of_lt_of_le b3 this), Nat.ne_of_gt (Nat.lt_of_lt_of_le b4 this), Nat.ne_of_gt (Nat.lt_of_lt_of_le b5 this)⟩
      rcases Nat.lt_trichotomy j as.length with g1 | g1 | g1
      · rw [List.getElem?_append_left g1] at hj
        obtain ⟨x, y, e1, e2, e3⟩ := P.pair j b hj
        obtain ⟨m1, m2, m3, m4, m5⟩ := lt b (P.low b (List.mem_of_getElem? hj))
        exact ⟨x, y, e1, e2, up _ _ m1 (hk' _ _ m2 m3 m4 m5 e3)⟩
      · subst g1
        have hb : h.objs.size = b := by simpa using hj
        subst hb
        rw [hal]
        exact ⟨_, _, Array.getElem?_eq_getElem hx, Array.getElem?_eq_getElem hy, up _ _ (Nat.ne_of_gt hSl) hp⟩
      · have hnone : (as ++ [h.objs.size])[j]? = none := List.getElem?_eq_none (by rw [List.length_append, List.length_singleton]; omega)
        rw [hnone] at hj; cases hj
    · have e : (h'.update S (Obj.mapSeq (·.push (Value.ref h.objs.size)))).get? h.objs.size = _ := up _ _ (Nat.ne_of_gt hSl) hp
      exact Nat.le_trans hsz (Nat.le_of_lt (Heap.lt_size e))
theorem zl_hint {z : Addr} (hT : s.TypeIs (.ref z) "zip") {Q : Bool → Shared → Prop} (h : Q true s) : wpAny (model prog w) A (Builtin.List.listLengthHint (.ref z)) Q E s := by
  unfold Builtin.List.listLengthHint
  refine wpAny_bind (wpAny_specialOf hT zip_no_len ?_)
  show wpAny _ A (specialOf (Value.ref z) (Str.ofString "__length_hint__") >>= _) _ _ _
  refine wpAny_bind (wpAny_specialOf hT zip_no_hint ?_)
  exact wpAny_pure h
/-- a zip that was just made -/
structure Zn (h : Heap) (z TI TO i1 i2 l1 l2 : Addr) (xs ys : Array Value) : Prop where
  D : ZipApart z TI TO i1 i2 l1 l2
  z : IsZip h z TI TO .none
  ti : IsPair h TI (.ref i1) (.ref i2)
  to_ : IsPair h TO .none .none
  a : h.IsTupleIter i1 l1 0
  b : h.IsTupleIter i2 l2 0
  l1 : h.IsTuple l1 xs
  l2 : h.IsTuple l2 ys
theorem Zn.keep {h h' : Heap} {z TI TO i1 i2 l1 l2 : Addr} {xs ys : Array Value} (t : Zn h z TI TO i1 i2 l1 l2 xs ys) (S : Addr) (n1 : TI ≠ S) (n2 : TO ≠ S) (n3 : i1 ≠ S) (n4 : i2 ≠ S) (n5 : z ≠ S) (n6 : l1 ≠ S) (n7 : l2 ≠ S) (hk : ∀ b o, b ≠ S → h.get? b = some o → h'.get? b = some o) : Zn h' z TI TO i1 i2 l1 l2 xs ys := by
  obtain ⟨o, ho, r⟩ := t.l1
  obtain ⟨o2, ho2, r2⟩ := t.l2
  exact ⟨t.D, hk _ _ n5 t.z, hk _ _ n1 t.ti, hk _ _ n2 t.to_, t.a.at fun o e => hk _ _ n3 e, t.b.at fun o e => hk _ _ n4 e, ⟨o, hk _ _ n6 ho, r⟩, ⟨o2, hk _ _ n7 ho2, r2⟩⟩
theorem zl_extend {S z TI TO i1 i2 l1 l2 : Addr} {xs ys : Array Value} {n : Nat} (hh : A.handled = none) (t : Zn s.heap z TI TO i1 i2 l1 l2 xs ys) (q1 : z ≠ S) (q2 : TI ≠ S) (q3 : TO ≠ S) (q4 : i1 ≠ S) (q5 : i2 ≠ S) (q6 : l1 ≠ S) (q7 : l2 ≠ S)
    (hn : n = min xs.size ys.size) (hz : n ≤ sizeLine) (res : Value) (c₀ : Nat) (hS : s.heap.get? S = some { cls := .type "list", data := .seq #[] c₀ })
    (hR : ∀ h' acc c as, ZKp S z TO i1 i2 s.heap h' → h'.get? S = some { cls := .type "list", dict := none, data := .seq acc c, slots := #[] } → as.length = n → ZPr xs ys s.heap.objs.size h' as → acc.toList = as.map Value.ref → R (.ok (.ret res)) { s with heap := h' }) :
    wpAny (model prog w) A.in1 (Builtin.List.listExtendWith (.ref S) (.ref z) res)
      (fun fin s' => match fin with | .done f => R (.ok f) s' | .again c' => c'.quiet = true ∧ codeAny (model prog w) A c' R s') (fun e s' => R (.error e) s') s := by
  have hT : s.TypeIs (.ref z) "zip" := ⟨_, t.z, rfl⟩
  have lo : S < s.heap.objs.size ∧ z < s.heap.objs.size ∧ TO < s.heap.objs.size ∧ i1 < s.heap.objs.size ∧ i2 < s.heap.objs.size := by
    obtain ⟨_, e1, _⟩ := t.a
    obtain ⟨_, e2, _⟩ := t.b
    exact ⟨Heap.lt_size hS, Heap.lt_size t.z, Heap.lt_size t.to_, Heap.lt_size e1, Heap.lt_size e2⟩
  have key : ∀ (h : Heap) (c₁ : Nat), h.objs.size = s.heap.objs.size → (∀ b o, b ≠ S → s.heap.get? b = some o → h.get? b = some o) → h.get? S = some { cls := .type "list", data := .seq #[] c₁ } → codeAny (model prog w) A (.builtin "list.extend.loop" ⟨[.ref S, .ref z, res], []⟩) R { s with heap := h } := by
    intro h c₁ hsz hk hS₁
    have t' := t.keep S q2 q3 q4 q5 q1 q6 q7 hk
    exact zl_loop (n := n) (lo := s.heap.objs.size) hh t.D q1 q2 q3 q4 q5 q6 q7 hn hz lo res t.l1 t.l2 hR n 0 h c₁ #[] [] (Nat.sub_zero _) (Nat.zero_le _) ⟨t'.ti, t'.a, t'.b, .inl ⟨t'.z, _, _, t'.to_⟩⟩ (fun b o n1 _ _ _ _ e => hk b o n1 e) hS₁ rfl rfl ⟨List.Pairwise.nil, (fun _ ha => nomatch ha), (fun j a hj => by simp at hj)⟩ (Nat.le_of_eq hsz.symm)
  unfold Builtin.List.listExtendWith
  refine wpAny_bind (wpAny_typeOf (T := "zip") hT ?_)
  have h1 : Builtin.List.listSameRef (.ref S) (.ref z) = false := by simp [Builtin.List.listSameRef, Ne.symm q1]
  have h2 : (Value.type "zip" == Value.type "list") = false := by decide
  have h3 : (Value.type "zip" == Value.type "tuple") = false := by decide
  simp only [h1, h2, h3, Bool.or_false, Bool.false_eq_true, if_false]
  refine wpAny_bind (wpAny_pyIter_zip t.z ?_)
  refine wpAny_bind (wpAny_holding (zl_hint hT ?_))
  refine wpAny_ite_split (fun _ => ?_) (fun _ => wpAny_pure ⟨plainId_quiet PySem.F.plain_extend_loop _, key _ c₀ rfl (fun b o _ e => e) hS⟩)
  refine wpAny_bind (wpAny_rule ?_)
  refine wpAny_bind ?_
  show wpAny _ _ (updateSeq S (·.push .none) >>= fun _ => updateSeq S (·.pop)) _ _ _
  refine wpAny_bind (wpAny_updateSeq hS rfl ?_)
  have hS₂ := Heap.get?_update_self (Obj.mapSeq (·.push Value.none)) hS rfl
  refine wpAny_updateSeq (hz := by seq_fits) hS₂ rfl ?_
  have hS₃ := Heap.get?_update_self (Obj.mapSeq (·.pop)) hS₂ rfl
  refine wpAny_pure ⟨plainId_quiet PySem.F.plain_extend_loop _, key _ _ (by rw [Heap.size_update, Heap.size_update]) (fun b o hb e => ?_) hS₃⟩
  exact (Heap.get?_update_other _ _ (Ne.symm hb)).trans ((Heap.get?_update_other _ _ (Ne.symm hb)).trans e)
theorem zl_call {z TI TO i1 i2 l1 l2 : Addr} {xs ys : Array Value} {n : Nat} {Q : Value → Shared → Prop} (hh : A.handled = none) (t : Zn s.heap z TI TO i1 i2 l1 l2 xs ys) (hn : n = min xs.size ys.size) (hz : n ≤ sizeLine)
    (hQ : ∀ h' acc c as, ZKp s.heap.objs.size z TO i1 i2 s.heap h' → h'.get? s.heap.objs.size = some { cls := .type "list", dict := none, data := .seq acc c, slots := #[] } → as.length = n → ZPr xs ys s.heap.objs.size h' as → (∀ a ∈ as, a ≠ s.heap.objs.size) → acc.toList = as.map Value.ref → Q (.ref s.heap.objs.size) { s with heap := h' }) :
    wpAny (model prog w) A (call (.type "list") [.ref z]) Q E s := by
  refine callType_codes (Q₁ := fun obj s₁ => obj = .ref s.heap.objs.size ∧ s₁ = { s with heap := s.heap.push { cls := .type "list", data := .seq #[] } }) PySem.F.called_list (PySem.F.typeCall_list_1 _) PySem.F.entry_list_init
    (code_list_new _ ⟨rfl, rfl⟩) fun obj s₁ h₁ => ?_
  obtain ⟨rfl, rfl⟩ := h₁
  have hS : (s.heap.push { cls := .type "list", data := .seq #[] }).get? s.heap.objs.size = some { cls := .type "list", data := .seq #[] } := Heap.get?_push_size _ rfl
  have ne : ∀ {b : Addr} {o : Obj}, s.heap.get? b = some o → b ≠ s.heap.objs.size := fun e => Nat.ne_of_lt (Heap.lt_size e)
  have nz := ne t.z
  have nti := ne t.ti
  have nto := ne t.to_
  have na : i1 ≠ s.heap.objs.size := let ⟨_, e, _⟩ := t.a; ne e
  have nb : i2 ≠ s.heap.objs.size := let ⟨_, e, _⟩ := t.b; ne e
  have n1 : l1 ≠ s.heap.objs.size := let ⟨_, e, _⟩ := t.l1; ne e
  have n2 : l2 ≠ s.heap.objs.size := let ⟨_, e, _⟩ := t.l2; ne e
  refine ⟨⟨_, hS, rfl⟩, PySem.F.args_list_init_2 _ _, ?_⟩
  show wpAny _ _ (do let old ← Builtin.List.listItems (.ref s.heap.objs.size); Builtin.List.listUpdate (.ref s.heap.objs.size) (fun _ => #[]); letGo old.toList.reverse; Builtin.List.listExtendWith (.ref s.heap.objs.size) (.ref z) .none) _ _ _
  refine wpAny_bind ?_
  unfold Builtin.List.listItems
  refine wpAny_bind (wpAny_seqItems hS rfl (wpAny_pure ?_))
  show wpAny _ _ (updateSeq s.heap.objs.size (fun _ => #[]) >>= fun _ => letGo (#[] : Array Value).toList.reverse >>= fun _ => Builtin.List.listExtendWith (.ref s.heap.objs.size) (.ref z) .none) _ _ _
  refine wpAny_bind (wpAny_updateSeq hS rfl ?_)
  have hS₂ := Heap.get?_update_self (Obj.mapSeq (fun _ => (#[] : Array Value))) hS rfl
  have oth : ∀ b o, b ≠ s.heap.objs.size → s.heap.get? b = some o → ((s.heap.push { cls := .type "list", data := .seq #[] }).update s.heap.objs.size (Obj.mapSeq (fun _ => (#[] : Array Value)))).get? b = some o :=
    fun b o hb e => (Heap.get?_update_other _ _ (Ne.symm hb)).trans (Heap.get?_push_of_some _ e)
  refine wpAny_bind (wpAny_letGo ?_)
  have hsz : ((s.heap.push { cls := .type "list", data := .seq #[] }).update s.heap.objs.size (Obj.mapSeq (fun _ => (#[] : Array Value)))).objs.size = s.heap.objs.size + 1 := by rw [Heap.size_update, Heap.size_push]
  refine zl_extend (A := A.in1) (n := n) hh (t.keep s.heap.objs.size nti nto na nb nz n1 n2 oth) nz nti nto na nb n1 n2 hn hz .none _ hS₂ (fun h' acc c as hk hS' hl P hacc => ?_)
  dsimp only at P
  rw [hsz] at P
  exact ⟨rfl, hQ h' acc c as (fun b o m1 m2 m3 m4 m5 e => hk b o m1 m2 m3 m4 m5 (oth b o m1 e)) hS' hl ⟨P.rise, fun a ha => Nat.le_of_lt (Nat.lt_of_succ_le (P.low a ha)), P.pair⟩ (fun a ha => Nat.ne_of_gt (Nat.lt_of_succ_le (P.low a ha))) hacc⟩
end
end Bk

namespace Bk
open PySem PySem.Calls PySem.Spec PyProof.Rows L2
open Evl (Ex Ev EvT EvL EvU EvA)
/-! ### list(zip(t, u)) as an expression -/
def tListZip (K : PySem.W.Frag) (ta : TA) : TE := fun σ H Q => ta σ H fun vs H1 => ∃ (a b : Addr) (xs ys : List V), vs = [.ref a, .ref b] ∧ SqT K H1 a xs ∧ SqT K H1 b ys ∧
  ∀ (l : Addr) (ps : List Addr) (H2 : Hp), H1 l = none → (∀ c o, H1 c = some o → H2 c = some o) → H2 l = some (.lst (ps.map V.ref)) → ps.length = min xs.length ys.length → (∀ (j : Nat) (p : Addr), ps[j]? = some p → ∃ x y, xs[j]? = some x ∧ ys[j]? = some y ∧ H2 p = some (.tup [x, y])) → Q (.ref l) H2
theorem pe_listzip {X : Cx} {e e2 : Expr} {ta : TA} {p p2 q pos : Pos} (hgl : Gl X "list") (hml : X.mg "list" = none) (hg : Gl X "zip") (hm : X.mg "zip" = none) (ha : PA X [e, e2] ta) (hc : X.calm = true := by rfl)
    (hs : starEach [e, e2] X.env = (false, eval e X.env) :: starEach [e2] X.env := by rfl) (hpl : (backTo q (starEach [e2] X.env)).any (·.1) = false := by rfl) :
    PE X (.Call (.Name "list" p) [.Call (.Name "zip" p2) [e, e2] [] q] [] pos) (tListZip X.K ta) := by
  refine ⟨fun pins s σ H Q I h => ?_⟩
  refine Call_ (ld_blt I hgl hml PyProof.Rows.boot_list ?_)
  refine PyProof.Rows.callWith_type1 (PyProof.Rows.args_cons ?_ rfl) rfl rfl
  refine Call_ (ld_blt I hg hm PyProof.Rows.boot_zip (PyProof.Rows.callWith_type1 (thn (ha.run q pins s σ H _ I h) fun us s1 ⟨vs, H1, I1, r1, q1⟩ => ?_) hs hpl))
  obtain ⟨a, b, xs, ys, ex, hqx, hqy, q1⟩ := q1
  subst ex
  cases r1 with
  | cons r rr =>
    cases rr with
    | cons r' rr =>
      cases rr
      cases r
      cases r'
      obtain ⟨its, rv, p1, z1⟩ := I1.tuple hqx
      obtain ⟨its2, rv2, p2', z2⟩ := I1.tuple hqy
      obtain ⟨o1, ho1, _⟩ := id p1
      obtain ⟨o2, ho2, _⟩ := id p2'
      refine RZ.call_zipT (show s1.heap.IsTuple a its.toArray from p1) (show s1.heap.IsTuple b its2.toArray from p2') fun h' hz hTI hTO h1 h2 hsz hk => ?_
      refine PyProof.Rows.args_nil ?_
      have D := PySem.W.ktu_apart s1.heap.objs.size a b (Heap.lt_size ho1) (Heap.lt_size ho2)
      have lx := rv.length
      have ly := rv2.length
      have t : Zn h' (s1.heap.objs.size + 4) (s1.heap.objs.size + 2) (s1.heap.objs.size + 3) s1.heap.objs.size (s1.heap.objs.size + 1) a b its.toArray its2.toArray := ⟨D, hz, hTI, hTO, h1, h2, let ⟨o, e, r⟩ := p1; ⟨o, hk _ _ e, r⟩, let ⟨o, e, r⟩ := p2'; ⟨o, hk _ _ e, r⟩⟩
      refine zl_call (s := { s1 with heap := h' }) (I1.ok.hd hc) t rfl (by simp only [List.size_toArray]; omega) fun h2' acc c as hkp hS hl P hne hacc => ?_
      dsimp only at hkp hS P hne ⊢
      rw [hsz] at hkp hS P hne ⊢
      have kF : ∀ bb o, s1.heap.get? bb = some o → h2'.get? bb = some o := fun bb o e => by
        have lt := Heap.lt_size e
        have nn : ∀ k : Nat, bb ≠ s1.heap.objs.size + k := fun k => Nat.ne_of_lt (Nat.lt_of_lt_of_le lt (Nat.le_add_right _ k))
        exact hkp bb o (nn 5) (nn 4) (nn 3) (nn 0) (nn 1) (hk _ _ e)
      have I2 : Inv X pins σ H1 { s1 with heap := h2' } := I1.kept (t' := s1.toks) kF
      have nd : as.Nodup := List.Pairwise.imp (fun h => Nat.ne_of_lt h) P.rise
      have fr : ∀ {x : Addr}, s1.heap.objs.size ≤ x → H1 x = none := fun h => I1.hok.fresh h
      have hSn : H1 (s1.heap.objs.size + 5) = none := fr (Nat.le_add_right _ 5)
      have rvL : Vals (as.map V.ref) acc.toList := by
        rw [hacc]
        exact vals_maps (fun z : Addr => V.ref z) (fun z => Value.ref z) as fun _ _ => rfl
      have I2b : Inv X pins σ (upd H1 (s1.heap.objs.size + 5) (.lst (as.map V.ref))) { s1 with heap := h2' } :=
        I2.take (h' := h2') (t' := s1.toks) (fun b ob _ e => e) (I1.fpOk (Nat.le_add_right _ 5) hSn) ⟨by rw [List.length_map, hl]; simp only [List.size_toArray]; omega, acc.toList, c, rvL, by simpa using hS⟩
      obtain ⟨H2, I3, g, qt⟩ := L2.DX.takeT (P := fun p vs => ∃ (j : Nat) (x y : V), as[j]? = some p ∧ xs[j]? = some x ∧ ys[j]? = some y ∧ vs = [x, y]) I1 as _ I2b nd fun p hp => by
        obtain ⟨j, hj⟩ := List.mem_iff_getElem?.mp hp
        obtain ⟨u, v, e1, e2', e3⟩ := P.pair j p hj
        have e1' : its[j]? = some u := by simpa using e1
        have e2'' : its2[j]? = some v := by simpa using e2'
        have j1 : j < xs.length := by have := (List.getElem?_eq_some_iff.mp e1').1; omega
        have j2 : j < ys.length := by have := (List.getElem?_eq_some_iff.mp e2'').1; omega
        obtain ⟨u', f1, ru⟩ := rv.get (List.getElem?_eq_getElem j1)
        obtain ⟨v', f2, rv'⟩ := rv2.get (List.getElem?_eq_getElem j2)
        rw [e1'] at f1
        rw [e2''] at f2
        obtain rfl := Option.some.inj f1
        obtain rfl := Option.some.inj f2
        have hle := P.low p hp
        refine ⟨Nat.le_trans (Nat.le_add_right _ 5) hle, ?_, [xs[j], ys[j]], ⟨j, _, _, hj, List.getElem?_eq_getElem j1, List.getElem?_eq_getElem j2, rfl⟩, fun H3 => ⟨(by rw [sizeLine_eq]; show 2 ≤ 16777216; omega), [u, v], .cons ru (.cons rv' .nil), ⟨_, e3, rfl, 0, rfl⟩⟩⟩
        rw [upd_ne (hne p hp)]
        exact fr (Nat.le_trans (Nat.le_add_right _ 5) hle)
      refine ⟨.ref (s1.heap.objs.size + 5), H2, I3, rfl, q1 _ as H2 hSn (fun c o e => g c o (by rw [upd_ne (fun z => by rw [z, hSn] at e; cases e)]; exact e)) (g _ _ upd_same) (by rw [hl]; simp only [List.size_toArray]; omega) fun j p hj => ?_⟩
      obtain ⟨vs, ⟨j', x, y, g1, g2, g3, rfl⟩, hH⟩ := qt p (List.mem_of_getElem? hj)
      have eij : j = j' := (List.getElem?_inj (List.getElem?_eq_some_iff.mp hj).1 nd).mp (hj.trans g1.symm)
      subst eij
      exact ⟨x, y, g2, g3, hH⟩
end Bk

namespace Bk
open PySem PySem.Spec PyProof.Rows L2
open Evl (Ex Ev EvT EvL EvU EvA)
/-! ### while, pop, extend, zip, by slots -/
theorem dpAll_get {K : PySem.W.Frag} {H : Hp} : ∀ {us : List V} {ds : List PyData}, us.length = ds.length → (∀ (j : Nat) (v : V) (d : PyData), us[j]? = some v → ds[j]? = some d → Dp K H v d) → DpAll K H us ds
  | [], [], _, _ => .nil
  | [], _ :: _, h, _ => by simp at h
  | _ :: _, [], h, _ => by simp at h
  | u :: us, d :: ds, h, q => .cons (q 0 u d rfl rfl) (dpAll_get (by simpa using h) fun j v d h1 h2 => q (j + 1) v d (by simpa using h1) (by simpa using h2))
def pairs2 (ds es : List PyData) : List PyData := List.zipWith (fun d e => .tuple [d, e]) ds es
theorem fz_pairs2 : ∀ {ds es : List PyData}, fzA ds = true → fzA es = true → fzA (pairs2 ds es) = true
  | [], _, _, _ => rfl
  | _ :: _, [], _, _ => rfl
  | d :: ds, e :: es, h1, h2 => by
    have a : fz d = true ∧ fzA ds = true := by simpa [fzA] using h1
    have b : fz e = true ∧ fzA es = true := by simpa [fzA] using h2
    have := fz_pairs2 a.2 b.2
    unfold pairs2 at this ⊢
    rw [List.zipWith_cons_cons]
    simp [fzA, fz, a.1, b.1, this]
section
variable {K : PySem.W.Frag} {c : Option Addr} {H0 : Hp} {Γ Γ1 : GE} {te tb tl ta : TE} {d : PyData} {ds es : List PyData} {i j : Nat} {N : GE → Prop} {Rt : AV → Prop} {rest : TS} {g : TG} {p : Addr}
theorem eo_listzip {tx ty : TE} (h1 : EvH K c H0 tx Γ (.tuple ds)) (h2 : EvH K c H0 ty Γ (.tuple es)) : EvO K c H0 (tListZip K (tCons tx (tCons ty tNil))) Γ (pairs2 ds es) := fun σ H e R r =>
  h1 e H (Ex.refl H) _ fun v H1 e1 hv => h2 e H1 e1 _ fun u H2 e2 hu => by
    obtain ⟨a, xs, rfl, hxs, hxa⟩ := dp_tup (Dp.ex e2 _ _ hv)
    obtain ⟨b, ys, rfl, hys, hya⟩ := dp_tup hu
    refine ⟨a, b, xs, ys, rfl, hxs, hys, fun l ps H3 hl hk hL hn hp => ?_⟩
    refine r l H3 (ps.map V.ref) (Evl.fresh_back (e1.trans e2) hl) ((e1.trans e2).trans hk) hL (dpAll_get ?_ fun j v d hj hd => ?_)
    · rw [List.length_map, hn, pairs2, List.length_zipWith, DpAll.len hxa, DpAll.len hya]
    · rw [List.getElem?_map] at hj
      obtain ⟨q, hq, rfl⟩ := Option.map_eq_some_iff.mp hj
      obtain ⟨x, y, hx, hy, hT⟩ := hp j q hq
      obtain ⟨dx, g1, g2⟩ := DpAll.get hxa hx
      obtain ⟨dy, g3, g4⟩ := DpAll.get hya hy
      rw [pairs2, List.getElem?_zipWith, g1, g3] at hd
      obtain rfl := Option.some.inj hd
      exact .tup (SqT.of hT) (.cons (Dp.ex hk _ _ g2) (.cons (Dp.ex hk _ _ g4) .nil))
theorem sg_while {α : Type} {t : TT} {tw : TS} (f : α → GE) (m : α → Nat) (b : α → Bool) (ok : α → Prop) (x0 : α) (h0 : ok x0) (hf : Fg Γ (f x0)) (ht : ∀ x, ok x → EtH K c H0 t (f x) (b x))
    (hs : ∀ x, ok x → b x = true → SG K c H0 tw (f x) (fun Γ' => ∃ y, ok y ∧ m y < m x ∧ Fg Γ' (f y)) Rt) (k : ∀ x, ok x → b x = false → SG K c H0 rest (f x) N Rt) : SG K c H0 (tSeq (tWhile t tw) rest) Γ N Rt := fun D σ H e hx hr => by
  refine ⟨fun n σ' H' => ∃ x, ok x ∧ n = m x ∧ Env K c H0 (f x) σ' H' ∧ Ex (hd c Γ H) (hd c (f x) H'), ⟨m x0, x0, h0, rfl, e.fg hf, Fg.ex hf⟩, ?_⟩
  rintro n σ' H' ⟨x, hok, rfl, e', x'⟩
  refine ht x hok e' H' (Ex.refl H') _ fun H1 e1 => ?_
  have e2 := e'.ex e1
  have xx : Ex (hd c Γ H) (hd c (f x) H1) := x'.trans (hd_ex (.ex e'.cup e1))
  cases hb : b x with
  | true =>
    refine ⟨fun σ2 H2 => ∃ y, ok y ∧ m y < m x ∧ Env K c H0 (f y) σ2 H2 ∧ Ex (hd c Γ H) (hd c (f y) H2), fun σ2 H2 ⟨y, o, l, a, z⟩ => ⟨m y, l, y, o, rfl, a, z⟩, ?_⟩
    exact hs x hok hb _ σ' H1 e2 (fun σ2 H2 Γ2 a2 x2 ⟨y, o, l, q⟩ => ⟨y, o, l, a2.fg q, (xx.trans x2).trans (Fg.ex q)⟩) hr
  | false => exact k x hok hb D σ' H1 e2 (fun σ2 H2 Γ2 a2 x2 q2 => hx σ2 H2 Γ2 a2 (xx.trans x2) q2) hr
/-- x, y = l.pop() -/
theorem sg_popun (hi : At Γ i (.own p (ds ++ [d]))) (hg : GtG K c H0 g (Γ.set i (some (.own p ds))) d Γ1) (k : SG K c H0 rest Γ1 N Rt) : SG K c H0 (tSeq (tAsg (tBM0 K "list" rPop (tVar i)) g) rest) Γ N Rt := fun D σ H e hn hr => by
  obtain ⟨h1, h2, h3, h4, us, h5, h6⟩ := e.ow i p _ hi
  have hlen : us.length = ds.length + 1 := by rw [DpAll.len h6]; simp
  obtain ⟨us', u, rfl⟩ : ∃ us' u, us = us' ++ [u] := by
    have hne : us ≠ [] := by intro z; rw [z] at hlen; simp at hlen
    exact ⟨us.dropLast, us.getLast hne, (List.dropLast_concat_getLast hne).symm⟩
  have hl' : us'.length = ds.length := by simpa using hlen
  have hu : Dp K (hd c Γ H) u d := by
    obtain ⟨d', g1, g2⟩ := DpAll.get h6 (i := us'.length) (v := u) (by simp)
    rw [hl', List.getElem?_append_right (Nat.le_refl _), Nat.sub_self] at g1
    simp at g1
    subst g1
    exact g2
  have hA : DpAll K (hd c Γ H) us' ds := dpAll_get hl' fun j v dd g1 g2 => by
    have hj : j < us'.length := (List.getElem?_eq_some_iff.mp g1).1
    obtain ⟨d', g3, g4⟩ := DpAll.get h6 (i := j) (v := v) (by rw [List.getElem?_append_left hj]; exact g1)
    rw [List.getElem?_append_left (by omega), g2] at g3
    obtain rfl := Option.some.inj g3
    exact g4
  have hfz : fzA ds = true := by
    have := h4
    rw [fzA_app, Bool.and_eq_true] at this
    exact this.1
  refine ⟨_, h1, .inl ⟨rfl, _, Evl.sq_of h5⟩, p, us' ++ [u], u, rfl, rfl, h5, by simp, ?_⟩
  rw [List.dropLast_concat]
  obtain ⟨a, b⟩ := e.mut (us := us') (es := ds) hi hfz hA
  exact hg a (Dp.ex b _ _ hu) _ fun σ' e' x => k D _ _ e' (fun σ' H' Γ' a' y q => hn σ' H' Γ' a' ((b.trans x).trans y) q) hr
/-- l.extend(..) -/
theorem sg_ext (hi : At Γ i (.own p ds)) (h : EvO K c H0 te Γ es) (hf : fzA es = true) (hz : ds.length + es.length ≤ 100000) (k : SG K c H0 rest (Γ.set i (some (.own p (ds ++ es)))) N Rt) :
    SG K c H0 (tSeq (tDrop (tBM K "list" rExtend (tVar i) (tCons te tNil))) rest) Γ N Rt := fun D σ H e hn hr => by
  obtain ⟨h1, h2, h3, h4, us, h5, h6⟩ := e.ow i p ds hi
  refine ⟨_, h1, .inl ⟨rfl, us, Evl.sq_of h5⟩, h e _ fun q H2 us2 hq e2 hL hA => ⟨p, q, us, us2, rfl, rfl, e2 p _ h5, hL, Evl.sz_of (by rw [DpAll.len h6, DpAll.len hA]; exact hz), ?_⟩⟩
  have e' := e.ex e2
  have hx : Ex (hd c Γ H) (hd c Γ H2) := hd_ex (.ex e.cup e2)
  obtain ⟨a, b⟩ := e'.mut (us := us ++ us2) (es := ds ++ es) hi (by rw [fzA_app, h4, hf]; rfl) (DpAll.app (DpAll.ex hx _ _ h6) (e'.hideA hf hA))
  exact k D σ _ a (fun σ' H' Γ' a' x q => hn σ' H' Γ' a' ((hx.trans b).trans x) q) hr
/-- whether a list of its own, a tuple, has items -/
theorem et_truO (hi : At Γ i (.own p ds)) : EtH K c H0 (fun σ H Q => tVar i σ H fun x H' => ∃ k, TruV K x H' k ∧ Q k H') Γ (!ds.isEmpty) := fun σ H e H1 a R r => by
  obtain ⟨h1, h2, h3, h4, us, h5, h6⟩ := e.ow i p ds hi
  have hl := DpAll.len h6
  have he : us.isEmpty = ds.isEmpty := by cases us <;> cases ds <;> simp_all
  refine ⟨_, h1, !us.isEmpty, .inl ⟨us, SqL.of (a _ _ h5), rfl⟩, ?_⟩
  rw [he]
  exact r H1 (Ex.refl H1)
theorem et_truT {σ : L2.St} {H : Hp} (h : EvD K te σ H (.tuple ds)) : EvT (fun σ H Q => te σ H fun x H' => ∃ k, TruV K x H' k ∧ Q k H') σ H (!ds.isEmpty) := fun H1 a R r => h H1 a _ fun v H2 e2 hv => by
  obtain ⟨q, xs, rfl, hxs, hxa⟩ := dp_tup hv
  have hl := DpAll.len hxa
  have he : xs.isEmpty = ds.isEmpty := by cases xs <;> cases ds <;> simp_all
  refine ⟨!xs.isEmpty, .inr (.inl ⟨xs, hxs, rfl⟩), ?_⟩
  rw [he]
  exact r H2 e2
/-- for x, y in zip(t, u): Jn i is known ahead of turn i -/
theorem sg_forZ {tx ty : TE} {tw : TS} (f fx : Nat → GE) (Jn : Nat → Prop) (h1 : EvG K c H0 tx Γ (.tuple ds)) (h2 : EvG K c H0 ty Γ (.tuple es)) (h0 : Fg Γ (f 0)) (j0 : Jn 0)
    (hg : ∀ i d e, ds[i]? = some d → es[i]? = some e → GtG K c H0 g (f i) (.tuple [d, e]) (fx i)) (hs : ∀ i d e, ds[i]? = some d → es[i]? = some e → Jn i → SG K c H0 tw (fx i) (fun Γ' => Fg Γ' (f (i + 1)) ∧ Jn (i + 1)) Rt)
    (k : Jn (min ds.length es.length) → SG K c H0 rest (f (min ds.length es.length)) N Rt) : SG K c H0 (tSeq (tFor (RZ.iZipA K (tCons tx (tCons ty tNil))) g tw) rest) Γ N Rt := fun D σ H e hx hr => by
  refine h1 e _ fun v H1 e1 hv => h2 (e.ex e1) _ fun u H2 e2 hu => ?_
  have w1 := e.ex e1
  have w2 := w1.ex e2
  have hv2 := Dp.ex (hd_ex (.ex w1.cup e2)) _ _ hv
  obtain ⟨a, xs, rfl, hT, hA⟩ := dp_tup hv2
  obtain ⟨b, ys, rfl, hT2, hA2⟩ := dp_tup hu
  have l1 : xs.length = ds.length := DpAll.len hA
  have l2 : ys.length = es.length := DpAll.len hA2
  refine ⟨a, b, xs, ys, rfl, .inr ⟨Evl.ex_t hd_sub hT, Evl.ex_t hd_sub hT2, ?_⟩⟩
  refine ⟨fun i m σ' H' => m = min xs.length ys.length - i ∧ i ≤ min xs.length ys.length ∧ Jn i ∧ Env K c H0 (f i) σ' H' ∧ Ex (hd c Γ H2) (hd c (f i) H'), ⟨_, rfl, Nat.zero_le _, j0, w2.fg h0, Fg.ex h0⟩, ?_⟩
  rintro i m σ' H' ⟨rfl, hi, jn, e', x'⟩
  have q1 : SqT K H' a xs := Evl.ex_t (x'.trans hd_sub) hT
  have q2 : SqT K H' b ys := Evl.ex_t (x'.trans hd_sub) hT2
  by_cases hlt : i < min xs.length ys.length
  · have hx1 : xs[i]? = some (xs[i]'(by omega)) := List.getElem?_eq_getElem (by omega)
    have hy1 : ys[i]? = some (ys[i]'(by omega)) := List.getElem?_eq_getElem (by omega)
    refine .inr ⟨⟨xs, ys, _, _, q1, q2, hx1, hy1⟩, fun σ2 H2' => Jn (i + 1) ∧ Env K c H0 (f (i + 1)) σ2 H2' ∧ Ex (hd c Γ H2) (hd c (f (i + 1)) H2'), fun σ2 H2' p' => ⟨min xs.length ys.length - (i + 1), by omega, rfl, hlt, p'.1, p'.2.1, p'.2.2⟩, fun z H3 y => ?_⟩
    obtain ⟨T, x9, y9, rfl, hTn, rfl, f1, f2⟩ := y
    have g1 := f1 xs q1
    have g2 := f2 ys q2
    obtain ⟨dx, m1, m2⟩ := DpAll.get hA g1
    obtain ⟨dy, m3, m4⟩ := DpAll.get hA2 g2
    have en : Ex H' (upd H' T (.tup [x9, y9])) := ex_new hTn
    have e3 := e'.ex en
    have xk : Ex (hd c (f i) H') (hd c (f i) (upd H' T (.tup [x9, y9]))) := hd_ex (.ex e'.cup en)
    have hTH : hd c (f i) (upd H' T (.tup [x9, y9])) T = some (.tup [x9, y9]) := by rw [hd_get (e'.fresh hTn)]; exact upd_same
    refine hg i dx dy m1 m3 e3 (.tup (SqT.of hTH) (.cons (Dp.ex (x'.trans xk) _ _ m2) (.cons (Dp.ex (x'.trans xk) _ _ m4) .nil))) _ fun σ2 e4 x4 => ?_
    exact hs i dx dy m1 m3 jn _ _ _ e4 (fun σ5 H5 Γ5 a5 x5 ⟨q5, j5⟩ => ⟨j5, a5.fg q5, (((x'.trans xk).trans x4).trans x5).trans (Fg.ex q5)⟩) hr
  · have ei : i = min xs.length ys.length := by omega
    refine .inl ⟨⟨xs, ys, q1, q2, by omega⟩, ?_⟩
    rw [l1, l2] at ei
    subst ei
    exact k jn D σ' H' e' (fun σ2 H2' Γ2 a2 x2 q2 => hx σ2 H2' Γ2 a2 ((((hd_ex (.ex e.cup e1)).trans (hd_ex (.ex w1.cup e2))).trans x').trans x2) q2) hr
end
end Bk

namespace Bk
open PySem PySem.Spec PyProof.Rows L2
open Evl (Ex Ev EvT EvL EvU EvA)
theorem fz_ent (p : Rb) : fz (entD p) = true := by
  have h1 : fzA (p.1.map PyData.int) = true := fzA_of fun d hd => by
    obtain ⟨i, _, rfl⟩ := List.mem_map.mp hd
    rfl
  have h2 := fz_toD p.2
  simp [entD, enc, fz, fzA, h1, h2]
theorem fz_ents (ps : List Rb) : fzA (ps.map entD) = true := fzA_of fun d hd => by
  obtain ⟨p, _, rfl⟩ := List.mem_map.mp hd
  exact fz_ent p
theorem fz_enc (r : List Int) : fz (enc r) = true := by
  have h1 : fzA (r.map PyData.int) = true := fzA_of fun d hd => by
    obtain ⟨i, _, rfl⟩ := List.mem_map.mp hd
    rfl
  simp [enc, fz, h1]
theorem ent_dp {K : PySem.W.Frag} {H : Hp} {x : V} {p : Rb} (h : Dp K H x (entD p)) : ∃ a xr xb, x = V.ref a ∧ SqT K H a [xr, xb] ∧ Dp K H xr (enc p.1) ∧ Dp K H xb (toD p.2) := by
  obtain ⟨a, xs, rfl, hs, ha⟩ := dp_tup h
  cases ha with
  | cons d1 d2 =>
    cases d2 with
    | cons d2 d3 => cases d3; exact ⟨a, _, _, rfl, hs, d1, d2⟩
theorem stp_len_le (ps : List Rb) (i : Nat) : (stp (ps.take i)).length ≤ (stp ps).length := by
  have : stp ps = stp (ps.take i) ++ stp (ps.drop i) := by rw [← stp_app, List.take_append_drop]
  rw [this, List.length_append]
  omega
section
variable {P : Program} {w : World} {K : PySem.W.Frag} {mg : Str → Option Value} {base : Heap}
/-- the next level with its roads -/
theorem lc2_lev {a : Addr} {xs : List V} {ps : List Rb} {s0 s1 s2 : Option V} {H : Hp} {tl : TE} {Q : VK} (htl : Ev tl [s0, s1, s2, none, none, none, none] H (.ref a)) (hx : SqL K H a xs) (hA : DpAll K H xs (ps.map entD)) (hz : (stp ps).length ≤ 1000) (hr : ∀ p ∈ ps, p.1.length ≤ 1000)
    (k : ∀ D H2 us, H D = none → Ex H H2 → H2 D = some (.lst us) → DpAll K H2 us ((stp ps).map entD) → Q (.ref D) H2) :
    tLc2 (iList K tl) (gTup K 2 (gCons (gName 3) (gCons (gName 4) gNil))) tYes (iEnumT K (tCons (tSl (rSlA K) (tVar 4) (tPart (tC (.int 1))) tNoPart) tNil)) (gTup K 2 (gCons (gName 5) (gCons (gName 6) gNil))) tYes
      (tTup (tCons (tTup (StX.tStar K (tVar 3) (tCons (tVar 5) tNil))) (tCons (tVar 6) tNil))) [3, 4, 5, 6] [5, 6] [s0, s1, s2, none, none, none, none] H Q := by
  refine htl H (Ex.refl H) _ fun H1 e1 => ⟨a, rfl, ⟨xs, Evl.ex_l e1 hx⟩, fun D hD => ?_⟩
  have hDH : H D = none := Evl.fresh_back e1 hD
  have hl : xs.length = ps.length := by rw [DpAll.len hA, List.length_map]
  refine ⟨fun i m H' => m = xs.length - i ∧ i ≤ xs.length ∧ Ex H H' ∧ ∃ us, H' D = some (.lst us) ∧ DpAll K H' us ((stp (ps.take i)).map entD), ⟨xs.length, by simp, Nat.zero_le _, e1.trans (ex_new hD), [], upd_same, by rw [List.take_zero]; exact .nil⟩, ?_⟩
  rintro i m H' ⟨rfl, hi, eH, us, hL, hU⟩
  have q := Evl.ex_l eH hx
  by_cases hlt : i < xs.length
  · refine .inr ⟨⟨xs, xs[i], q, by simp [hlt]⟩, fun H' => Ex H H' ∧ ∃ us, H' D = some (.lst us) ∧ DpAll K H' us ((stp (ps.take (i + 1))).map entD), fun H' p' => ⟨xs.length - (i + 1), by omega, rfl, hlt, p'.1, p'.2⟩, fun x H2 y => ?_⟩
    obtain ⟨e, y⟩ := y
    subst e
    have hxi := y xs q
    obtain ⟨d, hd, hxd⟩ := DpAll.get hA hxi
    rw [List.getElem?_map] at hd
    obtain ⟨p, hp, rfl⟩ := Option.map_eq_some_iff.mp hd
    have htk : ps.take (i + 1) = ps.take i ++ [p] := by rw [List.take_add_one, hp]; rfl
    have hpm := List.mem_of_getElem? hp
    obtain ⟨ax, xr, xb, rfl, hsx, hxr, hxb⟩ := ent_dp (Dp.ex eH _ _ hxd)
    refine ⟨ax, _, rfl, hsx, rfl, _, _, rfl, _, _, rfl, rfl, rfl, yesI ?_⟩
    have hit : toD p.2 = .tuple (itm p.2) := toD_itm _
    rw [hit] at hxb
    refine ed_slFrom (K := K) (σ := [s0, s1, s2, some xr, some xb, none, none]) (H := H2) (k := 1) (ed_var (j := 4) rfl hxb) Evl.ev_c H2 (Ex.refl H2) _ fun vb H3 e3 hvb => ?_
    obtain ⟨ab, ys, rfl, hys, hya⟩ := dp_tup hvb
    rw [itm_kids] at hya
    have hyl : ys.length = (kids p.2).length := by rw [DpAll.len hya, List.length_map]
    refine ⟨ab, ys, rfl, hys, ?_⟩
    refine ⟨fun j k H' => k = ys.length - j ∧ j ≤ ys.length ∧ Ex H H' ∧ SqT K H' ab ys ∧ DpAll K H' ys ((kids p.2).map toD) ∧ Dp K H' xr (enc p.1) ∧ ∃ us, H' D = some (.lst us) ∧ DpAll K H' us ((stp (ps.take i) ++ chs p.1 0 ((kids p.2).take j)).map entD),
      ⟨ys.length, by simp, Nat.zero_le _, eH.trans e3, hys, hya, Dp.ex e3 _ _ hxr, us, e3 _ _ hL, by rw [List.take_zero]; simp only [chs, List.append_nil]; exact DpAll.ex e3 _ _ hU⟩, ?_⟩
    rintro j kk H4 ⟨rfl, hj, e4, hys4, hya4, hxr4, us4, hL4, hU4⟩
    by_cases hjl : j < ys.length
    · refine .inr ⟨⟨ys, ys[j], hys4, by simp [hjl]⟩, fun H' => Ex H H' ∧ SqT K H' ab ys ∧ DpAll K H' ys ((kids p.2).map toD) ∧ Dp K H' xr (enc p.1) ∧ ∃ us, H' D = some (.lst us) ∧ DpAll K H' us ((stp (ps.take i) ++ chs p.1 0 ((kids p.2).take (j + 1))).map entD),
        fun H' p' => ⟨ys.length - (j + 1), by omega, rfl, hjl, p'.1, p'.2.1, p'.2.2.1, p'.2.2.2.1, p'.2.2.2.2⟩, fun yv H5 y5 => ?_⟩
      obtain ⟨TT, x5, rfl, hT, rfl, hf⟩ := y5
      have hyj := hf ys hys4
      obtain ⟨c, hc, hxc⟩ := dpAll_map hya4 hyj
      have eT : Ex H4 (upd H4 TT (.tup [.int (j : Nat), x5])) := ex_new hT
      refine ⟨TT, _, rfl, SqT.of upd_same, rfl, _, _, rfl, _, _, rfl, rfl, rfl, yesI ?_⟩
      obtain ⟨ar, is, rfl, hsr, har⟩ := dp_tup (Dp.ex eT _ _ hxr4)
      have hil : is.length = p.1.length := by rw [DpAll.len har, List.length_map]
      have hrl := hr p hpm
      refine ⟨_, rfl, ar, is, rfl, .inl hsr, _, rfl, Evl.sz_of (by rw [List.length_append]; simp only [List.length_singleton]; omega), fun p6 hp6 => ⟨_, rfl, by show 2 ≤ sizeLine; decide, fun p7 hp7 => ?_⟩⟩
      have e6 : Ex (upd H4 TT (.tup [.int (j : Nat), x5])) (upd (upd H4 TT (.tup [.int (j : Nat), x5])) p6 (.tup (is ++ [.int (j : Nat)]))) := ex_new hp6
      have e7 : Ex (upd (upd H4 TT (.tup [.int (j : Nat), x5])) p6 (.tup (is ++ [.int (j : Nat)]))) (upd (upd (upd H4 TT (.tup [.int (j : Nat), x5])) p6 (.tup (is ++ [.int (j : Nat)]))) p7 (.tup [.ref p6, x5])) := ex_new hp7
      have e47 := (eT.trans e6).trans e7
      have hL7 := e47 _ _ hL4
      have htj : (kids p.2).take (j + 1) = (kids p.2).take j ++ [c] := by rw [List.take_add_one, hc]; rfl
      have hjk : j < (kids p.2).length := by rw [← hyl]; exact hjl
      have hnew : Dp K (upd (upd (upd H4 TT (.tup [.int (j : Nat), x5])) p6 (.tup (is ++ [.int (j : Nat)]))) p7 (.tup [.ref p6, x5])) (.ref p7) (entD (p.1 ++ [(j : Int)], c)) := by
        refine .tup (SqT.of upd_same) (.cons (.tup (SqT.of (e7 _ _ upd_same)) ?_) (.cons (Dp.ex e47 _ _ hxc) .nil))
        rw [List.map_append]
        exact DpAll.app (DpAll.ex (e6.trans e7) _ _ har) (.cons (.int _) .nil)
      refine ⟨us4, hL7, ?_, ?_⟩
      · rw [DpAll.len hU4, List.length_map]
        have h1 := stp_len_le ps (i + 1)
        rw [htk, stp_app, List.length_append] at h1
        have h2 : (stp [p]).length = (kids p.2).length := by simp [stp, chs_len]
        rw [List.length_append, chs_len, List.length_take]
        exact Nat.lt_of_le_of_lt (show _ ≤ 1000 by omega) (by decide)
      · have t8 : Tu (upd (upd (upd H4 TT (.tup [.int (j : Nat), x5])) p6 (.tup (is ++ [.int (j : Nat)]))) p7 (.tup [.ref p6, x5])) (upd (upd (upd (upd H4 TT (.tup [.int (j : Nat), x5])) p6 (.tup (is ++ [.int (j : Nat)]))) p7 (.tup [.ref p6, x5])) D (.lst (us4 ++ [.ref p7]))) := tu_lst hL7
        refine ⟨Evl.Ex.mut (e4.trans e47) hDH, t8.seq (Evl.ex_t e47 hys4), DpAll.tu t8 _ _ (fz_map _) (DpAll.ex e47 _ _ hya4), Dp.tu t8 _ _ (fz_enc _) (Dp.ex e47 _ _ hxr4), _, upd_same, ?_⟩
        rw [htj, chs_snoc, ← List.append_assoc, List.map_append, List.length_take, Nat.min_eq_left (by omega), Nat.zero_add]
        exact DpAll.app (DpAll.tu t8 _ _ (fz_ents _) (DpAll.ex e47 _ _ hU4)) (.cons (Dp.tu t8 _ _ (fz_ent _) hnew) .nil)
    · refine .inl ⟨⟨ys, hys4, by omega⟩, e4, us4, hL4, ?_⟩
      have hje : (kids p.2).take j = kids p.2 := List.take_of_length_le (by omega)
      rw [hje] at hU4
      rw [htk, stp_app]
      have h2 : stp [p] = chs p.1 0 (kids p.2) := by simp [stp]
      rw [h2]
      exact hU4
  · have e : i = xs.length := by omega
    subst e
    rw [hl, List.take_length] at hU
    exact .inl ⟨⟨xs, q, Nat.le_refl _⟩, k D H' us hDH eH hL hU⟩
theorem s_lev {a : Addr} {xs : List V} {ps : List Rb} {s0 s1 s2 : Option V} {H : Hp} {tl : TE} {D0 : Ends} (htl : Ev tl [s0, s1, s2, none, none, none, none] H (.ref a)) (hx : SqL K H a xs) (hA : DpAll K H xs (ps.map entD)) (hz : (stp ps).length ≤ 1000) (hr : ∀ p ∈ ps, p.1.length ≤ 1000)
    (k : ∀ D H2 us, H D = none → Ex H H2 → H2 D = some (.lst us) → DpAll K H2 us ((stp ps).map entD) → D0.nx [s0, s1, some (.ref D), none, none, none, none] H2) :
    tAsg (tLc2 (iList K tl) (gTup K 2 (gCons (gName 3) (gCons (gName 4) gNil))) tYes (iEnumT K (tCons (tSl (rSlA K) (tVar 4) (tPart (tC (.int 1))) tNoPart) tNil)) (gTup K 2 (gCons (gName 5) (gCons (gName 6) gNil))) tYes
      (tTup (tCons (tTup (StX.tStar K (tVar 3) (tCons (tVar 5) tNil))) (tCons (tVar 6) tNil))) [3, 4, 5, 6] [5, 6]) (gName 2) D0 [s0, s1, s2, none, none, none, none] H :=
  lc2_lev (Q := fun v H1 => D0.nx ([s0, s1, s2, none, none, none, none].set 2 (some v)) H1) htl hx hA hz hr k
end
end Bk

namespace Bk
open PySem PySem.Spec PyProof.Rows L2
open Evl (Ex Ev EvT EvL EvU EvA)
theorem lvR_empty {b : Bu} (hb : okB b = true) {k : Nat} (h : lvR k b = []) : near b < k := by
  have h1 : ∀ n, lvR (k + n) b = [] := by
    intro n
    induction n with
    | zero => exact h
    | succ n ih => rw [← Nat.add_assoc, ← stp_lvR, ih]; rfl
  by_cases c : near b < k
  · exact c
  · obtain ⟨_, t, ht⟩ := lvR_tips b hb
    have := h1 (near b - k)
    rw [show k + (near b - k) = near b by omega] at this
    rw [this] at ht
    simp at ht
section
variable {P : Program} {w : World} {K : PySem.W.Frag} {mg : Str → Option Value} {base : Heap}
def spRoads (K : PySem.W.Frag) : Sp := fun vs H Q _ => ∃ (v : V) (b : Bu), vs = [v] ∧ Dp K H v (toD b) ∧ Good b ∧ ∀ k p H' us, near b < k → H p = none → Ex H H' → H' p = some (.lst us) → DpAll K H' us ((bfs b k).map entD) → us.length ≤ 400 → Q (.ref p) H'
theorem ok_roads_and_parts (T : Tx K mg) : FnOk P w K mg base CX0 1 T.a_roads_and_parts T.d_roads_and_parts P_roads_and_parts (spRoads K) := by
  refine T.F_roads_and_parts.ok sc_roads_and_parts (fun vs H Q E h => ?_) (fun cdv A outer s H vs Q E hr h => ?_)
  · obtain ⟨v, b, rfl, _⟩ := h; rfl
  · obtain ⟨v, b, rfl, hv, G, q⟩ := h
    refine ⟨_, pss_cons (ps_set (i := 1) sc_roads_and_parts.nd rfl (.inl rfl) (pe_lst pa_nil))
      (pss_cons (ps_set (i := 2) sc_roads_and_parts.nd rfl (.inl rfl) (pe_lst (pa_cons (pe_tup (pa_cons (pe_tup pa_nil) (pa_cons (pv 0) pa_nil))) pa_nil)))
      (pss_cons (ps_while PassesOwn.never (pt_truth (pv 2) (by intro _; rfl))
        (pss_cons (ps_expr (pe_bm PySem.F.plainAttrs_list PySem.F.slot_list_extend PySem.F.type_list_extend mt_extend (pv 1) (pa_cons (pv 2) pa_nil)))
        (pss_one (ps_setLc2 (i := 2) (own := [("road", 3), ("part", 4), ("index", 5), ("branch", 6)]) (vs1 := [5, 6]) (g := gTup K 2 (gCons (gName 3) (gCons (gName 4) gNil))) (g1 := gTup K 2 (gCons (gName 5) (gCons (gName 6) gNil))) (tt := tYes) (tt1 := tYes) (wi1 := iEnumT K (tCons (tSl (rSlA K) (tVar 4) (tPart (tC (.int 1))) tNoPart) tNil))
            (te := tTup (tCons (tTup (StX.tStar K (tVar 3) (tCons (tVar 5) tNil))) (tCons (tVar 6) tNil))) rfl sc_roads_and_parts.nd rfl rfl (sw_true rfl rfl rfl (by decide +kernel)) (pi_list (pv 2)) (blkOk_by (N := N_roads_and_parts) (sc := defScope s_roads_and_parts) (by decide +kernel)) (by decide)
            (fun _ _ _ _ _ => pg_tup rfl (pgs_cons (pg_name (i := 3) sc_roads_and_parts.nd rfl (Or.inl rfl)) (pgs_cons (pg_name (i := 4) sc_roads_and_parts.nd rfl (Or.inl rfl)) pgs_nil))) (fun _ _ _ _ _ => pts_nil)
            (fun _ _ _ _ _ => pi_enumT (by rfl) T.z_enumerate (pa_cons (pe_slice sl_tupA (pv 4) (po_some pe_int) po_none) pa_nil))
            (fun _ _ _ _ _ => pg_tup rfl (pgs_cons (pg_name (i := 5) sc_roads_and_parts.nd rfl (Or.inl rfl)) (pgs_cons (pg_name (i := 6) sc_roads_and_parts.nd rfl (Or.inl rfl)) pgs_nil))) (fun _ _ _ _ _ => pts_nil)
            (fun _ _ _ _ _ => pe_tup (pa_cons (pe_tup (StX.pa_star (pv 3) (pa_cons (pv 5) pa_nil))) (pa_cons (pv 6) pa_nil)))))))
      (pss_one (ps_ret (pv 1))))), ?_⟩
    refine ⟨Nat.zero_le _, fun f hf => ?_⟩
    have e1 : Ex H (upd H f (.lst [])) := ex_new hf
    refine q_lstD (K := K) (σ := [some v, some (.ref f), none, none, none, none, none]) (ds := [entD ([], b)]) (ead_cons (ed_tup (ds := [enc [], toD b]) (ead_cons (ed_tup ead_nil (by decide)) (ead_cons (ed_var rfl (Dp.ex e1 _ _ hv)) ead_nil)) (by show 2 ≤ 100000; decide)) ead_nil) (by show 1 ≤ 100000; decide) fun q0 H2 lv hq0 e2 hq hlv => ?_
    have hne : q0 ≠ f := fun e => by rw [e, upd_same] at hq0; cases hq0
    have hdl : ∀ k, lvR k b ≠ [] → k ≤ dep b := fun k hk => by
      cases hc : lvR k b with
      | nil => exact absurd hc hk
      | cons p t =>
        have := lvR_dep k b G.ok p (by rw [hc]; exact List.mem_cons_self)
        omega
    refine Evl.q_while (fun m σ H' => ∃ (q1 : Addr) (us lv : List V) (k : Nat), σ = [some v, some (.ref f), some (.ref q1), none, none, none, none] ∧ Ex H H' ∧ H' f = some (.lst us) ∧ DpAll K H' us ((bfs b k).map entD) ∧ q1 ≠ f ∧ H' q1 = some (.lst lv) ∧ DpAll K H' lv ((lvR k b).map entD) ∧ m = dep b + 1 - k ∧ k ≤ dep b + 1) (dep b + 1)
      ⟨q0, [], lv, 0, rfl, e1.trans e2, e2 _ _ upd_same, .nil, hne, hq, by rw [lvR]; exact hlv, by omega, Nat.zero_le _⟩ ?_
    rintro m σ' H3 ⟨q1, us, lv1, k, rfl, eH, hF, hU, n1, hL, hV, rfl, hk⟩
    have hll : lv1.length = (lvR k b).length := by rw [DpAll.len hV, List.length_map]
    have hul : us.length = (bfs b k).length := by rw [DpAll.len hU, List.length_map]
    have hfew := G.few
    have hsum := sumL_kt [b] (k + 1)
    have hkt : kt [b] = knots b + tips b := rfl
    refine ⟨!lv1.isEmpty, fun H4 e4 R r => ⟨_, rfl, _, .inl ⟨lv1, SqL.of (e4 _ _ hL), rfl⟩, r H4 (Ex.refl H4)⟩, fun hb H4 e4 => ?_, fun hb H4 e4 => ?_⟩
    · have hne2 : lvR k b ≠ [] := fun e => by
        rw [e] at hll
        have : lv1 = [] := List.eq_nil_of_length_eq_zero hll
        subst this
        simp at hb
      have hkd := hdl k hne2
      refine ⟨fun σ2 H' => ∃ m', m' < dep b + 1 - k ∧ ∃ (q1 : Addr) (us lv : List V) (k : Nat), σ2 = [some v, some (.ref f), some (.ref q1), none, none, none, none] ∧ Ex H H' ∧ H' f = some (.lst us) ∧ DpAll K H' us ((bfs b k).map entD) ∧ q1 ≠ f ∧ H' q1 = some (.lst lv) ∧ DpAll K H' lv ((lvR k b).map entD) ∧ m' = dep b + 1 - k ∧ k ≤ dep b + 1, fun _ _ h => h, ?_⟩
      have hF4 := e4 _ _ hF
      have hL4 := e4 _ _ hL
      have hlen : us.length + lv1.length ≤ 400 := by
        rw [hul, hll, ← List.length_append, ← bfs_succ, bfs_len]
        omega
      refine ⟨_, rfl, Or.inl ⟨rfl, _, SqL.of hF4⟩, _, rfl, f, q1, us, lv1, rfl, rfl, hF4, hL4, Nat.le_trans hlen (by decide), ?_⟩
      have t5 : Tu H4 (upd H4 f (.lst (us ++ lv1))) := tu_lst hF4
      have e5 : Ex H (upd H4 f (.lst (us ++ lv1))) := Evl.Ex.mut (eH.trans e4) hf
      have hL5 : (upd H4 f (.lst (us ++ lv1))) q1 = some (.lst lv1) := by rw [upd_ne n1]; exact hL4
      have hV5 : DpAll K (upd H4 f (.lst (us ++ lv1))) lv1 ((lvR k b).map entD) := DpAll.tu t5 _ _ (fz_ents _) (DpAll.ex e4 _ _ hV)
      have hst := lvR_len (k + 1) b
      dsimp only
      refine s_lev (K := K) (s0 := some v) (s1 := some (.ref f)) (s2 := some (.ref q1)) (ps := lvR k b) (tl := tVar 2) (Evl.ev_var (i := 2) rfl) (SqL.of hL5) hV5 (by rw [stp_lvR]; omega) (fun p hp => by have := (lvR_dep k b G.ok p hp).2.2; have := G.dep; omega) fun D H6 us6 hD6 e6 hL6 hU6 => ?_
      rw [stp_lvR] at hU6
      have hF5 : (upd H4 f (.lst (us ++ lv1))) f = some (.lst (us ++ lv1)) := upd_same
      refine ⟨dep b + 1 - (k + 1), by omega, D, us ++ lv1, us6, k + 1, rfl, e5.trans e6, e6 _ _ hF5, ?_, (fun e => by rw [e, hF5] at hD6; cases hD6), hL6, hU6, rfl, by omega⟩
      rw [bfs_succ, List.map_append]
      exact DpAll.ex e6 _ _ (DpAll.app (DpAll.tu t5 _ _ (fz_ents _) (DpAll.ex e4 _ _ hU)) hV5)
    · have h0 : lv1 = [] := by
        cases lv1 with
        | nil => rfl
        | cons y t => simp at hb
      have h1 : lvR k b = [] := List.eq_nil_of_length_eq_zero (by rw [← hll, h0]; rfl)
      have hs2 := sumL_kt [b] k
      exact ⟨_, rfl, q k f H4 us (lvR_empty G.ok h1) hf (eH.trans e4) (e4 _ _ hF) (DpAll.ex e4 _ _ hU) (by rw [hul, bfs_len]; omega)⟩
end
end Bk

namespace Bk
open PySem PySem.Spec PyProof.Rows L2
open Evl (Ex Ev EvT EvL EvU EvA)
noncomputable def cutsN (b : Bu) (i : Nat) : List (Bu × Bu) := ((chn b).take i).filterMap fun l => (up b l).map fun u => (u, l)
def cutD (p : Bu × Bu) : PyData := .tuple [toD p.1, toD p.2]
theorem fz_cuts (ps : List (Bu × Bu)) : fzA (ps.map cutD) = true := fzA_of fun d hd => by
  obtain ⟨p, _, rfl⟩ := List.mem_map.mp hd
  have h1 := fz_toD p.1
  have h2 := fz_toD p.2
  simp [cutD, fz, fzA, h1, h2]
theorem fz_encs (rs : List (List Int)) : fzA (rs.map enc) = true := fzA_of fun d hd => by
  obtain ⟨r, _, rfl⟩ := List.mem_map.mp hd
  exact fz_enc r
theorem cutsN_lows (b : Bu) : ∀ i, (cutsN b i).map (·.2) = ((chn b).take i).filter fun l => (up b l).isSome := by
  intro i
  unfold cutsN
  induction (chn b).take i with
  | nil => rfl
  | cons l ls ih =>
    rw [List.filterMap_cons, List.filter_cons]
    cases h : up b l with
    | none => simpa [h] using ih
    | some u => simpa [h] using ih
section
variable {P : Program} {w : World} {K : PySem.W.Frag} {mg : Str → Option Value} {base : Heap}
def tTru (K : PySem.W.Frag) (ta : TE) : TT := fun σ H Q => ta σ H fun x H' => ∃ k, TruV K x H' k ∧ Q k H'
theorem pt_tru {X : Cx} {a : Expr} {ta : TE} (ha : PE X a ta) (he : ∀ whole, isTrue a X.env whole = (do let v ← whole; standAt a.pos; holding [v] (truthy v))) : PT X a (tTru X.K ta) := pt_truth ha he
theorem lc_nears {a : Addr} {xs : List V} {ps : List Rb} {s0 s1 s2 s3 s4 s5 : Option V} {H : Hp} {Q : VK} (hx : SqL K H a xs) (hA : DpAll K H xs (ps.map entD)) (hz : ps.length ≤ 1000)
    (k : ∀ D H2 us, H D = none → Ex H H2 → H2 D = some (.lst us) → DpAll K H2 us (((ps.filter fun p => isTip p.2).map (·.1)).map enc) → Q (.ref D) H2) :
    tLc (iList K (tC (.ref a))) (gTup K 2 (gCons (gName 6) (gCons (gName 7) gNil))) (tNot (tTru K (tVar 7))) (tVar 6) [6, 7] [s0, s1, s2, s3, s4, s5, none, none] H Q := by
  refine ⟨a, rfl, ⟨xs, hx⟩, fun D hD => ?_⟩
  have hl : xs.length = ps.length := by rw [DpAll.len hA, List.length_map]
  refine ⟨fun i m H' => m = xs.length - i ∧ i ≤ xs.length ∧ Ex H H' ∧ ∃ us, H' D = some (.lst us) ∧ DpAll K H' us ((((ps.take i).filter fun p => isTip p.2).map (·.1)).map enc), ⟨xs.length, by simp, Nat.zero_le _, ex_new hD, [], upd_same, by rw [List.take_zero]; exact .nil⟩, ?_⟩
  rintro i m H' ⟨rfl, hi, eH, us, hL, hU⟩
  have q := Evl.ex_l eH hx
  by_cases hlt : i < xs.length
  · refine .inr ⟨⟨xs, xs[i], q, by simp [hlt]⟩, fun H' => Ex H H' ∧ ∃ us, H' D = some (.lst us) ∧ DpAll K H' us ((((ps.take (i + 1)).filter fun p => isTip p.2).map (·.1)).map enc), fun H' p' => ⟨xs.length - (i + 1), by omega, rfl, hlt, p'.1, p'.2⟩, fun x H2 y => ?_⟩
    obtain ⟨e, y⟩ := y
    subst e
    have hxi := y xs q
    obtain ⟨d, hd, hxd⟩ := DpAll.get hA hxi
    rw [List.getElem?_map] at hd
    obtain ⟨p, hp, rfl⟩ := Option.map_eq_some_iff.mp hd
    have htk : ps.take (i + 1) = ps.take i ++ [p] := by rw [List.take_add_one, hp]; rfl
    obtain ⟨ax, xr, xb, rfl, hsx, hxr, hxb⟩ := ent_dp (Dp.ex eH _ _ hxd)
    obtain ⟨ab, zs, rfl, hzs, hza⟩ := bu_dp hxb
    refine ⟨ax, _, rfl, hsx, rfl, _, _, rfl, _, _, rfl, rfl, rfl, ?_⟩
    refine ⟨_, rfl, _, tru_tup hzs, ?_⟩
    rw [htk, List.filter_append, List.map_append, List.map_append]
    have hul := DpAll.len hU
    rw [List.length_map, List.length_map] at hul
    have hfl := List.length_filter_le (fun p : Rb => isTip p.2) (ps.take i)
    rw [List.length_take] at hfl
    cases hb : p.2 with
    | tip =>
      rw [hb] at hza
      have h0 : zs = [] := List.eq_nil_of_length_eq_zero (DpAll.len hza)
      subst h0
      refine iteT ⟨_, rfl, us, hL, Nat.lt_of_le_of_lt (show us.length ≤ 1000 by omega) (by decide), ?_⟩
      have t := tu_lst (ys := us ++ [xr]) hL
      refine ⟨Evl.Ex.mut eH hD, us ++ [xr], upd_same, ?_⟩
      rw [List.filter_cons_of_pos (by rw [hb]; rfl)]
      exact DpAll.app (DpAll.tu t _ _ (fz_encs _) hU) (.cons (Dp.tu t _ _ (fz_enc _) hxr) .nil)
    | knot c bs =>
      rw [hb] at hza
      have h0 : zs.isEmpty = false := by
        have := DpAll.len hza
        cases zs with
        | nil => simp [itm] at this
        | cons z t => rfl
      rw [h0]
      refine iteF ⟨eH, us, hL, ?_⟩
      rw [List.filter_cons_of_neg (by rw [hb]; simp [isTip])]
      simpa using hU
  · have e : i = xs.length := by omega
    subst e
    rw [hl, List.take_length] at hU
    exact .inl ⟨⟨xs, q, Nat.le_refl _⟩, k D H' us hD eH hL hU⟩
theorem ixlc_at {σ : L2.St} {H : Hp} {tl : TE} {g : TG} {tt : TT} {te : TE} {vs : List Nat} {D : Ends} {tz : TS} {j : Nat} {i0 : V} (h : tl σ H fun x H1 => tLc (iList K (tC x)) g tt te vs σ H1 (fun v H2 => rIxL K v i0 H2 (fun x H3 => tz D (σ.set j (some x)) H3))) :
    tSeq (tAsg (tOp (rIxL K) (tLc (iList K tl) g tt te vs) (tC i0)) (gName j)) tz D σ H := h
def spAllCuts (K : PySem.W.Frag) : Sp := fun vs H Q _ => ∃ (v : V) (b : Bu), vs = [v] ∧ Dp K H v (toD b) ∧ Good b ∧ ∀ p H' us, H p = none → Ex H H' → H' p = some (.lst us) → DpAll K H' us ((cutsN b (near b + 1)).map cutD) → Q (.ref p) H'
theorem ok_all_cuts (T : Tx K mg) : FnOk P w K mg base CX0 62 T.a_all_cuts T.d_all_cuts P_all_cuts (spAllCuts K) := by
  have G1 : FnOk P w K mg base CX0 1 T.a_roads_and_parts T.d_roads_and_parts P_roads_and_parts (spRoads K) := ok_roads_and_parts T
  have G2 : FnOk P w K mg base CX0 2 T.a_part_on_road T.d_part_on_road P_part_on_road (spPartOn K) := ok_part_on_road T
  have G3 : FnOk P w K mg base CX0 61 T.a_upper_of T.d_upper_of P_upper_of (spUpper K 60) := ok_upper_of T 60
  refine T.F_all_cuts.ok sc_all_cuts (fun vs H Q E h => ?_) (fun cdv A outer s H vs Q E hr h => ?_)
  · obtain ⟨v, b, rfl, _⟩ := h; rfl
  · obtain ⟨v, b, rfl, hv, G, q⟩ := h
    refine ⟨_, pss_cons (ps_set (i := 1) sc_all_cuts.nd rfl (.inl rfl) (pe_ix ix_list (pe_lc (own := [("road", 6), ("part", 7)]) (g := gTup K 2 (gCons (gName 6) (gCons (gName 7) gNil))) (tt := tNot (tTru K (tVar 7))) (te := tVar 6) rfl sc_all_cuts.nd (pi_list (pe_call (G1.mono (by decide)) hr (by rfl) T.g_roads_and_parts T.F_roads_and_parts.kp T.b_roads_and_parts .nil pass0 (pa_cons (pv 0) pa_nil))) (blkOk_by (N := N_all_cuts) (sc := defScope s_all_cuts) (by decide +kernel))
            (fun _ _ _ _ _ => pg_tup rfl (pgs_cons (pg_name (i := 6) sc_all_cuts.nd rfl (Or.inl rfl)) (pgs_cons (pg_name (i := 7) sc_all_cuts.nd rfl (Or.inl rfl)) pgs_nil))) (fun _ _ _ _ _ => pts_one (pt_not (pt_tru (pv 7) (by intro _; rfl)))) (fun _ _ _ _ _ => pv 6)) pe_int (fun _ _ => rfl)))
      (pss_cons (ps_set (i := 2) sc_all_cuts.nd rfl (.inl rfl) (pe_lst pa_nil))
      (pss_cons (ps_for PassesOwn.never rfl (pi_range1 (by rfl) T.z_range (pa_cons (pe_op op_add (pe_callB call_len_seq (by rfl) T.z_len PySem.boot_len (pa_cons (pv 1) pa_nil)) pe_int) pa_nil)) (pg_name (i := 3) sc_all_cuts.nd rfl (.inl rfl))
        (pss_cons (ps_set (i := 4) sc_all_cuts.nd rfl (.inl rfl) (pe_call (G2.mono (by decide)) hr (by rfl) T.g_part_on_road T.F_part_on_road.kp T.b_part_on_road .nil pass0 (pa_cons (pv 0) (pa_cons (pe_slice sl_tupA (pv 1) po_none (po_some (pv 3))) pa_nil))))
        (pss_cons (ps_set (i := 5) sc_all_cuts.nd rfl (.inl rfl) (pe_call (G3.mono (by decide)) hr (by rfl) T.g_upper_of T.F_upper_of.kp T.b_upper_of .nil pass0 (pa_cons (pv 0) (pa_cons (pv 4) pa_nil))))
        (pss_one (ps_if (pt_cmpR op_notN (pv 5) pe_non (nomark _)) (pss_one (ps_expr (pe_bm PySem.F.plainAttrs_list PySem.F.slot_list_append PySem.F.type_list_append mt_append (pv 2) (pa_cons (pe_tup (pa_cons (pv 5) (pa_cons (pv 4) pa_nil))) pa_nil)))) pss_nil)))))
      (pss_one (ps_ret (pv 2))))), ?_⟩
    have hnd := nrd_spec b G.ok
    refine ixlc_at (K := K) ⟨v, rfl, v, b, rfl, hv, G, fun k l H1 ys hk hl e1 hL hA hlen => ?_⟩
    obtain ⟨t, ht⟩ := bfs_near G.ok hk
    have hbl : (bfs b k).length ≤ 1000 := by have := DpAll.len hA; rw [List.length_map] at this; omega
    refine lc_nears (K := K) (s0 := some v) (s1 := none) (s2 := none) (s3 := none) (s4 := none) (s5 := none) (SqL.of hL) hA hbl fun D H2 us hD e2 hD2 hU => ?_
    rw [ht, List.map_cons, List.map_cons] at hU
    obtain ⟨xn, hxn, hdn⟩ := DpAll.get' hU (i := 0) (d := enc (nrd b)) rfl
    refine ⟨D, us, 0, xn, rfl, rfl, SqL.of hD2, atI_nat (j := 0) hxn, ?_⟩
    have e12 := e1.trans e2
    dsimp only
    refine ⟨Nat.zero_le _, fun q0 hq0 => ?_⟩
    have hq0' : H q0 = none := Evl.fresh_back e12 hq0
    have e3 : Ex H (upd H2 q0 (.lst [])) := e12.trans (ex_new hq0)
    have hdn3 := Dp.ex (ex_new (o := .lst []) hq0) _ _ hdn
    have hdn4 : Dp K (upd H2 q0 (.lst [])) xn (.tuple ((nrd b).map .int)) := hdn3
    have hln : ((nrd b).map PyData.int).length = near b := by rw [List.length_map, hnd.1]
    have hnr : near b ≤ dep b := by
      obtain ⟨⟨r1, m1, l1⟩, _⟩ := tr_ends b G.ok
      have := tr_near b r1 m1
      omega
    have hgd := G.dep
    refine Evl.q_forR1 (n := ((near b : Nat) : Int) + 1) (Evl.ea_cons (ev_add (i := ((near b : Nat) : Int)) (j := 1) (Evl.ev_is (ev_lenD (K := K) (ed_var rfl hdn4)) (by rw [hln])) Evl.ev_c) Evl.ea_nil) (by omega)
      (fun i σ H' => ∃ x3 x4 x5 us, σ = [some v, some xn, some (.ref q0), x3, x4, x5, none, none] ∧ Ex H H' ∧ Dp K H' xn (enc (nrd b)) ∧ H' q0 = some (.lst us) ∧ DpAll K H' us ((cutsN b i).map cutD))
      (fun H4 e4 => ⟨none, none, none, [], rfl, e3.trans e4, Dp.ex e4 _ _ hdn3, e4 _ _ upd_same, by unfold cutsN; rw [List.take_zero]; exact .nil⟩) ?_ ?_
    · rintro i σ' H4 hi ⟨x3, x4, x5, us4, rfl, e4, hxn4, hL4, hU4⟩
      have hil : i ≤ near b := by omega
      obtain ⟨hc, hin⟩ := hnd.2 i hil
      obtain ⟨cl, _, _, _, c5⟩ := chn_spec b G.ok
      have hlm := List.mem_of_getElem? hc
      obtain ⟨hlo, hld⟩ := c5 _ hlm
      have htk : (chn b).take (i + 1) = (chn b).take i ++ [prt b ((nrd b).take i)] := by rw [List.take_add_one, hc]; rfl
      have hv4 := Dp.ex e4 _ _ hv
      have hxn5 : Dp K H4 xn (.tuple ((nrd b).map .int)) := hxn4
      refine q_asgD (K := K) (d := toD (prt b ((nrd b).take i))) (ed_call (ds := [toD b, enc ((nrd b).take i)]) (ead_cons (ed_var rfl hv4) (ead_cons (ed_is (ed_slTo (k := i) (ed_var rfl hxn5) (Evl.ev_var rfl)) (by rw [← List.map_take]; rfl)) ead_nil)) (fun vs H5 e5 hvs R rr => ?_)) fun vl H5 e5 hvl => ?_
      · cases hvs with
        | cons h1 h2 =>
          cases h2 with
          | cons h3 h4 => cases h4; exact ⟨_, _, b, _, rfl, h1, h3, hin, rr⟩
      have hL5 := e5 _ _ hL4
      have hU5 := DpAll.ex e5 _ _ hU4
      refine ⟨v, rfl, vl, rfl, v, vl, b, _, rfl, Dp.ex e5 _ _ hv4, hvl, G.ok, hlo, hgd, Nat.le_refl _, by omega, fun u z H6 hup e6 hz => ?_, fun H6 hup e6 => ?_⟩
      · obtain ⟨az, zs, rfl, hzs, hza⟩ := bu_dp hz
        dsimp only
        refine ⟨_, rfl, rfl, _, rfl, ?_⟩
        rw [decide_eq_false (by simp)]
        refine iteT ?_
        have hL6 := e6 _ _ hL5
        have hul : us4.length ≤ 100 := by
          have l1 := DpAll.len hU5
          rw [List.length_map] at l1
          have l2 : (cutsN b i).length ≤ ((chn b).take i).length := List.length_filterMap_le _ _
          rw [List.length_take] at l2
          omega
        refine ⟨_, rfl, Or.inl ⟨rfl, _, SqL.of hL6⟩, _, rfl, _, rfl, by show 2 ≤ sizeLine; decide, fun p7 hp7 => ?_⟩
        have e7 : Ex H6 (upd H6 p7 (.tup [.ref az, vl])) := ex_new hp7
        have hL7 := e7 _ _ hL6
        refine ⟨q0, us4, .ref p7, rfl, rfl, hL7, Nat.lt_of_le_of_lt hul (by decide), ?_⟩
        have t8 := tu_lst (ys := us4 ++ [.ref p7]) hL7
        refine ⟨_, _, _, us4 ++ [.ref p7], rfl, Evl.Ex.mut (e4.trans (e5.trans (e6.trans e7))) hq0', Dp.tu t8 _ _ (fz_enc _) (Dp.ex (e5.trans (e6.trans e7)) _ _ hxn4), upd_same, ?_⟩
        have hcs : cutsN b (i + 1) = cutsN b i ++ [(u, prt b ((nrd b).take i))] := by
          unfold cutsN
          rw [htk, List.filterMap_append]
          simp [hup]
        rw [hcs, List.map_append]
        refine DpAll.app (DpAll.tu t8 _ _ (fz_cuts _) (DpAll.ex (e6.trans e7) _ _ hU5)) (.cons (.tup (SqT.of (t8.1 _ _ upd_same)) (.cons (Dp.tu t8 _ _ (fz_toD _) (Dp.ex e7 _ _ hz)) (.cons (Dp.tu t8 _ _ (fz_toD _) (Dp.ex (e6.trans e7) _ _ hvl)) .nil))) .nil)
      · dsimp only
        refine ⟨_, rfl, rfl, _, rfl, ?_⟩
        rw [decide_eq_true rfl]
        refine iteF (nx_of ?_)
        refine ⟨_, _, _, us4, rfl, e4.trans (e5.trans e6), Dp.ex (e5.trans e6) _ _ hxn4, e6 _ _ hL5, ?_⟩
        have hcs : cutsN b (i + 1) = cutsN b i := by
          unfold cutsN
          rw [htk, List.filterMap_append]
          simp [hup]
        rw [hcs]
        exact DpAll.ex e6 _ _ hU5
    · rintro σ' H4 ⟨x3, x4, x5, us4, rfl, e4, hxn4, hL4, hU4⟩
      have e0 : (((near b : Nat) : Int) + 1).toNat = near b + 1 := rfl
      rw [e0] at hU4
      exact ⟨_, rfl, q q0 H4 us4 hq0' e4 hL4 hU4⟩
end
end Bk

namespace Bk
open PySem PySem.Spec PyProof.Rows L2
open Evl (Ex Ev EvT EvL EvU EvA)
theorem quo_get : ∀ (L : List Bu) (i : Nat) (x y : Bu), L[i]? = some x → L[i + 1]? = some y → (quo L)[i]? = some ((up x y).getD .tip)
  | [], _, _, _, h, _ => by simp at h
  | [a], i, x, y, _, h => by simp at h
  | a :: b :: t, 0, x, y, h1, h2 => by
    have e1 : a = x := by simpa using h1
    have e2 : b = y := by simpa using h2
    subst e1 e2
    show ((up a b).getD .tip :: quo (b :: t))[0]? = _
    rfl
  | a :: b :: t, i + 1, x, y, h1, h2 => by
    have := quo_get (b :: t) i x y (by simpa using h1) (by simpa using h2)
    show ((up a b).getD .tip :: quo (b :: t))[i + 1]? = _
    simpa using this
theorem quo_len : ∀ (L : List Bu), (quo L).length = L.length - 1
  | [] => rfl
  | [a] => rfl
  | a :: b :: t => by
    have := quo_len (b :: t)
    show ((up a b).getD .tip :: quo (b :: t)).length = _
    rw [List.length_cons, this]
    simp
theorem primes_step {b : Bu} (hb : okB b = true) {i : Nat} {x y : Bu} (hx : (lows b)[i]? = some x) (hy : (lows b)[i + 1]? = some y) : ∃ q, up x y = some q ∧ (primes b)[i]? = some q ∧ okB q = true ∧ dep q ≤ dep b ∧ okB x = true ∧ okB y = true ∧ dep x ≤ dep b ∧ dep y ≤ dep b := by
  have hp : (lows b).Pairwise fun x y => dep y < dep x := (chn_spec b hb).2.2.2.1.sublist List.filter_sublist
  have hs : ∀ x ∈ lows b, ∃ u, grow u x = b ∧ okB u = true := fun x hx => by
    obtain ⟨u, hu⟩ := Option.isSome_iff_exists.mp (List.mem_filter.mp hx).2
    exact ⟨u, up_grow _ _ _ hu, ok_up hb hu⟩
  have mx := List.mem_of_getElem? hx
  have my := List.mem_of_getElem? hy
  obtain ⟨u, hu1, hu2⟩ := hs x mx
  obtain ⟨v, hv1, hv2⟩ := hs y my
  have hd : dep y < dep x := by
    have h1 := List.pairwise_iff_getElem.mp hp i (i + 1) (List.getElem?_eq_some_iff.mp hx).1 (List.getElem?_eq_some_iff.mp hy).1 (by omega)
    rw [(List.getElem?_eq_some_iff.mp hx).2, (List.getElem?_eq_some_iff.mp hy).2] at h1
    exact h1
  obtain ⟨q, hq⟩ := levi u x v y hu2 hv2 (by rw [hv1, hu1]) (by omega)
  have ox := lows_ok hb x mx
  have hup := (up_iff ox).mpr hq.symm
  have dx := ((chn_spec b hb).2.2.2.2 x (List.mem_filter.mp mx).1).2
  have dy := ((chn_spec b hb).2.2.2.2 y (List.mem_filter.mp my).1).2
  have oq := ok_up ox hup
  have dq : dep q ≤ dep b := by
    have h1 := dep_grow y q oq
    rw [← hq] at h1
    omega
  refine ⟨q, hup, ?_, oq, dq, ox, lows_ok hb y my, dx, dy⟩
  have := quo_get (lows b) i x y hx hy
  rw [hup] at this
  exact this
theorem primes_mem {b : Bu} (hb : okB b = true) : ∀ q ∈ primes b, okB q = true ∧ dep q ≤ dep b := fun q hq => by
  obtain ⟨i, hi⟩ := List.getElem?_of_mem hq
  have hl : i < (primes b).length := (List.getElem?_eq_some_iff.mp hi).1
  have h1 : (primes b).length = (lows b).length - 1 := quo_len _
  have hx : (lows b)[i]? = some (lows b)[i] := List.getElem?_eq_getElem (by omega)
  have hy : (lows b)[i + 1]? = some (lows b)[i + 1] := List.getElem?_eq_getElem (by omega)
  obtain ⟨q', _, h3, h4, h5, _⟩ := primes_step hb hx hy
  rw [hi] at h3
  have : q = q' := Option.some.inj h3
  rw [this]
  exact ⟨h4, h5⟩
theorem primes_few {b : Bu} (hb : okB b = true) : (primes b).length ≤ dep b := by
  have h1 : (primes b).length = (lows b).length - 1 := quo_len _
  have h2 : (lows b).length ≤ (chn b).length := List.length_filter_le _ _
  have h3 := (chn_spec b hb).1
  have h4 : near b ≤ dep b := by
    obtain ⟨⟨r1, m1, l1⟩, _⟩ := tr_ends b hb
    have := tr_near b r1 m1
    omega
  omega
theorem cuts_all {b : Bu} (hb : okB b = true) : (cutsN b (near b + 1)).map (·.2) = lows b := by
  rw [cutsN_lows]
  unfold lows
  rw [List.take_of_length_le (by rw [(chn_spec b hb).1]; exact Nat.le_refl _)]
section
variable {P : Program} {w : World} {K : PySem.W.Frag} {mg : Str → Option Value} {base : Heap}
theorem lc_snds {a : Addr} {xs : List V} {cs : List (Bu × Bu)} {s0 s1 s4 : Option V} {H : Hp} {Q : VK} (hx : SqL K H a xs) (hA : DpAll K H xs (cs.map cutD)) (hz : cs.length ≤ 1000)
    (k : ∀ D H2 us, H D = none → Ex H H2 → H2 D = some (.lst us) → DpAll K H2 us ((cs.map (·.2)).map toD) → Q (.ref D) H2) :
    tLc (iList K (tC (.ref a))) (gTup K 2 (gCons (gName 2) (gCons (gName 3) gNil))) tYes (tVar 3) [2, 3] [s0, s1, none, none, s4] H Q := by
  refine ⟨a, rfl, ⟨xs, hx⟩, fun D hD => ?_⟩
  have hl : xs.length = cs.length := by rw [DpAll.len hA, List.length_map]
  refine ⟨fun i m H' => m = xs.length - i ∧ i ≤ xs.length ∧ Ex H H' ∧ ∃ us, H' D = some (.lst us) ∧ DpAll K H' us (((cs.take i).map (·.2)).map toD), ⟨xs.length, by simp, Nat.zero_le _, ex_new hD, [], upd_same, by rw [List.take_zero]; exact .nil⟩, ?_⟩
  rintro i m H' ⟨rfl, hi, eH, us, hL, hU⟩
  have q := Evl.ex_l eH hx
  by_cases hlt : i < xs.length
  · refine .inr ⟨⟨xs, xs[i], q, by simp [hlt]⟩, fun H' => Ex H H' ∧ ∃ us, H' D = some (.lst us) ∧ DpAll K H' us (((cs.take (i + 1)).map (·.2)).map toD), fun H' p' => ⟨xs.length - (i + 1), by omega, rfl, hlt, p'.1, p'.2⟩, fun x H2 y => ?_⟩
    obtain ⟨e, y⟩ := y
    subst e
    have hxi := y xs q
    obtain ⟨d, hd, hxd⟩ := DpAll.get hA hxi
    rw [List.getElem?_map] at hd
    obtain ⟨p, hp, rfl⟩ := Option.map_eq_some_iff.mp hd
    have htk : cs.take (i + 1) = cs.take i ++ [p] := by rw [List.take_add_one, hp]; rfl
    obtain ⟨ax, zs, rfl, hsx, hza⟩ := dp_tup (Dp.ex eH _ _ hxd)
    cases hza with
    | cons d1 d2 =>
      cases d2 with
      | cons d2 d3 =>
        cases d3
        refine ⟨ax, _, rfl, hsx, rfl, _, _, rfl, _, _, rfl, rfl, rfl, yesI ?_⟩
        have hul := DpAll.len hU
        rw [List.length_map, List.length_map, List.length_take] at hul
        refine ⟨_, rfl, us, hL, Nat.lt_of_le_of_lt (show us.length ≤ 1000 by omega) (by decide), Evl.Ex.mut eH hD, us ++ [_], upd_same, ?_⟩
        have t : ∀ z : V, Tu H2 (upd H2 D (.lst (us ++ [z]))) := fun z => tu_lst hL
        rw [htk, List.map_append, List.map_append]
        exact DpAll.app (DpAll.tu (t _) _ _ (fz_map _) hU) (.cons (Dp.tu (t _) _ _ (fz_toD _) d2) .nil)
  · have e : i = xs.length := by omega
    subst e
    rw [hl, List.take_length] at hU
    exact .inl ⟨⟨xs, q, Nat.le_refl _⟩, k D H' us hD eH hL hU⟩
/-- [f(at) for at in range(n)], f(at) data that never changes -/
theorem lc_dataR {σ : L2.St} {H : Hp} {ta : TA} {te : TE} {ds : List PyData} {j : Nat} {vs : List Nat} {Q : VK} (h : EvA ta σ H [.int (ds.length : Nat)]) (hz2 : ds.length < 40000) (hf : fzA ds = true)
    (hw : ∀ x, wipe ((wipe σ vs).set j (some x)) vs = wipe σ vs)
    (he : ∀ (i : Nat) (d : PyData) H1, Ex H H1 → ds[i]? = some d → ∀ R : VK, (∀ v H2, Ex H1 H2 → Dp K H2 v d → R v H2) → te ((wipe σ vs).set j (some (.int (i : Int)))) H1 R)
    (k : ∀ D H2 us, H D = none → Ex H H2 → H2 D = some (.lst us) → DpAll K H2 us ds → Q (.ref D) H2) : tLc (iRng1 ta) (gName j) tYes te vs σ H Q := by
  refine h H (Ex.refl H) _ fun H1 e1 => ⟨_, rfl, by omega, by omega, fun D hD => ?_⟩
  have hDH : H D = none := Evl.fresh_back e1 hD
  have hn : ((ds.length : Nat) : Int).toNat = ds.length := rfl
  refine ⟨fun i m H' => m = ds.length - i ∧ i ≤ ds.length ∧ Ex H H' ∧ ∃ us, H' D = some (.lst us) ∧ DpAll K H' us (ds.take i), ⟨ds.length, by simp, Nat.zero_le _, e1.trans (ex_new hD), [], upd_same, by rw [List.take_zero]; exact .nil⟩, ?_⟩
  rintro i m H' ⟨rfl, hi, eH, us, hL, hU⟩
  by_cases hlt : i < ds.length
  · refine .inr ⟨hlt, fun H' => Ex H H' ∧ ∃ us, H' D = some (.lst us) ∧ DpAll K H' us (ds.take (i + 1)), fun H' p' => ⟨ds.length - (i + 1), by omega, rfl, hlt, p'.1, p'.2⟩, fun x H2 y => ?_⟩
    obtain ⟨e, y⟩ := y
    subst e y
    have e0 : (0 : Int) + (i : Int) = (i : Int) := Int.zero_add _
    rw [e0]
    refine ⟨hw _, yesI ?_⟩
    have hdi : ds[i]? = some ds[i] := by simp [hlt]
    refine he i _ _ eH hdi _ fun v H3 e3 hv => ?_
    have hul := DpAll.len hU
    rw [List.length_take] at hul
    have hL3 := e3 _ _ hL
    have t4 := tu_lst (ys := us ++ [v]) hL3
    have ft : fzA (ds.take i) = true := fzA_of fun d hd => by
      obtain ⟨m, hm⟩ := List.getElem?_of_mem (List.mem_of_mem_take hd)
      exact fzA_get hf hm
    refine ⟨us, hL3, Nat.lt_of_lt_of_le (show us.length < 40000 by omega) (by decide), Evl.Ex.mut (eH.trans e3) hDH, us ++ [v], upd_same, ?_⟩
    have e : ds.take (i + 1) = ds.take i ++ [ds[i]] := by rw [List.take_add_one, hdi]; rfl
    rw [e]
    exact DpAll.snoc (DpAll.tu t4 _ _ ft (DpAll.ex e3 _ _ hU)) (Dp.tu t4 _ _ (fzA_get hf hdi) hv)
  · have e : i = ds.length := by omega
    subst e
    rw [List.take_length] at hU
    exact .inl ⟨Nat.le_refl _, k D H' us hDH eH hL hU⟩
theorem q_lcAt {σ : L2.St} {H : Hp} {tl : TE} {g : TG} {tt : TT} {te : TE} {vs : List Nat} {D : Ends} {tz : TS} {j : Nat} (h : tl σ H fun x H1 => tLc (iList K (tC x)) g tt te vs σ H1 (fun v H2 => tz D (σ.set j (some v)) H2)) :
    tSeq (tAsg (tLc (iList K tl) g tt te vs) (gName j)) tz D σ H := h
def spPrimeT (K : PySem.W.Frag) : Sp := fun vs H Q _ => ∃ (v : V) (b : Bu), vs = [v] ∧ Dp K H v (toD b) ∧ Good b ∧ ∀ x H', Ex H H' → Dp K H' x (.tuple ((primes b).map toD)) → Q x H'
theorem ok_prime_tuple (T : Tx K mg) : FnOk P w K mg base CX0 63 T.a_prime_tuple T.d_prime_tuple P_prime_tuple (spPrimeT K) := by
  have G1 : FnOk P w K mg base CX0 62 T.a_all_cuts T.d_all_cuts P_all_cuts (spAllCuts K) := ok_all_cuts T
  have G3 : FnOk P w K mg base CX0 61 T.a_upper_of T.d_upper_of P_upper_of (spUpper K 60) := ok_upper_of T 60
  refine T.F_prime_tuple.ok sc_prime_tuple (fun vs H Q E h => ?_) (fun cdv A outer s H vs Q E hr h => ?_)
  · obtain ⟨v, b, rfl, _⟩ := h; rfl
  · obtain ⟨v, b, rfl, hv, G, q⟩ := h
    refine ⟨_, pss_cons (ps_set (i := 1) sc_prime_tuple.nd rfl (.inr rfl) (pe_lc (own := [("_", 2), ("lower", 3)]) (g := gTup K 2 (gCons (gName 2) (gCons (gName 3) gNil))) (tt := tYes) (te := tVar 3) rfl sc_prime_tuple.nd (pi_list (pe_call G1 hr (by rfl) T.g_all_cuts T.F_all_cuts.kp T.b_all_cuts .nil pass0 (pa_cons (pv 0) pa_nil))) (blkOk_by (N := N_prime_tuple) (sc := defScope s_prime_tuple) (by decide +kernel))
            (fun _ _ _ _ _ => pg_tup rfl (pgs_cons (pg_name (i := 2) sc_prime_tuple.nd rfl (Or.inl rfl)) (pgs_cons (pg_name (i := 3) sc_prime_tuple.nd rfl (Or.inl rfl)) pgs_nil))) (fun _ _ _ _ _ => pts_nil) (fun _ _ _ _ _ => pv 3)))
      (pss_one (ps_ret (pe_callTy call_tuple_of (by rfl) T.z_tuple (by decide +kernel) (pa_cons (pe_lc (own := [("at", 4)]) (g := gName 4) (tt := tYes) (te := tCall (spUpper K 60) [] E0 (tCons (tOp (rIxL K) (tVar 1) (tVar 4)) (tCons (tOp (rIxL K) (tVar 1) (tOp (rI0 fun i j => .int (i + j)) (tVar 4) (tC (.int 1)))) tNil))) rfl sc_prime_tuple.nd (pi_range1 (by rfl) T.z_range (pa_cons (pe_op op_sub (pe_callB call_len_seq (by rfl) T.z_len PySem.boot_len (pa_cons (pv 1) pa_nil)) pe_int) pa_nil)) (blkOk_by (N := N_prime_tuple) (sc := defScope s_prime_tuple) (by decide +kernel))
            (fun _ _ _ _ _ => pg_name (i := 4) sc_prime_tuple.nd rfl (Or.inl rfl)) (fun _ _ _ _ _ => pts_nil) (fun _ _ _ _ _ => pe_call (G3.mono (by decide)) hr (by rfl) T.g_upper_of T.F_upper_of.kp T.b_upper_of .nil pass0 (pa_cons (pe_ix ix_list (pv 1) (pv 4) (fun _ _ => rfl)) (pa_cons (pe_ix ix_list (pv 1) (pe_op op_add (pv 4) pe_int) (fun _ _ => rfl)) pa_nil)))) pa_nil)))), ?_⟩
    have hpl : (primes b).length = (lows b).length - 1 := quo_len _
    have hpf := primes_few G.ok
    have hgd := G.dep
    obtain ⟨⟨M, hM⟩, _⟩ := lows_spec G.ok
    have hlp : 1 ≤ (lows b).length := by rw [hM, List.length_append]; simp
    refine q_lcAt (K := K) ⟨v, rfl, v, b, rfl, hv, G, fun l H1 ys hl e1 hL hA => ?_⟩
    have hcl : (cutsN b (near b + 1)).length = (lows b).length := by rw [← cuts_all G.ok, List.length_map]
    refine lc_snds (K := K) (s0 := some v) (s1 := none) (s4 := none) (SqL.of hL) hA (by omega) fun D H2 us hD e2 hD2 hU => ?_
    rw [cuts_all G.ok] at hU
    have hul : us.length = (lows b).length := by rw [DpAll.len hU, List.length_map]
    have hlist : ∀ {H3 : Hp}, Ex H2 H3 → Dp K H3 (.ref D) (.list ((lows b).map toD)) := fun e => .lst (Evl.ex_l e (SqL.of hD2)) (DpAll.ex e _ _ hU)
    dsimp only
    refine ret_cb (lc_dataR (K := K) (σ := [some v, some (.ref D), none, none, none]) (ta := tCons (tOp (rI0 fun i j => .int (i - j)) (tCB (Evl.rLenS K) (tCons (tVar 1) tNil)) (tC (.int 1))) tNil) (te := tCall (spUpper K 60) [] E0 (tCons (tOp (rIxL K) (tVar 1) (tVar 4)) (tCons (tOp (rIxL K) (tVar 1) (tOp (rI0 fun i j => .int (i + j)) (tVar 4) (tC (.int 1)))) tNil))) (j := 4) (vs := [4]) (ds := (primes b).map toD) ?_ (by rw [List.length_map]; omega) (fz_map _) (fun x => rfl) (fun i d H3 e3 hd R hR => ?_) (fun D2 H3 us3 hD3 e3 hL3 hU3 => ?_))
    · refine Evl.ea_cons (Evl.ev_is (Evl.ev_op (ev_lenDL (K := K) (ed_var rfl (hlist (Ex.refl H2)))) Evl.ev_c (Evl.rv_I0 (g := fun i j => .int (i - j)))) ?_) Evl.ea_nil
      rw [List.length_map, List.length_map, hpl]
      show V.int ((((lows b).length : Nat) : Int) - 1) = _
      congr 1
      omega
    · rw [List.getElem?_map] at hd
      obtain ⟨qq, hq, rfl⟩ := Option.map_eq_some_iff.mp hd
      have hil : i < (primes b).length := (List.getElem?_eq_some_iff.mp hq).1
      have hx : (lows b)[i]? = some (lows b)[i] := List.getElem?_eq_getElem (by omega)
      have hy : (lows b)[i + 1]? = some (lows b)[i + 1] := List.getElem?_eq_getElem (by omega)
      obtain ⟨q', hup, hq', oq, dq, ox, oy, dx, dy⟩ := primes_step G.ok hx hy
      rw [hq] at hq'
      have eqq : qq = q' := Option.some.inj hq'
      subst eqq
      refine ed_call (K := K) (σ := (wipe [some v, some (.ref D), none, none, none] [4]).set 4 (some (.int (i : Int)))) (H := H3) (ds := [toD (lows b)[i], toD (lows b)[i + 1]]) (d := toD qq) (ead_cons (ed_ixL (k := i) (ed_var (j := 1) rfl (hlist e3)) (Evl.ev_var rfl) (by rw [List.getElem?_map, hx]; rfl)) (ead_cons (ed_ixL (k := i + 1) (ed_var (j := 1) rfl (hlist e3)) (Evl.ev_op (z := .int ((i + 1 : Nat) : Int)) (Evl.ev_var rfl) Evl.ev_c (Evl.rv_I0 (g := fun i j => .int (i + j)))) (by rw [List.getElem?_map, hy]; rfl)) ead_nil)) (fun vs H4 e4 hvs R rr => ?_) H3 (Ex.refl H3) R hR
      cases hvs with
      | cons h1 h2 =>
        cases h2 with
        | cons h3 h4 =>
          cases h4
          exact ⟨_, _, _, _, rfl, h1, h3, ox, oy, by omega, Nat.le_refl _, by omega, fun u z H5 hu e5 hz => by
            rw [hup] at hu
            have := Option.some.inj hu
            subst this
            exact rr z H5 e5 hz, fun H5 hu _ => by rw [hup] at hu; cases hu⟩
    · refine ⟨D2, us3, rfl, .inl ⟨SqL.of hL3, fun p hp => q _ _ (((e1.trans e2).trans e3).trans (ex_new hp)) (.tup (SqT.of upd_same) (DpAll.ex (ex_new hp) _ _ hU3))⟩⟩
def spPrimesOf (K : PySem.W.Frag) : Sp := spPrimeT K
end
end Bk

namespace Bk
open PySem PySem.Spec PyProof.Rows L2
open Evl (Ex Ev EvT EvL EvU EvA)
/-! ### shared years, bushes between: the program -/
noncomputable def sameB (a b : Bu) : Bool := PyData.eqv (toD a) (toD b)
theorem sameB_iff {a b : Bu} : sameB a b = true ↔ a = b := eqv_toD a b
noncomputable def cpl : List Bu → List Bu → Nat
  | a :: l, b :: m => if sameB a b = true then cpl l m + 1 else 0
  | _, _ => 0
def unl : Bu → Bu → Bool
  | .tip, .tip => false
  | .knot c bs, .knot d cs => !(decide (c = d) && decide (bs.length = cs.length))
  | _, _ => true
theorem eqv_head (c d : Nat) : PyData.eqv (.tuple [.str ⟨#[c]⟩]) (.tuple [.str ⟨#[d]⟩]) = decide (c = d) := by
  have h := eqv_toD (.knot c []) (.knot d [])
  have e1 : toD (.knot c []) = .tuple [.str ⟨#[c]⟩] := by rw [toD_itm]; rfl
  have e2 : toD (.knot d []) = .tuple [.str ⟨#[d]⟩] := by rw [toD_itm]; rfl
  rw [e1, e2] at h
  rw [Bool.eq_iff_iff, h, decide_eq_true_eq]
  constructor
  · intro x; injection x
  · rintro rfl; rfl
theorem shaped_hd {b : Bu} (h : okB b = true) : SeqAt.shaped (.tuple ((itm b).take 1)) = true := by
  cases b with
  | tip => rfl
  | knot c bs =>
    obtain ⟨⟨_, c2⟩, _, _⟩ := okB_knot h
    have e : (itm (.knot c bs)).take 1 = [.str ⟨#[c]⟩] := rfl
    rw [e]
    refine shaped_of ?_ (by simp [PyData.depth, PyData.depthAll])
    simp [PyData.canLay0, PyData.canLayAll0, PyData.strOk]
    omega
theorem unl_eq : ∀ a b : Bu, (!PyData.eqv (.tuple ((itm a).take 1)) (.tuple ((itm b).take 1)) || !decide (((itm a).length : Int) = ((itm b).length : Int))) = unl a b
  | .tip, .tip => rfl
  | .tip, .knot c bs => by simp [itm, unl]; right; omega
  | .knot c bs, .tip => by simp [itm, unl]; right; omega
  | .knot c bs, .knot d cs => by
    have e1 : (itm (.knot c bs)).take 1 = [.str ⟨#[c]⟩] := rfl
    have e2 : (itm (.knot d cs)).take 1 = [.str ⟨#[d]⟩] := rfl
    rw [e1, e2, eqv_head, unl]
    have e3 : decide (((itm (.knot c bs)).length : Int) = ((itm (.knot d cs)).length : Int)) = decide (bs.length = cs.length) := by
      congr 1
      simp [itm]
      omega
    rw [e3]
    cases decide (c = d) <;> cases decide (bs.length = cs.length) <;> rfl
theorem toD_knot (c : Nat) (bs : List Bu) : toD (.knot c bs) = .tuple (.str ⟨#[c]⟩ :: bs.map toD) := by rw [toD_itm]; rfl
section
variable {K : PySem.W.Frag} {te tb tl : TE} {E : XK} {σ : L2.St} {H : Hp} {a b : Bu} {gs : List Bu}
theorem ev_neI {x y : Int} (h1 : EvD K te σ H (.int x)) (h2 : EvD K tb σ H (.int y)) : Ev (tOp rNe te tb) σ H (.bl (!decide (x = y))) := fun H1 q R r => ev_ofI h1 H1 q _ fun H2 e2 => ev_ofI h2 H2 (q.trans e2) _ fun H3 e3 => ⟨rfl, by
  have e : (!decide (V.int x = V.int y)) = (!decide (x = y)) := by
    congr 1
    by_cases q : x = y
    · subst q; simp
    · rw [decide_eq_false q, decide_eq_false fun z => q (V.int.inj z)]
  rw [e]
  exact r _ (e2.trans e3)⟩
theorem ed_growP (h1 : EvD K te σ H (toD a)) (h2 : EvD K tb σ H (toD b)) (ho : okB a = true) (hd : dep a ≤ 60) : EvD K (tCall (spGrow K 60) [] E (tCons te (tCons tb tNil))) σ H (toD (grow a b)) := ed_call (ds := [toD a, toD b]) (ead_cons h1 (ead_cons h2 ead_nil)) fun vs H1 e1 hvs R r => by
  cases hvs with
  | cons h1 h2 =>
    cases h2 with
    | cons h3 h4 =>
      cases h4
      exact ⟨_, _, a, b, rfl, h1, h3, hd, ho, r⟩
theorem ed_checkB (h : EvD K te σ H (toD b)) (g : Good b) : EvD K (tCall (spCheckB K) [] E (tCons te tNil)) σ H .none := fun H1 a R r => h H1 a _ fun v H2 e2 hv => ⟨v, b, rfl, hv, g, fun H' e3 => r _ H' (e2.trans e3) .non⟩
theorem ed_primeT (h : EvD K te σ H (toD b)) (g : Good b) : EvD K (tCall (spPrimeT K) [] E (tCons te tNil)) σ H (rowV (primes b)) := fun H1 a R r => h H1 a _ fun v H2 e2 hv => ⟨v, b, rfl, hv, g, fun x H' e3 hx => r _ H' (e2.trans e3) hx⟩
end
theorem cpl_stop {l m : List Bu} {i : Nat} {a b : Bu} (h1 : l[i]? = some a) (h2 : m[i]? = some b) (hj : cpl l m = i + cpl (l.drop i) (m.drop i)) (hu : sameB a b = false) : cpl l m = i := by
  have d1 : l.drop i = a :: l.drop (i + 1) := by
    have hi := (List.getElem?_eq_some_iff.mp h1).1
    rw [List.drop_eq_getElem_cons hi, (List.getElem?_eq_some_iff.mp h1).2]
  have d2 : m.drop i = b :: m.drop (i + 1) := by
    have hi := (List.getElem?_eq_some_iff.mp h2).1
    rw [List.drop_eq_getElem_cons hi, (List.getElem?_eq_some_iff.mp h2).2]
  rw [d1, d2, cpl, hu] at hj
  simpa using hj
theorem cpl_on {l m : List Bu} {i : Nat} {a b : Bu} (h1 : l[i]? = some a) (h2 : m[i]? = some b) (hj : cpl l m = i + cpl (l.drop i) (m.drop i)) (hu : sameB a b = true) : cpl l m = (i + 1) + cpl (l.drop (i + 1)) (m.drop (i + 1)) := by
  have d1 : l.drop i = a :: l.drop (i + 1) := by
    have hi := (List.getElem?_eq_some_iff.mp h1).1
    rw [List.drop_eq_getElem_cons hi, (List.getElem?_eq_some_iff.mp h1).2]
  have d2 : m.drop i = b :: m.drop (i + 1) := by
    have hi := (List.getElem?_eq_some_iff.mp h2).1
    rw [List.drop_eq_getElem_cons hi, (List.getElem?_eq_some_iff.mp h2).2]
  rw [d1, d2, cpl, if_pos hu] at hj
  omega
theorem cpl_end {l m : List Bu} (hj : cpl l m = min l.length m.length + cpl (l.drop (min l.length m.length)) (m.drop (min l.length m.length))) : cpl l m = min l.length m.length := by
  have : cpl (l.drop (min l.length m.length)) (m.drop (min l.length m.length)) = 0 := by
    by_cases h : l.length ≤ m.length
    · rw [Nat.min_eq_left h, List.drop_length, cpl]
      intro a l' b m' hh; cases hh
    · rw [Nat.min_eq_right (by omega), List.drop_length, cpl]
      intro a l' b m' _ hh; cases hh
  omega
section
variable {P : Program} {w : World} {K : PySem.W.Frag} {mg : Str → Option Value} {base : Heap}
abbrev spUnl (K : PySem.W.Frag) : Sp := spE K 2 (fun z : Bu × Bu => [.d (toD z.1), .d (toD z.2)]) (fun z => okB z.1 = true ∧ okB z.2 = true ∧ dep z.1 ≤ 60 ∧ dep z.2 ≤ 60) (fun z r => r = .d (.bool (unl z.1 z.2)))
theorem ok_unlike_roots (T : Tx K mg) : FnOk P w K mg base CX0 1 T.a_are_unlike_roots T.d_are_unlike_roots P_are_unlike_roots (spUnl K) := by
  refine okE T.F_are_unlike_roots sc_are_unlike_roots rfl fun cdv A outer s H E hr => ?_
  have hu : (A.deeper (envOfC "are_unlike_roots" (defScope s_are_unlike_roots) s.heap.objs.size T.a_are_unlike_roots cdv)).units + 64 < cLine := by have := hr.un; omega
  have hu1 : (A.deeper (envOfC "are_unlike_roots" (defScope s_are_unlike_roots) s.heap.objs.size T.a_are_unlike_roots cdv)).units + 1 < cLine := by have := hr.un; omega
  refine ⟨_, (pss_one (ps_ret (pe_or (pe_cmpR (op_neD hu) (pe_slice sl_tupA (pv 0) po_none (po_some pe_int)) (pe_slice sl_tupA (pv 1) po_none (po_some pe_int)) (nomark _)) (pe_one (pe_cmpR op_ne (pe_callB call_len_seq (by rfl) T.z_len PySem.boot_len (pa_cons (pv 0) pa_nil)) (pe_callB call_len_seq (by rfl) T.z_len PySem.boot_len (pa_cons (pv 1) pa_nil)) (nomark _)))))), fun c H0 x hx => ?_⟩
  obtain ⟨a, b⟩ := x
  obtain ⟨o1, o2, d1, d2⟩ := hx
  refine sg_ret (d := .bool (unl a b)) (fun σ H e => ed_is (ed_bool (Evl.ev_orV (ev_neD (ed_slTo (k := 1) (ds := itm a) (ed_is (e.v rfl) (toD_itm a)) Evl.ev_c) (ed_slTo (k := 1) (ds := itm b) (ed_is (e.v rfl) (toD_itm b)) Evl.ev_c) (shaped_hd o1) (shaped_hd o2)) fun _ => ev_neI (ed_len (ds := itm a) (ed_is (e.v rfl) (toD_itm a))) (ed_len (ds := itm b) (ed_is (e.v rfl) (toD_itm b))))) (congrArg PyData.bool (unl_eq a b))) rfl
abbrev spGrowRow (K : PySem.W.Frag) : Sp := spE K 1 (fun gs : List Bu => [.d (rowV gs)]) (fun gs => (∀ g ∈ gs, okB g = true) ∧ dep (growAll .tip gs) ≤ 60) (fun gs r => r = .d (toD (growAll .tip gs)))
theorem dep_pre {gs : List Bu} (h : ∀ g ∈ gs, okB g = true) (i : Nat) : okB (growAll .tip (gs.take i)) = true ∧ dep (growAll .tip (gs.take i)) ≤ dep (growAll .tip gs) := by
  have hokt : ∀ g ∈ gs.take i, okB g = true := fun g hg => h g (List.mem_of_mem_take hg)
  have h2 : growAll (growAll .tip (gs.take i)) (gs.drop i) = growAll .tip gs := by unfold growAll; rw [← List.foldl_append, List.take_append_drop]
  have h4 := dep_growAll (gs := gs.drop i) (b := growAll .tip (gs.take i)) (ok_growAll rfl hokt) fun z hz => h z (List.mem_of_mem_drop hz)
  rw [h2] at h4
  exact ⟨ok_growAll rfl hokt, h4⟩
theorem ok_grow_row (T : Tx K mg) : FnOk P w K mg base CX0 62 T.a_grow_row T.d_grow_row P_grow_row (spGrowRow K) := by
  have g_grow : FnOk P w K mg base CX0 61 T.a_grow T.d_grow P_grow (spGrow K 60) := ok_grow T 60
  refine okE T.F_grow_row sc_grow_row rfl fun cdv A outer s H E hr => ?_
  have hu : (A.deeper (envOfC "grow_row" (defScope s_grow_row) s.heap.objs.size T.a_grow_row cdv)).units + 64 < cLine := by have := hr.un; omega
  have hu1 : (A.deeper (envOfC "grow_row" (defScope s_grow_row) s.heap.objs.size T.a_grow_row cdv)).units + 1 < cLine := by have := hr.un; omega
  refine ⟨_, (pss_cons (ps_set (i := 1) sc_grow_row.nd rfl (.inl rfl) (pe_tup pa_nil))
      (pss_cons (ps_for PassesOwn.never rfl (pi_tup (pv 0)) (pg_name (i := 2) sc_grow_row.nd rfl (.inl rfl))
        (pss_one (ps_set (i := 1) sc_grow_row.nd rfl (.inl rfl) (pe_call (g_grow.mono (by decide)) hr (by rfl) T.g_grow T.F_grow.kp T.b_grow .nil pass0 (pa_cons (pv 1) (pa_cons (pv 2) pa_nil))))))
      (pss_one (ps_ret (pv 1))))), fun c H0 x hx => ?_⟩
  obtain ⟨ho, hd⟩ := hx
  refine sg_q (d := toD .tip) (EvH.fz (fun σ H e => ed_tup ead_nil (by decide)) (fz_toD _)) ?_
  refine sg_forT (ds := x.map toD) (fun i => [some (.d (rowV x)), some (.d (toD (growAll .tip (x.take i)))), none]) (fun i => [some (.d (rowV x)), some (.d (toD (growAll .tip (x.take i)))), some (.d (toD (x.getD i .tip)))]) (eg_v rfl) (.keep (.keep (.keep .nil))) (fun i d hd' => ?_) (fun i d hd' => ?_) ?_
  · rw [List.getElem?_map] at hd'
    obtain ⟨g, hg, rfl⟩ := Option.map_eq_some_iff.mp hd'
    have e9 : x.getD i .tip = g := by rw [List.getD_eq_getElem?_getD, hg]; rfl
    rw [e9]
    exact gt_name
  · rw [List.getElem?_map] at hd'
    obtain ⟨g, hg, rfl⟩ := Option.map_eq_some_iff.mp hd'
    have e9 : x.getD i .tip = g := by rw [List.getD_eq_getElem?_getD, hg]; rfl
    rw [e9]
    obtain ⟨p1, p2⟩ := dep_pre ho i
    have htk : x.take (i + 1) = x.take i ++ [g] := by rw [List.take_add_one, hg]; rfl
    refine sg_last (sg_q (d := toD (growAll .tip (x.take (i + 1)))) (EvH.fz (fun σ H e => ed_is (ed_growP (a := growAll .tip (x.take i)) (b := g) (e.v rfl) (e.v rfl) p1 (by omega)) (by rw [htk, growAll_snoc])) (fz_toD _)) (sg_nx ?_))
    exact .keep (.keep (.drop .nil))
  · rw [List.length_map]
    exact sg_ret (d := toD (growAll .tip x)) (fun σ H e => ed_is (e.v (i := 1) rfl) (by rw [List.take_length])) rfl
abbrev spShared (K : PySem.W.Frag) : Sp := spE K 2 (fun z : List Bu × List Bu => [.d (rowV z.1), .d (rowV z.2)]) (fun z => (∀ g ∈ z.1, Good g) ∧ ∀ g ∈ z.2, Good g) (fun z r => r = .d (.int ((cpl z.1 z.2 : Nat) : Int)))
theorem ok_shared (T : Tx K mg) : FnOk P w K mg base CX0 1 T.a_shared T.d_shared P_shared (spShared K) := by
  refine okE T.F_shared sc_shared rfl fun cdv A outer s H E hr => ?_
  have hu : (A.deeper (envOfC "_shared" (defScope s_shared) s.heap.objs.size T.a_shared cdv)).units + 64 < cLine := by have := hr.un; omega
  have hu1 : (A.deeper (envOfC "_shared" (defScope s_shared) s.heap.objs.size T.a_shared cdv)).units + 1 < cLine := by have := hr.un; omega
  refine ⟨_, (pss_cons (ps_set (i := 2) sc_shared.nd rfl (.inl rfl) pe_int)
      (pss_cons (ps_for PassesOwn.never rfl (RZ.pi_zipA (by rfl) T.z_zip (pa_cons (pv 0) (pa_cons (pv 1) pa_nil))) (pg_tup rfl (pgs_cons (pg_name (i := 3) sc_shared.nd rfl (.inl rfl)) (pgs_cons (pg_name (i := 4) sc_shared.nd rfl (.inl rfl)) pgs_nil)))
        (pss_cons (ps_if (pt_cmpR (op_neD hu) (pv 3) (pv 4) (nomark _)) (pss_one (ps_ret (pv 2))) pss_nil)
      (pss_one (ps_aug (i := 2) sc_shared.nd rfl (.inl rfl) pe_int ip_add))))
      (pss_one (ps_ret (pv 2))))), fun c H0 x hx => ?_⟩
  obtain ⟨l, m⟩ := x
  obtain ⟨g1, g2⟩ := hx
  refine sg_q (d := .int ((0 : Nat) : Int)) (EvH.fz (fun σ H e => ed_int) rfl) ?_
  refine sg_forZ (ds := l.map toD) (es := m.map toD) (fun i => [some (.d (rowV l)), some (.d (rowV m)), some (.d (.int (i : Int))), none, none]) (fun i => [some (.d (rowV l)), some (.d (rowV m)), some (.d (.int (i : Int))), some (.d (toD (l.getD i .tip))), some (.d (toD (m.getD i .tip)))])
    (fun i => cpl l m = i + cpl (l.drop i) (m.drop i)) (eg_v rfl) (eg_v rfl) (Fg.refl _) (by simp) (fun i d e hd he => ?_) (fun i d e hd he hj => ?_) (fun hj => ?_)
  · rw [List.getElem?_map] at hd he
    obtain ⟨a, ha, rfl⟩ := Option.map_eq_some_iff.mp hd
    obtain ⟨b, hb, rfl⟩ := Option.map_eq_some_iff.mp he
    have e8 : l.getD i .tip = a := by rw [List.getD_eq_getElem?_getD, ha]; rfl
    have e9 : m.getD i .tip = b := by rw [List.getD_eq_getElem?_getD, hb]; rfl
    rw [e8, e9]
    exact gt_two rfl
  · rw [List.getElem?_map] at hd he
    obtain ⟨a, ha, rfl⟩ := Option.map_eq_some_iff.mp hd
    obtain ⟨b, hb, rfl⟩ := Option.map_eq_some_iff.mp he
    have e8 : l.getD i .tip = a := by rw [List.getD_eq_getElem?_getD, ha]; rfl
    have e9 : m.getD i .tip = b := by rw [List.getD_eq_getElem?_getD, hb]; rfl
    rw [e8, e9]
    have ga := g1 a (List.mem_of_getElem? ha)
    have gb := g2 b (List.mem_of_getElem? hb)
    refine sg_when (b := !sameB a b) (fun σ H e => Evl.et_test (ev_neD (e.v (d := toD a) rfl) (e.v (d := toD b) rfl) (shaped_toD ga.ok ga.dep) (shaped_toD gb.ok gb.dep))) (fun hb' => ?_) (fun hb' => ?_)
    · have hs : sameB a b = false := by simpa using hb'
      exact sg_retq (d := .int (i : Int)) (fun σ H e => e.v rfl) (by rw [cpl_stop ha hb hj hs])
    · have hs : sameB a b = true := by simpa using hb'
      refine sg_last (sg_aug (f := fun i j => i + j) (a := (i : Int)) (b := 1) rfl (fun σ H e => ed_int) (sg_nx ⟨?_, cpl_on ha hb hj hs⟩))
      have : ((i : Int) + 1) = ((i + 1 : Nat) : Int) := by omega
      rw [this]
      exact .keep (.keep (.keep (.drop (.drop .nil))))
  · rw [List.length_map, List.length_map] at hj ⊢
    exact sg_ret (d := .int ((cpl l m : Nat) : Int)) (fun σ H e => ed_is (e.v (i := 2) rfl) (by rw [cpl_end hj])) rfl
end
end Bk

namespace Bk
open PySem PySem.Spec PyProof.Rows L2
/-! ### products and their primes -/
theorem growAll_one : ∀ (gs : List Bu) (b : Bu), growAll b gs = grow b (growAll .tip gs)
  | [], b => (grow_tip b).symm
  | g :: gs, b => by
    show growAll (grow b g) gs = grow b (growAll (grow .tip g) gs)
    rw [growAll_one gs (grow b g), growAll_one gs (grow .tip g), grow_assoc]
    simp [grow]
theorem prod_cons (g : Bu) (gs : List Bu) : growAll .tip (g :: gs) = grow g (growAll .tip gs) := by
  show growAll (grow .tip g) gs = _
  rw [growAll_one]
  simp [grow]
theorem prod_foldr : ∀ gs : List Bu, growAll .tip gs = gs.foldr grow .tip
  | [] => rfl
  | g :: gs => by rw [prod_cons, prod_foldr gs]; rfl
theorem prod_primes {b : Bu} (hb : okB b = true) : growAll .tip (primes b) = b := by rw [prod_foldr, primes_prod hb]
theorem prod_app (xs ys : List Bu) : growAll .tip (xs ++ ys) = grow (growAll .tip xs) (growAll .tip ys) := by
  have : growAll .tip (xs ++ ys) = growAll (growAll .tip xs) ys := by unfold growAll; rw [List.foldl_append]
  rw [this, growAll_one]
theorem good_prod {xs ys : List Bu} (h1 : ∀ g ∈ xs, okB g = true) (h2 : ∀ g ∈ ys, okB g = true) (h : Good (growAll .tip (xs ++ ys))) : Good (growAll .tip xs) ∧ Good (growAll .tip ys) := by
  rw [prod_app] at h
  exact good_in (ok_growAll rfl h1) (ok_growAll rfl h2) h
theorem good_mem : ∀ {gs : List Bu}, (∀ g ∈ gs, okB g = true) → Good (growAll .tip gs) → ∀ g ∈ gs, Good g
  | [], _, _, g, hg => by cases hg
  | x :: gs, ho, h, g, hg => by
    rw [prod_cons] at h
    have ho' : ∀ g ∈ gs, okB g = true := fun y hy => ho y (List.mem_cons_of_mem _ hy)
    obtain ⟨a, b⟩ := good_in (ho x List.mem_cons_self) (ok_growAll rfl ho') h
    rcases List.mem_cons.mp hg with rfl | hg
    · exact a
    · exact good_mem ho' b g hg
mutual
theorem ok_right {g : Bu} : ∀ a : Bu, okB a = true → okB (grow a g) = true → okB g = true
  | .tip, _, h => by simpa [grow] using h
  | .knot x bs, ho, h => by
    obtain ⟨_, ⟨h1, _⟩, h3⟩ := okB_knot ho
    have e : grow (.knot x bs) g = .knot x (growL bs g) := by simp [grow]
    rw [e] at h
    obtain ⟨_, _, h4⟩ := okB_knot h
    exact ok_rightL bs h1 h3 h4
theorem ok_rightL {g : Bu} : ∀ bs : List Bu, 1 ≤ bs.length → okBs bs = true → okBs (growL bs g) = true → okB g = true
  | [], h, _, _ => absurd h (by simp)
  | a :: l, _, ho, h => by
    have h1 : okB a = true ∧ okBs l = true := by simpa [okBs] using ho
    have h2 : okB (grow a g) = true ∧ okBs (growL l g) = true := by simpa [growL, okBs] using h
    exact ok_right a h1.1 h2.1
end
theorem prod_ok : ∀ {gs : List Bu}, okB (growAll .tip gs) = true → ∀ g ∈ gs, okB g = true
  | [], _, g, hg => by cases hg
  | x :: gs, h, g, hg => by
    rw [prod_cons] at h
    have hx := ok_of_grow x h
    rcases List.mem_cons.mp hg with rfl | hg
    · exact hx
    · exact prod_ok (ok_right x hx h) g hg
theorem primes_ok2 {b : Bu} (hb : okB b = true) : ∀ q ∈ primes b, okB q = true := prod_ok (by rw [prod_primes hb]; exact hb)
theorem primes_good2 {b : Bu} (G : Good b) : ∀ q ∈ primes b, Good q := good_mem (primes_ok2 G.ok) (by rw [prod_primes G.ok]; exact G)
/-! ### pairs of parts -/
theorem zip_sum : ∀ (as bs : List Bu), as.length = bs.length → ((as.zip bs).map fun z => knots z.2 + tips z.2).sum = knotss bs + tipss bs
  | [], [], _ => by simp [knotss, tipss]
  | a :: as, b :: bs, h => by
    have := zip_sum as bs (by simpa using h)
    simp only [List.zip_cons_cons, List.map_cons, List.sum_cons, this, knotss, tipss]
    omega
  | [], _ :: _, h => by simp at h
  | _ :: _, [], h => by simp at h
theorem zip_grow (L : Bu) : ∀ (as bs : List Bu), as.length = bs.length → (bs.map (fun x => grow x L) = as ↔ ∀ z ∈ as.zip bs, grow z.2 L = z.1)
  | [], [], _ => by simp
  | a :: as, b :: bs, h => by
    have ih := zip_grow L as bs (by simpa using h)
    simp only [List.zip_cons_cons, List.map_cons, List.cons.injEq, List.forall_mem_cons, ih]
  | [], _ :: _, h => by simp at h
  | _ :: _, [], h => by simp at h
end Bk

namespace Bk
open PySem PySem.Spec PyProof.Rows L2
open Evl (Ex Ev EvT EvL EvU EvA)
section
variable {K : PySem.W.Frag} {te tb tl : TE} {E : XK} {σ : L2.St} {H : Hp} {a b : Bu} {gs hs : List Bu}
theorem ed_growRow (h : EvD K te σ H (rowV gs)) (g : (∀ g ∈ gs, okB g = true) ∧ dep (growAll .tip gs) ≤ 60) : EvD K (tCall (spGrowRow K) [] E (tCons te tNil)) σ H (toD (growAll .tip gs)) :=
  ed_callE (ds := [rowV gs]) gs (ead_cons h ead_nil) rfl (by simp [fzA, fz_row1]) g (fun r hr => hr)
theorem ed_shared (h : EvD K te σ H (rowV gs)) (h2 : EvD K tb σ H (rowV hs)) (g1 : ∀ g ∈ gs, Good g) (g2 : ∀ g ∈ hs, Good g) : EvD K (tCall (spShared K) [] E (tCons te (tCons tb tNil))) σ H (.int ((cpl gs hs : Nat) : Int)) :=
  ed_callE (ds := [rowV gs, rowV hs]) (gs, hs) (ead_cons h (ead_cons h2 ead_nil)) rfl (by rw [show fzA [rowV gs, rowV hs] = (fz (rowV gs) && (fz (rowV hs) && true)) from rfl, fz_row1, fz_row1]; rfl) ⟨g1, g2⟩ (fun r hr => hr)
end
theorem part_ok {b : Bu} (G : Good b) (k : Nat) : ((∀ g ∈ (primes b).take k, okB g = true) ∧ dep (growAll .tip ((primes b).take k)) ≤ 60) ∧ (∀ g ∈ (primes b).drop k, okB g = true) ∧ dep (growAll .tip ((primes b).drop k)) ≤ 60 := by
  have ho := primes_ok2 G.ok
  have h1 : ∀ g ∈ (primes b).take k, okB g = true := fun g hg => ho g (List.mem_of_mem_take hg)
  have h2 : ∀ g ∈ (primes b).drop k, okB g = true := fun g hg => ho g (List.mem_of_mem_drop hg)
  obtain ⟨g1, g2⟩ := good_prod h1 h2 (by rw [List.take_append_drop, prod_primes G.ok]; exact G)
  exact ⟨⟨h1, g1.dep⟩, h2, g2.dep⟩
noncomputable def firstOf (xs ys : List Bu) : List Bu := xs.take (cpl xs ys)
noncomputable def lastOf (xs ys : List Bu) : List Bu := xs.drop (xs.length - cpl xs.reverse ys.reverse)
def optD : Option Bu → PyData
  | none => .none
  | some l => toD l
def pD (z : Bu × Bu) : PyData := .tuple [toD z.1, toD z.2]
theorem fz_pD (z : Bu × Bu) : fz (pD z) = true := by simp [pD, fz, fzA, fz_toD]
theorem fz_pDs (l : List (Bu × Bu)) : fzA (l.map pD) = true := fzA_of fun d hd => by obtain ⟨z, _, rfl⟩ := List.mem_map.mp hd; exact fz_pD z
theorem pairs_pD : ∀ (as bs : List Bu), pairs2 (as.map toD) (bs.map toD) = (as.zip bs).map pD
  | [], _ => rfl
  | _ :: _, [] => rfl
  | a :: as, b :: bs => by
    have := pairs_pD as bs
    unfold pairs2 at this ⊢
    simp only [List.map_cons, List.zipWith_cons_cons, List.zip_cons_cons, this]
    rfl
structure Low (b u : Bu) (x : Option Bu × List (Bu × Bu)) : Prop where
  iff : ∀ L, grow u L = b ↔ ((∀ l0, x.1 = some l0 → l0 = L) ∧ ∀ z ∈ x.2, grow z.2 L = z.1)
  some_ : x.1 = none → x.2 ≠ []
  ok : ∀ z ∈ x.2, okB z.1 = true ∧ okB z.2 = true ∧ dep z.1 ≤ 60 ∧ dep z.2 ≤ 60
  okl : ∀ l0, x.1 = some l0 → okB l0 = true ∧ dep l0 ≤ 60
  few : (x.2.map fun z => knots z.2 + tips z.2).sum ≤ 1000
theorem knot_dep {c : Nat} {bs : List Bu} {x : Bu} (h : dep (.knot c bs) ≤ 60) (hx : x ∈ bs) : dep x ≤ 60 := by
  have h1 : dep (.knot c bs) = deps bs + 1 := rfl
  have : ∀ (l : List Bu), x ∈ l → dep x ≤ deps l := by
    intro l
    induction l with
    | nil => intro h; cases h
    | cons y l ih =>
      intro h
      have e : deps (y :: l) = max (dep y) (deps l) := by simp [deps]
      rcases List.mem_cons.mp h with rfl | h
      · omega
      · have := ih h; omega
  have := this bs hx
  omega
theorem okBs_mem3 {bs : List Bu} (h : okBs bs = true) {x : Bu} (hx : x ∈ bs) : okB x = true := by
  induction bs with
  | nil => cases hx
  | cons y l ih =>
    have h1 : okB y = true ∧ okBs l = true := by simpa [okBs] using h
    rcases List.mem_cons.mp hx with rfl | hx
    · exact h1.1
    · exact ih h1.2 hx
theorem sum_len : ∀ l : List (Bu × Bu), (∀ z ∈ l, okB z.2 = true) → l.length ≤ (l.map fun z => knots z.2 + tips z.2).sum
  | [], _ => Nat.zero_le _
  | z :: l, h => by
    have := sum_len l fun y hy => h y (List.mem_cons_of_mem _ hy)
    have := tips_pos (h z List.mem_cons_self)
    simp only [List.length_cons, List.map_cons, List.sum_cons]
    omega
/-- a pair of knots that are alike -/
theorem Low.knot {b u : Bu} {l : Option Bu} {st : List (Bu × Bu)} {c d : Nat} {as bs : List Bu} (h : Low b u (l, st ++ [(.knot c as, .knot d bs)])) (hu : unl (.knot c as) (.knot d bs) = false) : as.length = bs.length ∧ Low b u (l, st ++ as.zip bs) ∧ ((st ++ as.zip bs).map fun z => knots z.2 + tips z.2).sum < ((st ++ [(Bu.knot c as, Bu.knot d bs)]).map fun z => knots z.2 + tips z.2).sum := by
  have hu' : c = d ∧ as.length = bs.length := by simpa [unl] using hu
  obtain ⟨rfl, hl⟩ := hu'
  obtain ⟨o1, o2, d1, d2⟩ := h.ok (.knot c as, .knot c bs) (by simp)
  obtain ⟨_, ⟨n1, _⟩, n3⟩ := okB_knot o2
  obtain ⟨_, _, n4⟩ := okB_knot o1
  have hs := zip_sum as bs hl
  have lt : ((st ++ as.zip bs).map fun z => knots z.2 + tips z.2).sum < ((st ++ [(Bu.knot c as, Bu.knot c bs)]).map fun z => knots z.2 + tips z.2).sum := by
    rw [List.map_append, List.sum_append, hs, List.map_append, List.sum_append]
    simp only [List.map_cons, List.map_nil, List.sum_cons, List.sum_nil, knots, tips]
    omega
  refine ⟨hl, ⟨fun L => ?_, fun _ z => ?_, fun z hz => ?_, h.okl, by have := h.few; dsimp only at this ⊢; omega⟩, lt⟩
  · rw [h.iff L]
    have hk : grow (.knot c bs) L = .knot c as ↔ ∀ z ∈ as.zip bs, grow z.2 L = z.1 := by
      rw [← zip_grow L as bs hl, ← growL_map]
      have e : grow (.knot c bs) L = .knot c (growL bs L) := by simp [grow]
      rw [e]
      constructor
      · intro x; injection x
      · intro x; rw [x]
    dsimp only
    rw [List.forall_mem_append, List.forall_mem_append, ← hk]
    simp
  · have : (st ++ as.zip bs).length = 0 := by rw [show st ++ as.zip bs = [] from z]; rfl
    rw [List.length_append, List.length_zip, hl, Nat.min_self] at this
    omega
  · rcases List.mem_append.mp hz with hz | hz
    · exact h.ok z (List.mem_append_left _ hz)
    · obtain ⟨m1, m2⟩ := List.of_mem_zip (show (z.1, z.2) ∈ as.zip bs from hz)
      exact ⟨okBs_mem3 n4 m1, okBs_mem3 n3 m2, knot_dep d1 m1, knot_dep d2 m2⟩
theorem Low.unlike {b u : Bu} {l : Option Bu} {st : List (Bu × Bu)} {a : Bu} {d : Nat} {bs : List Bu} (h : Low b u (l, st ++ [(a, .knot d bs)])) (hu : unl a (.knot d bs) = true) : ∀ L, grow u L ≠ b := fun L e => by
  have h1 := ((h.iff L).mp e).2 (a, .knot d bs) (by simp)
  have e : grow (.knot d bs) L = .knot d (growL bs L) := by simp [grow]
  have h2 : Bu.knot d (growL bs L) = a := by rw [← e]; exact h1
  rw [← h2, unl, growL_map, List.length_map] at hu
  simp at hu
theorem Low.tipN {b u a : Bu} {st : List (Bu × Bu)} (h : Low b u (none, st ++ [(a, .tip)])) : Low b u (some a, st) := by
  obtain ⟨o1, _, d1, _⟩ := h.ok (a, .tip) (by simp)
  refine ⟨fun L => ?_, fun z => (by cases z), fun z hz => h.ok z (List.mem_append_left _ hz), fun l0 e => (by cases e; exact ⟨o1, d1⟩), ?_⟩
  · rw [h.iff L]
    dsimp only
    rw [List.forall_mem_append]
    simp [grow]
    constructor
    · rintro ⟨x, y⟩; exact ⟨y.symm, x⟩
    · rintro ⟨x, y⟩; exact ⟨y, x.symm⟩
  · have := h.few
    rw [List.map_append, List.sum_append] at this
    dsimp only at this ⊢
    omega
theorem Low.tipS {b u a l : Bu} {st : List (Bu × Bu)} (h : Low b u (some l, st ++ [(a, .tip)])) (e : l = a) : Low b u (some l, st) := by
  subst e
  refine ⟨fun L => ?_, fun z => (by cases z), fun z hz => h.ok z (List.mem_append_left _ hz), h.okl, ?_⟩
  · rw [h.iff L]
    dsimp only
    rw [List.forall_mem_append]
    simp [grow]
    intro x y
    exact x.symm
  · have := h.few
    rw [List.map_append, List.sum_append] at this
    dsimp only at this ⊢
    omega
theorem Low.tipU {b u a l : Bu} {st : List (Bu × Bu)} (h : Low b u (some l, st ++ [(a, .tip)])) (e : l ≠ a) : ∀ L, grow u L ≠ b := fun L x => by
  obtain ⟨h1, h2⟩ := (h.iff L).mp x
  have h3 := h1 l rfl
  have h4 := h2 (a, .tip) (by simp)
  have h5 : L = a := by simpa [grow] using h4
  exact e (h3.trans h5)
theorem tip_less (st : List (Bu × Bu)) (a : Bu) : (st.map fun z => knots z.2 + tips z.2).sum < ((st ++ [(a, Bu.tip)]).map fun z => knots z.2 + tips z.2).sum := by
  rw [List.map_append, List.sum_append]
  simp [knots, tips]
section
variable {P : Program} {w : World} {K : PySem.W.Frag} {mg : Str → Option Value} {base : Heap}
abbrev spFirst (K : PySem.W.Frag) : Sp := spE K 2 (fun z : Bu × Bu => [.d (toD z.1), .d (toD z.2)]) (fun z => Good z.1 ∧ Good z.2) (fun z r => r = .d (toD (growAll .tip (firstOf (primes z.1) (primes z.2)))))
theorem ok_shared_first (T : Tx K mg) : FnOk P w K mg base CX0 64 T.a_shared_first T.d_shared_first P_shared_first (spFirst K) := by
  have g_check_bush : FnOk P w K mg base CX0 4 T.a_check_bush T.d_check_bush P_check_bush (spCheckB K) := ok_check_bush T
  have g_prime_tuple : FnOk P w K mg base CX0 63 T.a_prime_tuple T.d_prime_tuple P_prime_tuple (spPrimeT K) := ok_prime_tuple T
  have g_grow_row : FnOk P w K mg base CX0 62 T.a_grow_row T.d_grow_row P_grow_row (spGrowRow K) := ok_grow_row T
  have g_shared : FnOk P w K mg base CX0 1 T.a_shared T.d_shared P_shared (spShared K) := ok_shared T
  refine okE T.F_shared_first sc_shared_first rfl fun cdv A outer s H E hr => ?_
  have hu : (A.deeper (envOfC "shared_first" (defScope s_shared_first) s.heap.objs.size T.a_shared_first cdv)).units + 64 < cLine := by have := hr.un; omega
  have hu1 : (A.deeper (envOfC "shared_first" (defScope s_shared_first) s.heap.objs.size T.a_shared_first cdv)).units + 1 < cLine := by have := hr.un; omega
  refine ⟨_, (pss_cons (ps_expr (pe_call (g_check_bush.mono (by decide)) hr (by rfl) T.g_check_bush T.F_check_bush.kp T.b_check_bush .nil pass0 (pa_cons (pv 0) pa_nil)))
      (pss_cons (ps_expr (pe_call (g_check_bush.mono (by decide)) hr (by rfl) T.g_check_bush T.F_check_bush.kp T.b_check_bush .nil pass0 (pa_cons (pv 1) pa_nil)))
      (pss_cons (ps_set (i := 2) sc_shared_first.nd rfl (.inl rfl) (pe_call (g_prime_tuple.mono (by decide)) hr (by rfl) T.g_prime_tuple T.F_prime_tuple.kp T.b_prime_tuple .nil pass0 (pa_cons (pv 0) pa_nil)))
      (pss_one (ps_ret (pe_call (g_grow_row.mono (by decide)) hr (by rfl) T.g_grow_row T.F_grow_row.kp T.b_grow_row .nil pass0 (pa_cons (pe_slice sl_tupA (pv 2) po_none (po_some (pe_call (g_shared.mono (by decide)) hr (by rfl) T.g_shared T.F_shared.kp T.b_shared .nil pass0 (pa_cons (pv 2) (pa_cons (pe_call (g_prime_tuple.mono (by decide)) hr (by rfl) T.g_prime_tuple T.F_prime_tuple.kp T.b_prime_tuple .nil pass0 (pa_cons (pv 1) pa_nil)) pa_nil))))) pa_nil))))))), fun c H0 x hx => ?_⟩
  obtain ⟨a, b⟩ := x
  obtain ⟨ga, gb⟩ := hx
  refine sg_drop (d := .none) (fun σ H e => ed_checkB (e.v rfl) ga) (sg_drop (d := .none) (fun σ H e => ed_checkB (e.v rfl) gb) ?_)
  refine sg_q (d := rowV (primes a)) (EvH.fz (fun σ H e => ed_primeT (e.v rfl) ga) (fz_row1 _)) ?_
  exact sg_ret (fun σ H e => ed_growRow (gs := firstOf (primes a) (primes b)) (ed_is (ed_slTo (k := cpl (primes a) (primes b)) (ds := (primes a).map toD) (e.v rfl) (ev_ofI (ed_shared (e.v rfl) (ed_primeT (e.v rfl) gb) (primes_good2 ga) (primes_good2 gb)))) (by rw [firstOf, rowV, List.map_take])) (part_ok ga _).1) rfl
abbrev spLast (K : PySem.W.Frag) : Sp := spE K 2 (fun z : Bu × Bu => [.d (toD z.1), .d (toD z.2)]) (fun z => Good z.1 ∧ Good z.2) (fun z r => r = .d (toD (growAll .tip (lastOf (primes z.1) (primes z.2)))))
theorem cpl_le : ∀ l m : List Bu, cpl l m ≤ l.length
  | [], m => by rw [cpl]; exact Nat.zero_le _; intro a l' b m' h; cases h
  | a :: l, [] => by rw [cpl]; exact Nat.zero_le _; intro _ _ b m' _ h; cases h
  | a :: l, b :: m => by
    rw [cpl]
    split
    · have := cpl_le l m; rw [List.length_cons]; omega
    · exact Nat.zero_le _
theorem ok_shared_last (T : Tx K mg) : FnOk P w K mg base CX0 64 T.a_shared_last T.d_shared_last P_shared_last (spLast K) := by
  have g_check_bush : FnOk P w K mg base CX0 4 T.a_check_bush T.d_check_bush P_check_bush (spCheckB K) := ok_check_bush T
  have g_prime_tuple : FnOk P w K mg base CX0 63 T.a_prime_tuple T.d_prime_tuple P_prime_tuple (spPrimeT K) := ok_prime_tuple T
  have g_shared : FnOk P w K mg base CX0 1 T.a_shared T.d_shared P_shared (spShared K) := ok_shared T
  have g_grow_row : FnOk P w K mg base CX0 62 T.a_grow_row T.d_grow_row P_grow_row (spGrowRow K) := ok_grow_row T
  refine okE T.F_shared_last sc_shared_last rfl fun cdv A outer s H E hr => ?_
  have hu : (A.deeper (envOfC "shared_last" (defScope s_shared_last) s.heap.objs.size T.a_shared_last cdv)).units + 64 < cLine := by have := hr.un; omega
  have hu1 : (A.deeper (envOfC "shared_last" (defScope s_shared_last) s.heap.objs.size T.a_shared_last cdv)).units + 1 < cLine := by have := hr.un; omega
  refine ⟨_, (pss_cons (ps_expr (pe_call (g_check_bush.mono (by decide)) hr (by rfl) T.g_check_bush T.F_check_bush.kp T.b_check_bush .nil pass0 (pa_cons (pv 0) pa_nil)))
      (pss_cons (ps_expr (pe_call (g_check_bush.mono (by decide)) hr (by rfl) T.g_check_bush T.F_check_bush.kp T.b_check_bush .nil pass0 (pa_cons (pv 1) pa_nil)))
      (pss_cons (ps_set (i := 2) sc_shared_last.nd rfl (.inl rfl) (pe_call (g_prime_tuple.mono (by decide)) hr (by rfl) T.g_prime_tuple T.F_prime_tuple.kp T.b_prime_tuple .nil pass0 (pa_cons (pv 0) pa_nil)))
      (pss_cons (ps_set (i := 3) sc_shared_last.nd rfl (.inl rfl) (pe_call (g_shared.mono (by decide)) hr (by rfl) T.g_shared T.F_shared.kp T.b_shared .nil pass0 (pa_cons (pe_revT (pv 2)) (pa_cons (pe_revT (pe_call (g_prime_tuple.mono (by decide)) hr (by rfl) T.g_prime_tuple T.F_prime_tuple.kp T.b_prime_tuple .nil pass0 (pa_cons (pv 1) pa_nil))) pa_nil))))
      (pss_one (ps_ret (pe_call (g_grow_row.mono (by decide)) hr (by rfl) T.g_grow_row T.F_grow_row.kp T.b_grow_row .nil pass0 (pa_cons (pe_slice sl_tupA (pv 2) (po_some (pe_op op_sub (pe_callB call_len_seq (by rfl) T.z_len PySem.boot_len (pa_cons (pv 2) pa_nil)) (pv 3))) po_none) pa_nil)))))))), fun c H0 x hx => ?_⟩
  obtain ⟨a, b⟩ := x
  obtain ⟨ga, gb⟩ := hx
  refine sg_drop (d := .none) (fun σ H e => ed_checkB (e.v rfl) ga) (sg_drop (d := .none) (fun σ H e => ed_checkB (e.v rfl) gb) ?_)
  refine sg_q (d := rowV (primes a)) (EvH.fz (fun σ H e => ed_primeT (e.v rfl) ga) (fz_row1 _)) ?_
  have r1 : ∀ g ∈ (primes a).reverse, Good g := fun g hg => primes_good2 ga g (List.mem_reverse.mp hg)
  have r2 : ∀ g ∈ (primes b).reverse, Good g := fun g hg => primes_good2 gb g (List.mem_reverse.mp hg)
  refine sg_q (d := .int ((cpl (primes a).reverse (primes b).reverse : Nat) : Int)) (EvH.fz (fun σ H e => ed_shared (ed_is (ed_revT (ds := (primes a).map toD) (e.v rfl)) (by rw [rowV, List.map_reverse])) (ed_is (ed_revT (ds := (primes b).map toD) (ed_primeT (e.v rfl) gb)) (by rw [rowV, List.map_reverse])) r1 r2) rfl) ?_
  have hle : cpl (primes a).reverse (primes b).reverse ≤ (primes a).length := by have := cpl_le (primes a).reverse (primes b).reverse; rwa [List.length_reverse] at this
  refine sg_ret (fun σ H e => ed_growRow (gs := lastOf (primes a) (primes b)) (ed_is (ed_slFrom (k := (primes a).length - cpl (primes a).reverse (primes b).reverse) (ds := (primes a).map toD) (e.v rfl) (Evl.ev_is (ev_ofI (ed_subI (ed_len (ds := (primes a).map toD) (e.v rfl)) (e.v rfl))) (congrArg V.int (by rw [List.length_map]; omega)))) (by rw [lastOf, rowV, List.map_drop])) (part_ok ga _).2) rfl
abbrev spLower (K : PySem.W.Frag) : Sp := spE K 2 (fun z : Bu × Bu => [.d (toD z.1), .d (toD z.2)]) (fun z => Good z.1 ∧ Good z.2) (fun z r => (r = .d .none ∧ ∀ L, grow z.2 L ≠ z.1) ∨ ∃ L, r = .d (toD L) ∧ grow z.2 L = z.1 ∧ okB L = true ∧ dep L ≤ 60)
theorem ok_lower_of (T : Tx K mg) : FnOk P w K mg base CX0 2 T.a_lower_of T.d_lower_of P_lower_of (spLower K) := by
  have g_are_unlike_roots : FnOk P w K mg base CX0 1 T.a_are_unlike_roots T.d_are_unlike_roots P_are_unlike_roots (spUnl K) := ok_unlike_roots T
  refine okE T.F_lower_of sc_lower_of rfl fun cdv A outer s H E hr => ?_
  have hu : (A.deeper (envOfC "lower_of" (defScope s_lower_of) s.heap.objs.size T.a_lower_of cdv)).units + 64 < cLine := by have := hr.un; omega
  have hu1 : (A.deeper (envOfC "lower_of" (defScope s_lower_of) s.heap.objs.size T.a_lower_of cdv)).units + 1 < cLine := by have := hr.un; omega
  refine ⟨_, (pss_cons (ps_set (i := 2) sc_lower_of.nd rfl (.inl rfl) pe_non)
      (pss_cons (ps_set (i := 3) sc_lower_of.nd rfl (.inl rfl) (pe_lst (pa_cons (pe_tup (pa_cons (pv 0) (pa_cons (pv 1) pa_nil))) pa_nil)))
      (pss_cons (ps_while PassesOwn.never (pt_truth (pv 3) (by intro _; rfl))
        (pss_cons (ps_asg (pe_bm0 PySem.F.plainAttrs_list PySem.F.slot_list_pop PySem.F.type_list_pop mt_pop (pv 3)) (pg_tup rfl (pgs_cons (pg_name (i := 4) sc_lower_of.nd rfl (.inl rfl)) (pgs_cons (pg_name (i := 5) sc_lower_of.nd rfl (.inl rfl)) pgs_nil))))
      (pss_one (ps_if (pt_truth (pv 5) (by intro _; rfl)) (pss_cons (ps_if (pt_val (pe_call (g_are_unlike_roots.mono (by decide)) hr (by rfl) T.g_are_unlike_roots T.F_are_unlike_roots.kp T.b_are_unlike_roots .nil pass0 (pa_cons (pv 4) (pa_cons (pv 5) pa_nil)))) (pss_one (ps_ret pe_non)) pss_nil)
      (pss_one (ps_expr (pe_bm PySem.F.plainAttrs_list PySem.F.slot_list_extend PySem.F.type_list_extend mt_extend (pv 3) (pa_cons (pe_listzip (by rfl) T.z_list (by rfl) T.z_zip (pa_cons (pe_slice sl_tupA (pv 4) (po_some pe_int) po_none) (pa_cons (pe_slice sl_tupA (pv 5) (po_some pe_int) po_none) pa_nil))) pa_nil))))) (pss_one (ps_if (pt_cmpR op_isN0 (pv 2) pe_non (nomark _)) (pss_one (ps_set (i := 2) sc_lower_of.nd rfl (.inl rfl) (pv 4))) (pss_one (ps_if (pt_cmpR (op_neD hu) (pv 2) (pv 4) (nomark _)) (pss_one (ps_ret pe_non)) pss_nil))))))))
      (pss_one (ps_ret (pv 2)))))), fun c H0 x hx => ?_⟩
  obtain ⟨b, u⟩ := x
  obtain ⟨gb, gu⟩ := hx
  refine sg_q (d := .none) (EvH.fz (fun σ H e => ed_none) rfl) ?_
  refine sg_qo (ds := [pD (b, u)]) (eo_lst (fun σ H e => ead_cons (ed_tup (ead_cons (e.v rfl) (ead_cons (e.v rfl) ead_nil)) (by simp)) ead_nil) (by simp)) (by simp [fzA, fz_pD]) fun p => ?_
  refine sg_while (fun x : Option Bu × List (Bu × Bu) => [some (.d (toD b)), some (.d (toD u)), some (.d (optD x.1)), some (.own p (x.2.map pD)), none, none]) (fun x => (x.2.map fun z => knots z.2 + tips z.2).sum) (fun x => !x.2.isEmpty) (Low b u) (none, [(b, u)]) ?_ (Fg.refl _) (fun x hx => ?_) (fun x hx hb => ?_) (fun x hx hb => ?_)
  · refine ⟨fun L => by simp, fun _ => by simp, fun z hz => ?_, fun l0 e => (by cases e), ?_⟩
    · have : z = (b, u) := by simpa using hz
      subst this
      exact ⟨gb.ok, gu.ok, gb.dep, gu.dep⟩
    · have := gu.few
      dsimp only at this
      simp
      omega
  · have := et_truO (K := K) (c := c) (H0 := H0) (Γ := [some (.d (toD b)), some (.d (toD u)), some (.d (optD x.1)), some (.own p (x.2.map pD)), none, none]) (i := 3) (p := p) (ds := x.2.map pD) rfl
    rw [List.isEmpty_map] at this
    exact this
  · obtain ⟨l, st⟩ := x
    have hne : st ≠ [] := by intro z; subst z; simp at hb
    obtain ⟨st', z, rfl⟩ : ∃ st' z, st = st' ++ [z] := ⟨st.dropLast, st.getLast hne, (List.dropLast_concat_getLast hne).symm⟩
    obtain ⟨a, t⟩ := z
    obtain ⟨o1, o2, d1, d2⟩ := hx.ok (a, t) (by simp)
    have hlen := sum_len (st' ++ [(a, t)]) fun y hy => (hx.ok y hy).2.1
    have hfew := hx.few
    dsimp only
    rw [List.map_append]
    refine sg_popun (d := pD (a, t)) (ds := st'.map pD) rfl (gt_two rfl) ?_
    cases t with
    | knot d bs =>
      refine sg_last (sg_if (b := true) (fun σ H e => et_truT (ds := itm (.knot d bs)) (ed_is (e.v rfl) (toD_itm _))) (fun _ => sg_assoc ?_) (fun z => by cases z))
      refine sg_when (b := unl a (.knot d bs)) (fun σ H e => Evl.et_B (ev_ofB (ed_callE (ds := [toD a, toD (.knot d bs)]) (enc := fun z : Bu × Bu => [.d (toD z.1), .d (toD z.2)]) (a, .knot d bs) (ead_cons (e.v rfl) (ead_cons (e.v rfl) ead_nil)) rfl (by simp [fzA, fz_toD]) ⟨o1, o2, d1, d2⟩ (fun r hr => hr)))) (fun hu => sg_retq (d := .none) (fun σ H e => ed_none) (.inl ⟨rfl, hx.unlike hu⟩)) (fun hu => ?_)
      cases a with
      | tip => cases hu
      | knot c as =>
        obtain ⟨hl, hL, hlt⟩ := hx.knot hu
        have hz := zip_sum as bs hl
        refine sg_ext (es := (as.zip bs).map pD) rfl (by
          rw [← pairs_pD]
          exact eo_listzip (fun σ H e => ed_slFrom (k := 1) (ds := .str ⟨#[c]⟩ :: as.map toD) (ed_is (e.v rfl) (toD_knot c as)) Evl.ev_c) (fun σ H e => ed_slFrom (k := 1) (ds := .str ⟨#[d]⟩ :: bs.map toD) (ed_is (e.v rfl) (toD_knot d bs)) Evl.ev_c)) (fz_pDs _) ?_ (sg_nx ⟨(l, st' ++ as.zip bs), hL, hlt, ?_⟩)
        · have h1 := sum_len (st' ++ as.zip bs) fun y hy => (hL.ok y hy).2.1
          have h2 := hL.few
          rw [List.length_append] at h1
          rw [List.length_map, List.length_map]
          dsimp only at h2
          omega
        · dsimp only
          rw [List.map_append]
          exact .keep (.keep (.keep (.keep (.drop (.drop .nil)))))
    | tip =>
      refine sg_last (sg_if (b := false) (fun σ H e => et_truT (ds := []) (e.v rfl)) (fun z => by cases z) (fun _ => ?_))
      cases l with
      | none =>
        refine sg_if (b := true) (fun σ H e => Evl.et_test (ev_isN0 (e.v rfl))) (fun _ => ?_) (fun z => by cases z)
        exact sg_q (d := toD a) (EvH.fz (fun σ H e => e.v (i := 4) rfl) (fz_toD _)) (sg_nx ⟨(some a, st'), hx.tipN, tip_less _ _, .keep (.keep (.keep (.keep (.drop (.drop .nil)))))⟩)
      | some l0 =>
        obtain ⟨q1, q2⟩ := hx.okl l0 rfl
        refine sg_if (b := false) (fun σ H e => Evl.et_test (ev_isN1 (ds := itm l0) (ed_is (e.v (d := toD l0) rfl) (toD_itm _)))) (fun z => by cases z) (fun _ => ?_)
        refine sg_when (b := !sameB l0 a) (fun σ H e => Evl.et_test (ev_neD (e.v (d := toD l0) rfl) (e.v (d := toD a) rfl) (shaped_toD q1 q2) (shaped_toD o1 d1))) (fun hs => ?_) (fun hs => ?_)
        · have hs' : sameB l0 a = false := by simpa using hs
          exact sg_retq (d := .none) (fun σ H e => ed_none) (.inl ⟨rfl, hx.tipU fun z => by rw [sameB_iff.mpr z] at hs'; cases hs'⟩)
        · have hs' : sameB l0 a = true := by simpa using hs
          exact sg_nx ⟨(some l0, st'), hx.tipS (sameB_iff.mp hs'), tip_less _ _, .keep (.keep (.keep (.keep (.drop (.drop .nil)))))⟩
  · obtain ⟨l, st⟩ := x
    have hst : st = [] := by simpa using hb
    subst hst
    cases l with
    | none => exact absurd rfl (hx.some_ rfl)
    | some l0 =>
      obtain ⟨q1, q2⟩ := hx.okl l0 rfl
      exact sg_ret (d := toD l0) (fun σ H e => e.v (i := 2) rfl) (.inr ⟨l0, rfl, (hx.iff l0).mpr ⟨fun y e => (Option.some.inj e).symm, fun z hz => by cases hz⟩, q1, q2⟩)
end
end Bk

namespace Bk
open PySem PySem.Spec PyProof.Rows L2
open Evl (Ex Ev EvT EvL EvU EvA)
/-! ### rows drawn, by slots -/
section
variable {K : PySem.W.Frag} {c : Option Addr} {H0 : Hp} {Γ : GE} {te tb tl ty tp : TE} {i : Nat} {E : XK}
theorem ep_row {y p : Nat} (hi : At Γ i .cup) (h1 : EvH K c H0 ty Γ (.int (y : Int))) (h2 : EvH K c H0 tp Γ (.int (p : Int))) (hy : y ≤ 12) (hp : 1 ≤ p) : EvP K c H0 (tCall (spRow K) [] E (tCons (tVar i) (tCons ty (tCons tp tNil)))) Γ (fun d => ∃ gs, d = rowV gs ∧ Rw y p gs) := fun σ H e R r => by
  obtain ⟨a, h3, h4⟩ := e.cu i hi
  subst h3
  refine ⟨_, h4, h1 e H (Ex.refl H) _ fun v H1 e1 hv => ?_⟩
  obtain rfl := dp_int hv
  refine h2 e H1 e1 _ fun v2 H2 e2 hv2 => ?_
  obtain rfl := dp_int hv2
  refine ⟨a, y, p, rfl, hy, hp, (e.cup a rfl).ex (e1.trans e2), fun v gs H' hR hv eb hc => ?_⟩
  have w : Wd (some a) H H' := (Wd.ex e.cup (e1.trans e2)).trans (.exB eb hc)
  exact r v H' _ w ⟨gs, rfl, hR⟩ ((e.step w).hide (fz_row1 gs) hv)
theorem ep_known (hi : At Γ i .cup) : EvP K c H0 (tCall (spKnown K) [] E (tCons (tVar i) tNil)) Γ (fun d => ∃ b, d = toD b ∧ Rn 4 b) := fun σ H e R r => by
  obtain ⟨a, h3, h4⟩ := e.cu i hi
  subst h3
  refine ⟨_, h4, ?_⟩
  refine ⟨a, rfl, e.cup a rfl, fun v b H' hR hv eb hc => ?_⟩
  have w : Wd (some a) H H' := .exB eb hc
  exact r v H' _ w ⟨b, rfl, hR⟩ ((e.step w).hide (fz_toD b) hv)
theorem eo_tips {b : Bu} (h : EvH K c H0 tl Γ (toD b)) (hD : Dr b) : EvO K c H0 (tCall (spTips K) [] E (tCons tl tNil)) Γ ((tr b).map enc) := fun σ H e R r =>
  h e H (Ex.refl H) _ fun v H1 e1 hv => ⟨v, b, rfl, hv, hD, fun p H2 us hp e2 hL hA => r p H2 us (Evl.fresh_back e1 hp) (e1.trans e2) hL hA⟩
theorem fz_encs2 (rs : List (List Int)) : fzA (rs.map enc) = true := fzA_of fun d hd => by
  obtain ⟨r, _, rfl⟩ := List.mem_map.mp hd
  show fzA _ = true
  exact fz_ints r
theorem ep_nearB {b : Bu} (hi : At Γ i .cup) (h : EvH K c H0 te Γ (toD b)) (ho : okB b = true) (hd : dep b ≤ 60) (hs : knots b + tips b ≤ 1000) : EvP K c H0 (tCall (spE K 2 (fun b : Bu => [.cup, .d (toD b)]) (fun b => okB b = true ∧ dep b ≤ 60 ∧ knots b + tips b ≤ 1000) (fun b r => ∃ b', r = .d (toD b') ∧ Near b b')) [] E (tCons (tVar i) (tCons te tNil))) Γ (fun d => ∃ b', d = toD b' ∧ Near b b') :=
  ep_call hi (eap_cons (EvH.p h (fz_toD _)) eap_nil) fun ds q => by
    obtain ⟨d, l, rfl, rfl, rfl⟩ := q
    exact ⟨b, rfl, by simp [fzA, fz_toD], ⟨ho, hd, hs⟩, rfl, fun r ⟨b', hr, N⟩ => ⟨_, hr, fz_toD _, b', rfl, N⟩⟩
end
theorem rw_ask {y p : Nat} {gs : List Bu} (h : Rw y p gs) (hy : y ≤ 12) (hp : p ≤ 999999999999) : Ask gs := by
  have hok : ∀ g ∈ gs, okB g = true := fun g hg => (h.rn g hg).ok
  have hn := h.n
  refine ⟨⟨fun g hg => (h.rn g hg).good (by decide), by omega⟩, by have := h.few; omega, ?_⟩
  rw [ctrs_rn hok]
  have := deps_rn (b := .tip) rfl h.rn
  have h0 : dep .tip = 0 := rfl
  dsimp only
  omega
theorem Ask.pre {gs : List Bu} (h : Ask gs) (i : Nat) : Ask (gs.take i) := by
  have hok : ∀ g ∈ gs, okB g = true := fun g hg => (h.g.g g hg).ok
  have hokt : ∀ g ∈ gs.take i, okB g = true := fun g hg => hok g (List.mem_of_mem_take hg)
  have h2 : growAll (growAll .tip (gs.take i)) (gs.drop i) = growAll .tip gs := by unfold growAll; rw [← List.foldl_append, List.take_append_drop]
  have h3 := size_growAll (gs := gs.drop i) (b := growAll .tip (gs.take i)) (ok_growAll rfl hokt) fun z hz => hok z (List.mem_of_mem_drop hz)
  have h4 := dep_growAll (gs := gs.drop i) (b := growAll .tip (gs.take i)) (ok_growAll rfl hokt) fun z hz => hok z (List.mem_of_mem_drop hz)
  rw [h2] at h3 h4
  have hf := h.few
  have hd := h.dep
  rw [ctrs_rn hok] at hf hd
  dsimp only at hf hd
  refine ⟨⟨fun g hg => h.g.g g (List.mem_of_mem_take hg), by rw [List.length_take]; have := h.g.n; omega⟩, ?_, ?_⟩
  · rw [ctrs_rn hokt]; dsimp only; omega
  · rw [ctrs_rn hokt]; dsimp only; omega
def askB (gs : List Bu) : Bool := gs.all goodB && decide (gs.length ≤ 12) && decide ((ctrs .tip gs).1 + (ctrs .tip gs).2.1 ≤ 999999999999) && decide ((ctrs .tip gs).2.2.2 ≤ 999999999999)
theorem askB_of {gs : List Bu} (h : askB gs = true) : Ask gs := by
  unfold askB at h
  simp only [Bool.and_eq_true, decide_eq_true_eq, List.all_eq_true] at h
  exact ⟨⟨fun g hg => goodB_of (h.1.1.1 g hg), h.1.1.2⟩, h.1.2, h.2⟩
end Bk

namespace Bk
open PySem PySem.Spec PyProof.Rows L2
open Evl (Ex Ev EvT EvL EvU EvA)
theorem eqv_rows (a b : List Bu) : PyData.eqv (rowV a) (rowV b) = true ↔ a = b := by
  have := eqv_toDs a b
  rw [toDs_map, toDs_map] at this
  simpa [PyData.eqv] using this
theorem shaped_row {gs : List Bu} (h : ∀ g ∈ gs, Good g) : SeqAt.shaped (rowV gs) = true := by
  have ho : okBs gs = true := okBs_of fun z hz => (h z hz).ok
  have h1 := lay_map ho
  have h2 := depth_toDs gs
  rw [toDs_map] at h2
  have h3 : deps gs ≤ 60 := deps_le fun z hz => (h z hz).dep
  exact shaped_of (by simp only [rowV, PyData.canLay0]; exact h1) (by simp only [rowV, PyData.depth]; omega)
section
variable {K : PySem.W.Frag} {te tb tc tl : TE} {E : XK} {σ : L2.St} {H : Hp} {a b : Bu} {gs hs : List Bu} {ds : List PyData}
theorem ed_slMid {i j : Nat} (ha : EvD K te σ H (.tuple ds)) (hb : Ev tb σ H (.int (i : Int))) (hc : Ev tc σ H (.int (j : Int))) : EvD K (tSl (rSlA K) te (tPart tb) (tPart tc)) σ H (.tuple ((ds.take j).drop i)) := fun H1 a R r =>
  ha H1 a _ fun v H2 e2 hv => hb H2 (a.trans e2) _ fun H3 e3 => ⟨_, rfl, hc H3 ((a.trans e2).trans e3) _ fun H4 e4 => by
    obtain ⟨p, xs, rfl, hxs, hxa⟩ := dp_tup (Dp.ex (e3.trans e4) _ _ hv)
    have hl : xs.length = ds.length := DpAll.len hxa
    have e1 : HT.sIx xs.length 0 (some (i : Int)) = min i xs.length := HT.sIx_nat xs.length 0 i
    have e5 : HT.sIx xs.length xs.length (some (j : Int)) = min j xs.length := HT.sIx_nat xs.length xs.length j
    refine ⟨_, rfl, p, xs, rfl, hxs, fun h0 => ?_, fun _ p2 hp2 => ?_⟩
    · rw [e1, e5] at h0
      have ht : ds.take j = ds := List.take_of_length_le (by omega)
      have hd : ds.drop i = ds := by
        by_cases hk0 : i = 0
        · rw [hk0, List.drop_zero]
        · have h1 : ds = [] := List.eq_nil_of_length_eq_zero (by omega)
          rw [h1, List.drop_nil]
      exact r _ _ ((e2.trans e3).trans e4) (by rw [ht, hd]; exact .tup hxs hxa)
    · have hcut : cutV xs (some (i : Int)) (some (j : Int)) = (xs.take j).drop i := by
        unfold cutV
        rw [e1, e5]
        apply List.ext_getElem?
        intro n
        rw [List.getElem?_take, List.getElem?_drop, List.getElem?_drop, List.getElem?_take]
        by_cases h1 : i + n < xs.length
        · by_cases h2 : i + n < j
          · rw [if_pos (by omega), if_pos h2, Nat.min_eq_left (by omega)]
          · rw [if_neg (by omega), if_neg h2]
        · have h3 : xs[i + n]? = none := List.getElem?_eq_none (by omega)
          rw [h3]
          split
          · rename_i h4
            rw [List.getElem?_eq_none (by omega)]
            split <;> rfl
          · split <;> rfl
      rw [hcut]
      exact r _ _ (((e2.trans e3).trans e4).trans (ex_new hp2)) (.tup (SqT.of upd_same) (DpAll.ex (ex_new hp2) _ _ (DpAll.drop i (DpAll.take j hxa))))⟩
theorem ed_bushOfL (h : EvD K te σ H (rowV gs)) (C : Can .tip gs) : EvD K (tCall (spBushOfL K) [] E (tCons te tNil)) σ H (toD (growAll .tip gs)) := fun H1 x R r => h H1 x _ fun v H2 e2 hv => ⟨v, gs, rfl, hv, C, fun y H' e3 hy => r y H' (e2.trans e3) hy⟩
end
/-- the primes of which words are made -/
structure Sml (b : Bu) : Prop where
  ok : okB b = true
  near : near b = 1
  kn : knots b ≤ 2
  tp : tips b ≤ 3
  dp : dep b ≤ 2
theorem Sml.good {b : Bu} (h : Sml b) : Good b := ⟨h.ok, by have := h.kn; have := h.tp; omega, by have := h.dp; omega⟩
def smlB (b : Bu) : Bool := okB b && decide (Bk.near b = 1) && decide (knots b ≤ 2) && decide (tips b ≤ 3) && decide (dep b ≤ 2)
theorem smlB_of {b : Bu} (h : smlB b = true) : Sml b := by
  unfold smlB at h
  simp only [Bool.and_eq_true, decide_eq_true_eq] at h
  exact ⟨h.1.1.1.1, h.1.1.1.2, h.1.1.2, h.1.2, h.2⟩
theorem primes_word {gs : List Bu} (h : ∀ g ∈ gs, Sml g) : primes (growAll .tip gs) = gs := by
  have h1 := primes_all (gs := gs) (b := .tip) rfl fun g hg => (h g hg).ok
  have h0 : primes .tip = [] := by
    have := primes_grow (a := .tip) (g := .tip) rfl rfl
    have e : grow .tip .tip = .tip := by simp [grow]
    rw [e] at this
    have l := congrArg List.length this
    rw [List.length_append] at l
    exact List.eq_nil_of_length_eq_zero (by omega)
  rw [h1, h0, List.nil_append]
  have : ∀ l : List Bu, (∀ g ∈ l, Sml g) → l.flatMap primes = l := by
    intro l
    induction l with
    | nil => intro _; rfl
    | cons g l ih =>
      intro hl
      rw [List.flatMap_cons, primes_one (hl g List.mem_cons_self).ok (hl g List.mem_cons_self).near, ih fun y hy => hl y (List.mem_cons_of_mem _ hy)]
      rfl
  exact this gs h
/-- words whose bushes can be drawn -/
structure Wor (gs : List Bu) : Prop where
  s : ∀ g ∈ gs, Sml g
  c : Can .tip gs
theorem Wor.pre {gs : List Bu} (h : Wor gs) (i : Nat) : Wor (gs.take i) := ⟨fun g hg => h.s g (List.mem_of_mem_take hg), h.c.pre i⟩
theorem Wor.suf {gs : List Bu} (h : Wor gs) (i : Nat) : Wor (gs.drop i) := by
  have ho : ∀ g ∈ gs, okB g = true := fun g hg => (h.s g hg).ok
  have hg := h.c.end_
  obtain ⟨_, g2⟩ := good_prod (xs := gs.take i) (ys := gs.drop i) (fun g hg => ho g (List.mem_of_mem_take hg)) (fun g hg => ho g (List.mem_of_mem_drop hg)) (by rw [List.take_append_drop]; exact hg)
  exact ⟨fun g hg => h.s g (List.mem_of_mem_drop hg), ⟨⟨rfl, by decide, by decide⟩, fun g hg => (h.s g (List.mem_of_mem_drop hg)).good, by have := h.c.n; rw [List.length_drop]; omega, g2.few, g2.dep⟩⟩
theorem Wor.good {gs : List Bu} (h : Wor gs) : ∀ g ∈ gs, Good g := fun g hg => (h.s g hg).good
def worB (gs : List Bu) : Bool := gs.all smlB && canB .tip gs
theorem worB_of {gs : List Bu} (h : worB gs = true) : Wor gs := by
  unfold worB at h
  rw [Bool.and_eq_true, List.all_eq_true] at h
  exact ⟨fun g hg => smlB_of (h.1 g hg), canB_of h.2⟩
section
variable {P : Program} {w : World} {K : PySem.W.Frag} {mg : Str → Option Value} {base : Heap}
abbrev spBetw (K : PySem.W.Frag) : Sp := spE K 3 (fun z : Bu × Bu × Bu => [.d (toD z.1), .d (toD z.2.1), .d (toD z.2.2)]) (fun z => Good z.1 ∧ Good z.2.1 ∧ Good z.2.2) (fun z r => (r = .d .none ∧ ∀ m, okB m = true → grow (grow z.2.1 m) z.2.2 ≠ z.1) ∨ ∃ m, r = .d (toD m) ∧ okB m = true ∧ grow (grow z.2.1 m) z.2.2 = z.1)
theorem ok_put_between (T : Tx K mg) : FnOk P w K mg base CX0 62 T.a_put_between T.d_put_between P_put_between (spBetw K) := by
  have g_check_bush : FnOk P w K mg base CX0 4 T.a_check_bush T.d_check_bush P_check_bush (spCheckB K) := ok_check_bush T
  have g_lower_of : FnOk P w K mg base CX0 2 T.a_lower_of T.d_lower_of P_lower_of (spLower K) := ok_lower_of T
  have g_upper_of : FnOk P w K mg base CX0 61 T.a_upper_of T.d_upper_of P_upper_of (spUpper K 60) := ok_upper_of T 60
  refine okE T.F_put_between sc_put_between rfl fun cdv A outer s H E hr => ?_
  have hu : (A.deeper (envOfC "put_between" (defScope s_put_between) s.heap.objs.size T.a_put_between cdv)).units + 64 < cLine := by have := hr.un; omega
  have hu1 : (A.deeper (envOfC "put_between" (defScope s_put_between) s.heap.objs.size T.a_put_between cdv)).units + 1 < cLine := by have := hr.un; omega
  refine ⟨_, (pss_cons (ps_expr (pe_call (g_check_bush.mono (by decide)) hr (by rfl) T.g_check_bush T.F_check_bush.kp T.b_check_bush .nil pass0 (pa_cons (pv 0) pa_nil)))
      (pss_cons (ps_expr (pe_call (g_check_bush.mono (by decide)) hr (by rfl) T.g_check_bush T.F_check_bush.kp T.b_check_bush .nil pass0 (pa_cons (pv 1) pa_nil)))
      (pss_cons (ps_expr (pe_call (g_check_bush.mono (by decide)) hr (by rfl) T.g_check_bush T.F_check_bush.kp T.b_check_bush .nil pass0 (pa_cons (pv 2) pa_nil)))
      (pss_cons (ps_set (i := 3) sc_put_between.nd rfl (.inl rfl) (pe_call (g_lower_of.mono (by decide)) hr (by rfl) T.g_lower_of T.F_lower_of.kp T.b_lower_of .nil pass0 (pa_cons (pv 0) (pa_cons (pv 1) pa_nil))))
      (pss_cons (ps_if (pt_cmpR op_isN0 (pv 3) pe_non (nomark _)) (pss_one (ps_ret pe_non)) pss_nil)
      (pss_one (ps_ret (pe_call (g_upper_of.mono (by decide)) hr (by rfl) T.g_upper_of T.F_upper_of.kp T.b_upper_of .nil pass0 (pa_cons (pv 3) (pa_cons (pv 2) pa_nil)))))))))), fun c H0 x hx => ?_⟩
  obtain ⟨b, u, l⟩ := x
  obtain ⟨gb, gu, gl⟩ := hx
  dsimp only at gb gu gl
  refine sg_drop (d := .none) (fun σ H e => ed_checkB (e.v rfl) gb) (sg_drop (d := .none) (fun σ H e => ed_checkB (e.v rfl) gu) (sg_drop (d := .none) (fun σ H e => ed_checkB (e.v rfl) gl) ?_))
  refine sg_qp (ep_callN (P := fun d => (d = .none ∧ ∀ L, grow u L ≠ b) ∨ ∃ L, d = toD L ∧ grow u L = b ∧ okB L = true ∧ dep L ≤ 60) (eap_cons (EvH.p (d := toD b) (fun σ H e => e.v rfl) (fz_toD _)) (eap_cons (EvH.p (d := toD u) (fun σ H e => e.v rfl) (fz_toD _)) eap_nil)) fun ds q => ?_) fun d hd => ?_
  · obtain ⟨d1, l1, rfl, rfl, d2, l2, rfl, rfl, rfl⟩ := q
    refine ⟨(b, u), rfl, by simp [fzA, fz_toD], ⟨gb, gu⟩, rfl, fun r hr => ?_⟩
    rcases hr with ⟨rfl, h⟩ | ⟨L, rfl, h⟩
    · exact ⟨_, rfl, rfl, .inl ⟨rfl, h⟩⟩
    · exact ⟨_, rfl, fz_toD _, .inr ⟨L, rfl, h⟩⟩
  rcases hd with ⟨rfl, h⟩ | ⟨L, rfl, h, oL, dL⟩
  · refine sg_when (b := true) (fun σ H e => Evl.et_test (ev_isN0 (e.v rfl))) (fun _ => sg_retq (d := .none) (fun σ H e => ed_none) (.inl ⟨rfl, fun m _ x => ?_⟩)) (fun z => by cases z)
    exact h (grow m l) (by rw [← grow_assoc]; exact x)
  · refine sg_when (b := false) (fun σ H e => Evl.et_test (ev_isN1 (ds := itm L) (ed_is (e.v (d := toD L) rfl) (toD_itm _)))) (fun z => by cases z) (fun _ => ?_)
    refine sg_retp (ep_old (P := fun d => (d = .none ∧ up L l = none) ∨ ∃ m, d = toD m ∧ up L l = some m) (eap_cons (EvH.p (d := toD L) (fun σ H e => e.v rfl) (fz_toD _)) (eap_cons (EvH.p (d := toD l) (fun σ H e => e.v rfl) (fz_toD _)) eap_nil)) fun ds q vs H1 hv R r => ?_) fun d hd => ?_
    · obtain ⟨d1, l1, rfl, rfl, d2, l2, rfl, rfl, rfl⟩ := q
      cases hv with
      | cons h1 h2 =>
        cases h2 with
        | cons h3 h4 =>
          cases h4
          exact ⟨_, _, L, l, rfl, h1, h3, oL, gl.ok, dL, by decide, gl.dep, fun m x H' hm e hx => r x H' _ e (fz_toD m) (.inr ⟨m, rfl, hm⟩) hx, fun H' hn e => r _ H' .none e rfl (.inl ⟨rfl, hn⟩) .non⟩
    · rcases hd with ⟨rfl, hn⟩ | ⟨m, rfl, hm⟩
      · refine .inl ⟨rfl, fun m om x => ?_⟩
        have h5 : grow m l = L := grow_left u gu.ok (by rw [← grow_assoc]; exact x.trans h.symm)
        have := (up_iff oL).mpr h5
        rw [hn] at this
        cases this
      · refine .inr ⟨m, rfl, ok_up oL hm, ?_⟩
        dsimp only
        rw [grow_assoc, up_grow _ _ _ hm]
        exact h
abbrev spSml (K : PySem.W.Frag) : Sp := spE K 1 (fun _ : Unit => [.cup]) (fun _ => True) (fun _ r => ∃ b, r = .d (toD b) ∧ Sml b)
def aB : Bu := .knot 97 [.tip]
def bB : Bu := .knot 98 [.tip]
def ggB : Bu := .knot 103 [.tip, .tip, .tip]
def faB : Bu := .knot 102 [aB, .tip]
def smalls : List Bu := [aB, aB, aB, bB, .knot 102 [.tip, .tip], faB, ggB]
theorem ok_small (T : Tx K mg) : FnOk P w K mg base CX0 3 T.a_law_small T.d_law_small P_law_small (spSml K) := by
  have g_law_some : FnOk P w K mg base CX0 2 T.a_law_some T.d_law_some P_law_some (spSomeL K) := ok_someL T
  refine okE T.F_law_small sc_law_small rfl fun cdv A outer s H E hr => ?_
  have hu : (A.deeper (envOfC "_law_small" (defScope s_law_small) s.heap.objs.size T.a_law_small cdv)).units + 64 < cLine := by have := hr.un; omega
  have hu1 : (A.deeper (envOfC "_law_small" (defScope s_law_small) s.heap.objs.size T.a_law_small cdv)).units + 1 < cLine := by have := hr.un; omega
  refine ⟨_, (pss_cons (ps_asg (pe_tup (pa_cons (pe_tup (pa_cons pe_str (pa_cons (pe_tup pa_nil) pa_nil))) (pa_cons (pe_tup (pa_cons pe_str (pa_cons (pe_tup pa_nil) pa_nil))) (pa_cons (pe_tup (pa_cons pe_str (pa_cons (pe_tup pa_nil) (pa_cons (pe_tup pa_nil) pa_nil)))) pa_nil)))) (pg_tup rfl (pgs_cons (pg_name (i := 1) sc_law_small.nd rfl (.inl rfl)) (pgs_cons (pg_name (i := 2) sc_law_small.nd rfl (.inl rfl)) (pgs_cons (pg_name (i := 3) sc_law_small.nd rfl (.inl rfl)) pgs_nil)))))
      (pss_one (ps_ret (pe_call (g_law_some.mono (by decide)) hr (by rfl) T.g_law_some T.F_law_some.kp T.b_law_some .nil pass0 (pa_cons (pv 0) (pa_cons (pe_lst (pa_cons (pv 1) (pa_cons (pv 1) (pa_cons (pv 1) (pa_cons (pv 2) (pa_cons (pv 3) (pa_cons (pe_tup (pa_cons pe_str (pa_cons (pv 1) (pa_cons (pe_tup pa_nil) pa_nil)))) (pa_cons (pe_tup (pa_cons pe_str (pa_cons (pe_tup pa_nil) (pa_cons (pe_tup pa_nil) (pa_cons (pe_tup pa_nil) pa_nil))))) pa_nil)))))))) pa_nil)))))), fun c H0 x hx => ?_⟩
  refine sg_un (d := .tuple [toD aB, toD bB, toD (.knot 102 [.tip, .tip])]) (EvH.fz (fun σ H e => ed_is (ed_tup (ead_cons (ed_tup (ead_cons ed_str (ead_cons (ed_tup ead_nil (by decide)) ead_nil)) (by simp)) (ead_cons (ed_tup (ead_cons ed_str (ead_cons (ed_tup ead_nil (by decide)) ead_nil)) (by simp)) (ead_cons (ed_tup (ead_cons ed_str (ead_cons (ed_tup ead_nil (by decide)) (ead_cons (ed_tup ead_nil (by decide)) ead_nil))) (by simp)) ead_nil))) (by simp)) rfl) (by simp [fz, fzA, fz_toD])) (gt_three rfl) ?_
  refine sg_retp (ep_some (ds := smalls.map toD) rfl (EvO.ls (eo_lst (fun σ H e => ead_cons (e.v rfl) (ead_cons (e.v rfl) (ead_cons (e.v rfl) (ead_cons (e.v rfl) (ead_cons (e.v rfl) (ead_cons (ed_tup (ead_cons ed_str (ead_cons (e.v (d := toD aB) rfl) (ead_cons (ed_tup ead_nil (by decide)) ead_nil))) (by decide +kernel)) (ead_cons (ed_tup (ead_cons ed_str (ead_cons (ed_tup ead_nil (by decide)) (ead_cons (ed_tup ead_nil (by decide)) (ead_cons (ed_tup ead_nil (by decide)) ead_nil)))) (by decide)) ead_nil))))))) (by decide)) (fz_map _)) (by decide) (by decide)) fun d hd => ?_
  obtain ⟨b, hb, rfl⟩ := List.mem_map.mp hd
  have h : smalls.all smlB = true := by decide +kernel
  exact ⟨b, rfl, smlB_of (List.all_eq_true.mp h b hb)⟩
def fits250 (z : C4) : Bool := decide (((z.1 : Nat) : Int) + ((z.2.1 : Nat) : Int) ≤ 250) && decide (((z.2.2.2 : Nat) : Int) ≤ 60)
abbrev spFits250 (K : PySem.W.Frag) : Sp := spE K 1 (fun gs : List Bu => [.d (rowV gs)]) DrR (fun gs r => r = .d (.bool (fits250 (ctrs .tip gs))))
theorem ok_fits250 (T : Tx K mg) : FnOk P w K mg base CX0 6 T.a_law_fits T.d_law_fits P_law_fits (spFits250 K) := by
  have g_law_sizes : FnOk P w K mg base CX0 4 T.a_law_sizes T.d_law_sizes P_law_sizes (spSizes K) := ok_sizes T
  refine okE T.F_law_fits sc_law_fits rfl fun cdv A outer s H E hr => ?_
  have hu : (A.deeper (envOfC "_law_fits" (defScope s_law_fits) s.heap.objs.size T.a_law_fits cdv)).units + 64 < cLine := by have := hr.un; omega
  have hu1 : (A.deeper (envOfC "_law_fits" (defScope s_law_fits) s.heap.objs.size T.a_law_fits cdv)).units + 1 < cLine := by have := hr.un; omega
  refine ⟨_, (pss_cons (ps_asg (pe_call (g_law_sizes.mono (by decide)) hr (by rfl) T.g_law_sizes T.F_law_sizes.kp T.b_law_sizes .nil pass0 (pa_cons (pv 0) pa_nil)) (pg_tup rfl (pgs_cons (pg_name (i := 1) sc_law_fits.nd rfl (.inl rfl)) (pgs_cons (pg_name (i := 2) sc_law_fits.nd rfl (.inl rfl)) (pgs_cons (pg_name (i := 3) sc_law_fits.nd rfl (.inl rfl)) (pgs_cons (pg_name (i := 4) sc_law_fits.nd rfl (.inl rfl)) pgs_nil))))))
      (pss_one (ps_ret (pe_and (pe_cmpR op_le (pe_op op_add (pv 1) (pv 2)) pe_int (nomark _)) (pe_one (pe_cmpR op_le (pv 4) pe_int (nomark _))))))), fun c H0 x hx => ?_⟩
  refine sg_un (d := ctrD (ctrs .tip x)) (EvH.fz (fun σ H e => ed_sizes (e.v rfl) hx) (fz_ctr _)) (gt_four rfl) ?_
  exact sg_ret (fun σ H e => ed_bool (Evl.ev_andV (ev_leI (ed_addI (e.v rfl) (e.v rfl)) ed_int) fun _ => ev_leI (e.v rfl) ed_int)) rfl
abbrev spAhead (K : PySem.W.Frag) : Sp := spE K 2 (fun z : List Bu × List Bu => [.d (rowV z.1), .d (rowV z.2)]) (fun z => (∀ g ∈ z.1, Good g) ∧ (∀ g ∈ z.2, Good g) ∧ z.1.length ≤ 1000) (fun z r => r = .d (rowV (firstOf z.1 z.2)))
theorem ok_ahead (T : Tx K mg) : FnOk P w K mg base CX0 1 T.a_law_ahead T.d_law_ahead P_law_ahead (spAhead K) := by
  refine okE T.F_law_ahead sc_law_ahead rfl fun cdv A outer s H E hr => ?_
  have hu : (A.deeper (envOfC "_law_ahead" (defScope s_law_ahead) s.heap.objs.size T.a_law_ahead cdv)).units + 64 < cLine := by have := hr.un; omega
  have hu1 : (A.deeper (envOfC "_law_ahead" (defScope s_law_ahead) s.heap.objs.size T.a_law_ahead cdv)).units + 1 < cLine := by have := hr.un; omega
  refine ⟨_, (pss_cons (ps_set (i := 2) sc_law_ahead.nd rfl (.inl rfl) (pe_tup pa_nil))
      (pss_cons (ps_for PassesOwn.never rfl (RZ.pi_zipA (by rfl) T.z_zip (pa_cons (pv 0) (pa_cons (pv 1) pa_nil))) (pg_tup rfl (pgs_cons (pg_name (i := 3) sc_law_ahead.nd rfl (.inl rfl)) (pgs_cons (pg_name (i := 4) sc_law_ahead.nd rfl (.inl rfl)) pgs_nil)))
        (pss_cons (ps_if (pt_cmpR (op_neD hu) (pv 3) (pv 4) (nomark _)) (pss_one (ps_ret (pv 2))) pss_nil)
      (pss_one (ps_set (i := 2) sc_law_ahead.nd rfl (.inl rfl) (pe_op op_catA (pv 2) (pe_tup (pa_cons (pv 3) pa_nil)))))))
      (pss_one (ps_ret (pv 2))))), fun c H0 x hx => ?_⟩
  obtain ⟨l, m⟩ := x
  obtain ⟨g1, g2, hlen⟩ := hx
  dsimp only at g1 g2 hlen
  refine sg_q (d := rowV []) (EvH.fz (fun σ H e => ed_tup ead_nil (by decide)) rfl) ?_
  refine sg_forZ (ds := l.map toD) (es := m.map toD) (fun i => [some (.d (rowV l)), some (.d (rowV m)), some (.d (rowV (l.take i))), none, none]) (fun i => [some (.d (rowV l)), some (.d (rowV m)), some (.d (rowV (l.take i))), some (.d (toD (l.getD i .tip))), some (.d (toD (m.getD i .tip)))])
    (fun i => cpl l m = i + cpl (l.drop i) (m.drop i)) (eg_v rfl) (eg_v rfl) (Fg.refl _) (by simp) (fun i d e hd he => ?_) (fun i d e hd he hj => ?_) (fun hj => ?_)
  · rw [List.getElem?_map] at hd he
    obtain ⟨a, ha, rfl⟩ := Option.map_eq_some_iff.mp hd
    obtain ⟨b, hb, rfl⟩ := Option.map_eq_some_iff.mp he
    have e8 : l.getD i .tip = a := by rw [List.getD_eq_getElem?_getD, ha]; rfl
    have e9 : m.getD i .tip = b := by rw [List.getD_eq_getElem?_getD, hb]; rfl
    rw [e8, e9]
    exact gt_two rfl
  · rw [List.getElem?_map] at hd he
    obtain ⟨a, ha, rfl⟩ := Option.map_eq_some_iff.mp hd
    obtain ⟨b, hb, rfl⟩ := Option.map_eq_some_iff.mp he
    have e8 : l.getD i .tip = a := by rw [List.getD_eq_getElem?_getD, ha]; rfl
    have e9 : m.getD i .tip = b := by rw [List.getD_eq_getElem?_getD, hb]; rfl
    rw [e8, e9]
    have ga := g1 a (List.mem_of_getElem? ha)
    have gb := g2 b (List.mem_of_getElem? hb)
    have htk : l.take (i + 1) = l.take i ++ [a] := by rw [List.take_add_one, ha]; rfl
    refine sg_when (b := !sameB a b) (fun σ H e => Evl.et_test (ev_neD (e.v (d := toD a) rfl) (e.v (d := toD b) rfl) (shaped_toD ga.ok ga.dep) (shaped_toD gb.ok gb.dep))) (fun hb' => ?_) (fun hb' => ?_)
    · have hs : sameB a b = false := by simpa using hb'
      exact sg_retq (d := rowV (l.take i)) (fun σ H e => e.v rfl) (by rw [firstOf, cpl_stop ha hb hj hs])
    · have hs : sameB a b = true := by simpa using hb'
      refine sg_last (sg_q (d := rowV (l.take (i + 1))) (EvH.fz (fun σ H e => ed_is (ed_cat (ds := (l.take i).map toD) (es := [toD a]) (e.v rfl) (ed_tup (ead_cons (e.v rfl) ead_nil) (by simp)) (by rw [List.length_map, List.length_take]; simp; omega)) (by rw [htk, rowV, List.map_append]; rfl)) (fz_row1 _)) (sg_nx ⟨.keep (.keep (.keep (.drop (.drop .nil)))), cpl_on ha hb hj hs⟩))
  · rw [List.length_map, List.length_map] at hj ⊢
    exact sg_ret (d := rowV (firstOf l m)) (fun σ H e => ed_is (e.v (i := 2) rfl) (by rw [firstOf, cpl_end hj])) rfl
end
end Bk

namespace Bk
open PySem PySem.Spec PyProof.Rows L2
open Evl (Ex Ev EvT EvL EvU EvA)
section
variable {K : PySem.W.Frag} {c : Option Addr} {H0 : Hp} {Γ Γ1 : GE} {te tb tl : TE} {ta : TA} {d : PyData} {ds es : List PyData} {i j : Nat} {N : GE → Prop} {Rt : AV → Prop} {rest tu : TS} {P Q : PyData → Prop}
theorem EaP.imp {Q1 Q2 : List PyData → Prop} (h : EaP K c H0 ta Γ Q1) (f : ∀ ds, Q1 ds → Q2 ds) : EaP K c H0 ta Γ Q2 := fun σ H e R r => h e R fun vs H2 ds w q hA => r vs H2 ds w (f ds q) hA
/-- for j in range(n), n drawn; what the slots hold is told by I -/
theorem sg_forRp {M : Nat} (I : Nat → GE → Prop) (h : EaP K c H0 ta Γ (fun ds => ∃ n : Nat, n ≤ M ∧ ds = [.int (n : Int)])) (hM : M ≤ 100000) (h0 : ∃ Γ0, Fg Γ Γ0 ∧ I 0 Γ0)
    (hs : ∀ i Γi, i < M → I i Γi → SG K c H0 tu (Γi.set j (some (.d (.int (i : Int))))) (fun Γ' => ∃ Γ1, Fg Γ' Γ1 ∧ I (i + 1) Γ1) Rt) (k : ∀ n Γn, n ≤ M → I n Γn → SG K c H0 rest Γn N Rt) :
    SG K c H0 (tSeq (tFor (iRng1 ta) (gName j) tu) rest) Γ N Rt := fun D σ H e hx hr => by
  refine h e _ fun vs H1 ds w q hvs => ?_
  obtain ⟨n, hn, rfl⟩ := q
  obtain ⟨Γ0, f0, i0⟩ := h0
  cases hvs with
  | cons h1 h2 =>
    cases h2
    obtain rfl := dp_int h1
    have e1 := e.step w
    refine ⟨(n : Int), rfl, by omega, by omega, for_range (lo := 0) (n := n) (fun i σ' H' => ∃ Γi, I i Γi ∧ Env K c H0 Γi σ' H' ∧ Ex (hd c Γ H) (hd c Γi H')) ⟨Γ0, i0, e1.fg f0, (hd_ex w).trans (Fg.ex f0)⟩ (fun i σ' H' hi ⟨Γi, ii, a, x⟩ => ?_) (fun σ' H' ⟨Γi, ii, a, x⟩ => ?_)⟩
    · have e0 : (0 : Int) + (i : Int) = (i : Int) := Int.zero_add _
      show tu _ (σ'.set j (some (.int ((0 : Int) + (i : Int))))) H'
      rw [e0]
      obtain ⟨a1, b1⟩ := a.setX (i := j) (d := .int (i : Int)) (v := .int (i : Int)) (.int _)
      exact hs i Γi (by omega) ii _ _ H' a1 (fun σ2 H2 Γ2 a2 x2 ⟨Γ3, f3, i3⟩ => ⟨Γ3, i3, a2.fg f3, (((x.trans b1).trans x2)).trans (Fg.ex f3)⟩) hr
    · exact k n Γi hn ii D σ' H' a (fun σ2 H2 Γ2 a2 x2 q2 => hx σ2 H2 Γ2 a2 (x.trans x2) q2) hr
/-- x, y, z = .., drawn -/
theorem sg_par3p {i j l : Nat} {Qa : List PyData → Prop} (h : EaP K c H0 ta Γ Qa) (hq : ∀ ds, Qa ds → ∃ d e f, ds = [d, e, f]) (k : ∀ d e f, Qa [d, e, f] → SG K c H0 rest (((Γ.set i (some (.d d))).set j (some (.d e))).set l (some (.d f))) N Rt) : SG K c H0 (tSeq (tPar3 i j l ta) rest) Γ N Rt := fun D σ H w hn hr => h w _ fun vs H1 ds w1 q hvs => by
  obtain ⟨d, e, f, rfl⟩ := hq ds q
  cases hvs with
  | cons h1 h2 =>
    cases h2 with
    | cons h3 h4 =>
      cases h4 with
      | cons h5 h6 =>
        cases h6
        have w' := w.step w1
        obtain ⟨a1, b1⟩ := w'.setX (i := i) h1
        obtain ⟨a2, b2⟩ := a1.setX (i := j) (Dp.ex b1 _ _ h3)
        obtain ⟨a3, b3⟩ := a2.setX (i := l) (Dp.ex (b1.trans b2) _ _ h5)
        exact ⟨_, _, _, rfl, k d e f q D _ H1 a3 (fun σ' H' Γ' a x q => hn σ' H' Γ' a (((((hd_ex w1).trans b1).trans b2).trans b3).trans x) q) hr⟩
end
end Bk
namespace Bk
open PySem PySem.Spec PyProof.Rows L2
open Evl (Ex Ev EvT EvL EvU EvA)
section
variable {K : PySem.W.Frag} {c : Option Addr} {H0 : Hp} {Γ : GE}
/-- [x for x in l if ..] -/
theorem eo_lcLf {tl : TE} {ps : List (PyData × Bool)} {j : Nat} {tt : TT} (h : EvG K c H0 tl Γ (.list (ps.map (·.1)))) (hz : ps.length ≤ 40000) (hj : j < Γ.length)
    (ht : ∀ ⦃σ : L2.St⦄ ⦃H : Hp⦄, Env K c H0 Γ σ H → ∀ (p : PyData × Bool) (x : V) (H1 : Hp), Ex H H1 → p ∈ ps → Dp K H1 x p.1 → EvT tt ((wipe σ [j]).set j (some x)) H1 p.2) : EvO K c H0 (tLc (iList K tl) (gName j) tt (tVar j) [j]) Γ ((ps.filter (·.2)).map (·.1)) := fun σ H e R r => h e _ fun v H1 e1 hv => by
  obtain ⟨p, xs, rfl, hxs0, hxa0⟩ := dp_lst hv
  have hxs := Evl.ex_l hd_sub hxs0
  have hxa := DpAll.ex hd_sub _ _ hxa0
  have hlen : xs.length = ps.length := by rw [DpAll.len hxa, List.length_map]
  have hl : (wipe σ [j]).length = σ.length := by simp [wipe]
  have hjs : j < σ.length := by rw [e.len]; exact hj
  refine ⟨p, rfl, ⟨xs, hxs⟩, fun Dl hD => lc_list (xs := xs) (fun i H' => Ex H1 H' ∧ ∃ us, H' Dl = some (.lst us) ∧ DpAll K H1 us (((ps.take i).filter (·.2)).map (·.1))) ⟨ex_new hD, [], upd_same, by rw [List.take_zero]; exact .nil⟩ (fun i H' _ q => Evl.ex_l q.1 hxs) (fun i x H' hi q => ⟨by simp [wipe], ?_⟩) (fun H' q => ?_)⟩
  · obtain ⟨e2, us, hL, hA⟩ := q
    obtain ⟨d, hd, hdx⟩ := DpAll.get hxa hi
    rw [List.getElem?_map] at hd
    obtain ⟨pr, hpr, rfl⟩ := Option.map_eq_some_iff.mp hd
    have htk : ps.take (i + 1) = ps.take i ++ [pr] := by rw [List.take_add_one, hpr]; rfl
    have hle : us.length ≤ i := by
      rw [DpAll.len hA, List.length_map]
      exact Nat.le_trans (List.length_filter_le _ _) (by rw [List.length_take]; omega)
    have hi2 : i < ps.length := by have := (List.getElem?_eq_some_iff.mp hi).1; omega
    refine ht e pr x H1 e1 (List.mem_of_getElem? hpr) hdx H' e2 _ fun H2 e3 => ?_
    cases hb : pr.2 with
    | true =>
      refine ⟨x, by rw [List.getElem?_set, if_pos rfl, if_pos (by rw [hl]; exact hjs)], us, e3 _ _ hL, Evl.sz_lt (by omega), Evl.Ex.mut (e2.trans e3) hD, _, upd_same, ?_⟩
      rw [htk, List.filter_append, List.map_append, List.filter_cons, if_pos hb]
      exact DpAll.snoc hA hdx
    | false =>
      refine ⟨e2.trans e3, us, e3 _ _ hL, ?_⟩
      rw [htk, List.filter_append, List.map_append, List.filter_cons, if_neg (by rw [hb]; simp)]
      simpa using hA
  · obtain ⟨e2, us, hL, hA⟩ := q
    rw [hlen, List.take_length] at hA
    exact r Dl H' us (Evl.fresh_back e1 hD) (e1.trans e2) hL (DpAll.ex e2 _ _ hA)
end
end Bk

namespace Bk
open PySem PySem.Spec PyProof.Rows L2
open Evl (Ex Ev EvT EvL EvU EvA)
/-! ### k33: words, what they share -/
section
variable {K : PySem.W.Frag} {te tb tc tl : TE} {E : XK} {σ : L2.St} {H : Hp} {l m : List Bu}
theorem ed_first (h : EvD K te σ H (toD (growAll .tip l))) (h2 : EvD K tb σ H (toD (growAll .tip m))) (wl : Wor l) (wm : Wor m) : EvD K (tCall (spFirst K) [] E (tCons te (tCons tb tNil))) σ H (toD (growAll .tip (firstOf l m))) :=
  ed_callE (ds := [toD (growAll .tip l), toD (growAll .tip m)]) (enc := fun z : Bu × Bu => [.d (toD z.1), .d (toD z.2)]) (growAll .tip l, growAll .tip m) (ead_cons h (ead_cons h2 ead_nil)) rfl (by simp [fzA, fz_toD]) ⟨wl.c.end_, wm.c.end_⟩ (fun r hr => by dsimp only at hr; rw [primes_word wl.s, primes_word wm.s] at hr; exact hr)
theorem ed_last (h : EvD K te σ H (toD (growAll .tip l))) (h2 : EvD K tb σ H (toD (growAll .tip m))) (wl : Wor l) (wm : Wor m) : EvD K (tCall (spLast K) [] E (tCons te (tCons tb tNil))) σ H (toD (growAll .tip (lastOf l m))) :=
  ed_callE (ds := [toD (growAll .tip l), toD (growAll .tip m)]) (enc := fun z : Bu × Bu => [.d (toD z.1), .d (toD z.2)]) (growAll .tip l, growAll .tip m) (ead_cons h (ead_cons h2 ead_nil)) rfl (by simp [fzA, fz_toD]) ⟨wl.c.end_, wm.c.end_⟩ (fun r hr => by dsimp only at hr; rw [primes_word wl.s, primes_word wm.s] at hr; exact hr)
theorem ed_ahead (h : EvD K te σ H (rowV l)) (h2 : EvD K tb σ H (rowV m)) (g1 : ∀ g ∈ l, Good g) (g2 : ∀ g ∈ m, Good g) (hl : l.length ≤ 1000) : EvD K (tCall (spAhead K) [] E (tCons te (tCons tb tNil))) σ H (rowV (firstOf l m)) :=
  ed_callE (ds := [rowV l, rowV m]) (enc := fun z : List Bu × List Bu => [.d (rowV z.1), .d (rowV z.2)]) (l, m) (ead_cons h (ead_cons h2 ead_nil)) rfl (by rw [show fzA [rowV l, rowV m] = (fz (rowV l) && (fz (rowV m) && true)) from rfl, fz_row1, fz_row1]; rfl) ⟨g1, g2, hl⟩ (fun r hr => hr)
end
theorem rev_first (l m : List Bu) : (firstOf l.reverse m.reverse).reverse = lastOf l m := by
  unfold firstOf lastOf
  rw [List.take_reverse, List.reverse_reverse]
noncomputable def btw (w a b : List Bu) : Bool := decide (((a.length : Nat) : Int) + ((b.length : Nat) : Int) ≤ ((w.length : Nat) : Int)) && (PyData.eqv (rowV (w.take a.length)) (rowV a) && PyData.eqv (rowV (w.drop (w.length - b.length))) (rowV b))
def midOf (w a b : List Bu) : List Bu := (w.take (w.length - b.length)).drop a.length
theorem btw_iff {w a b : List Bu} : btw w a b = true ↔ ∃ m, w = a ++ m ++ b := by
  unfold btw
  rw [Bool.and_eq_true, Bool.and_eq_true, decide_eq_true_eq, eqv_rows, eqv_rows]
  constructor
  · rintro ⟨h1, h2, h3⟩
    refine ⟨midOf w a b, ?_⟩
    have e1 : (w.take (w.length - b.length)).take a.length = a := by rw [List.take_take, Nat.min_eq_left (by omega)]; exact h2
    have e2 : a ++ midOf w a b = w.take (w.length - b.length) := by
      have := List.take_append_drop a.length (w.take (w.length - b.length))
      rw [e1] at this
      exact this
    rw [e2]
    have := List.take_append_drop (w.length - b.length) w
    rw [h3] at this
    exact this.symm
  · rintro ⟨m, rfl⟩
    have l1 : (a ++ m ++ b).length - b.length = (a ++ m).length := by simp only [List.length_append]; omega
    refine ⟨by simp only [List.length_append]; omega, ?_, ?_⟩
    · rw [List.append_assoc, List.take_append_of_le_length (Nat.le_refl _), List.take_length]
    · rw [l1, List.drop_append_of_le_length (Nat.le_refl _), List.drop_length, List.nil_append]
theorem btw_mid {w a b : List Bu} (h : btw w a b = true) : w = a ++ midOf w a b ++ b := by
  obtain ⟨m, rfl⟩ := btw_iff.mp h
  have l1 : (a ++ m ++ b).length - b.length = (a ++ m).length := by simp only [List.length_append]; omega
  have : midOf (a ++ m ++ b) a b = m := by
    unfold midOf
    rw [l1, List.take_append_of_le_length (Nat.le_refl _), List.take_length, List.drop_append_of_le_length (Nat.le_refl _), List.drop_length, List.nil_append]
  rw [this]
theorem betw_val {w a b : List Bu} (ww : Wor w) (wa : Wor a) (wb : Wor b) {r : AV} (h : (r = .d .none ∧ ∀ m, okB m = true → grow (grow (growAll .tip a) m) (growAll .tip b) ≠ growAll .tip w) ∨ ∃ m, r = .d (toD m) ∧ okB m = true ∧ grow (grow (growAll .tip a) m) (growAll .tip b) = growAll .tip w) :
    (btw w a b = true → r = .d (toD (growAll .tip (midOf w a b)))) ∧ (btw w a b = false → r = .d .none) := by
  have oA := wa.c.end_.ok
  have oB := wb.c.end_.ok
  have oW := ww.c.end_.ok
  constructor
  · intro hb
    have hw := btw_mid hb
    have hp : growAll .tip w = grow (grow (growAll .tip a) (growAll .tip (midOf w a b))) (growAll .tip b) := by
      rw [← prod_app, ← prod_app, ← hw]
    have om : okB (growAll .tip (midOf w a b)) = true := ok_growAll rfl fun g hg => by
      have : g ∈ w := by rw [hw]; simp [hg]
      exact (ww.s g this).ok
    rcases h with ⟨_, h⟩ | ⟨m, rfl, hm, h⟩
    · exact absurd hp.symm (h _ om)
    · have h2 := h.trans hp
      have o1 : okB (grow (grow (growAll .tip a) m) (growAll .tip b)) = true := by rw [h]; exact oW
      have o2 : okB (grow (grow (growAll .tip a) (growAll .tip (midOf w a b))) (growAll .tip b)) = true := by rw [← hp]; exact oW
      have h3 := grow_right _ _ _ (ok_of_grow _ o1) (ok_of_grow _ o2) h2
      have h4 := grow_left _ oA h3
      rw [h4]
  · intro hb
    rcases h with ⟨rfl, _⟩ | ⟨m, rfl, hm, h⟩
    · rfl
    · exfalso
      have o1 : okB (grow (growAll .tip a) m) = true := ok_grow2 hm _ oA
      have h5 := congrArg primes h
      rw [primes_grow o1 oB, primes_grow oA hm, primes_word wa.s, primes_word wb.s, primes_word ww.s] at h5
      have := btw_iff.mpr ⟨primes m, h5.symm⟩
      rw [hb] at this
      cases this
section
variable {K : PySem.W.Frag} {te tb tc tl : TE} {E : XK} {σ : L2.St} {H : Hp} {w a b : List Bu}
theorem ed_betwT (h : EvD K te σ H (toD (growAll .tip w))) (h2 : EvD K tb σ H (toD (growAll .tip a))) (h3 : EvD K tc σ H (toD (growAll .tip b))) (ww : Wor w) (wa : Wor a) (wb : Wor b) (hb : btw w a b = true) : EvD K (tCall (spBetw K) [] E (tCons te (tCons tb (tCons tc tNil)))) σ H (toD (growAll .tip (midOf w a b))) :=
  ed_callE (ds := [toD (growAll .tip w), toD (growAll .tip a), toD (growAll .tip b)]) (enc := fun z : Bu × Bu × Bu => [.d (toD z.1), .d (toD z.2.1), .d (toD z.2.2)]) (growAll .tip w, growAll .tip a, growAll .tip b) (ead_cons h (ead_cons h2 (ead_cons h3 ead_nil))) rfl (by simp [fzA, fz_toD]) ⟨ww.c.end_, wa.c.end_, wb.c.end_⟩ (fun r hr => (betw_val ww wa wb hr).1 hb)
theorem ed_betwF (h : EvD K te σ H (toD (growAll .tip w))) (h2 : EvD K tb σ H (toD (growAll .tip a))) (h3 : EvD K tc σ H (toD (growAll .tip b))) (ww : Wor w) (wa : Wor a) (wb : Wor b) (hb : btw w a b = false) : EvD K (tCall (spBetw K) [] E (tCons te (tCons tb (tCons tc tNil)))) σ H .none :=
  ed_callE (ds := [toD (growAll .tip w), toD (growAll .tip a), toD (growAll .tip b)]) (enc := fun z : Bu × Bu × Bu => [.d (toD z.1), .d (toD z.2.1), .d (toD z.2.2)]) (growAll .tip w, growAll .tip a, growAll .tip b) (ead_cons h (ead_cons h2 (ead_cons h3 ead_nil))) rfl (by simp [fzA, fz_toD]) ⟨ww.c.end_, wa.c.end_, wb.c.end_⟩ (fun r hr => (betw_val ww wa wb hr).2 hb)
end
section
variable {P : Program} {w : World} {K : PySem.W.Frag} {mg : Str → Option Value} {base : Heap}
abbrev spRight33 (K : PySem.W.Frag) : Sp := spE K 2 (fun z : List Bu × List Bu => [.d (rowV z.1), .d (rowV z.2)]) (fun z => Wor z.1 ∧ Wor z.2) (fun _ r => r = .d (.bool true))
theorem ok_right33 (T : Tx K mg) : FnOk P w K mg base CX0 66 T.a_law_right T.d_law_right P_law_right (spRight33 K) := by
  have g_law_bush_of : FnOk P w K mg base CX0 63 T.a_law_bush_of T.d_law_bush_of P_law_bush_of (spBushOfL K) := ok_law_bush_of T
  have g_shared_first : FnOk P w K mg base CX0 64 T.a_shared_first T.d_shared_first P_shared_first (spFirst K) := ok_shared_first T
  have g_law_ahead : FnOk P w K mg base CX0 1 T.a_law_ahead T.d_law_ahead P_law_ahead (spAhead K) := ok_ahead T
  have g_shared_last : FnOk P w K mg base CX0 64 T.a_shared_last T.d_shared_last P_shared_last (spLast K) := ok_shared_last T
  refine okE T.F_law_right sc_law_right rfl fun cdv A outer s H E hr => ?_
  have hu : (A.deeper (envOfC "_law_right" (defScope s_law_right) s.heap.objs.size T.a_law_right cdv)).units + 64 < cLine := by have := hr.un; omega
  have hu1 : (A.deeper (envOfC "_law_right" (defScope s_law_right) s.heap.objs.size T.a_law_right cdv)).units + 1 < cLine := by have := hr.un; omega
  refine ⟨_, (pss_cons (ps_par (i := 2) (j := 3) rfl sc_law_right.nd rfl rfl (by decide) rfl rfl (pa_cons (pe_call (g_law_bush_of.mono (by decide)) hr (by rfl) T.g_law_bush_of T.F_law_bush_of.kp T.b_law_bush_of .nil pass0 (pa_cons (pv 0) pa_nil)) (pa_cons (pe_call (g_law_bush_of.mono (by decide)) hr (by rfl) T.g_law_bush_of T.F_law_bush_of.kp T.b_law_bush_of .nil pass0 (pa_cons (pv 1) pa_nil)) pa_nil)) rfl)
      (pss_cons (ps_if (pt_cmpR (op_neD hu) (pe_call (g_shared_first.mono (by decide)) hr (by rfl) T.g_shared_first T.F_shared_first.kp T.b_shared_first .nil pass0 (pa_cons (pv 2) (pa_cons (pv 3) pa_nil))) (pe_call (g_law_bush_of.mono (by decide)) hr (by rfl) T.g_law_bush_of T.F_law_bush_of.kp T.b_law_bush_of .nil pass0 (pa_cons (pe_call (g_law_ahead.mono (by decide)) hr (by rfl) T.g_law_ahead T.F_law_ahead.kp T.b_law_ahead .nil pass0 (pa_cons (pv 0) (pa_cons (pv 1) pa_nil))) pa_nil)) (nomark _)) (pss_one (ps_ret pe_bl)) pss_nil)
      (pss_one (ps_ret (pe_cmpR (op_eqD hu) (pe_call (g_shared_last.mono (by decide)) hr (by rfl) T.g_shared_last T.F_shared_last.kp T.b_shared_last .nil pass0 (pa_cons (pv 2) (pa_cons (pv 3) pa_nil))) (pe_call (g_law_bush_of.mono (by decide)) hr (by rfl) T.g_law_bush_of T.F_law_bush_of.kp T.b_law_bush_of .nil pass0 (pa_cons (pe_revT (pe_call (g_law_ahead.mono (by decide)) hr (by rfl) T.g_law_ahead T.F_law_ahead.kp T.b_law_ahead .nil pass0 (pa_cons (pe_revT (pv 0)) (pa_cons (pe_revT (pv 1)) pa_nil)))) pa_nil)) (nomark _)))))), fun c H0 x hx => ?_⟩
  obtain ⟨l, m⟩ := x
  obtain ⟨wl, wm⟩ := hx
  dsimp only at wl wm
  have hl : l.length ≤ 1000 := by have := wl.c.n; omega
  have gf : Good (growAll .tip (firstOf l m)) := (wl.pre _).c.end_
  have gs : Good (growAll .tip (lastOf l m)) := (wl.suf _).c.end_
  refine sg_parG (d := toD (growAll .tip l)) (e := toD (growAll .tip m)) (EvH.fz (fun σ H e => ed_bushOfL (e.v rfl) wl.c) (fz_toD _)) (EvH.fz (fun σ H e => ed_bushOfL (e.v rfl) wm.c) (fz_toD _)) ?_
  refine sg_never (fun σ H e => Evl.et_test (ev_neSelf (d := toD (growAll .tip (firstOf l m))) (ed_first (e.v rfl) (e.v rfl) wl wm) (ed_bushOfL (ed_ahead (e.v rfl) (e.v rfl) wl.good wm.good hl) (wl.pre _).c) (shaped_toD gf.ok gf.dep))) ?_
  refine sg_ret (d := .bool true) (fun σ H e => ed_bool (ev_eqSelf (d := toD (growAll .tip (lastOf l m))) (ed_last (e.v rfl) (e.v rfl) wl wm) (ed_bushOfL (gs := lastOf l m) (ed_is (ed_revT (ds := (firstOf l.reverse m.reverse).map toD) (ed_ahead (l := l.reverse) (m := m.reverse) (ed_is (ed_revT (ds := l.map toD) (e.v rfl)) (by rw [rowV, List.map_reverse])) (ed_is (ed_revT (ds := m.map toD) (e.v rfl)) (by rw [rowV, List.map_reverse])) (fun g hg => wl.good g (List.mem_reverse.mp hg)) (fun g hg => wm.good g (List.mem_reverse.mp hg)) (by rw [List.length_reverse]; exact hl))) (by rw [← List.map_reverse, rev_first])) (wl.suf _).c) (shaped_toD gs.ok gs.dep))) rfl
abbrev spBt33 (K : PySem.W.Frag) : Sp := spE K 3 (fun z : List Bu × List Bu × List Bu => [.d (rowV z.1), .d (rowV z.2.1), .d (rowV z.2.2)]) (fun z => Wor z.1 ∧ Wor z.2.1 ∧ Wor z.2.2) (fun _ r => r = .d (.bool true))
theorem ok_bt33 (T : Tx K mg) : FnOk P w K mg base CX0 66 T.a_law_between T.d_law_between P_law_between (spBt33 K) := by
  have g_law_bush_of : FnOk P w K mg base CX0 63 T.a_law_bush_of T.d_law_bush_of P_law_bush_of (spBushOfL K) := ok_law_bush_of T
  have g_put_between : FnOk P w K mg base CX0 62 T.a_put_between T.d_put_between P_put_between (spBetw K) := ok_put_between T
  refine okE T.F_law_between sc_law_between rfl fun cdv A outer s H E hr => ?_
  have hu : (A.deeper (envOfC "_law_between" (defScope s_law_between) s.heap.objs.size T.a_law_between cdv)).units + 64 < cLine := by have := hr.un; omega
  have hu1 : (A.deeper (envOfC "_law_between" (defScope s_law_between) s.heap.objs.size T.a_law_between cdv)).units + 1 < cLine := by have := hr.un; omega
  refine ⟨_, (pss_cons (ps_set (i := 3) sc_law_between.nd rfl (.inl rfl) pe_non)
      (pss_cons (ps_if (PW.pt (pw_and (pt_cmpR op_le (pe_op op_add (pe_callB call_len_seq (by rfl) T.z_len PySem.boot_len (pa_cons (pv 1) pa_nil)) (pe_callB call_len_seq (by rfl) T.z_len PySem.boot_len (pa_cons (pv 2) pa_nil))) (pe_callB call_len_seq (by rfl) T.z_len PySem.boot_len (pa_cons (pv 0) pa_nil)) (nomark _)) (pw_and (pt_cmpR (op_eqD hu) (pe_slice sl_tupA (pv 0) po_none (po_some (pe_callB call_len_seq (by rfl) T.z_len PySem.boot_len (pa_cons (pv 1) pa_nil)))) (pv 1) (nomark _)) (pw_and1 (pt_cmpR (op_eqD hu) (pe_slice sl_tupA (pv 0) (po_some (pe_op op_sub (pe_callB call_len_seq (by rfl) T.z_len PySem.boot_len (pa_cons (pv 0) pa_nil)) (pe_callB call_len_seq (by rfl) T.z_len PySem.boot_len (pa_cons (pv 2) pa_nil)))) po_none) (pv 2) (nomark _)))))) (pss_one (ps_set (i := 3) sc_law_between.nd rfl (.inl rfl) (pe_call (g_law_bush_of.mono (by decide)) hr (by rfl) T.g_law_bush_of T.F_law_bush_of.kp T.b_law_bush_of .nil pass0 (pa_cons (pe_slice sl_tupA (pv 0) (po_some (pe_callB call_len_seq (by rfl) T.z_len PySem.boot_len (pa_cons (pv 1) pa_nil))) (po_some (pe_op op_sub (pe_callB call_len_seq (by rfl) T.z_len PySem.boot_len (pa_cons (pv 0) pa_nil)) (pe_callB call_len_seq (by rfl) T.z_len PySem.boot_len (pa_cons (pv 2) pa_nil))))) pa_nil)))) pss_nil)
      (pss_one (ps_ret (pe_cmpR (op_eqD hu) (pe_call (g_put_between.mono (by decide)) hr (by rfl) T.g_put_between T.F_put_between.kp T.b_put_between .nil pass0 (pa_cons (pe_call (g_law_bush_of.mono (by decide)) hr (by rfl) T.g_law_bush_of T.F_law_bush_of.kp T.b_law_bush_of .nil pass0 (pa_cons (pv 0) pa_nil)) (pa_cons (pe_call (g_law_bush_of.mono (by decide)) hr (by rfl) T.g_law_bush_of T.F_law_bush_of.kp T.b_law_bush_of .nil pass0 (pa_cons (pv 1) pa_nil)) (pa_cons (pe_call (g_law_bush_of.mono (by decide)) hr (by rfl) T.g_law_bush_of T.F_law_bush_of.kp T.b_law_bush_of .nil pass0 (pa_cons (pv 2) pa_nil)) pa_nil)))) (pv 3) (nomark _)))))), fun c H0 x hx => ?_⟩
  obtain ⟨w, a, b⟩ := x
  obtain ⟨ww, wa, wb⟩ := hx
  dsimp only at ww wa wb
  refine sg_q (d := .none) (EvH.fz (fun σ H e => ed_none) rfl) ?_
  refine sg_when (b := btw w a b) (fun σ H e => Evl.et_and (Evl.et_test (ev_leI (ed_addI (ed_is (ed_len (ds := a.map toD) (e.v rfl)) (by rw [List.length_map])) (ed_is (ed_len (ds := b.map toD) (e.v rfl)) (by rw [List.length_map]))) (ed_is (ed_len (ds := w.map toD) (e.v rfl)) (by rw [List.length_map])))) (fun h1 => Evl.et_and (Evl.et_test (ev_eqD (d := rowV (w.take a.length)) (e := rowV a) (ed_is (ed_slTo (k := a.length) (ds := w.map toD) (e.v rfl) (ev_ofI (ed_is (ed_len (ds := a.map toD) (e.v rfl)) (by rw [List.length_map])))) (by rw [rowV, List.map_take])) (e.v rfl) (shaped_row (ww.pre _).good) (shaped_row wa.good))) (fun _ => Evl.et_test (ev_eqD (d := rowV (w.drop (w.length - b.length))) (e := rowV b) (ed_is (ed_slFrom (k := w.length - b.length) (ds := w.map toD) (e.v rfl) (ev_ofI (ed_is (ed_subI (ed_len (ds := w.map toD) (e.v rfl)) (ed_len (ds := b.map toD) (e.v rfl))) (by rw [List.length_map, List.length_map]; rw [decide_eq_true_eq] at h1; congr 1; omega)))) (by rw [rowV, List.map_drop])) (e.v rfl) (shaped_row (ww.suf _).good) (shaped_row wb.good))))) (fun hb => ?_) (fun hb => ?_)
  · have wm : Wor (midOf w a b) := (ww.pre _).suf _
    have hlen : b.length ≤ w.length := by
      obtain ⟨m, hm⟩ := btw_iff.mp hb
      rw [hm]
      simp only [List.length_append]
      omega
    refine sg_q (d := toD (growAll .tip (midOf w a b))) (EvH.fz (fun σ H e => ed_bushOfL (gs := midOf w a b) (ed_is (ed_slMid (i := a.length) (j := w.length - b.length) (ds := w.map toD) (e.v rfl) (ev_ofI (ed_is (ed_len (ds := a.map toD) (e.v rfl)) (by rw [List.length_map]))) (ev_ofI (ed_is (ed_subI (ed_len (ds := w.map toD) (e.v rfl)) (ed_len (ds := b.map toD) (e.v rfl))) (by rw [List.length_map, List.length_map]; congr 1; omega)))) (by rw [midOf, rowV, List.map_drop, List.map_take])) wm.c) (fz_toD _)) ?_
    exact sg_ret (d := .bool true) (fun σ H e => ed_bool (ev_eqSelf (d := toD (growAll .tip (midOf w a b))) (ed_betwT (ed_bushOfL (e.v rfl) ww.c) (ed_bushOfL (e.v rfl) wa.c) (ed_bushOfL (e.v rfl) wb.c) ww wa wb hb) (e.v rfl) (shaped_toD wm.c.end_.ok wm.c.end_.dep))) rfl
  · exact sg_ret (d := .bool true) (fun σ H e => ed_bool (ev_eqSelf (d := .none) (ed_betwF (ed_bushOfL (e.v rfl) ww.c) (ed_bushOfL (e.v rfl) wa.c) (ed_bushOfL (e.v rfl) wb.c) ww wa wb hb) (e.v rfl) rfl)) rfl
structure Wrd (n : Nat) (gs : List Bu) : Prop where
  n : gs.length ≤ n
  s : ∀ g ∈ gs, Sml g
  few : (ctrs .tip gs).1 + (ctrs .tip gs).2.1 ≤ 120
abbrev spWord (K : PySem.W.Frag) : Sp := spE K 2 (fun n : Nat => [.cup, .d (.int (n : Int))]) (fun n => n ≤ 4) (fun n r => ∃ gs, r = .d (rowV gs) ∧ Wrd n gs)
theorem ok_word (T : Tx K mg) : FnOk P w K mg base CX0 5 T.a_law_word T.d_law_word P_law_word (spWord K) := by
  have g_law_roll : FnOk P w K mg base CX0 1 T.a_law_roll T.d_law_roll P_law_roll spRoll := ok_roll T
  have g_law_small : FnOk P w K mg base CX0 3 T.a_law_small T.d_law_small P_law_small (spSml K) := ok_small T
  have g_law_sizes : FnOk P w K mg base CX0 4 T.a_law_sizes T.d_law_sizes P_law_sizes (spSizes K) := ok_sizes T
  refine okE T.F_law_word sc_law_word rfl fun cdv A outer s H E hr => ?_
  have hu : (A.deeper (envOfC "_law_word" (defScope s_law_word) s.heap.objs.size T.a_law_word cdv)).units + 64 < cLine := by have := hr.un; omega
  have hu1 : (A.deeper (envOfC "_law_word" (defScope s_law_word) s.heap.objs.size T.a_law_word cdv)).units + 1 < cLine := by have := hr.un; omega
  refine ⟨_, (pss_cons (ps_set (i := 2) sc_law_word.nd rfl (.inl rfl) (pe_tup pa_nil))
      (pss_cons (ps_for PassesOwn.never rfl (pi_range1 (by rfl) T.z_range (pa_cons (pe_call (g_law_roll.mono (by decide)) hr (by rfl) T.g_law_roll T.F_law_roll.kp T.b_law_roll .nil pass0 (pa_cons (pv 0) (pa_cons (pe_op op_add (pv 1) pe_int) pa_nil))) pa_nil)) (pg_name (i := 3) sc_law_word.nd rfl (.inl rfl))
        (pss_cons (ps_set (i := 4) sc_law_word.nd rfl (.inl rfl) (pe_call (g_law_small.mono (by decide)) hr (by rfl) T.g_law_small T.F_law_small.kp T.b_law_small .nil pass0 (pa_cons (pv 0) pa_nil)))
      (pss_cons (ps_asg (pe_call (g_law_sizes.mono (by decide)) hr (by rfl) T.g_law_sizes T.F_law_sizes.kp T.b_law_sizes .nil pass0 (pa_cons (pe_op op_catA (pv 2) (pe_tup (pa_cons (pv 4) pa_nil))) pa_nil)) (pg_tup rfl (pgs_cons (pg_name (i := 5) sc_law_word.nd rfl (.inl rfl)) (pgs_cons (pg_name (i := 6) sc_law_word.nd rfl (.inl rfl)) (pgs_cons (pg_name (i := 7) sc_law_word.nd rfl (.inl rfl)) (pgs_cons (pg_name (i := 8) sc_law_word.nd rfl (.inl rfl)) pgs_nil))))))
      (pss_one (ps_if (pt_cmpR op_le (pe_op op_add (pv 5) (pv 6)) pe_int (nomark _)) (pss_one (ps_set (i := 2) sc_law_word.nd rfl (.inl rfl) (pe_op op_catA (pv 2) (pe_tup (pa_cons (pv 4) pa_nil))))) pss_nil)))))
      (pss_one (ps_ret (pv 2))))), fun c H0 x hx => ?_⟩
  refine sg_q (d := rowV []) (EvH.fz (fun σ H e => ed_tup ead_nil (by decide)) rfl) ?_
  refine sg_forRp (M := x) (fun i Γ => ∃ gs, Γ = [some .cup, some (.d (.int (x : Int))), some (.d (rowV gs)), none, none, none, none, none, none] ∧ Wrd i gs)
    (EaP.imp (eap_cons (ep_roll (m := x + 1) rfl (fun σ H e => ed_is (ed_addI (e.v rfl) ed_int) (by congr 1)) (by omega) (by omega)) eap_nil) fun ds q => ?_) (by omega) ⟨_, Fg.refl _, [], rfl, ⟨by simp, by simp, by decide⟩⟩ (fun i Γi hi hI => ?_) (fun n Γn hn hI => ?_)
  · obtain ⟨d, l, rfl, ⟨r, rfl, hr⟩, rfl⟩ := q
    exact ⟨r, by omega, rfl⟩
  · obtain ⟨gs, rfl, W⟩ := hI
    refine sg_qp (ep_call1 (P := fun d => ∃ b, d = toD b ∧ Sml b) (i := 0) rfl () rfl trivial (fun r ⟨b, hr, S⟩ => ⟨_, hr, fz_toD _, b, rfl, S⟩)) fun d ⟨b, hd, S⟩ => ?_
    subst hd
    have hs : ∀ g ∈ gs ++ [b], Sml g := fun g hg => by
      rcases List.mem_append.mp hg with h | h
      · exact W.s g h
      · have : g = b := by simpa using h
        subst this; exact S
    have hD : DrR (gs ++ [b]) := ⟨fun g hg => (hs g hg).good.dr1, by have := W.n; simp; omega⟩
    have hcat : ∀ ⦃σ : L2.St⦄ ⦃H : Hp⦄ {Γ : GE}, At Γ 2 (.d (rowV gs)) → At Γ 4 (.d (toD b)) → Env K c H0 Γ σ H → EvD K (tOp (rCatA K) (tVar 2) (tTup (tCons (tVar 4) tNil))) σ H (rowV (gs ++ [b])) := fun σ H Γ h1 h2 e => ed_is (ed_cat (ds := gs.map toD) (es := [toD b]) (e.v h1) (ed_tup (ead_cons (e.v h2) ead_nil) (by simp)) (by rw [List.length_map]; have := W.n; simp; omega)) (by rw [rowV, List.map_append]; rfl)
    refine sg_un (d := ctrD (ctrs .tip (gs ++ [b]))) (EvH.fz (fun σ H e => ed_sizes (hcat rfl rfl e) hD) (fz_ctr _)) (gt_four rfl) ?_
    refine sg_last (sg_when (b := decide ((((ctrs .tip (gs ++ [b])).1 : Nat) : Int) + (((ctrs .tip (gs ++ [b])).2.1 : Nat) : Int) ≤ 120)) (fun σ H e => Evl.et_test (ev_leI (ed_addI (e.v rfl) (e.v rfl)) ed_int)) (fun hb => ?_) (fun hb => ?_))
    · rw [decide_eq_true_eq] at hb
      exact sg_q (d := rowV (gs ++ [b])) (EvH.fz (fun σ H e => hcat rfl rfl e) (fz_row1 _)) (sg_nx ⟨_, .keep (.keep (.keep (.drop (.drop (.drop (.drop (.drop (.drop .nil)))))))), gs ++ [b], rfl, ⟨by have := W.n; simp; omega, hs, by omega⟩⟩)
    · exact sg_nx ⟨_, .keep (.keep (.keep (.drop (.drop (.drop (.drop (.drop (.drop .nil)))))))), gs, rfl, ⟨by have := W.n; omega, W.s, W.few⟩⟩
  · obtain ⟨gs, rfl, W⟩ := hI
    exact sg_ret (d := rowV gs) (fun σ H e => e.v rfl) ⟨gs, rfl, ⟨by have := W.n; omega, W.s, W.few⟩⟩
end
end Bk

namespace Bk
open PySem PySem.Spec PyProof.Rows L2
open Evl (Ex Ev EvT EvL EvU EvA)
/-! ### bushes by hand -/
def fB : Bu := .knot 102 [.tip, .tip]
def sB : Bu := .knot 115 [.tip]
def ffB : Bu := .knot 102 [fB, .tip]
def sfB : Bu := .knot 102 [sB, fB, .tip]
section
variable {K : PySem.W.Frag} {te : TE} {E : XK} {σ : L2.St} {H : Hp}
theorem ed_chainL {n : Nat} {m : Int} (hm : m = (n : Int)) (hn : n ≤ 60) : EvD K (tCall (spChain K) [] E (tCons (tC (.int m)) tNil)) σ H (toD (chB n)) := fun H1 a R r => ⟨n, by rw [hm]; rfl, hn, fun v H' e3 hx => r _ H' e3 hx⟩
theorem ed_greatL {n : Nat} {m : Int} (hm : m = (n : Int)) (hn : n ≤ 60) : EvD K (tCall (spGreat K) [] E (tCons (tC (.int m)) tNil)) σ H (toD (greatN n)) := fun H1 a R r => ⟨n, by rw [hm]; rfl, hn, fun v H' e3 hx => r _ H' e3 hx⟩
end
end Bk

namespace Bk
open PySem PySem.Spec PyProof.Rows L2
open Evl (Ex Ev EvT EvL EvU EvA)
/-! ### k33: the law -/
theorem cpl_same (a : Bu) (l m : List Bu) : cpl (a :: l) (a :: m) = cpl l m + 1 := by rw [cpl, if_pos (sameB_iff.mpr rfl)]
theorem cpl_unlike {a b : Bu} (h : a ≠ b) (l m : List Bu) : cpl (a :: l) (b :: m) = 0 := by rw [cpl, if_neg fun z => h (sameB_iff.mp z)]
theorem cpl_nil (m : List Bu) : cpl [] m = 0 := by rw [cpl]; intro a l' b m' h; cases h
theorem cpl_nil2 (l : List Bu) : cpl l [] = 0 := by rw [cpl]; intro a l' b m' _ h; cases h
theorem cpl_self : ∀ l : List Bu, cpl l l = l.length
  | [] => cpl_nil []
  | a :: l => by rw [cpl_same, cpl_self l]; rfl
theorem fs_ne : fB ≠ sB := by intro h; cases h
theorem sf_ne : sB ≠ fB := by intro h; cases h
theorem x_f1 : firstOf [sB, fB] [sB, sB] = [sB] := by unfold firstOf; rw [cpl_same, cpl_unlike fs_ne]; rfl
theorem x_l1 : lastOf [sB, fB] [fB, fB] = [fB] := by
  unfold lastOf
  rw [show [sB, fB].reverse = [fB, sB] from rfl, show [fB, fB].reverse = [fB, fB] from rfl, cpl_same, cpl_unlike sf_ne]; rfl
theorem x_f2 : firstOf [fB] [sB] = [] := by unfold firstOf; rw [cpl_unlike fs_ne]; rfl
theorem x_l2 : lastOf [] [fB] = [] := by unfold lastOf; simp
theorem x_l3 : lastOf [fB, sB, fB] [sB, fB] = [sB, fB] := by
  unfold lastOf
  rw [show [fB, sB, fB].reverse = [fB, sB, fB] from rfl, show [sB, fB].reverse = [fB, sB] from rfl, cpl_same, cpl_same, cpl_nil2]; rfl
theorem firstOf_self (l : List Bu) : firstOf l l = l := by unfold firstOf; rw [cpl_self, List.take_length]
theorem lastOf_self (l : List Bu) : lastOf l l = l := by unfold lastOf; rw [cpl_self, List.length_reverse, Nat.sub_self, List.drop_zero]
theorem x_b1 : btw [fB, sB, fB] [fB] [fB] = true := btw_iff.mpr ⟨[sB], rfl⟩
theorem x_b2 : btw [fB] [fB] [fB] = false := Bool.eq_false_iff.mpr fun h => by
  obtain ⟨m, h⟩ := btw_iff.mp h
  have := congrArg List.length h
  simp only [List.length_append, List.length_cons, List.length_nil] at this
  omega
theorem x_b3 : btw [fB] [fB] [] = true := btw_iff.mpr ⟨[], rfl⟩
theorem x_b4 : btw [] [] [] = true := btw_iff.mpr ⟨[], rfl⟩
theorem x_b5 : btw [fB, sB] [] [sB] = true := btw_iff.mpr ⟨[fB], rfl⟩
theorem x_b6 : btw [fB, sB] [] [] = true := btw_iff.mpr ⟨[fB, sB], rfl⟩
theorem x_b7 : btw [fB, sB] [sB] [] = false := Bool.eq_false_iff.mpr fun h => by
  obtain ⟨m, h⟩ := btw_iff.mp h
  simp only [List.append_nil, List.cons_append, List.nil_append, List.cons.injEq] at h
  exact fs_ne h.1
def X1 : Bu := .knot 102 [sB, fB]
def X2 : Bu := .knot 102 [sB, .tip]
def X3 : Bu := .knot 102 [fB, sB]
theorem X1_good : Good X1 := goodB_of (by decide +kernel)
theorem X2_good : Good X2 := goodB_of (by decide +kernel)
theorem X3_good : Good X3 := goodB_of (by decide +kernel)
theorem X2_primes : primes X2 = [X2] := primes_one X2_good.ok (by decide +kernel)
theorem X1_notL (g : Bu) : grow X2 g ≠ X1 := fun h => by
  have e : grow X2 g = .knot 102 [grow sB g, g] := by simp [X2, grow, growL]
  rw [e, X1] at h
  injection h with _ h
  injection h with h1 h2
  injection h2 with h2 _
  subst h2
  have e2 : grow sB fB = .knot 115 [fB] := by simp [sB, grow, growL]
  rw [e2] at h1
  exact absurd h1 (by intro z; cases z)
theorem X1_notR (a : Bu) : grow a X2 ≠ X1 := fun h => by
  cases a with
  | tip =>
    have e : grow .tip X2 = X2 := by simp [grow]
    rw [e] at h
    exact absurd h (by intro z; cases z)
  | knot c as =>
    have e : grow (.knot c as) X2 = .knot c (growL as X2) := by simp [grow]
    rw [e, X1, growL_map] at h
    injection h with _ h
    cases as with
    | nil => cases h
    | cons a1 as =>
      rw [List.map_cons] at h
      injection h with h1 _
      cases a1 with
      | tip =>
        have e : grow .tip X2 = X2 := by simp [grow]
        rw [e] at h1
        exact absurd h1 (by intro z; cases z)
      | knot d ds =>
        have e : grow (.knot d ds) X2 = .knot d (growL ds X2) := by simp [grow]
        rw [e, sB, growL_map] at h1
        injection h1 with _ h1
        cases ds with
        | nil => cases h1
        | cons d1 ds =>
          rw [List.map_cons] at h1
          injection h1 with h2 _
          cases d1 with
          | tip =>
            have e : grow .tip X2 = X2 := by simp [grow]
            rw [e] at h2
            exact absurd h2 (by intro z; cases z)
          | knot k ks =>
            have e : grow (.knot k ks) X2 = .knot k (growL ks X2) := by simp [grow]
            rw [e] at h2
            cases h2
theorem x_f4 : firstOf (primes X1) (primes X2) = [] := by
  rw [X2_primes]
  have hp := prod_primes X1_good.ok
  cases hq : primes X1 with
  | nil => unfold firstOf; simp
  | cons q l =>
    unfold firstOf
    rw [cpl_unlike ?_, List.take_zero]
    intro z
    subst z
    rw [hq, prod_cons] at hp
    exact X1_notL _ hp
theorem x_l4 : lastOf (primes X1) (primes X2) = [] := by
  rw [X2_primes]
  have hp := prod_primes X1_good.ok
  unfold lastOf
  cases hq : (primes X1).reverse with
  | nil =>
    have : primes X1 = [] := List.reverse_eq_nil_iff.mp hq
    rw [this]; simp
  | cons q l =>
    rw [show [X2].reverse = [X2] from rfl, cpl_unlike ?_, Nat.sub_zero, List.drop_length]
    intro z
    subst z
    have e : primes X1 = l.reverse ++ [X2] := by
      have := congrArg List.reverse hq
      rw [List.reverse_reverse, List.reverse_cons] at this
      exact this
    rw [e, prod_app] at hp
    have e2 : growAll .tip [X2] = X2 := by rw [prod_cons]; show grow X2 .tip = X2; exact grow_tip X2
    rw [e2] at hp
    exact X1_notR _ hp
def wordsOf (s o t : List Bu) : List (List Bu) := [s ++ o, s ++ t, o ++ s, t ++ s, o ++ t, s]
def psOf (s o t : List Bu) : List (PyData × Bool) := (wordsOf s o t).map fun gs => (rowV gs, fits250 (ctrs .tip gs))
theorem wor_of {gs : List Bu} (hs : ∀ g ∈ gs, Sml g) (hn : gs.length ≤ 12) (h : fits250 (ctrs .tip gs) = true) : Wor gs := by
  refine ⟨hs, fits_can ⟨fun g hg => (hs g hg).good, hn⟩ ?_⟩
  unfold fits250 at h
  unfold fitsB
  rw [Bool.and_eq_true, decide_eq_true_eq, decide_eq_true_eq] at h ⊢
  exact ⟨by omega, h.2⟩
theorem wrd_fits {n : Nat} {gs : List Bu} (h : Wrd n gs) (hn : n ≤ 12) : fits250 (ctrs .tip gs) = true := by
  have hok : ∀ g ∈ gs, okB g = true := fun g hg => (h.s g hg).ok
  have hd : ∀ (l : List Bu), (∀ g ∈ l, Sml g) → dep (growAll .tip l) ≤ 2 * l.length := by
    intro l
    induction l with
    | nil => intro _; exact Nat.zero_le _
    | cons g l ih =>
      intro hl
      have h1 := ih fun y hy => hl y (List.mem_cons_of_mem _ hy)
      have h2 := hl g List.mem_cons_self
      rw [prod_cons, dep_grow _ _ h2.ok, List.length_cons]
      have := h2.dp
      omega
  have h3 := hd gs h.s
  have h4 := h.n
  have h5 := h.few
  unfold fits250
  rw [Bool.and_eq_true, decide_eq_true_eq, decide_eq_true_eq]
  refine ⟨by omega, ?_⟩
  rw [ctrs_rn hok]
  dsimp only
  omega
theorem words_sml {s o t : List Bu} (h1 : Wrd 2 s) (h2 : Wrd 2 o) (h3 : Wrd 2 t) : ∀ gs ∈ wordsOf s o t, (∀ g ∈ gs, Sml g) ∧ gs.length ≤ 4 := by
  have l1 := h1.n
  have l2 := h2.n
  have l3 := h3.n
  have two : ∀ {a b : List Bu}, (∀ g ∈ a, Sml g) → (∀ g ∈ b, Sml g) → ∀ g ∈ a ++ b, Sml g := fun ha hb g hg => by
    rcases List.mem_append.mp hg with h | h
    · exact ha g h
    · exact hb g h
  intro gs hg
  simp only [wordsOf, List.mem_cons, List.not_mem_nil, or_false] at hg
  rcases hg with rfl | rfl | rfl | rfl | rfl | rfl
  · exact ⟨two h1.s h2.s, by rw [List.length_append]; omega⟩
  · exact ⟨two h1.s h3.s, by rw [List.length_append]; omega⟩
  · exact ⟨two h2.s h1.s, by rw [List.length_append]; omega⟩
  · exact ⟨two h3.s h1.s, by rw [List.length_append]; omega⟩
  · exact ⟨two h2.s h3.s, by rw [List.length_append]; omega⟩
  · exact ⟨h1.s, by omega⟩
def keptOf (s o t : List Bu) : List PyData := ((psOf s o t).filter (·.2)).map (·.1)
theorem kept_wor {s o t : List Bu} (h1 : Wrd 2 s) (h2 : Wrd 2 o) (h3 : Wrd 2 t) : ∀ d ∈ keptOf s o t, ∃ gs, d = rowV gs ∧ Wor gs := by
  intro d hd
  obtain ⟨p, hp, rfl⟩ := List.mem_map.mp hd
  obtain ⟨hp1, hp2⟩ := List.mem_filter.mp hp
  obtain ⟨gs, hg, rfl⟩ := List.mem_map.mp hp1
  obtain ⟨a, b⟩ := words_sml h1 h2 h3 gs hg
  exact ⟨gs, rfl, wor_of a (by omega) hp2⟩
theorem kept_len {s o t : List Bu} (h1 : Wrd 2 s) : 1 ≤ (keptOf s o t).length ∧ (keptOf s o t).length ≤ 1000 := by
  constructor
  · have hm : rowV s ∈ keptOf s o t := List.mem_map.mpr ⟨(rowV s, fits250 (ctrs .tip s)), List.mem_filter.mpr ⟨List.mem_map.mpr ⟨s, by simp [wordsOf], rfl⟩, wrd_fits h1 (by decide)⟩, rfl⟩
    exact List.length_pos_iff.mpr (List.ne_nil_of_mem hm)
  · unfold keptOf
    rw [List.length_map]
    refine Nat.le_trans (List.length_filter_le _ _) ?_
    simp [psOf, wordsOf]
section
variable {K : PySem.W.Frag} {c : Option Addr} {H0 : Hp} {Γ : GE} {te tb tl tm : TE} {E : XK} {σ : L2.St} {H : Hp} {gs hs : List Bu} {i : Nat}
theorem ep_word {n : Nat} (hi : At Γ i .cup) (hm : EvH K c H0 tm Γ (.int (n : Int))) (hn : n ≤ 4) : EvP K c H0 (tCall (spWord K) [] E (tCons (tVar i) (tCons tm tNil))) Γ (fun d => ∃ gs, d = rowV gs ∧ Wrd n gs) :=
  ep_call hi (eap_cons (EvH.p hm rfl) eap_nil) fun ds q => by
    obtain ⟨d, l, rfl, rfl, rfl⟩ := q
    exact ⟨n, rfl, rfl, hn, rfl, fun r ⟨gs, hr, W⟩ => ⟨_, hr, fz_row1 _, gs, rfl, W⟩⟩
theorem ed_catR (h1 : EvD K te σ H (rowV gs)) (h2 : EvD K tb σ H (rowV hs)) (hz : gs.length + hs.length ≤ 100000) : EvD K (tOp (rCatA K) te tb) σ H (rowV (gs ++ hs)) := ed_is (ed_cat (ds := gs.map toD) (es := hs.map toD) h1 h2 (by rw [List.length_map, List.length_map]; exact hz)) (by rw [rowV, List.map_append])
theorem ed_right33 (h1 : EvD K te σ H (rowV gs)) (h2 : EvD K tb σ H (rowV hs)) (w1 : Wor gs) (w2 : Wor hs) : EvD K (tCall (spRight33 K) [] E (tCons te (tCons tb tNil))) σ H (.bool true) :=
  ed_callE (ds := [rowV gs, rowV hs]) (enc := fun z : List Bu × List Bu => [.d (rowV z.1), .d (rowV z.2)]) (gs, hs) (ead_cons h1 (ead_cons h2 ead_nil)) rfl (by rw [show fzA [rowV gs, rowV hs] = (fz (rowV gs) && (fz (rowV hs) && true)) from rfl, fz_row1, fz_row1]; rfl) ⟨w1, w2⟩ (fun r hr => hr)
theorem ed_bt33 {w a b : List Bu} (h1 : EvD K te σ H (rowV w)) (h2 : EvD K tb σ H (rowV a)) (h3 : EvD K tm σ H (rowV b)) (w1 : Wor w) (w2 : Wor a) (w3 : Wor b) : EvD K (tCall (spBt33 K) [] E (tCons te (tCons tb (tCons tm tNil)))) σ H (.bool true) :=
  ed_callE (ds := [rowV w, rowV a, rowV b]) (enc := fun z : List Bu × List Bu × List Bu => [.d (rowV z.1), .d (rowV z.2.1), .d (rowV z.2.2)]) (w, a, b) (ead_cons h1 (ead_cons h2 (ead_cons h3 ead_nil))) rfl (by rw [show fzA [rowV w, rowV a, rowV b] = (fz (rowV w) && (fz (rowV a) && (fz (rowV b) && true))) from rfl, fz_row1, fz_row1, fz_row1]; rfl) ⟨w1, w2, w3⟩ (fun r hr => hr)
theorem ed_firstX {a b r : Bu} (h : EvD K te σ H (toD a)) (h2 : EvD K tb σ H (toD b)) (ga : Good a) (gb : Good b) (hr : growAll .tip (firstOf (primes a) (primes b)) = r) : EvD K (tCall (spFirst K) [] E (tCons te (tCons tb tNil))) σ H (toD r) :=
  ed_callE (ds := [toD a, toD b]) (enc := fun z : Bu × Bu => [.d (toD z.1), .d (toD z.2)]) (a, b) (ead_cons h (ead_cons h2 ead_nil)) rfl (by simp [fzA, fz_toD]) ⟨ga, gb⟩ (fun x hx => by dsimp only at hx; rw [hr] at hx; exact hx)
theorem ed_lastX {a b r : Bu} (h : EvD K te σ H (toD a)) (h2 : EvD K tb σ H (toD b)) (ga : Good a) (gb : Good b) (hr : growAll .tip (lastOf (primes a) (primes b)) = r) : EvD K (tCall (spLast K) [] E (tCons te (tCons tb tNil))) σ H (toD r) :=
  ed_callE (ds := [toD a, toD b]) (enc := fun z : Bu × Bu => [.d (toD z.1), .d (toD z.2)]) (a, b) (ead_cons h (ead_cons h2 ead_nil)) rfl (by simp [fzA, fz_toD]) ⟨ga, gb⟩ (fun x hx => by dsimp only at hx; rw [hr] at hx; exact hx)
theorem ed_betwX (h : EvD K te σ H (toD X3)) (h2 : EvD K tb σ H (toD fB)) (h3 : EvD K tm σ H (toD .tip)) : EvD K (tCall (spBetw K) [] E (tCons te (tCons tb (tCons tm tNil)))) σ H .none :=
  ed_callE (ds := [toD X3, toD fB, toD .tip]) (enc := fun z : Bu × Bu × Bu => [.d (toD z.1), .d (toD z.2.1), .d (toD z.2.2)]) (X3, fB, .tip) (ead_cons h (ead_cons h2 (ead_cons h3 ead_nil))) rfl (by simp [fzA, fz_toD]) ⟨X3_good, goodB_of (by decide +kernel), goodB_of (by decide +kernel)⟩ (fun r hr => by
    rcases hr with ⟨rfl, _⟩ | ⟨m, rfl, _, h⟩
    · rfl
    · exfalso
      dsimp only at h
      rw [grow_tip] at h
      have e : grow fB m = .knot 102 [m, m] := by simp [fB, grow, growL]
      rw [e, X3] at h
      injection h with _ h
      injection h with h1 h2
      injection h2 with h2 _
      rw [h1] at h2
      exact fs_ne h2)
end
theorem w_sf : Wor [sB, fB] := worB_of (by decide +kernel)
theorem w_ss : Wor [sB, sB] := worB_of (by decide +kernel)
theorem w_ff : Wor [fB, fB] := worB_of (by decide +kernel)
theorem w_f : Wor [fB] := worB_of (by decide +kernel)
theorem w_s : Wor [sB] := worB_of (by decide +kernel)
theorem w_0 : Wor [] := worB_of (by decide +kernel)
theorem w_fsf : Wor [fB, sB, fB] := worB_of (by decide +kernel)
theorem w_fs : Wor [fB, sB] := worB_of (by decide +kernel)
end Bk

namespace Bk
open PySem PySem.Spec PyProof.Rows L2
open Evl (Ex Ev EvT EvL EvU EvA)
section
variable {P : Program} {w : World} {K : PySem.W.Frag} {mg : Str → Option Value} {base : Heap}
theorem ok_law (T : Tx K mg) : FnG P w K mg base CX0 120 T.a_law T.d_law ["_law_script"] (spLaw K) := by
  have g_law_cup : FnOk P w K mg base CX0 1 T.a_law_cup T.d_law_cup P_law_cup (spCup K) := ok_cup T
  have g_law_word : FnOk P w K mg base CX0 5 T.a_law_word T.d_law_word P_law_word (spWord K) := ok_word T
  have g_law_fits : FnOk P w K mg base CX0 6 T.a_law_fits T.d_law_fits P_law_fits (spFits250 K) := ok_fits250 T
  have g_law_right : FnOk P w K mg base CX0 66 T.a_law_right T.d_law_right P_law_right (spRight33 K) := ok_right33 T
  have g_law_some : FnOk P w K mg base CX0 2 T.a_law_some T.d_law_some P_law_some (spSomeL K) := ok_someL T
  have g_law_roll : FnOk P w K mg base CX0 1 T.a_law_roll T.d_law_roll P_law_roll spRoll := ok_roll T
  have g_law_between : FnOk P w K mg base CX0 66 T.a_law_between T.d_law_between P_law_between (spBt33 K) := ok_bt33 T
  have g_shared_first : FnOk P w K mg base CX0 64 T.a_shared_first T.d_shared_first P_shared_first (spFirst K) := ok_shared_first T
  have g_shared_last : FnOk P w K mg base CX0 64 T.a_shared_last T.d_shared_last P_shared_last (spLast K) := ok_shared_last T
  have g_put_between : FnOk P w K mg base CX0 62 T.a_put_between T.d_put_between P_put_between (spBetw K) := ok_put_between T
  refine Bk.Fun.okg T.F_law sc_law (fun vs H Q E h => ?_) (fun cdv A outer s H vs Q E hgd hr h => ?_)
  · obtain ⟨a, ns, rfl, _⟩ := h; rfl
  · obtain ⟨a, ns, rfl, hs, hl, hb, q⟩ := h
    have hu : (A.deeper (envOfC "law" (defScope s_law) s.heap.objs.size T.a_law cdv)).units + 64 < cLine := by have := hr.un; omega
    refine ⟨_, (pss_cons (ps_set (i := 1) sc_law.nd rfl (.inl rfl) (pe_call (g_law_cup.mono (by decide)) hr (by rfl) T.g_law_cup T.F_law_cup.kp T.b_law_cup .nil pass0 (pa_cons (pv 0) pa_nil)))
      (pss_cons (ps_for PassesOwn.never rfl (pi_range1 (by rfl) T.z_range (pa_cons pe_int pa_nil)) (pg_name (i := 2) sc_law.nd rfl (.inl rfl))
        (pss_cons (ps_par3 (i := 3) (j := 4) (l := 5) rfl sc_law.nd rfl rfl rfl (by decide) (by decide) (by decide) rfl rfl rfl (pa_cons (pe_call (g_law_word.mono (by decide)) hr (by rfl) T.g_law_word T.F_law_word.kp T.b_law_word .nil pass0 (pa_cons (pv 1) (pa_cons pe_int pa_nil))) (pa_cons (pe_call (g_law_word.mono (by decide)) hr (by rfl) T.g_law_word T.F_law_word.kp T.b_law_word .nil pass0 (pa_cons (pv 1) (pa_cons pe_int pa_nil))) (pa_cons (pe_call (g_law_word.mono (by decide)) hr (by rfl) T.g_law_word T.F_law_word.kp T.b_law_word .nil pass0 (pa_cons (pv 1) (pa_cons pe_int pa_nil))) pa_nil))) rfl)
      (pss_cons (ps_set (i := 6) sc_law.nd rfl (.inl rfl) (pe_lst (pa_cons (pe_op op_catA (pv 3) (pv 4)) (pa_cons (pe_op op_catA (pv 3) (pv 5)) (pa_cons (pe_op op_catA (pv 4) (pv 3)) (pa_cons (pe_op op_catA (pv 5) (pv 3)) (pa_cons (pe_op op_catA (pv 4) (pv 5)) (pa_cons (pv 3) pa_nil))))))))
      (pss_cons (ps_setLc (i := 6) (own := [("_law_word_here", 7)]) (g := (gName 7)) (tt := (tB (tCall (spFits250 K) [] E0 (tCons (tVar 7) tNil)))) (te := (tVar 7)) rfl sc_law.nd rfl rfl (sw_true rfl rfl rfl (by decide +kernel)) (pi_list (pv 6)) (blkOk_by (N := N_law) (sc := defScope s_law) (by decide +kernel)) (fun _ _ _ _ _ => (pg_name (i := 7) sc_law.nd rfl (Or.inl rfl))) (fun _ _ _ _ _ => pts_one (pt_val (pe_call (g_law_fits.mono (by decide)) hr (by rfl) T.g_law_fits T.F_law_fits.kp T.b_law_fits .nil pass0 (pa_cons (pv 7) pa_nil)))) (fun _ _ _ _ _ => (pv 7)))
      (pss_cons (ps_if (PW.pt (pw_or (pt_not (pt_val (pe_call (g_law_right.mono (by decide)) hr (by rfl) T.g_law_right T.F_law_right.kp T.b_law_right .nil pass0 (pa_cons (pe_call (g_law_some.mono (by decide)) hr (by rfl) T.g_law_some T.F_law_some.kp T.b_law_some .nil pass0 (pa_cons (pv 1) (pa_cons (pv 6) pa_nil))) (pa_cons (pe_call (g_law_some.mono (by decide)) hr (by rfl) T.g_law_some T.F_law_some.kp T.b_law_some .nil pass0 (pa_cons (pv 1) (pa_cons (pv 6) pa_nil))) pa_nil))))) (pw_or1 (pt_not (pt_val (pe_call (g_law_right.mono (by decide)) hr (by rfl) T.g_law_right T.F_law_right.kp T.b_law_right .nil pass0 (pa_cons (pe_call (g_law_some.mono (by decide)) hr (by rfl) T.g_law_some T.F_law_some.kp T.b_law_some .nil pass0 (pa_cons (pv 1) (pa_cons (pv 6) pa_nil))) (pa_cons (pe_call (g_law_some.mono (by decide)) hr (by rfl) T.g_law_some T.F_law_some.kp T.b_law_some .nil pass0 (pa_cons (pv 1) (pa_cons (pv 6) pa_nil))) pa_nil)))))))) (pss_one (ps_ret pe_bl)) pss_nil)
      (pss_cons (ps_set (i := 7) sc_law.nd rfl (.inl rfl) (pe_call (g_law_some.mono (by decide)) hr (by rfl) T.g_law_some T.F_law_some.kp T.b_law_some .nil pass0 (pa_cons (pv 1) (pa_cons (pv 6) pa_nil))))
      (pss_cons (ps_par (i := 8) (j := 9) rfl sc_law.nd rfl rfl (by decide) rfl rfl (pa_cons (pe_call (g_law_roll.mono (by decide)) hr (by rfl) T.g_law_roll T.F_law_roll.kp T.b_law_roll .nil pass0 (pa_cons (pv 1) (pa_cons (pe_op op_add (pe_callB call_len_seq (by rfl) T.z_len PySem.boot_len (pa_cons (pv 7) pa_nil)) pe_int) pa_nil))) (pa_cons (pe_call (g_law_roll.mono (by decide)) hr (by rfl) T.g_law_roll T.F_law_roll.kp T.b_law_roll .nil pass0 (pa_cons (pv 1) (pa_cons (pe_op op_add (pe_callB call_len_seq (by rfl) T.z_len PySem.boot_len (pa_cons (pv 7) pa_nil)) pe_int) pa_nil))) pa_nil)) rfl)
      (pss_one (ps_if (PW.pt (pw_or (pt_not (pt_val (pe_call (g_law_between.mono (by decide)) hr (by rfl) T.g_law_between T.F_law_between.kp T.b_law_between .nil pass0 (pa_cons (pv 7) (pa_cons (pe_slice sl_tupA (pv 7) po_none (po_some (pv 8))) (pa_cons (pe_slice sl_tupA (pv 7) (po_some (pv 9)) po_none) pa_nil)))))) (pw_or1 (pt_not (pt_val (pe_call (g_law_between.mono (by decide)) hr (by rfl) T.g_law_between T.F_law_between.kp T.b_law_between .nil pass0 (pa_cons (pv 7) (pa_cons (pv 3) (pa_cons (pv 5) pa_nil))))))))) (pss_one (ps_ret pe_bl)) pss_nil)))))))))
      (pss_cons (ps_asg (pe_tup (pa_cons (pe_tup (pa_cons pe_str (pa_cons (pe_tup pa_nil) (pa_cons (pe_tup pa_nil) pa_nil)))) (pa_cons (pe_tup (pa_cons pe_str (pa_cons (pe_tup pa_nil) pa_nil))) pa_nil))) (pg_tup rfl (pgs_cons (pg_name (i := 10) sc_law.nd rfl (.inl rfl)) (pgs_cons (pg_name (i := 11) sc_law.nd rfl (.inl rfl)) pgs_nil))))
      (pss_cons (ps_if (PW.pt (pw_or (pt_cmpR (op_neD hu) (pe_call (g_shared_first.mono (by decide)) hr (by rfl) T.g_shared_first T.F_shared_first.kp T.b_shared_first .nil pass0 (pa_cons (pe_tup (pa_cons pe_str (pa_cons (pv 10) pa_nil))) (pa_cons (pe_tup (pa_cons pe_str (pa_cons (pv 11) pa_nil))) pa_nil))) (pv 11) (nomark _)) (pw_or (pt_cmpR (op_neD hu) (pe_call (g_shared_last.mono (by decide)) hr (by rfl) T.g_shared_last T.F_shared_last.kp T.b_shared_last .nil pass0 (pa_cons (pe_tup (pa_cons pe_str (pa_cons (pv 10) pa_nil))) (pa_cons (pe_tup (pa_cons pe_str (pa_cons (pv 10) (pa_cons (pv 10) pa_nil)))) pa_nil))) (pv 10) (nomark _)) (pw_or (pt_cmpR (op_neD hu) (pe_call (g_shared_first.mono (by decide)) hr (by rfl) T.g_shared_first T.F_shared_first.kp T.b_shared_first .nil pass0 (pa_cons (pv 10) (pa_cons (pv 11) pa_nil))) (pe_tup pa_nil) (nomark _)) (pw_or1 (pt_cmpR (op_neD hu) (pe_call (g_shared_last.mono (by decide)) hr (by rfl) T.g_shared_last T.F_shared_last.kp T.b_shared_last .nil pass0 (pa_cons (pe_tup pa_nil) (pa_cons (pv 10) pa_nil))) (pe_tup pa_nil) (nomark _))))))) (pss_one (ps_ret pe_bl)) pss_nil)
      (pss_cons (ps_if (PW.pt (pw_or (pt_cmpR (op_neD hu) (pe_call (g_put_between.mono (by decide)) hr (by rfl) T.g_put_between T.F_put_between.kp T.b_put_between .nil pass0 (pa_cons (pe_tup (pa_cons pe_str (pa_cons (pe_tup (pa_cons pe_str (pa_cons (pv 10) pa_nil))) (pa_cons (pe_tup (pa_cons pe_str (pa_cons (pv 10) pa_nil))) pa_nil)))) (pa_cons (pv 10) (pa_cons (pv 10) pa_nil)))) (pv 11) (nomark _)) (pw_or (pt_cmpR op_notN0 (pe_call (g_put_between.mono (by decide)) hr (by rfl) T.g_put_between T.F_put_between.kp T.b_put_between .nil pass0 (pa_cons (pv 10) (pa_cons (pv 10) (pa_cons (pv 10) pa_nil)))) pe_non (nomark _)) (pw_or (pt_cmpR (op_neD hu) (pe_call (g_put_between.mono (by decide)) hr (by rfl) T.g_put_between T.F_put_between.kp T.b_put_between .nil pass0 (pa_cons (pv 10) (pa_cons (pv 10) (pa_cons (pe_tup pa_nil) pa_nil)))) (pe_tup pa_nil) (nomark _)) (pw_or1 (pt_cmpR (op_neD hu) (pe_call (g_put_between.mono (by decide)) hr (by rfl) T.g_put_between T.F_put_between.kp T.b_put_between .nil pass0 (pa_cons (pe_tup pa_nil) (pa_cons (pe_tup pa_nil) (pa_cons (pe_tup pa_nil) pa_nil)))) (pe_tup pa_nil) (nomark _))))))) (pss_one (ps_ret pe_bl)) pss_nil)
      (pss_cons (ps_par (i := 4) (j := 5) rfl sc_law.nd rfl rfl (by decide) rfl rfl (pa_cons (pe_tup (pa_cons pe_str (pa_cons (pv 11) (pa_cons (pv 10) pa_nil)))) (pa_cons (pe_tup (pa_cons pe_str (pa_cons (pv 11) (pa_cons (pe_tup pa_nil) pa_nil)))) pa_nil)) rfl)
      (pss_cons (ps_if (PW.pt (pw_or (pt_cmpR (op_neD hu) (pe_call (g_shared_first.mono (by decide)) hr (by rfl) T.g_shared_first T.F_shared_first.kp T.b_shared_first .nil pass0 (pa_cons (pv 4) (pa_cons (pv 5) pa_nil))) (pe_tup pa_nil) (nomark _)) (pw_or (pt_cmpR (op_neD hu) (pe_call (g_shared_last.mono (by decide)) hr (by rfl) T.g_shared_last T.F_shared_last.kp T.b_shared_last .nil pass0 (pa_cons (pv 4) (pa_cons (pv 5) pa_nil))) (pe_tup pa_nil) (nomark _)) (pw_or (pt_cmpR (op_neD hu) (pe_call (g_shared_first.mono (by decide)) hr (by rfl) T.g_shared_first T.F_shared_first.kp T.b_shared_first .nil pass0 (pa_cons (pv 4) (pa_cons (pv 4) pa_nil))) (pv 4) (nomark _)) (pw_or1 (pt_cmpR (op_neD hu) (pe_call (g_shared_last.mono (by decide)) hr (by rfl) T.g_shared_last T.F_shared_last.kp T.b_shared_last .nil pass0 (pa_cons (pv 4) (pa_cons (pv 4) pa_nil))) (pv 4) (nomark _))))))) (pss_one (ps_ret pe_bl)) pss_nil)
      (pss_cons (ps_if (PW.pt (pw_or (pt_cmpR (op_neD hu) (pe_call (g_put_between.mono (by decide)) hr (by rfl) T.g_put_between T.F_put_between.kp T.b_put_between .nil pass0 (pa_cons (pe_tup (pa_cons pe_str (pa_cons (pv 11) (pa_cons (pv 11) pa_nil)))) (pa_cons (pe_tup pa_nil) (pa_cons (pv 11) pa_nil)))) (pv 10) (nomark _)) (pw_or (pt_cmpR (op_neD hu) (pe_call (g_put_between.mono (by decide)) hr (by rfl) T.g_put_between T.F_put_between.kp T.b_put_between .nil pass0 (pa_cons (pe_tup (pa_cons pe_str (pa_cons (pv 11) (pa_cons (pv 11) pa_nil)))) (pa_cons (pe_tup pa_nil) (pa_cons (pe_tup pa_nil) pa_nil)))) (pe_tup (pa_cons pe_str (pa_cons (pv 11) (pa_cons (pv 11) pa_nil)))) (nomark _)) (pw_or1 (pt_cmpR op_notN0 (pe_call (g_put_between.mono (by decide)) hr (by rfl) T.g_put_between T.F_put_between.kp T.b_put_between .nil pass0 (pa_cons (pe_tup (pa_cons pe_str (pa_cons (pv 11) (pa_cons (pv 11) pa_nil)))) (pa_cons (pv 11) (pa_cons (pe_tup pa_nil) pa_nil)))) pe_non (nomark _)))))) (pss_one (ps_ret pe_bl)) pss_nil)
      (pss_one (ps_ret (pe_and (pe_cmpR op_isN0 (pe_call (g_put_between.mono (by decide)) hr (by rfl) T.g_put_between T.F_put_between.kp T.b_put_between .nil pass0 (pa_cons (pe_tup (pa_cons pe_str (pa_cons (pv 10) (pa_cons (pv 11) pa_nil)))) (pa_cons (pv 10) (pa_cons (pe_tup pa_nil) pa_nil)))) pe_non (nomark _)) (pe_one (pe_cmpR (op_eqD hu) (pe_call (g_shared_last.mono (by decide)) hr (by rfl) T.g_shared_last T.F_shared_last.kp T.b_shared_last .nil pass0 (pa_cons (pe_tup (pa_cons pe_str (pa_cons (pe_tup (pa_cons pe_str (pa_cons (pv 10) pa_nil))) (pa_cons (pe_tup (pa_cons pe_str (pa_cons (pv 10) pa_nil))) pa_nil)))) (pa_cons (pe_tup (pa_cons pe_str (pa_cons (pv 10) pa_nil))) pa_nil))) (pe_tup (pa_cons pe_str (pa_cons (pv 10) pa_nil))) (nomark _)))))))))))))), ?_⟩
    refine sg_cup (n := 10) hs hl hb q fun c H1 => ?_
    have tip : ∀ {σ : L2.St} {H : Hp}, EvD K (tTup tNil) σ H (toD .tip) := ed_tup ead_nil (by decide)
    refine sg_forR (n := 3) (fun _ => [none, some .cup, none, none, none, none, none, none, none, none, none, none]) (fun σ H e => Evl.ea_cons Evl.ev_c Evl.ea_nil) (by decide) (Fg.refl _) (fun i hi => ?_) ?_
    · refine sg_par3p (eap_cons (ep_word (n := 2) rfl (fun σ H e => ed_int) (by decide)) (eap_cons (ep_word (n := 2) rfl (fun σ H e => ed_int) (by decide)) (eap_cons (ep_word (n := 2) rfl (fun σ H e => ed_int) (by decide)) eap_nil))) (fun ds q => ?_) (fun d1 d2 d3 q => ?_)
      · obtain ⟨d1, l1, rfl, _, d2, l2, rfl, _, d3, l3, rfl, _, rfl⟩ := q
        exact ⟨_, _, _, rfl⟩
      obtain ⟨e1, l1, h1, ⟨s', h2, W1⟩, e2, l2, h3, ⟨o, h4, W2⟩, e3, l3, h5, ⟨t, h6, W3⟩, h7⟩ := q
      cases h1
      cases h3
      cases h5
      subst h2
      subst h4
      subst h6
      have n1 := W1.n
      have n2 := W2.n
      have n3 := W3.n
      refine sg_q (d := .list [rowV (s' ++ o), rowV (s' ++ t), rowV (o ++ s'), rowV (t ++ s'), rowV (o ++ t), rowV s']) (EvO.ls (eo_lst (ds := [rowV (s' ++ o), rowV (s' ++ t), rowV (o ++ s'), rowV (t ++ s'), rowV (o ++ t), rowV s']) (fun σ H e => ead_cons (ed_catR (gs := s') (hs := o) (e.v rfl) (e.v rfl) (by omega)) (ead_cons (ed_catR (gs := s') (hs := t) (e.v rfl) (e.v rfl) (by omega)) (ead_cons (ed_catR (gs := o) (hs := s') (e.v rfl) (e.v rfl) (by omega)) (ead_cons (ed_catR (gs := t) (hs := s') (e.v rfl) (e.v rfl) (by omega)) (ead_cons (ed_catR (gs := o) (hs := t) (e.v rfl) (e.v rfl) (by omega)) (ead_cons (e.v (d := rowV s') rfl) ead_nil)))))) (by simp)) (by
        refine fzA_of fun d hd => ?_
        simp only [List.mem_cons, List.not_mem_nil, or_false] at hd
        rcases hd with rfl | rfl | rfl | rfl | rfl | rfl <;> exact fz_row1 _)) ?_
      have hfz : fzA (keptOf s' o t) = true := fzA_of fun d hd => by
        obtain ⟨gs, rfl, _⟩ := kept_wor W1 W2 W3 d hd
        exact fz_row1 gs
      refine sg_q (d := .list (keptOf s' o t)) (EvO.ls (eo_lcLf (ps := psOf s' o t) (j := 7) (eg_v rfl) (by simp [psOf, wordsOf]) (by simp) (fun σ H e p x H1 e1 hp hx => ?_)) hfz) ?_
      · obtain ⟨gs, hg, rfl⟩ := List.mem_map.mp hp
        obtain ⟨a1, a2⟩ := words_sml W1 W2 W3 gs hg
        have hlen := e.len
        exact Evl.et_B (ev_ofB (ed_callE (ds := [rowV gs]) (enc := fun gs : List Bu => [.d (rowV gs)]) gs (ead_cons (ed_var (by simp [wipe, hlen]) hx) ead_nil) rfl (by simp [fzA, fz_row1]) ⟨fun g hg => (a1 g hg).good.dr1, by omega⟩ (fun r hr => hr)))
      obtain ⟨k1, k2⟩ := kept_len (o := o) (t := t) W1
      have two : ∀ ds : List PyData, (∃ d l, ds = d :: l ∧ d ∈ keptOf s' o t ∧ ∃ d2 l2, l = d2 :: l2 ∧ d2 ∈ keptOf s' o t ∧ l2 = []) → ∃ x : List Bu × List Bu, (fun z : List Bu × List Bu => [AV.d (rowV z.1), AV.d (rowV z.2)]) x = ds.map AV.d ∧ fzA ds = true ∧ (Wor x.1 ∧ Wor x.2) ∧ ds.length = 2 ∧ ∀ r, r = AV.d (.bool true) → ∃ d, r = .d d ∧ fz d = true ∧ d = .bool true := fun ds q => by
        obtain ⟨d1, l1, rfl, m1, d2, l2, rfl, m2, rfl⟩ := q
        obtain ⟨g1, rfl, w1⟩ := kept_wor W1 W2 W3 d1 m1
        obtain ⟨g2, rfl, w2⟩ := kept_wor W1 W2 W3 d2 m2
        exact ⟨(g1, g2), rfl, by rw [show fzA [rowV g1, rowV g2] = (fz (rowV g1) && (fz (rowV g2) && true)) from rfl, fz_row1, fz_row1]; rfl, ⟨w1, w2⟩, rfl, fun r hr => ⟨_, hr, rfl, rfl⟩⟩
      refine sg_neverp (etp_orF (etp_not (b := true) (etp_B (ep_callN (eap_cons (ep_some rfl (eg_v rfl) k1 k2) (eap_cons (ep_some rfl (eg_v rfl) k1 k2) eap_nil)) two))) (etp_not (b := true) (etp_B (ep_callN (eap_cons (ep_some rfl (eg_v rfl) k1 k2) (eap_cons (ep_some rfl (eg_v rfl) k1 k2) eap_nil)) two)))) ?_
      refine sg_qp (ep_some rfl (eg_v rfl) k1 k2) fun d hd => ?_
      obtain ⟨wd, rfl, Wd⟩ := kept_wor W1 W2 W3 d hd
      have nw := Wd.c.n
      refine sg_parp (eap_cons (ep_roll (m := wd.length + 1) rfl (fun σ H e => ed_is (ed_addI (ed_len (ds := wd.map toD) (e.v rfl)) ed_int) (by rw [List.length_map]; congr 1)) (by omega) (by omega)) (eap_cons (ep_roll (m := wd.length + 1) rfl (fun σ H e => ed_is (ed_addI (ed_len (ds := wd.map toD) (e.v rfl)) ed_int) (by rw [List.length_map]; congr 1)) (by omega) (by omega)) eap_nil)) (fun ds q => ?_) (fun d1 d2 q => ?_)
      · obtain ⟨d1, l1, rfl, _, d2, l2, rfl, _, rfl⟩ := q; exact ⟨_, _, rfl⟩
      obtain ⟨e1, l1, h1, ⟨r1, h2, _⟩, e2, l2, h3, ⟨r2, h4, _⟩, h5⟩ := q
      cases h1
      cases h3
      subst h2
      subst h4
      have Ws : Wor s' := wor_of W1.s (by omega) (wrd_fits W1 (by decide))
      have Wt : Wor t := wor_of W3.s (by omega) (wrd_fits W3 (by decide))
      refine sg_last (sg_neverp (etp_orF (etp_not (b := true) (etp_B (EvH.p (d := .bool true) (fun σ H e => ed_bt33 (w := wd) (a := wd.take r1) (b := wd.drop r2) (e.v rfl) (ed_is (ed_slTo (k := r1) (ds := wd.map toD) (e.v rfl) (ev_ofI (e.v rfl))) (by rw [rowV, List.map_take])) (ed_is (ed_slFrom (k := r2) (ds := wd.map toD) (e.v rfl) (ev_ofI (e.v rfl))) (by rw [rowV, List.map_drop])) Wd (Wd.pre _) (Wd.suf _)) rfl)))
        (etp_not (b := true) (etp_B (EvH.p (d := .bool true) (fun σ H e => ed_bt33 (w := wd) (a := s') (b := t) (e.v rfl) (e.v rfl) (e.v rfl) Wd Ws Wt) rfl)))) (sg_nx ?_))
      exact .keep (.keep (.drop (.drop (.drop (.drop (.drop (.drop (.drop (.drop (Fg.refl _))))))))))
    · refine sg_un (d := .tuple [toD fB, toD sB]) (EvH.fz (fun σ H e => ed_is (ed_tup (ead_cons (ed_tup (ead_cons ed_str (ead_cons (ed_tup ead_nil (by decide)) (ead_cons (ed_tup ead_nil (by decide)) ead_nil))) (by simp)) (ead_cons (ed_tup (ead_cons ed_str (ead_cons (ed_tup ead_nil (by decide)) ead_nil)) (by simp)) ead_nil)) (by simp)) rfl) (by simp [fz, fzA, fz_toD])) (gt_two rfl) ?_
      have one : ∀ {σ : L2.St} {H : Hp} {te : TE} {b : Bu} (x : Str), EvD K te σ H (toD b) → EvD K (tTup (tCons (tC (.str x)) (tCons te tNil))) σ H (.tuple [.str x, toD b]) := fun x h => ed_tup (ead_cons ed_str (ead_cons h ead_nil)) (by simp)
      have two2 : ∀ {σ : L2.St} {H : Hp} {te tb : TE} {b b2 : Bu} (x : Str), EvD K te σ H (toD b) → EvD K tb σ H (toD b2) → EvD K (tTup (tCons (tC (.str x)) (tCons te (tCons tb tNil)))) σ H (.tuple [.str x, toD b, toD b2]) := fun x h h2 => ed_tup (ead_cons ed_str (ead_cons h (ead_cons h2 ead_nil))) (by simp)
      have sh : ∀ {b : Bu}, Good b → SeqAt.shaped (toD b) = true := fun g => shaped_toD g.ok g.dep
      have gf : Good fB := goodB_of (by decide +kernel)
      have gs : Good sB := goodB_of (by decide +kernel)
      have gt : Good .tip := goodB_of (by decide +kernel)
      have gfs : Good (growAll .tip [fB, sB]) := w_fs.c.end_
      refine sg_never (fun σ H e => Evl.et_or (a := false) (b := false) (Evl.et_test (ev_neSelf (d := toD sB) (ed_is (ed_first (l := [sB, fB]) (m := [sB, sB]) (ed_is (one "s" (e.v (d := toD fB) rfl)) rfl) (ed_is (one "s" (e.v (d := toD sB) rfl)) rfl) w_sf w_ss) (by rw [x_f1]; rfl)) (e.v rfl) (sh gs)))
        fun _ => Evl.et_or (a := false) (b := false) (Evl.et_test (ev_neSelf (d := toD fB) (ed_is (ed_last (l := [sB, fB]) (m := [fB, fB]) (ed_is (one "s" (e.v (d := toD fB) rfl)) rfl) (ed_is (two2 "f" (e.v (d := toD fB) rfl) (e.v (d := toD fB) rfl)) rfl) w_sf w_ff) (by rw [x_l1]; rfl)) (e.v rfl) (sh gf)))
        fun _ => Evl.et_or (a := false) (b := false) (Evl.et_test (ev_neSelf (d := toD .tip) (ed_is (ed_first (l := [fB]) (m := [sB]) (ed_is (e.v (d := toD fB) rfl) rfl) (ed_is (e.v (d := toD sB) rfl) rfl) w_f w_s) (by rw [x_f2]; rfl)) tip (sh gt)))
        fun _ => Evl.et_test (ev_neSelf (d := toD .tip) (ed_is (ed_last (l := []) (m := [fB]) (ed_is tip rfl) (ed_is (e.v (d := toD fB) rfl) rfl) w_0 w_f) (by rw [x_l2]; rfl)) tip (sh gt))) ?_
      refine sg_never (fun σ H e => Evl.et_or (a := false) (b := false) (Evl.et_test (ev_neSelf (d := toD sB) (ed_is (ed_betwT (w := [fB, sB, fB]) (a := [fB]) (b := [fB]) (ed_is (two2 (b := .knot 115 [fB]) (b2 := .knot 115 [fB]) "f" (ed_is (one "s" (e.v (d := toD fB) rfl)) rfl) (ed_is (one "s" (e.v (d := toD fB) rfl)) rfl)) rfl) (ed_is (e.v (d := toD fB) rfl) rfl) (ed_is (e.v (d := toD fB) rfl) rfl) w_fsf w_f w_f x_b1) rfl) (e.v rfl) (sh gs)))
        fun _ => Evl.et_or (a := false) (b := false) (Evl.et_test (ev_notN0 (ed_betwF (w := [fB]) (a := [fB]) (b := [fB]) (ed_is (e.v (d := toD fB) rfl) rfl) (ed_is (e.v (d := toD fB) rfl) rfl) (ed_is (e.v (d := toD fB) rfl) rfl) w_f w_f w_f x_b2)))
        fun _ => Evl.et_or (a := false) (b := false) (Evl.et_test (ev_neSelf (d := toD .tip) (ed_is (ed_betwT (w := [fB]) (a := [fB]) (b := []) (ed_is (e.v (d := toD fB) rfl) rfl) (ed_is (e.v (d := toD fB) rfl) rfl) (ed_is tip rfl) w_f w_f w_0 x_b3) rfl) tip (sh gt)))
        fun _ => Evl.et_test (ev_neSelf (d := toD .tip) (ed_is (ed_betwT (w := []) (a := []) (b := []) (ed_is tip rfl) (ed_is tip rfl) (ed_is tip rfl) w_0 w_0 w_0 x_b4) rfl) tip (sh gt))) ?_
      refine sg_par (d := toD X1) (e := toD X2) (fun σ H e => ead_cons (ed_is (two2 "f" (e.v (d := toD sB) rfl) (e.v (d := toD fB) rfl)) rfl) (ead_cons (ed_is (two2 "f" (e.v (d := toD sB) rfl) tip) rfl) ead_nil)) (fz_toD _) (fz_toD _) ?_
      refine sg_never (fun σ H e => Evl.et_or (a := false) (b := false) (Evl.et_test (ev_neSelf (d := toD .tip) (ed_firstX (a := X1) (b := X2) (e.v rfl) (e.v rfl) X1_good X2_good (by rw [x_f4]; rfl)) tip (sh gt)))
        fun _ => Evl.et_or (a := false) (b := false) (Evl.et_test (ev_neSelf (d := toD .tip) (ed_lastX (a := X1) (b := X2) (e.v rfl) (e.v rfl) X1_good X2_good (by rw [x_l4]; rfl)) tip (sh gt)))
        fun _ => Evl.et_or (a := false) (b := false) (Evl.et_test (ev_neSelf (d := toD X1) (ed_firstX (a := X1) (b := X1) (e.v rfl) (e.v rfl) X1_good X1_good (by rw [firstOf_self, prod_primes X1_good.ok])) (e.v rfl) (sh X1_good)))
        fun _ => Evl.et_test (ev_neSelf (d := toD X1) (ed_lastX (a := X1) (b := X1) (e.v rfl) (e.v rfl) X1_good X1_good (by rw [lastOf_self, prod_primes X1_good.ok])) (e.v rfl) (sh X1_good))) ?_
      refine sg_never (fun σ H e => Evl.et_or (a := false) (b := false) (Evl.et_test (ev_neSelf (d := toD fB) (ed_is (ed_betwT (w := [fB, sB]) (a := []) (b := [sB]) (ed_is (two2 "f" (e.v (d := toD sB) rfl) (e.v (d := toD sB) rfl)) rfl) (ed_is tip rfl) (ed_is (e.v (d := toD sB) rfl) rfl) w_fs w_0 w_s x_b5) rfl) (e.v rfl) (sh gf)))
        fun _ => Evl.et_or (a := false) (b := false) (Evl.et_test (ev_neSelf (d := toD (growAll .tip [fB, sB])) (ed_is (ed_betwT (w := [fB, sB]) (a := []) (b := []) (ed_is (two2 "f" (e.v (d := toD sB) rfl) (e.v (d := toD sB) rfl)) rfl) (ed_is tip rfl) (ed_is tip rfl) w_fs w_0 w_0 x_b6) rfl) (ed_is (two2 "f" (e.v (d := toD sB) rfl) (e.v (d := toD sB) rfl)) rfl) (sh gfs)))
        fun _ => Evl.et_test (ev_notN0 (ed_betwF (w := [fB, sB]) (a := [sB]) (b := []) (ed_is (two2 "f" (e.v (d := toD sB) rfl) (e.v (d := toD sB) rfl)) rfl) (ed_is (e.v (d := toD sB) rfl) rfl) (ed_is tip rfl) w_fs w_s w_0 x_b7))) ?_
      exact sg_ret (d := .bool true) (fun σ H e => ed_true (Evl.ev_andV (ev_isN0 (ed_betwX (ed_is (two2 "f" (e.v (d := toD fB) rfl) (e.v (d := toD sB) rfl)) rfl) (e.v rfl) tip)) fun _ => ev_eqSelf (d := toD (growAll .tip [sB, fB])) (ed_is (ed_last (l := [fB, sB, fB]) (m := [sB, fB]) (ed_is (two2 (b := .knot 115 [fB]) (b2 := .knot 115 [fB]) "f" (ed_is (one "s" (e.v (d := toD fB) rfl)) rfl) (ed_is (one "s" (e.v (d := toD fB) rfl)) rfl)) rfl) (ed_is (one "s" (e.v (d := toD fB) rfl)) rfl) w_fsf w_sf) (by rw [x_l3])) (ed_is (one "s" (e.v (d := toD fB) rfl)) rfl) (sh w_sf.c.end_)) rfl) rfl
end
end Bk
namespace Bk
open PySem PySem.Spec PyProof.Rows L2
/-! ### what the top has written, the head -/
theorem all_mk {l : PySem.W.OpenLaw} {w : World} {K : PySem.W.Frag} {h : Heap} {mg : Str → Option Value} {fa : Addr} (X : K.In h) (G : h.Ns mainGlobals mg) (hfa : mg "law" = some (.ref fa))
    {f0 f1 f2 f3 f4 f5 f6 f7 f8 f9 f10 f11 f12 f13 f14 f15 f16 f17 f18 f19 f20 f21 f22 f23 f24 f25 f26 f27 f28 f29 f30 f31 f32 f33 f34 f35 : Addr} {od0 an0 od1 an1 od2 an2 od3 an3 od4 an4 od5 an5 od6 an6 od7 an7 od8 an8 od9 an9 od10 an10 od11 an11 od12 an12 od13 an13 od14 an14 od15 an15 od16 an16 od17 an17 od18 an18 od19 an19 od20 an20 od21 an21 od22 an22 od23 an23 od24 an24 od25 an25 od26 an26 od27 an27 od28 an28 od29 an29 od30 an30 od31 an31 od32 an32 od33 an33 od34 an34 od35 an35 : Option Addr} {sl0 sl1 sl2 sl3 sl4 sl5 sl6 sl7 sl8 sl9 sl10 sl11 sl12 sl13 sl14 sl15 sl16 sl17 sl18 sl19 sl20 sl21 sl22 sl23 sl24 sl25 sl26 sl27 sl28 sl29 sl30 sl31 sl32 sl33 sl34 sl35 : Array (Option Value)} {oc0 kV0 dc0 pm0 cd0 ct0 oc1 kV1 dc1 pm1 cd1 ct1 oc2 kV2 dc2 pm2 cd2 ct2 oc3 kV3 dc3 pm3 cd3 ct3 oc4 kV4 dc4 pm4 cd4 ct4 oc5 kV5 dc5 pm5 cd5 ct5 oc6 kV6 dc6 pm6 cd6 ct6 oc7 kV7 dc7 pm7 cd7 ct7 oc8 kV8 dc8 pm8 cd8 ct8 oc9 kV9 dc9 pm9 cd9 ct9 oc10 kV10 dc10 pm10 cd10 ct10 oc11 kV11 dc11 pm11 cd11 ct11 oc12 kV12 dc12 pm12 cd12 ct12 oc13 kV13 dc13 pm13 cd13 ct13 oc14 kV14 dc14 pm14 cd14 ct14 oc15 kV15 dc15 pm15 cd15 ct15 oc16 kV16 dc16 pm16 cd16 ct16 oc17 kV17 dc17 pm17 cd17 ct17 oc18 kV18 dc18 pm18 cd18 ct18 oc19 kV19 dc19 pm19 cd19 ct19 oc20 kV20 dc20 pm20 cd20 ct20 oc21 kV21 dc21 pm21 cd21 ct21 oc22 kV22 dc22 pm22 cd22 ct22 oc23 kV23 dc23 pm23 cd23 ct23 oc24 kV24 dc24 pm24 cd24 ct24 oc25 kV25 dc25 pm25 cd25 ct25 oc26 kV26 dc26 pm26 cd26 ct26 oc27 kV27 dc27 pm27 cd27 ct27 oc28 kV28 dc28 pm28 cd28 ct28 oc29 kV29 dc29 pm29 cd29 ct29 oc30 kV30 dc30 pm30 cd30 ct30 oc31 kV31 dc31 pm31 cd31 ct31 oc32 kV32 dc32 pm32 cd32 ct32 oc33 kV33 dc33 pm33 cd33 ct33 oc34 kV34 dc34 pm34 cd34 ct34 oc35 kV35 dc35 pm35 cd35 ct35 : Value}
    {tk0 tk1 tk2 : Tok}
    (a0 : PySem.W.nsIn K mainGlobals "is_letter" = some (some (.ref f0))) (l0 : K.lookup f0 = some ⟨oc0, od0, .func (PySem.W.fnOf "is_letter" "is_letter" (defArgs s_is_letter) (defBody s_is_letter) (defScope s_is_letter) .none kV0 dc0 pm0 an0 cd0 ct0), sl0⟩) (c0 : PySem.W.codeIn K cd0 "is_letter" = true) (k0 : PySem.W.keepIn K (.ref f0) = true)
    (a1 : PySem.W.nsIn K mainGlobals "is_number" = some (some (.ref f1))) (l1 : K.lookup f1 = some ⟨oc1, od1, .func (PySem.W.fnOf "is_number" "is_number" (defArgs s_is_number) (defBody s_is_number) (defScope s_is_number) .none kV1 dc1 pm1 an1 cd1 ct1), sl1⟩) (c1 : PySem.W.codeIn K cd1 "is_number" = true) (k1 : PySem.W.keepIn K (.ref f1) = true)
    (a2 : PySem.W.nsIn K mainGlobals "roads_and_parts" = some (some (.ref f2))) (l2 : K.lookup f2 = some ⟨oc2, od2, .func (PySem.W.fnOf "roads_and_parts" "roads_and_parts" (defArgs s_roads_and_parts) (defBody s_roads_and_parts) (defScope s_roads_and_parts) .none kV2 dc2 pm2 an2 cd2 ct2), sl2⟩) (c2 : PySem.W.codeIn K cd2 "roads_and_parts" = true) (k2 : PySem.W.keepIn K (.ref f2) = true)
    (a3 : PySem.W.nsIn K mainGlobals "are_unlike_roots" = some (some (.ref f3))) (l3 : K.lookup f3 = some ⟨oc3, od3, .func (PySem.W.fnOf "are_unlike_roots" "are_unlike_roots" (defArgs s_are_unlike_roots) (defBody s_are_unlike_roots) (defScope s_are_unlike_roots) .none kV3 dc3 pm3 an3 cd3 ct3), sl3⟩) (c3 : PySem.W.codeIn K cd3 "are_unlike_roots" = true) (k3 : PySem.W.keepIn K (.ref f3) = true)
    (a4 : PySem.W.nsIn K mainGlobals "grow" = some (some (.ref f4))) (l4 : K.lookup f4 = some ⟨oc4, od4, .func (PySem.W.fnOf "grow" "grow" (defArgs s_grow) (defBody s_grow) (defScope s_grow) .none kV4 dc4 pm4 an4 cd4 ct4), sl4⟩) (c4 : PySem.W.codeIn K cd4 "grow" = true) (k4 : PySem.W.keepIn K (.ref f4) = true)
    (a5 : PySem.W.nsIn K mainGlobals "grow_row" = some (some (.ref f5))) (l5 : K.lookup f5 = some ⟨oc5, od5, .func (PySem.W.fnOf "grow_row" "grow_row" (defArgs s_grow_row) (defBody s_grow_row) (defScope s_grow_row) .none kV5 dc5 pm5 an5 cd5 ct5), sl5⟩) (c5 : PySem.W.codeIn K cd5 "grow_row" = true) (k5 : PySem.W.keepIn K (.ref f5) = true)
    (a6 : PySem.W.nsIn K mainGlobals "_has_form" = some (some (.ref f6))) (l6 : K.lookup f6 = some ⟨oc6, od6, .func (PySem.W.fnOf "_has_form" "_has_form" (defArgs s_has_form) (defBody s_has_form) (defScope s_has_form) .none kV6 dc6 pm6 an6 cd6 ct6), sl6⟩) (c6 : PySem.W.codeIn K cd6 "_has_form" = true) (k6 : PySem.W.keepIn K (.ref f6) = true)
    (a7 : PySem.W.nsIn K mainGlobals "is_bush" = some (some (.ref f7))) (l7 : K.lookup f7 = some ⟨oc7, od7, .func (PySem.W.fnOf "is_bush" "is_bush" (defArgs s_is_bush) (defBody s_is_bush) (defScope s_is_bush) .none kV7 dc7 pm7 an7 cd7 ct7), sl7⟩) (c7 : PySem.W.codeIn K cd7 "is_bush" = true) (k7 : PySem.W.keepIn K (.ref f7) = true)
    (a8 : PySem.W.nsIn K mainGlobals "check_bush" = some (some (.ref f8))) (l8 : K.lookup f8 = some ⟨oc8, od8, .func (PySem.W.fnOf "check_bush" "check_bush" (defArgs s_check_bush) (defBody s_check_bush) (defScope s_check_bush) .none kV8 dc8 pm8 an8 cd8 ct8), sl8⟩) (c8 : PySem.W.codeIn K cd8 "check_bush" = true) (k8 : PySem.W.keepIn K (.ref f8) = true)
    (a9 : PySem.W.nsIn K mainGlobals "part_on_road" = some (some (.ref f9))) (l9 : K.lookup f9 = some ⟨oc9, od9, .func (PySem.W.fnOf "part_on_road" "part_on_road" (defArgs s_part_on_road) (defBody s_part_on_road) (defScope s_part_on_road) .none kV9 dc9 pm9 an9 cd9 ct9), sl9⟩) (c9 : PySem.W.codeIn K cd9 "part_on_road" = true) (k9 : PySem.W.keepIn K (.ref f9) = true)
    (a10 : PySem.W.nsIn K mainGlobals "upper_of" = some (some (.ref f10))) (l10 : K.lookup f10 = some ⟨oc10, od10, .func (PySem.W.fnOf "upper_of" "upper_of" (defArgs s_upper_of) (defBody s_upper_of) (defScope s_upper_of) .none kV10 dc10 pm10 an10 cd10 ct10), sl10⟩) (c10 : PySem.W.codeIn K cd10 "upper_of" = true) (k10 : PySem.W.keepIn K (.ref f10) = true)
    (a11 : PySem.W.nsIn K mainGlobals "lower_of" = some (some (.ref f11))) (l11 : K.lookup f11 = some ⟨oc11, od11, .func (PySem.W.fnOf "lower_of" "lower_of" (defArgs s_lower_of) (defBody s_lower_of) (defScope s_lower_of) .none kV11 dc11 pm11 an11 cd11 ct11), sl11⟩) (c11 : PySem.W.codeIn K cd11 "lower_of" = true) (k11 : PySem.W.keepIn K (.ref f11) = true)
    (a12 : PySem.W.nsIn K mainGlobals "all_cuts" = some (some (.ref f12))) (l12 : K.lookup f12 = some ⟨oc12, od12, .func (PySem.W.fnOf "all_cuts" "all_cuts" (defArgs s_all_cuts) (defBody s_all_cuts) (defScope s_all_cuts) .none kV12 dc12 pm12 an12 cd12 ct12), sl12⟩) (c12 : PySem.W.codeIn K cd12 "all_cuts" = true) (k12 : PySem.W.keepIn K (.ref f12) = true)
    (a13 : PySem.W.nsIn K mainGlobals "prime_tuple" = some (some (.ref f13))) (l13 : K.lookup f13 = some ⟨oc13, od13, .func (PySem.W.fnOf "prime_tuple" "prime_tuple" (defArgs s_prime_tuple) (defBody s_prime_tuple) (defScope s_prime_tuple) .none kV13 dc13 pm13 an13 cd13 ct13), sl13⟩) (c13 : PySem.W.codeIn K cd13 "prime_tuple" = true) (k13 : PySem.W.keepIn K (.ref f13) = true)
    (a14 : PySem.W.nsIn K mainGlobals "_shared" = some (some (.ref f14))) (l14 : K.lookup f14 = some ⟨oc14, od14, .func (PySem.W.fnOf "_shared" "_shared" (defArgs s_shared) (defBody s_shared) (defScope s_shared) .none kV14 dc14 pm14 an14 cd14 ct14), sl14⟩) (c14 : PySem.W.codeIn K cd14 "_shared" = true) (k14 : PySem.W.keepIn K (.ref f14) = true)
    (a15 : PySem.W.nsIn K mainGlobals "shared_first" = some (some (.ref f15))) (l15 : K.lookup f15 = some ⟨oc15, od15, .func (PySem.W.fnOf "shared_first" "shared_first" (defArgs s_shared_first) (defBody s_shared_first) (defScope s_shared_first) .none kV15 dc15 pm15 an15 cd15 ct15), sl15⟩) (c15 : PySem.W.codeIn K cd15 "shared_first" = true) (k15 : PySem.W.keepIn K (.ref f15) = true)
    (a16 : PySem.W.nsIn K mainGlobals "shared_last" = some (some (.ref f16))) (l16 : K.lookup f16 = some ⟨oc16, od16, .func (PySem.W.fnOf "shared_last" "shared_last" (defArgs s_shared_last) (defBody s_shared_last) (defScope s_shared_last) .none kV16 dc16 pm16 an16 cd16 ct16), sl16⟩) (c16 : PySem.W.codeIn K cd16 "shared_last" = true) (k16 : PySem.W.keepIn K (.ref f16) = true)
    (a17 : PySem.W.nsIn K mainGlobals "put_between" = some (some (.ref f17))) (l17 : K.lookup f17 = some ⟨oc17, od17, .func (PySem.W.fnOf "put_between" "put_between" (defArgs s_put_between) (defBody s_put_between) (defScope s_put_between) .none kV17 dc17 pm17 an17 cd17 ct17), sl17⟩) (c17 : PySem.W.codeIn K cd17 "put_between" = true) (k17 : PySem.W.keepIn K (.ref f17) = true)
    (a18 : PySem.W.nsIn K mainGlobals "_law_cup" = some (some (.ref f18))) (l18 : K.lookup f18 = some ⟨oc18, od18, .func (PySem.W.fnOf "_law_cup" "_law_cup" (defArgs s_law_cup) (defBody s_law_cup) (defScope s_law_cup) .none kV18 dc18 pm18 an18 cd18 ct18), sl18⟩) (c18 : PySem.W.codeIn K cd18 "_law_cup" = true) (k18 : PySem.W.keepIn K (.ref f18) = true)
    (a19 : PySem.W.nsIn K mainGlobals "_law_roll" = some (some (.ref f19))) (l19 : K.lookup f19 = some ⟨oc19, od19, .func (PySem.W.fnOf "_law_roll" "_law_roll" (defArgs s_law_roll) (defBody s_law_roll) (defScope s_law_roll) .none kV19 dc19 pm19 an19 cd19 ct19), sl19⟩) (c19 : PySem.W.codeIn K cd19 "_law_roll" = true) (k19 : PySem.W.keepIn K (.ref f19) = true)
    (a20 : PySem.W.nsIn K mainGlobals "_law_some" = some (some (.ref f20))) (l20 : K.lookup f20 = some ⟨oc20, od20, .func (PySem.W.fnOf "_law_some" "_law_some" (defArgs s_law_some) (defBody s_law_some) (defScope s_law_some) .none kV20 dc20 pm20 an20 cd20 ct20), sl20⟩) (c20 : PySem.W.codeIn K cd20 "_law_some" = true) (k20 : PySem.W.keepIn K (.ref f20) = true)
    (a21 : PySem.W.nsIn K mainGlobals "_law_parts" = some (some (.ref f21))) (l21 : K.lookup f21 = some ⟨oc21, od21, .func (PySem.W.fnOf "_law_parts" "_law_parts" (defArgs s_law_parts) (defBody s_law_parts) (defScope s_law_parts) .none kV21 dc21 pm21 an21 cd21 ct21), sl21⟩) (c21 : PySem.W.codeIn K cd21 "_law_parts" = true) (k21 : PySem.W.keepIn K (.ref f21) = true)
    (a22 : PySem.W.nsIn K mainGlobals "_law_tips" = some (some (.ref f22))) (l22 : K.lookup f22 = some ⟨oc22, od22, .func (PySem.W.fnOf "_law_tips" "_law_tips" (defArgs s_law_tips) (defBody s_law_tips) (defScope s_law_tips) .none kV22 dc22 pm22 an22 cd22 ct22), sl22⟩) (c22 : PySem.W.codeIn K cd22 "_law_tips" = true) (k22 : PySem.W.keepIn K (.ref f22) = true)
    (a23 : PySem.W.nsIn K mainGlobals "_law_put" = some (some (.ref f23))) (l23 : K.lookup f23 = some ⟨oc23, od23, .func (PySem.W.fnOf "_law_put" "_law_put" (defArgs s_law_put) (defBody s_law_put) (defScope s_law_put) .none kV23 dc23 pm23 an23 cd23 ct23), sl23⟩) (c23 : PySem.W.codeIn K cd23 "_law_put" = true) (k23 : PySem.W.keepIn K (.ref f23) = true)
    (a24 : PySem.W.nsIn K mainGlobals "_law_grown" = some (some (.ref f24))) (l24 : K.lookup f24 = some ⟨oc24, od24, .func (PySem.W.fnOf "_law_grown" "_law_grown" (defArgs s_law_grown) (defBody s_law_grown) (defScope s_law_grown) .none kV24 dc24 pm24 an24 cd24 ct24), sl24⟩) (c24 : PySem.W.codeIn K cd24 "_law_grown" = true) (k24 : PySem.W.keepIn K (.ref f24) = true)
    (a25 : PySem.W.nsIn K mainGlobals "_law_bush_of" = some (some (.ref f25))) (l25 : K.lookup f25 = some ⟨oc25, od25, .func (PySem.W.fnOf "_law_bush_of" "_law_bush_of" (defArgs s_law_bush_of) (defBody s_law_bush_of) (defScope s_law_bush_of) .none kV25 dc25 pm25 an25 cd25 ct25), sl25⟩) (c25 : PySem.W.codeIn K cd25 "_law_bush_of" = true) (k25 : PySem.W.keepIn K (.ref f25) = true)
    (a26 : PySem.W.nsIn K mainGlobals "_law_small" = some (some (.ref f26))) (l26 : K.lookup f26 = some ⟨oc26, od26, .func (PySem.W.fnOf "_law_small" "_law_small" (defArgs s_law_small) (defBody s_law_small) (defScope s_law_small) .none kV26 dc26 pm26 an26 cd26 ct26), sl26⟩) (c26 : PySem.W.codeIn K cd26 "_law_small" = true) (k26 : PySem.W.keepIn K (.ref f26) = true)
    (a27 : PySem.W.nsIn K mainGlobals "_law_depths" = some (some (.ref f27))) (l27 : K.lookup f27 = some ⟨oc27, od27, .func (PySem.W.fnOf "_law_depths" "_law_depths" (defArgs s_law_depths) (defBody s_law_depths) (defScope s_law_depths) .none kV27 dc27 pm27 an27 cd27 ct27), sl27⟩) (c27 : PySem.W.codeIn K cd27 "_law_depths" = true) (k27 : PySem.W.keepIn K (.ref f27) = true)
    (a28 : PySem.W.nsIn K mainGlobals "_law_knots" = some (some (.ref f28))) (l28 : K.lookup f28 = some ⟨oc28, od28, .func (PySem.W.fnOf "_law_knots" "_law_knots" (defArgs s_law_knots) (defBody s_law_knots) (defScope s_law_knots) .none kV28 dc28 pm28 an28 cd28 ct28), sl28⟩) (c28 : PySem.W.codeIn K cd28 "_law_knots" = true) (k28 : PySem.W.keepIn K (.ref f28) = true)
    (a29 : PySem.W.nsIn K mainGlobals "_law_sizes" = some (some (.ref f29))) (l29 : K.lookup f29 = some ⟨oc29, od29, .func (PySem.W.fnOf "_law_sizes" "_law_sizes" (defArgs s_law_sizes) (defBody s_law_sizes) (defScope s_law_sizes) .none kV29 dc29 pm29 an29 cd29 ct29), sl29⟩) (c29 : PySem.W.codeIn K cd29 "_law_sizes" = true) (k29 : PySem.W.keepIn K (.ref f29) = true)
    (a30 : PySem.W.nsIn K mainGlobals "_law_word" = some (some (.ref f30))) (l30 : K.lookup f30 = some ⟨oc30, od30, .func (PySem.W.fnOf "_law_word" "_law_word" (defArgs s_law_word) (defBody s_law_word) (defScope s_law_word) .none kV30 dc30 pm30 an30 cd30 ct30), sl30⟩) (c30 : PySem.W.codeIn K cd30 "_law_word" = true) (k30 : PySem.W.keepIn K (.ref f30) = true)
    (a31 : PySem.W.nsIn K mainGlobals "_law_fits" = some (some (.ref f31))) (l31 : K.lookup f31 = some ⟨oc31, od31, .func (PySem.W.fnOf "_law_fits" "_law_fits" (defArgs s_law_fits) (defBody s_law_fits) (defScope s_law_fits) .none kV31 dc31 pm31 an31 cd31 ct31), sl31⟩) (c31 : PySem.W.codeIn K cd31 "_law_fits" = true) (k31 : PySem.W.keepIn K (.ref f31) = true)
    (a32 : PySem.W.nsIn K mainGlobals "_law_ahead" = some (some (.ref f32))) (l32 : K.lookup f32 = some ⟨oc32, od32, .func (PySem.W.fnOf "_law_ahead" "_law_ahead" (defArgs s_law_ahead) (defBody s_law_ahead) (defScope s_law_ahead) .none kV32 dc32 pm32 an32 cd32 ct32), sl32⟩) (c32 : PySem.W.codeIn K cd32 "_law_ahead" = true) (k32 : PySem.W.keepIn K (.ref f32) = true)
    (a33 : PySem.W.nsIn K mainGlobals "_law_right" = some (some (.ref f33))) (l33 : K.lookup f33 = some ⟨oc33, od33, .func (PySem.W.fnOf "_law_right" "_law_right" (defArgs s_law_right) (defBody s_law_right) (defScope s_law_right) .none kV33 dc33 pm33 an33 cd33 ct33), sl33⟩) (c33 : PySem.W.codeIn K cd33 "_law_right" = true) (k33 : PySem.W.keepIn K (.ref f33) = true)
    (a34 : PySem.W.nsIn K mainGlobals "_law_between" = some (some (.ref f34))) (l34 : K.lookup f34 = some ⟨oc34, od34, .func (PySem.W.fnOf "_law_between" "_law_between" (defArgs s_law_between) (defBody s_law_between) (defScope s_law_between) .none kV34 dc34 pm34 an34 cd34 ct34), sl34⟩) (c34 : PySem.W.codeIn K cd34 "_law_between" = true) (k34 : PySem.W.keepIn K (.ref f34) = true)
    (a35 : PySem.W.nsIn K mainGlobals "law" = some (some (.ref f35))) (l35 : K.lookup f35 = some ⟨oc35, od35, .func (PySem.W.fnOf "law" "law" (defArgs s_law) (defBody s_law) (defScope s_law) .none kV35 dc35 pm35 an35 cd35 ct35), sl35⟩) (c35 : PySem.W.codeIn K cd35 "law" = true) (k35 : PySem.W.keepIn K (.ref f35) = true)
    (m0 : PySem.W.nsIn K mainGlobals "MOST_BRANCHES" = some (some (.int 6 tk0)))
    (m1 : PySem.W.nsIn K mainGlobals "MOST_PARTS" = some (some (.int 400 tk1)))
    (m2 : PySem.W.nsIn K mainGlobals "MOST_DEPTH" = some (some (.int 60 tk2)))
    (z0 : PySem.W.nsIn K mainGlobals "abs" = some none)
    (z1 : PySem.W.nsIn K mainGlobals "all" = some none)
    (z2 : PySem.W.nsIn K mainGlobals "bool" = some none)
    (z3 : PySem.W.nsIn K mainGlobals "enumerate" = some none)
    (z4 : PySem.W.nsIn K mainGlobals "int" = some none)
    (z5 : PySem.W.nsIn K mainGlobals "isinstance" = some none)
    (z6 : PySem.W.nsIn K mainGlobals "len" = some none)
    (z7 : PySem.W.nsIn K mainGlobals "list" = some none)
    (z8 : PySem.W.nsIn K mainGlobals "max" = some none)
    (z9 : PySem.W.nsIn K mainGlobals "min" = some none)
    (z10 : PySem.W.nsIn K mainGlobals "range" = some none)
    (z11 : PySem.W.nsIn K mainGlobals "sorted" = some none)
    (z12 : PySem.W.nsIn K mainGlobals "str" = some none)
    (z13 : PySem.W.nsIn K mainGlobals "tuple" = some none)
    (z14 : PySem.W.nsIn K mainGlobals "zip" = some none)
    : ∃ fd : FuncData, (∀ (s : Shared) (v : Value), BindsTo s fd ⟨[v], []⟩ [("_law_script", v)]) ∧ ∀ base : Heap, K.In base → base.Ns mainGlobals mg → FnG l.prog w K mg base CX0 120 fa fd ["_law_script"] (spLaw K) := by
  have e := hfa.symm.trans (PySem.W.mg_of X G a35)
  cases e
  have F0 := fun_mk (st := s_is_letter) l0 c0 k0
  have b0 := F0.binds (ps := P_is_letter) fun _ _ _ _ _ _ us hl => match us, hl with | [_], _ => rfl
  have F1 := fun_mk (st := s_is_number) l1 c1 k1
  have b1 := F1.binds (ps := P_is_number) fun _ _ _ _ _ _ us hl => match us, hl with | [_, _, _], _ => rfl
  have F2 := fun_mk (st := s_roads_and_parts) l2 c2 k2
  have b2 := F2.binds (ps := P_roads_and_parts) fun _ _ _ _ _ _ us hl => match us, hl with | [_], _ => rfl
  have F3 := fun_mk (st := s_are_unlike_roots) l3 c3 k3
  have b3 := F3.binds (ps := P_are_unlike_roots) fun _ _ _ _ _ _ us hl => match us, hl with | [_, _], _ => rfl
  have F4 := fun_mk (st := s_grow) l4 c4 k4
  have b4 := F4.binds (ps := P_grow) fun _ _ _ _ _ _ us hl => match us, hl with | [_, _], _ => rfl
  have F5 := fun_mk (st := s_grow_row) l5 c5 k5
  have b5 := F5.binds (ps := P_grow_row) fun _ _ _ _ _ _ us hl => match us, hl with | [_], _ => rfl
  have F6 := fun_mk (st := s_has_form) l6 c6 k6
  have b6 := F6.binds (ps := P_has_form) fun _ _ _ _ _ _ us hl => match us, hl with | [_], _ => rfl
  have F7 := fun_mk (st := s_is_bush) l7 c7 k7
  have b7 := F7.binds (ps := P_is_bush) fun _ _ _ _ _ _ us hl => match us, hl with | [_], _ => rfl
  have F8 := fun_mk (st := s_check_bush) l8 c8 k8
  have b8 := F8.binds (ps := P_check_bush) fun _ _ _ _ _ _ us hl => match us, hl with | [_], _ => rfl
  have F9 := fun_mk (st := s_part_on_road) l9 c9 k9
  have b9 := F9.binds (ps := P_part_on_road) fun _ _ _ _ _ _ us hl => match us, hl with | [_, _], _ => rfl
  have F10 := fun_mk (st := s_upper_of) l10 c10 k10
  have b10 := F10.binds (ps := P_upper_of) fun _ _ _ _ _ _ us hl => match us, hl with | [_, _], _ => rfl
  have F11 := fun_mk (st := s_lower_of) l11 c11 k11
  have b11 := F11.binds (ps := P_lower_of) fun _ _ _ _ _ _ us hl => match us, hl with | [_, _], _ => rfl
  have F12 := fun_mk (st := s_all_cuts) l12 c12 k12
  have b12 := F12.binds (ps := P_all_cuts) fun _ _ _ _ _ _ us hl => match us, hl with | [_], _ => rfl
  have F13 := fun_mk (st := s_prime_tuple) l13 c13 k13
  have b13 := F13.binds (ps := P_prime_tuple) fun _ _ _ _ _ _ us hl => match us, hl with | [_], _ => rfl
  have F14 := fun_mk (st := s_shared) l14 c14 k14
  have b14 := F14.binds (ps := P_shared) fun _ _ _ _ _ _ us hl => match us, hl with | [_, _], _ => rfl
  have F15 := fun_mk (st := s_shared_first) l15 c15 k15
  have b15 := F15.binds (ps := P_shared_first) fun _ _ _ _ _ _ us hl => match us, hl with | [_, _], _ => rfl
  have F16 := fun_mk (st := s_shared_last) l16 c16 k16
  have b16 := F16.binds (ps := P_shared_last) fun _ _ _ _ _ _ us hl => match us, hl with | [_, _], _ => rfl
  have F17 := fun_mk (st := s_put_between) l17 c17 k17
  have b17 := F17.binds (ps := P_put_between) fun _ _ _ _ _ _ us hl => match us, hl with | [_, _, _], _ => rfl
  have F18 := fun_mk (st := s_law_cup) l18 c18 k18
  have b18 := F18.binds (ps := P_law_cup) fun _ _ _ _ _ _ us hl => match us, hl with | [_], _ => rfl
  have F19 := fun_mk (st := s_law_roll) l19 c19 k19
  have b19 := F19.binds (ps := P_law_roll) fun _ _ _ _ _ _ us hl => match us, hl with | [_, _], _ => rfl
  have F20 := fun_mk (st := s_law_some) l20 c20 k20
  have b20 := F20.binds (ps := P_law_some) fun _ _ _ _ _ _ us hl => match us, hl with | [_, _], _ => rfl
  have F21 := fun_mk (st := s_law_parts) l21 c21 k21
  have b21 := F21.binds (ps := P_law_parts) fun _ _ _ _ _ _ us hl => match us, hl with | [_], _ => rfl
  have F22 := fun_mk (st := s_law_tips) l22 c22 k22
  have b22 := F22.binds (ps := P_law_tips) fun _ _ _ _ _ _ us hl => match us, hl with | [_], _ => rfl
  have F23 := fun_mk (st := s_law_put) l23 c23 k23
  have b23 := F23.binds (ps := P_law_put) fun _ _ _ _ _ _ us hl => match us, hl with | [_, _, _], _ => rfl
  have F24 := fun_mk (st := s_law_grown) l24 c24 k24
  have b24 := F24.binds (ps := P_law_grown) fun _ _ _ _ _ _ us hl => match us, hl with | [_, _], _ => rfl
  have F25 := fun_mk (st := s_law_bush_of) l25 c25 k25
  have b25 := F25.binds (ps := P_law_bush_of) fun _ _ _ _ _ _ us hl => match us, hl with | [_], _ => rfl
  have F26 := fun_mk (st := s_law_small) l26 c26 k26
  have b26 := F26.binds (ps := P_law_small) fun _ _ _ _ _ _ us hl => match us, hl with | [_], _ => rfl
  have F27 := fun_mk (st := s_law_depths) l27 c27 k27
  have b27 := F27.binds (ps := P_law_depths) fun _ _ _ _ _ _ us hl => match us, hl with | [_], _ => rfl
  have F28 := fun_mk (st := s_law_knots) l28 c28 k28
  have b28 := F28.binds (ps := P_law_knots) fun _ _ _ _ _ _ us hl => match us, hl with | [_], _ => rfl
  have F29 := fun_mk (st := s_law_sizes) l29 c29 k29
  have b29 := F29.binds (ps := P_law_sizes) fun _ _ _ _ _ _ us hl => match us, hl with | [_], _ => rfl
  have F30 := fun_mk (st := s_law_word) l30 c30 k30
  have b30 := F30.binds (ps := P_law_word) fun _ _ _ _ _ _ us hl => match us, hl with | [_, _], _ => rfl
  have F31 := fun_mk (st := s_law_fits) l31 c31 k31
  have b31 := F31.binds (ps := P_law_fits) fun _ _ _ _ _ _ us hl => match us, hl with | [_], _ => rfl
  have F32 := fun_mk (st := s_law_ahead) l32 c32 k32
  have b32 := F32.binds (ps := P_law_ahead) fun _ _ _ _ _ _ us hl => match us, hl with | [_, _], _ => rfl
  have F33 := fun_mk (st := s_law_right) l33 c33 k33
  have b33 := F33.binds (ps := P_law_right) fun _ _ _ _ _ _ us hl => match us, hl with | [_, _], _ => rfl
  have F34 := fun_mk (st := s_law_between) l34 c34 k34
  have b34 := F34.binds (ps := P_law_between) fun _ _ _ _ _ _ us hl => match us, hl with | [_, _, _], _ => rfl
  have F35 := fun_mk (st := s_law) l35 c35 k35
  have b35 := F35.binds (ps := P_law) fun _ _ _ _ _ _ us hl => match us, hl with | [_], _ => rfl
  let T : Tx K mg := {
    a_is_letter := f0, d_is_letter := _, F_is_letter := F0, g_is_letter := PySem.W.mg_of X G a0, b_is_letter := b0,
    a_is_number := f1, d_is_number := _, F_is_number := F1, g_is_number := PySem.W.mg_of X G a1, b_is_number := b1,
    a_roads_and_parts := f2, d_roads_and_parts := _, F_roads_and_parts := F2, g_roads_and_parts := PySem.W.mg_of X G a2, b_roads_and_parts := b2,
    a_are_unlike_roots := f3, d_are_unlike_roots := _, F_are_unlike_roots := F3, g_are_unlike_roots := PySem.W.mg_of X G a3, b_are_unlike_roots := b3,
    a_grow := f4, d_grow := _, F_grow := F4, g_grow := PySem.W.mg_of X G a4, b_grow := b4,
    a_grow_row := f5, d_grow_row := _, F_grow_row := F5, g_grow_row := PySem.W.mg_of X G a5, b_grow_row := b5,
    a_has_form := f6, d_has_form := _, F_has_form := F6, g_has_form := PySem.W.mg_of X G a6, b_has_form := b6,
    a_is_bush := f7, d_is_bush := _, F_is_bush := F7, g_is_bush := PySem.W.mg_of X G a7, b_is_bush := b7,
    a_check_bush := f8, d_check_bush := _, F_check_bush := F8, g_check_bush := PySem.W.mg_of X G a8, b_check_bush := b8,
    a_part_on_road := f9, d_part_on_road := _, F_part_on_road := F9, g_part_on_road := PySem.W.mg_of X G a9, b_part_on_road := b9,
    a_upper_of := f10, d_upper_of := _, F_upper_of := F10, g_upper_of := PySem.W.mg_of X G a10, b_upper_of := b10,
    a_lower_of := f11, d_lower_of := _, F_lower_of := F11, g_lower_of := PySem.W.mg_of X G a11, b_lower_of := b11,
    a_all_cuts := f12, d_all_cuts := _, F_all_cuts := F12, g_all_cuts := PySem.W.mg_of X G a12, b_all_cuts := b12,
    a_prime_tuple := f13, d_prime_tuple := _, F_prime_tuple := F13, g_prime_tuple := PySem.W.mg_of X G a13, b_prime_tuple := b13,
    a_shared := f14, d_shared := _, F_shared := F14, g_shared := PySem.W.mg_of X G a14, b_shared := b14,
    a_shared_first := f15, d_shared_first := _, F_shared_first := F15, g_shared_first := PySem.W.mg_of X G a15, b_shared_first := b15,
    a_shared_last := f16, d_shared_last := _, F_shared_last := F16, g_shared_last := PySem.W.mg_of X G a16, b_shared_last := b16,
    a_put_between := f17, d_put_between := _, F_put_between := F17, g_put_between := PySem.W.mg_of X G a17, b_put_between := b17,
    a_law_cup := f18, d_law_cup := _, F_law_cup := F18, g_law_cup := PySem.W.mg_of X G a18, b_law_cup := b18,
    a_law_roll := f19, d_law_roll := _, F_law_roll := F19, g_law_roll := PySem.W.mg_of X G a19, b_law_roll := b19,
    a_law_some := f20, d_law_some := _, F_law_some := F20, g_law_some := PySem.W.mg_of X G a20, b_law_some := b20,
    a_law_parts := f21, d_law_parts := _, F_law_parts := F21, g_law_parts := PySem.W.mg_of X G a21, b_law_parts := b21,
    a_law_tips := f22, d_law_tips := _, F_law_tips := F22, g_law_tips := PySem.W.mg_of X G a22, b_law_tips := b22,
    a_law_put := f23, d_law_put := _, F_law_put := F23, g_law_put := PySem.W.mg_of X G a23, b_law_put := b23,
    a_law_grown := f24, d_law_grown := _, F_law_grown := F24, g_law_grown := PySem.W.mg_of X G a24, b_law_grown := b24,
    a_law_bush_of := f25, d_law_bush_of := _, F_law_bush_of := F25, g_law_bush_of := PySem.W.mg_of X G a25, b_law_bush_of := b25,
    a_law_small := f26, d_law_small := _, F_law_small := F26, g_law_small := PySem.W.mg_of X G a26, b_law_small := b26,
    a_law_depths := f27, d_law_depths := _, F_law_depths := F27, g_law_depths := PySem.W.mg_of X G a27, b_law_depths := b27,
    a_law_knots := f28, d_law_knots := _, F_law_knots := F28, g_law_knots := PySem.W.mg_of X G a28, b_law_knots := b28,
    a_law_sizes := f29, d_law_sizes := _, F_law_sizes := F29, g_law_sizes := PySem.W.mg_of X G a29, b_law_sizes := b29,
    a_law_word := f30, d_law_word := _, F_law_word := F30, g_law_word := PySem.W.mg_of X G a30, b_law_word := b30,
    a_law_fits := f31, d_law_fits := _, F_law_fits := F31, g_law_fits := PySem.W.mg_of X G a31, b_law_fits := b31,
    a_law_ahead := f32, d_law_ahead := _, F_law_ahead := F32, g_law_ahead := PySem.W.mg_of X G a32, b_law_ahead := b32,
    a_law_right := f33, d_law_right := _, F_law_right := F33, g_law_right := PySem.W.mg_of X G a33, b_law_right := b33,
    a_law_between := f34, d_law_between := _, F_law_between := F34, g_law_between := PySem.W.mg_of X G a34, b_law_between := b34,
    a_law := fa, d_law := _, F_law := F35, g_law := PySem.W.mg_of X G a35, b_law := b35,
    c_MOST_BRANCHES := ⟨_, PySem.W.mg_of X G m0⟩,
    c_MOST_PARTS := ⟨_, PySem.W.mg_of X G m1⟩,
    c_MOST_DEPTH := ⟨_, PySem.W.mg_of X G m2⟩,
    z_abs := PySem.W.mg_none_of X G z0,
    z_all := PySem.W.mg_none_of X G z1,
    z_bool := PySem.W.mg_none_of X G z2,
    z_enumerate := PySem.W.mg_none_of X G z3,
    z_int := PySem.W.mg_none_of X G z4,
    z_isinstance := PySem.W.mg_none_of X G z5,
    z_len := PySem.W.mg_none_of X G z6,
    z_list := PySem.W.mg_none_of X G z7,
    z_max := PySem.W.mg_none_of X G z8,
    z_min := PySem.W.mg_none_of X G z9,
    z_range := PySem.W.mg_none_of X G z10,
    z_sorted := PySem.W.mg_none_of X G z11,
    z_str := PySem.W.mg_none_of X G z12,
    z_tuple := PySem.W.mg_none_of X G z13,
    z_zip := PySem.W.mg_none_of X G z14 }
  exact ⟨_, fun s v => .of_eq rfl, fun base _ _ => ok_law T⟩
end Bk
open PySem PySem.W PyProof.Rows
set_option maxHeartbeats 0 in
theorem PySem.Challenge.cw_tipwoods_k33_whole_shared_years_holds : PySem.Challenge.rw_tipwoods_k33_whole_shared_years.Holds := by
  w_on; o_law; k_head; (case hw => w_witness2)
  k_fill
  refine PySem.W.walk_ofBG (l := PySem.Challenge.rw_tipwoods_k33_whole_shared_years) (n := 63) (k := 120) (x := "_law_script") (CX := fun _ => L2.CX0) (sp := fun w => Bk.spLaw _) rfl (by decide) rfl ⟨rfl, by decide, by decide⟩ (fun w h Y => PySem.W.kIn_of Y) ?F (fun _ _ a ns hl hb _ hS => ⟨a, ns, rfl, hS, hl, hb, fun _ => rfl⟩)
  case F =>
    intro w mg fa h KX G hmg
    refine' Bk.all_mk KX G hmg ?a0 ?l0 ?c0 ?k0 ?a1 ?l1 ?c1 ?k1 ?a2 ?l2 ?c2 ?k2 ?a3 ?l3 ?c3 ?k3 ?a4 ?l4 ?c4 ?k4 ?a5 ?l5 ?c5 ?k5 ?a6 ?l6 ?c6 ?k6 ?a7 ?l7 ?c7 ?k7 ?a8 ?l8 ?c8 ?k8 ?a9 ?l9 ?c9 ?k9 ?a10 ?l10 ?c10 ?k10 ?a11 ?l11 ?c11 ?k11 ?a12 ?l12 ?c12 ?k12 ?a13 ?l13 ?c13 ?k13 ?a14 ?l14 ?c14 ?k14 ?a15 ?l15 ?c15 ?k15 ?a16 ?l16 ?c16 ?k16 ?a17 ?l17 ?c17 ?k17 ?a18 ?l18 ?c18 ?k18 ?a19 ?l19 ?c19 ?k19 ?a20 ?l20 ?c20 ?k20 ?a21 ?l21 ?c21 ?k21 ?a22 ?l22 ?c22 ?k22 ?a23 ?l23 ?c23 ?k23 ?a24 ?l24 ?c24 ?k24 ?a25 ?l25 ?c25 ?k25 ?a26 ?l26 ?c26 ?k26 ?a27 ?l27 ?c27 ?k27 ?a28 ?l28 ?c28 ?k28 ?a29 ?l29 ?c29 ?k29 ?a30 ?l30 ?c30 ?k30 ?a31 ?l31 ?c31 ?k31 ?a32 ?l32 ?c32 ?k32 ?a33 ?l33 ?c33 ?k33 ?a34 ?l34 ?c34 ?k34 ?a35 ?l35 ?c35 ?k35 ?m0 ?m1 ?m2 ?z0 ?z1 ?z2 ?z3 ?z4 ?z5 ?z6 ?z7 ?z8 ?z9 ?z10 ?z11 ?z12 ?z13 ?z14
    (case a0 => k_is)
    (case l0 => k_is)
    (case c0 => k_is)
    (case k0 => k_is)
    (case a1 => k_is)
    (case l1 => k_is)
    (case c1 => k_is)
    (case k1 => k_is)
    (case a2 => k_is)
    (case l2 => k_is)
    (case c2 => k_is)
    (case k2 => k_is)
    (case a3 => k_is)
    (case l3 => k_is)
    (case c3 => k_is)
    (case k3 => k_is)
    (case a4 => k_is)
    (case l4 => k_is)
    (case c4 => k_is)
    (case k4 => k_is)
    (case a5 => k_is)
    (case l5 => k_is)
    (case c5 => k_is)
    (case k5 => k_is)
    (case a6 => k_is)
    (case l6 => k_is)
    (case c6 => k_is)
    (case k6 => k_is)
    (case a7 => k_is)
    (case l7 => k_is)
    (case c7 => k_is)
    (case k7 => k_is)
    (case a8 => k_is)
    (case l8 => k_is)
    (case c8 => k_is)
    (case k8 => k_is)
    (case a9 => k_is)
    (case l9 => k_is)
    (case c9 => k_is)
    (case k9 => k_is)
    (case a10 => k_is)
    (case l10 => k_is)
    (case c10 => k_is)
    (case k10 => k_is)
    (case a11 => k_is)
    (case l11 => k_is)
    (case c11 => k_is)
    (case k11 => k_is)
    (case a12 => k_is)
    (case l12 => k_is)
    (case c12 => k_is)
    (case k12 => k_is)
    (case a13 => k_is)
    (case l13 => k_is)
    (case c13 => k_is)
    (case k13 => k_is)
    (case a14 => k_is)
    (case l14 => k_is)
    (case c14 => k_is)
    (case k14 => k_is)
    (case a15 => k_is)
    (case l15 => k_is)
    (case c15 => k_is)
    (case k15 => k_is)
    (case a16 => k_is)
    (case l16 => k_is)
    (case c16 => k_is)
    (case k16 => k_is)
    (case a17 => k_is)
    (case l17 => k_is)
    (case c17 => k_is)
    (case k17 => k_is)
    (case a18 => k_is)
    (case l18 => k_is)
    (case c18 => k_is)
    (case k18 => k_is)
    (case a19 => k_is)
    (case l19 => k_is)
    (case c19 => k_is)
    (case k19 => k_is)
    (case a20 => k_is)
    (case l20 => k_is)
    (case c20 => k_is)
    (case k20 => k_is)
    (case a21 => k_is)
    (case l21 => k_is)
    (case c21 => k_is)
    (case k21 => k_is)
    (case a22 => k_is)
    (case l22 => k_is)
    (case c22 => k_is)
    (case k22 => k_is)
    (case a23 => k_is)
    (case l23 => k_is)
    (case c23 => k_is)
    (case k23 => k_is)
    (case a24 => k_is)
    (case l24 => k_is)
    (case c24 => k_is)
    (case k24 => k_is)
    (case a25 => k_is)
    (case l25 => k_is)
    (case c25 => k_is)
    (case k25 => k_is)
    (case a26 => k_is)
    (case l26 => k_is)
    (case c26 => k_is)
    (case k26 => k_is)
    (case a27 => k_is)
    (case l27 => k_is)
    (case c27 => k_is)
    (case k27 => k_is)
    (case a28 => k_is)
    (case l28 => k_is)
    (case c28 => k_is)
    (case k28 => k_is)
    (case a29 => k_is)
    (case l29 => k_is)
    (case c29 => k_is)
    (case k29 => k_is)
    (case a30 => k_is)
    (case l30 => k_is)
    (case c30 => k_is)
    (case k30 => k_is)
    (case a31 => k_is)
    (case l31 => k_is)
    (case c31 => k_is)
    (case k31 => k_is)
    (case a32 => k_is)
    (case l32 => k_is)
    (case c32 => k_is)
    (case k32 => k_is)
    (case a33 => k_is)
    (case l33 => k_is)
    (case c33 => k_is)
    (case k33 => k_is)
    (case a34 => k_is)
    (case l34 => k_is)
    (case c34 => k_is)
    (case k34 => k_is)
    (case a35 => k_is)
    (case l35 => k_is)
    (case c35 => k_is)
    (case k35 => k_is)
    (case m0 => k_is)
    (case m1 => k_is)
    (case m2 => k_is)
    (case z0 => k_is)
    (case z1 => k_is)
    (case z2 => k_is)
    (case z3 => k_is)
    (case z4 => k_is)
    (case z5 => k_is)
    (case z6 => k_is)
    (case z7 => k_is)
    (case z8 => k_is)
    (case z9 => k_is)
    (case z10 => k_is)
    (case z11 => k_is)
    (case z12 => k_is)
    (case z13 => k_is)
    (case z14 => k_is)
