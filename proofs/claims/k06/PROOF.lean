import PyProof.Rows.All
import Wide.All
import OpenK.AllK
import Wide.FinOn
import HandS.Conv
import HandS.Deep
import HandS.DictSub
import HandS.DictTup
import HandS.EndBits
import HandS.Evl
import HandS.Flow
import HandS.ForExc
import HandS.ForMost
import HandS.Gcd
import HandS.IsInst
import HandS.Iter
import HandS.Rev
import HandS.RevRange
import HandS.Small
import HandS.Sort
import HandS.Star
import HandS.Style
import HandS.Text
import HandS.TupAny
import HandS.TupMul
import HandS.Wide
import HandS.WordsExc
import HandS.Zip
import KE.DataMinMax
import KE.GoesEnum
import KE.KDictCopyH
import KE.KDictList
import KE.KDictWalk
import KE.KDictZip
import KE.KItemsList
import KE.KTupSum
import KE.SortData
import PyProof.P3Eq
import PyProof.Rows.InDataRows
import PyProof.Rows.RegFStrParts
import PyProof.TableCode
import PySem.Challenge.RW_tipwoods_k06_whole_what_are_bushes
set_option Elab.async false
set_option linter.all false
set_option maxRecDepth 100000
set_option maxHeartbeats 4000000
namespace Bk
open PySem PySem.Spec PyProof.Rows L2
/-! ### the text by places -/
def topS (i : Nat) : Stmt := PySem.Challenge.pw_tipwoods_k06_whole_what_are_bushes.main.body.getD i (.Pass ⟨0, 0, 0, 0⟩)
abbrev s_is_letter : Stmt := topS 5
abbrev N_is_letter : List Str := ["value"]
abbrev P_is_letter : List Str := ["value"]
theorem sc_is_letter : FnScope N_is_letter P_is_letter (defScope s_is_letter) := ⟨rfl, rfl, rfl, by decide +kernel, rfl, by decide +kernel, by decide +kernel⟩
abbrev s_has_form : Stmt := topS 7
abbrev N_has_form : List Str := ["part"]
abbrev P_has_form : List Str := ["part"]
theorem sc_has_form : FnScope N_has_form P_has_form (defScope s_has_form) := ⟨rfl, rfl, rfl, by decide +kernel, rfl, by decide +kernel, by decide +kernel⟩
abbrev s_is_bush : Stmt := topS 8
abbrev N_is_bush : List Str := ["value", "parts", "level", "_", "part", "branch"]
abbrev P_is_bush : List Str := ["value"]
theorem sc_is_bush : FnScope N_is_bush P_is_bush (defScope s_is_bush) := ⟨rfl, rfl, rfl, by decide +kernel, rfl, by decide +kernel, by decide +kernel⟩
abbrev s_are_growths : Stmt := topS 9
abbrev N_are_growths : List Str := ["value", "growth"]
abbrev P_are_growths : List Str := ["value"]
theorem sc_are_growths : FnScope N_are_growths P_are_growths (defScope s_are_growths) := ⟨rfl, rfl, rfl, by decide +kernel, rfl, by decide +kernel, by decide +kernel⟩
abbrev s_law_cup : Stmt := topS 11
abbrev N_law_cup : List Str := ["_law_script", "_law_cell"]
abbrev P_law_cup : List Str := ["_law_script"]
theorem sc_law_cup : FnScope N_law_cup P_law_cup (defScope s_law_cup) := ⟨rfl, rfl, rfl, by decide +kernel, rfl, by decide +kernel, by decide +kernel⟩
abbrev s_law_roll : Stmt := topS 12
abbrev N_law_roll : List Str := ["_law_cup_here", "_law_many", "_law_found", "_law_deep"]
abbrev P_law_roll : List Str := ["_law_cup_here", "_law_many"]
theorem sc_law_roll : FnScope N_law_roll P_law_roll (defScope s_law_roll) := ⟨rfl, rfl, rfl, by decide +kernel, rfl, by decide +kernel, by decide +kernel⟩
abbrev s_law_some : Stmt := topS 13
abbrev N_law_some : List Str := ["_law_cup_here", "_law_things"]
abbrev P_law_some : List Str := ["_law_cup_here", "_law_things"]
theorem sc_law_some : FnScope N_law_some P_law_some (defScope s_law_some) := ⟨rfl, rfl, rfl, by decide +kernel, rfl, by decide +kernel, by decide +kernel⟩
abbrev s_law_parts : Stmt := topS 14
abbrev N_law_parts : List Str := ["_law_bush_here", "_law_found", "_law_line", "_law_road", "_law_part", "_law_at"]
abbrev P_law_parts : List Str := ["_law_bush_here"]
theorem sc_law_parts : FnScope N_law_parts P_law_parts (defScope s_law_parts) := ⟨rfl, rfl, rfl, by decide +kernel, rfl, by decide +kernel, by decide +kernel⟩
abbrev s_law_tips : Stmt := topS 15
abbrev N_law_tips : List Str := ["_law_bush_here", "_law_parts_here", "_law_road"]
abbrev P_law_tips : List Str := ["_law_bush_here"]
theorem sc_law_tips : FnScope N_law_tips P_law_tips (defScope s_law_tips) := ⟨rfl, rfl, rfl, by decide +kernel, rfl, by decide +kernel, by decide +kernel⟩
abbrev s_law_knots : Stmt := topS 16
abbrev N_law_knots : List Str := ["_law_bush_here", "_law_part"]
abbrev P_law_knots : List Str := ["_law_bush_here"]
theorem sc_law_knots : FnScope N_law_knots P_law_knots (defScope s_law_knots) := ⟨rfl, rfl, rfl, by decide +kernel, rfl, by decide +kernel, by decide +kernel⟩
abbrev s_law_put : Stmt := topS 17
abbrev N_law_put : List Str := ["_law_bush_here", "_law_road", "_law_growth_here", "_law_at"]
abbrev P_law_put : List Str := ["_law_bush_here", "_law_road", "_law_growth_here"]
theorem sc_law_put : FnScope N_law_put P_law_put (defScope s_law_put) := ⟨rfl, rfl, rfl, by decide +kernel, rfl, by decide +kernel, by decide +kernel⟩
abbrev s_law_grown : Stmt := topS 18
abbrev N_law_grown : List Str := ["_law_bush_here", "_law_growth_here", "_law_road"]
abbrev P_law_grown : List Str := ["_law_bush_here", "_law_growth_here"]
theorem sc_law_grown : FnScope N_law_grown P_law_grown (defScope s_law_grown) := ⟨rfl, rfl, rfl, by decide +kernel, rfl, by decide +kernel, by decide +kernel⟩
abbrev s_law_bush_of : Stmt := topS 19
abbrev N_law_bush_of : List Str := ["_law_growths", "_law_found", "_law_growth_here"]
abbrev P_law_bush_of : List Str := ["_law_growths"]
theorem sc_law_bush_of : FnScope N_law_bush_of P_law_bush_of (defScope s_law_bush_of) := ⟨rfl, rfl, rfl, by decide +kernel, rfl, by decide +kernel, by decide +kernel⟩
abbrev s_law_depths : Stmt := topS 20
abbrev N_law_depths : List Str := ["_law_bush_here", "_law_road"]
abbrev P_law_depths : List Str := ["_law_bush_here"]
theorem sc_law_depths : FnScope N_law_depths P_law_depths (defScope s_law_depths) := ⟨rfl, rfl, rfl, by decide +kernel, rfl, by decide +kernel, by decide +kernel⟩
abbrev s_law_sizes : Stmt := topS 21
abbrev N_law_sizes : List Str := ["_law_growths", "_law_knots_here", "_law_tips_here", "_law_near", "_law_height", "_law_growth_here", "_law_depths_here"]
abbrev P_law_sizes : List Str := ["_law_growths"]
theorem sc_law_sizes : FnScope N_law_sizes P_law_sizes (defScope s_law_sizes) := ⟨rfl, rfl, rfl, by decide +kernel, rfl, by decide +kernel, by decide +kernel⟩
abbrev s_law_bush : Stmt := topS 22
abbrev N_law_bush : List Str := ["_law_cup_here", "_law_most", "_law_letter", "_law_many", "_law_branches", "_law_left", "_law_equal", "_law_branch", "_law_fresh"]
abbrev P_law_bush : List Str := ["_law_cup_here", "_law_most"]
theorem sc_law_bush : FnScope N_law_bush P_law_bush (defScope s_law_bush) := ⟨rfl, rfl, rfl, by decide +kernel, rfl, by decide +kernel, by decide +kernel⟩
abbrev s_law_growth : Stmt := topS 23
abbrev N_law_growth : List Str := ["_law_cup_here", "_law_most", "_law_found"]
abbrev P_law_growth : List Str := ["_law_cup_here", "_law_most"]
theorem sc_law_growth : FnScope N_law_growth P_law_growth (defScope s_law_growth) := ⟨rfl, rfl, rfl, by decide +kernel, rfl, by decide +kernel, by decide +kernel⟩
abbrev s_law_known : Stmt := topS 24
abbrev N_law_known : List Str := ["_law_cup_here", "_law_a", "_law_f", "_law_some_here"]
abbrev P_law_known : List Str := ["_law_cup_here"]
theorem sc_law_known : FnScope N_law_known P_law_known (defScope s_law_known) := ⟨rfl, rfl, rfl, by decide +kernel, rfl, by decide +kernel, by decide +kernel⟩
abbrev s_law_row : Stmt := topS 25
abbrev N_law_row : List Str := ["_law_cup_here", "_law_years", "_law_parts_here", "_law_found", "_law_year", "_law_way", "_law_growth_here", "_law_knots_here", "_law_tips_here", "_law_near", "_law_height"]
abbrev P_law_row : List Str := ["_law_cup_here", "_law_years", "_law_parts_here"]
theorem sc_law_row : FnScope N_law_row P_law_row (defScope s_law_row) := ⟨rfl, rfl, rfl, by decide +kernel, rfl, by decide +kernel, by decide +kernel⟩
abbrev s_law_near_bush : Stmt := topS 26
abbrev N_law_near_bush : List Str := ["_law_cup_here", "_law_bush_here", "_law_roads", "_law_road", "_law_part", "_law_way"]
abbrev P_law_near_bush : List Str := ["_law_cup_here", "_law_bush_here"]
theorem sc_law_near_bush : FnScope N_law_near_bush P_law_near_bush (defScope s_law_near_bush) := ⟨rfl, rfl, rfl, by decide +kernel, rfl, by decide +kernel, by decide +kernel⟩
abbrev s_law_chain : Stmt := topS 27
abbrev N_law_chain : List Str := ["_law_many", "_law_found", "_law_turn"]
abbrev P_law_chain : List Str := ["_law_many"]
theorem sc_law_chain : FnScope N_law_chain P_law_chain (defScope s_law_chain) := ⟨rfl, rfl, rfl, by decide +kernel, rfl, by decide +kernel, by decide +kernel⟩
abbrev s_law_great : Stmt := topS 28
abbrev N_law_great : List Str := ["_law_more", "_law_wide", "_law_found", "_law_tips_here", "_law_road"]
abbrev P_law_great : List Str := ["_law_more"]
theorem sc_law_great : FnScope N_law_great P_law_great (defScope s_law_great) := ⟨rfl, rfl, rfl, by decide +kernel, rfl, by decide +kernel, by decide +kernel⟩
abbrev s_law_is_bush : Stmt := topS 29
abbrev N_law_is_bush : List Str := ["_law_value", "_law_depth", "_law_branch"]
abbrev P_law_is_bush : List Str := ["_law_value", "_law_depth"]
theorem sc_law_is_bush : FnScope N_law_is_bush P_law_is_bush (defScope s_law_is_bush) := ⟨rfl, rfl, rfl, by decide +kernel, rfl, by decide +kernel, by decide +kernel⟩
abbrev s_law_odd : Stmt := topS 30
abbrev N_law_odd : List Str := ["_law_cup_here", "_law_wide", "_law_some_here"]
abbrev P_law_odd : List Str := ["_law_cup_here"]
theorem sc_law_odd : FnScope N_law_odd P_law_odd (defScope s_law_odd) := ⟨rfl, rfl, rfl, by decide +kernel, rfl, by decide +kernel, by decide +kernel⟩
abbrev s_law_right : Stmt := topS 31
abbrev N_law_right : List Str := ["_law_value"]
abbrev P_law_right : List Str := ["_law_value"]
theorem sc_law_right : FnScope N_law_right P_law_right (defScope s_law_right) := ⟨rfl, rfl, rfl, by decide +kernel, rfl, by decide +kernel, by decide +kernel⟩
abbrev s_law : Stmt := topS 32
abbrev N_law : List Str := ["_law_script", "_law_cup_here", "_law_turn", "_law_bush_here", "_law_odd_here", "_law_row_here", "_law_rows", "_law_f", "_law_value", "_law_due"]
abbrev P_law : List Str := ["_law_script"]
theorem sc_law : FnScope N_law P_law (defScope s_law) := ⟨rfl, rfl, rfl, by decide +kernel, rfl, by decide +kernel, by decide +kernel⟩
/-- what the top leaves -/
structure Tx (K : PySem.W.Frag) (mg : Str → Option Value) where
  a_is_letter : Addr
  d_is_letter : FuncData
  F_is_letter : Fun K "is_letter" "is_letter" s_is_letter a_is_letter d_is_letter
  g_is_letter : mg "is_letter" = some (.ref a_is_letter)
  b_is_letter : Binds K d_is_letter P_is_letter []
  a_has_form : Addr
  d_has_form : FuncData
  F_has_form : Fun K "_has_form" "_has_form" s_has_form a_has_form d_has_form
  g_has_form : mg "_has_form" = some (.ref a_has_form)
  b_has_form : Binds K d_has_form P_has_form []
  a_is_bush : Addr
  d_is_bush : FuncData
  F_is_bush : Fun K "is_bush" "is_bush" s_is_bush a_is_bush d_is_bush
  g_is_bush : mg "is_bush" = some (.ref a_is_bush)
  b_is_bush : Binds K d_is_bush P_is_bush []
  a_are_growths : Addr
  d_are_growths : FuncData
  F_are_growths : Fun K "are_growths" "are_growths" s_are_growths a_are_growths d_are_growths
  g_are_growths : mg "are_growths" = some (.ref a_are_growths)
  b_are_growths : Binds K d_are_growths P_are_growths []
  a_law_cup : Addr
  d_law_cup : FuncData
  F_law_cup : Fun K "_law_cup" "_law_cup" s_law_cup a_law_cup d_law_cup
  g_law_cup : mg "_law_cup" = some (.ref a_law_cup)
  b_law_cup : Binds K d_law_cup P_law_cup []
  a_law_roll : Addr
  d_law_roll : FuncData
  F_law_roll : Fun K "_law_roll" "_law_roll" s_law_roll a_law_roll d_law_roll
  g_law_roll : mg "_law_roll" = some (.ref a_law_roll)
  b_law_roll : Binds K d_law_roll P_law_roll []
  a_law_some : Addr
  d_law_some : FuncData
  F_law_some : Fun K "_law_some" "_law_some" s_law_some a_law_some d_law_some
  g_law_some : mg "_law_some" = some (.ref a_law_some)
  b_law_some : Binds K d_law_some P_law_some []
  a_law_parts : Addr
  d_law_parts : FuncData
  F_law_parts : Fun K "_law_parts" "_law_parts" s_law_parts a_law_parts d_law_parts
  g_law_parts : mg "_law_parts" = some (.ref a_law_parts)
  b_law_parts : Binds K d_law_parts P_law_parts []
  a_law_tips : Addr
  d_law_tips : FuncData
  F_law_tips : Fun K "_law_tips" "_law_tips" s_law_tips a_law_tips d_law_tips
  g_law_tips : mg "_law_tips" = some (.ref a_law_tips)
  b_law_tips : Binds K d_law_tips P_law_tips []
  a_law_knots : Addr
  d_law_knots : FuncData
  F_law_knots : Fun K "_law_knots" "_law_knots" s_law_knots a_law_knots d_law_knots
  g_law_knots : mg "_law_knots" = some (.ref a_law_knots)
  b_law_knots : Binds K d_law_knots P_law_knots []
  a_law_put : Addr
  d_law_put : FuncData
  F_law_put : Fun K "_law_put" "_law_put" s_law_put a_law_put d_law_put
  g_law_put : mg "_law_put" = some (.ref a_law_put)
  b_law_put : Binds K d_law_put P_law_put []
  a_law_grown : Addr
  d_law_grown : FuncData
  F_law_grown : Fun K "_law_grown" "_law_grown" s_law_grown a_law_grown d_law_grown
  g_law_grown : mg "_law_grown" = some (.ref a_law_grown)
  b_law_grown : Binds K d_law_grown P_law_grown []
  a_law_bush_of : Addr
  d_law_bush_of : FuncData
  F_law_bush_of : Fun K "_law_bush_of" "_law_bush_of" s_law_bush_of a_law_bush_of d_law_bush_of
  g_law_bush_of : mg "_law_bush_of" = some (.ref a_law_bush_of)
  b_law_bush_of : Binds K d_law_bush_of P_law_bush_of []
  a_law_depths : Addr
  d_law_depths : FuncData
  F_law_depths : Fun K "_law_depths" "_law_depths" s_law_depths a_law_depths d_law_depths
  g_law_depths : mg "_law_depths" = some (.ref a_law_depths)
  b_law_depths : Binds K d_law_depths P_law_depths []
  a_law_sizes : Addr
  d_law_sizes : FuncData
  F_law_sizes : Fun K "_law_sizes" "_law_sizes" s_law_sizes a_law_sizes d_law_sizes
  g_law_sizes : mg "_law_sizes" = some (.ref a_law_sizes)
  b_law_sizes : Binds K d_law_sizes P_law_sizes []
  a_law_bush : Addr
  d_law_bush : FuncData
  F_law_bush : Fun K "_law_bush" "_law_bush" s_law_bush a_law_bush d_law_bush
  g_law_bush : mg "_law_bush" = some (.ref a_law_bush)
  b_law_bush : Binds K d_law_bush P_law_bush []
  a_law_growth : Addr
  d_law_growth : FuncData
  F_law_growth : Fun K "_law_growth" "_law_growth" s_law_growth a_law_growth d_law_growth
  g_law_growth : mg "_law_growth" = some (.ref a_law_growth)
  b_law_growth : Binds K d_law_growth P_law_growth []
  a_law_known : Addr
  d_law_known : FuncData
  F_law_known : Fun K "_law_known" "_law_known" s_law_known a_law_known d_law_known
  g_law_known : mg "_law_known" = some (.ref a_law_known)
  b_law_known : Binds K d_law_known P_law_known []
  a_law_row : Addr
  d_law_row : FuncData
  F_law_row : Fun K "_law_row" "_law_row" s_law_row a_law_row d_law_row
  g_law_row : mg "_law_row" = some (.ref a_law_row)
  b_law_row : Binds K d_law_row P_law_row []
  a_law_near_bush : Addr
  d_law_near_bush : FuncData
  F_law_near_bush : Fun K "_law_near_bush" "_law_near_bush" s_law_near_bush a_law_near_bush d_law_near_bush
  g_law_near_bush : mg "_law_near_bush" = some (.ref a_law_near_bush)
  b_law_near_bush : Binds K d_law_near_bush P_law_near_bush []
  a_law_chain : Addr
  d_law_chain : FuncData
  F_law_chain : Fun K "_law_chain" "_law_chain" s_law_chain a_law_chain d_law_chain
  g_law_chain : mg "_law_chain" = some (.ref a_law_chain)
  b_law_chain : Binds K d_law_chain P_law_chain []
  a_law_great : Addr
  d_law_great : FuncData
  F_law_great : Fun K "_law_great" "_law_great" s_law_great a_law_great d_law_great
  g_law_great : mg "_law_great" = some (.ref a_law_great)
  b_law_great : Binds K d_law_great P_law_great []
  a_law_is_bush : Addr
  d_law_is_bush : FuncData
  F_law_is_bush : Fun K "_law_is_bush" "_law_is_bush" s_law_is_bush a_law_is_bush d_law_is_bush
  g_law_is_bush : mg "_law_is_bush" = some (.ref a_law_is_bush)
  b_law_is_bush : Binds K d_law_is_bush P_law_is_bush []
  a_law_odd : Addr
  d_law_odd : FuncData
  F_law_odd : Fun K "_law_odd" "_law_odd" s_law_odd a_law_odd d_law_odd
  g_law_odd : mg "_law_odd" = some (.ref a_law_odd)
  b_law_odd : Binds K d_law_odd P_law_odd []
  a_law_right : Addr
  d_law_right : FuncData
  F_law_right : Fun K "_law_right" "_law_right" s_law_right a_law_right d_law_right
  g_law_right : mg "_law_right" = some (.ref a_law_right)
  b_law_right : Binds K d_law_right P_law_right []
  a_law : Addr
  d_law : FuncData
  F_law : Fun K "law" "law" s_law a_law d_law
  g_law : mg "law" = some (.ref a_law)
  b_law : Binds K d_law P_law []
  c_MOST_BRANCHES : ∃ t, mg "MOST_BRANCHES" = some (.int 6 t)
  c_MOST_PARTS : ∃ t, mg "MOST_PARTS" = some (.int 400 t)
  c_MOST_DEPTH : ∃ t, mg "MOST_DEPTH" = some (.int 60 t)
  c_MOST_GROWTHS : ∃ t, mg "MOST_GROWTHS" = some (.int 12 t)
  z_abs : mg "abs" = none
  z_all : mg "all" = none
  z_int : mg "int" = none
  z_isinstance : mg "isinstance" = none
  z_len : mg "len" = none
  z_list : mg "list" = none
  z_max : mg "max" = none
  z_min : mg "min" = none
  z_range : mg "range" = none
  z_repr : mg "repr" = none
  z_sorted : mg "sorted" = none
  z_str : mg "str" = none
  z_sum : mg "sum" = none
  z_tuple : mg "tuple" = none
end Bk
namespace Bk
open PySem PySem.Spec PyProof.Rows L2
open Evl (Ex)

/-! ### data that never changes -/
mutual
def fz : PyData → Bool
  | .none => true
  | .bool _ => true
  | .int _ => true
  | .str _ => true
  | .list _ => false
  | .tuple xs => fzA xs
  | .dict _ => false
def fzA : List PyData → Bool
  | [] => true
  | x :: xs => fz x && fzA xs
end
/-- tuples and what is locked stand -/
def Tu (H H' : Hp) : Prop := (∀ a xs, H a = some (.tup xs) → H' a = some (.tup xs)) ∧ (∀ a o u, H a = some (.frz o u) → H' a = some (.frz o u))
theorem Tu.refl (H : Hp) : Tu H H := ⟨fun _ _ h => h, fun _ _ _ h => h⟩
theorem Tu.trans {H H1 H2 : Hp} (a : Tu H H1) (b : Tu H1 H2) : Tu H H2 := ⟨fun x xs h => b.1 x xs (a.1 x xs h), fun x o u h => b.2 x o u (a.2 x o u h)⟩
theorem Tu.ex {H H' : Hp} (e : Ex H H') : Tu H H' := ⟨fun a xs h => e a _ h, fun a o u h => e a _ h⟩
theorem Tu.rd {H H' : Hp} {a : Addr} {xs : List V} (t : Tu H H') (h : Rd H a (.tup xs)) : Rd H' a (.tup xs) := by
  rcases h with h | ⟨o, h⟩
  · exact .inl (t.1 _ _ h)
  · exact .inr ⟨o, t.2 _ _ _ h⟩
theorem Tu.seq {K : PySem.W.Frag} {H H' : Hp} {a : Addr} {xs : List V} (t : Tu H H') (h : SqT K H a xs) : SqT K H' a xs := by
  rcases h with h | h
  · exact .inl (t.rd h)
  · exact .inr h
mutual
theorem Dp.tu {K : PySem.W.Frag} {H H' : Hp} (t : Tu H H') : ∀ (d : PyData) (v : V), fz d = true → Dp K H v d → Dp K H' v d
  | .none, _, _, h => by cases h; exact .non
  | .bool b, _, _, h => by cases h; exact .bl b
  | .int i, _, _, h => by cases h; exact .int i
  | .str x, _, _, h => by cases h; exact .str x
  | .list _, _, f, _ => by simp [fz] at f
  | .dict _, _, f, _ => by simp [fz] at f
  | .tuple ds, _, f, h => by
    cases h with
    | tup hs ha => exact .tup (t.seq hs) (DpAll.tu t ds _ (by simpa [fz] using f) ha)
theorem DpAll.tu {K : PySem.W.Frag} {H H' : Hp} (t : Tu H H') : ∀ (ds : List PyData) (vs : List V), fzA ds = true → DpAll K H vs ds → DpAll K H' vs ds
  | [], _, _, h => by cases h; exact .nil
  | d :: ds, _, f, h => by
    cases h with
    | cons h1 h2 =>
      have f' : fz d = true ∧ fzA ds = true := by simpa [fzA] using f
      exact .cons (Dp.tu t d _ f'.1 h1) (DpAll.tu t ds _ f'.2 h2)
end
mutual
theorem Dp.ex {K : PySem.W.Frag} {H H' : Hp} (t : Ex H H') : ∀ (d : PyData) (v : V), Dp K H v d → Dp K H' v d
  | .none, _, h => by cases h; exact .non
  | .bool b, _, h => by cases h; exact .bl b
  | .int i, _, h => by cases h; exact .int i
  | .str x, _, h => by cases h; exact .str x
  | .dict _, _, h => by cases h
  | .list ds, _, h => by
    cases h with
    | lst hs ha => exact .lst (Evl.ex_l t hs) (DpAll.ex t ds _ ha)
  | .tuple ds, _, h => by
    cases h with
    | tup hs ha => exact .tup (Evl.ex_t t hs) (DpAll.ex t ds _ ha)
theorem DpAll.ex {K : PySem.W.Frag} {H H' : Hp} (t : Ex H H') : ∀ (ds : List PyData) (vs : List V), DpAll K H vs ds → DpAll K H' vs ds
  | [], _, h => by cases h; exact .nil
  | d :: ds, _, h => by
    cases h with
    | cons h1 h2 => exact .cons (Dp.ex t d _ h1) (DpAll.ex t ds _ h2)
end
section
variable {K : PySem.W.Frag} {H : Hp}
theorem DpAll.len : ∀ {vs : List V} {ds : List PyData}, DpAll K H vs ds → vs.length = ds.length
  | _, _, .nil => rfl
  | _, _, .cons _ t => by rw [List.length_cons, List.length_cons, DpAll.len t]
theorem DpAll.get : ∀ {vs : List V} {ds : List PyData} {i : Nat} {v : V}, DpAll K H vs ds → vs[i]? = some v → ∃ d, ds[i]? = some d ∧ Dp K H v d
  | _, _, _, _, .nil, e => by simp at e
  | _, _, 0, _, .cons r _, e => by simp at e; subst e; exact ⟨_, rfl, r⟩
  | _, _, i + 1, v, .cons _ t, e => by
    obtain ⟨u, h1, h2⟩ := DpAll.get (i := i) (v := v) t (by simpa using e)
    exact ⟨u, by simpa using h1, h2⟩
theorem DpAll.get' {vs : List V} {ds : List PyData} {i : Nat} {d : PyData} (h : DpAll K H vs ds) (e : ds[i]? = some d) : ∃ v, vs[i]? = some v ∧ Dp K H v d := by
  have hl := DpAll.len h
  have hi : i < ds.length := (List.getElem?_eq_some_iff.mp e).1
  obtain ⟨d', h1, h2⟩ := DpAll.get h (i := i) (v := vs[i]'(by omega)) (by simp [show i < vs.length by omega])
  rw [e] at h1
  cases h1
  exact ⟨_, by simp [show i < vs.length by omega], h2⟩
theorem DpAll.app : ∀ {vs ws : List V} {ds es : List PyData}, DpAll K H vs ds → DpAll K H ws es → DpAll K H (vs ++ ws) (ds ++ es)
  | _, _, _, _, .nil, h => h
  | _, _, _, _, .cons r t, h => .cons r (DpAll.app t h)
theorem DpAll.take : ∀ {vs : List V} {ds : List PyData} (n : Nat), DpAll K H vs ds → DpAll K H (vs.take n) (ds.take n)
  | _, _, 0, _ => by rw [List.take_zero, List.take_zero]; exact .nil
  | _, _, n + 1, .nil => .nil
  | _, _, n + 1, .cons r t => .cons r (DpAll.take n t)
theorem DpAll.drop : ∀ {vs : List V} {ds : List PyData} (n : Nat), DpAll K H vs ds → DpAll K H (vs.drop n) (ds.drop n)
  | _, _, 0, h => h
  | _, _, n + 1, .nil => .nil
  | _, _, n + 1, .cons r t => DpAll.drop n t
theorem DpAll.snoc {vs : List V} {ds : List PyData} {v : V} {d : PyData} (h : DpAll K H vs ds) (r : Dp K H v d) : DpAll K H (vs ++ [v]) (ds ++ [d]) := DpAll.app h (.cons r .nil)
theorem dp_tup {v : V} {ds : List PyData} (h : Dp K H v (.tuple ds)) : ∃ a xs, v = .ref a ∧ SqT K H a xs ∧ DpAll K H xs ds := by
  cases h with
  | tup hs ha => exact ⟨_, _, rfl, hs, ha⟩
theorem dp_lst {v : V} {ds : List PyData} (h : Dp K H v (.list ds)) : ∃ a xs, v = .ref a ∧ SqL K H a xs ∧ DpAll K H xs ds := by
  cases h with
  | lst hs ha => exact ⟨_, _, rfl, hs, ha⟩
theorem dp_int {v : V} {i : Int} (h : Dp K H v (.int i)) : v = .int i := by cases h; rfl
theorem dp_str {v : V} {x : Str} (h : Dp K H v (.str x)) : v = .str x := by cases h; rfl
theorem dp_bl {v : V} {b : Bool} (h : Dp K H v (.bool b)) : v = .bl b := by cases h; rfl
theorem fzA_get : ∀ {ds : List PyData} {i : Nat} {d : PyData}, fzA ds = true → ds[i]? = some d → fz d = true
  | [], _, _, _, e => by simp at e
  | x :: xs, 0, d, h, e => by
    simp at e; subst e
    exact (by simpa [fzA] using h : fz x = true ∧ fzA xs = true).1
  | x :: xs, i + 1, d, h, e => fzA_get (by simpa [fzA] using h : fz x = true ∧ fzA xs = true).2 (by simpa using e)
theorem fzA_of {ds : List PyData} (h : ∀ d ∈ ds, fz d = true) : fzA ds = true := by
  induction ds with
  | nil => rfl
  | cons d ds ih =>
    show (fz d && fzA ds) = true
    rw [h d List.mem_cons_self, ih fun e he => h e (List.mem_cons_of_mem _ he)]
    rfl
theorem fzA_app {ds es : List PyData} : fzA (ds ++ es) = (fzA ds && fzA es) := by
  induction ds with
  | nil => rfl
  | cons d ds ih =>
    show (fz d && fzA (ds ++ es)) = ((fz d && fzA ds) && fzA es)
    rw [ih, Bool.and_assoc]
end

/-! ### heaps that keep all but some -/
/-- all that H tracks stands in H', but what stands at c -/
def ExB (c : Addr) (H H' : Hp) : Prop := ∀ a o, a ≠ c → H a = some o → H' a = some o
theorem ExB.of {c : Addr} {H H' : Hp} (e : Ex H H') : ExB c H H' := fun a o _ h => e a o h
theorem ExB.refl (c : Addr) (H : Hp) : ExB c H H := fun _ _ _ h => h
theorem ExB.trans {c : Addr} {H H1 H2 : Hp} (a : ExB c H H1) (b : ExB c H1 H2) : ExB c H H2 := fun x o n h => b x o n (a x o n h)
theorem ExB.upd {c : Addr} {H : Hp} {o : HO} : ExB c H (upd H c o) := fun a u n h => by rw [upd_ne n]; exact h
theorem ExB.ex {c : Addr} {H0 H H' : Hp} (b : ExB c H H') (e : Ex H0 H) (hc : H0 c = none) : Ex H0 H' := fun a o h => b a o (ne_of_none h hc) (e a o h)
theorem ExB.tu {c : Addr} {H H' : Hp} {xs : List V} (b : ExB c H H') (h : H c = some (.lst xs)) : Tu H H' :=
  ⟨fun a ys q => b a _ (ne_of q h (by intro z; cases z)) q, fun a o u q => b a _ (ne_of q h (by intro z; cases z)) q⟩
theorem tu_lst {H : Hp} {p : Addr} {xs ys : List V} (h : H p = some (.lst xs)) : Tu H (upd H p (.lst ys)) := ExB.tu ExB.upd h
theorem ex_new {H : Hp} {p : Addr} {o : HO} (h : H p = none) : Ex H (upd H p o) := Evl.Ex.new h
theorem Ex.tu {H H' : Hp} (e : Ex H H') : Tu H H' := Tu.ex e

/-! ### bushes -/
inductive Bu where
  | tip
  | knot (c : Nat) (bs : List Bu)
mutual
def toD : Bu → PyData
  | .tip => .tuple []
  | .knot c bs => .tuple (.str ⟨#[c]⟩ :: toDs bs)
def toDs : List Bu → List PyData
  | [] => []
  | b :: bs => toD b :: toDs bs
end
theorem toDs_map : ∀ bs : List Bu, toDs bs = bs.map toD
  | [] => rfl
  | b :: bs => by rw [toDs, toDs_map bs]; rfl
/-- the items of a bush, as data -/
def itm : Bu → List PyData
  | .tip => []
  | .knot c bs => .str ⟨#[c]⟩ :: bs.map toD
theorem toD_itm (b : Bu) : toD b = .tuple (itm b) := by
  cases b with
  | tip => rfl
  | knot c bs => rw [toD, toDs_map]; rfl
mutual
theorem fz_toD : ∀ b : Bu, fz (toD b) = true
  | .tip => rfl
  | .knot c bs => by
    rw [toD]
    show (fz (.str ⟨#[c]⟩) && fzA (toDs bs)) = true
    rw [fz_toDs bs]
    rfl
theorem fz_toDs : ∀ bs : List Bu, fzA (toDs bs) = true
  | [] => rfl
  | b :: bs => by
    show (fz (toD b) && fzA (toDs bs)) = true
    rw [fz_toD b, fz_toDs bs]
    rfl
end
theorem fzA_itm (b : Bu) : fzA (itm b) = true := by
  have h := fz_toD b
  rw [toD_itm] at h
  exact h
theorem str1_inj {c d : Nat} (h : (⟨#[c]⟩ : Str) = ⟨#[d]⟩) : c = d := by
  injection h with h
  have h2 := congrArg Array.toList h
  simpa using h2
mutual
theorem toD_inj : ∀ a b : Bu, toD a = toD b → a = b
  | .tip, .tip, _ => rfl
  | .tip, .knot c bs, h => by rw [toD, toD] at h; injection h with h; cases h
  | .knot c bs, .tip, h => by rw [toD, toD] at h; injection h with h; cases h
  | .knot c bs, .knot d es, h => by
    rw [toD, toD] at h
    injection h with h
    injection h with h1 h2
    injection h1 with h1
    rw [str1_inj h1, toDs_inj bs es h2]
theorem toDs_inj : ∀ a b : List Bu, toDs a = toDs b → a = b
  | [], [], _ => rfl
  | [], _ :: _, h => by rw [toDs, toDs] at h; cases h
  | _ :: _, [], h => by rw [toDs, toDs] at h; cases h
  | x :: xs, y :: ys, h => by
    rw [toDs, toDs] at h
    injection h with h1 h2
    rw [toD_inj x y h1, toDs_inj xs ys h2]
end
mutual
def dep : Bu → Nat
  | .tip => 0
  | .knot _ bs => deps bs + 1
/-- the greatest depth of some -/
def deps : List Bu → Nat
  | [] => 0
  | b :: bs => max (dep b) (deps bs)
end
mutual
def knots : Bu → Nat
  | .tip => 0
  | .knot _ bs => knotss bs + 1
def knotss : List Bu → Nat
  | [] => 0
  | b :: bs => knots b + knotss bs
end
mutual
def tips : Bu → Nat
  | .tip => 1
  | .knot _ bs => tipss bs
def tipss : List Bu → Nat
  | [] => 0
  | b :: bs => tips b + tipss bs
end
mutual
def grow : Bu → Bu → Bu
  | .tip, g => g
  | .knot c bs, g => .knot c (growL bs g)
def growL : List Bu → Bu → List Bu
  | [], _ => []
  | b :: bs, g => grow b g :: growL bs g
end
theorem growL_map (g : Bu) : ∀ bs : List Bu, growL bs g = bs.map (grow · g)
  | [] => rfl
  | b :: bs => by rw [growL, growL_map g bs]; rfl
theorem dep_le : ∀ {bs : List Bu} {b : Bu}, b ∈ bs → dep b ≤ deps bs
  | b :: bs, x, h => by
    rw [deps]
    rcases List.mem_cons.mp h with e | e
    · subst e; exact Nat.le_max_left _ _
    · exact Nat.le_trans (dep_le e) (Nat.le_max_right _ _)
theorem deps_le {bs : List Bu} {n : Nat} (h : ∀ b ∈ bs, dep b ≤ n) : deps bs ≤ n := by
  induction bs with
  | nil => exact Nat.zero_le _
  | cons b bs ih =>
    rw [deps]
    exact Nat.max_le.mpr ⟨h b List.mem_cons_self, ih fun x hx => h x (List.mem_cons_of_mem _ hx)⟩
mutual
/-- letters are a to z, branches 1 to 6 -/
def okB : Bu → Bool
  | .tip => true
  | .knot c bs => decide (97 ≤ c) && decide (c ≤ 122) && decide (1 ≤ bs.length) && decide (bs.length ≤ 6) && okBs bs
def okBs : List Bu → Bool
  | [] => true
  | b :: bs => okB b && okBs bs
end
end Bk

namespace Bk
open PySem PySem.W PySem.Calls PyProof.Rows PySem.SeqAt

/-- a road as data -/
def enc (r : List Int) : PyData := .tuple (r.map .int)
theorem alike_enc (a b : List Int) : alike (enc a) (enc b) = true := by
  unfold enc
  simp only [alike]
  exact alike_ints a b
theorem allAlike_enc (rs : List (List Int)) : AllAlike (rs.map enc) := AllAlike.of alike_enc
theorem depth_enc (r : List Int) : (enc r).depth ≤ 1 := by
  unfold enc
  simp [PyData.depth, depth_ints]

theorem call_tuple_lt {A : Around} {s : Shared} {prog : Program} {w : World} {E : Value → Shared → Prop} {Q : Value → Shared → Prop} {l b : Addr} {items items2 : Array Value} {e r : Nat → Bool} (hl : s.heap.IsTuple l items) (hb : s.heap.IsTuple b items2)
    (he : ∀ j (h1 : j < items.size) (h2 : j < items2.size), EqAt A.in1 s items[j] items2[j] (e j)) (hr : ∀ j (h1 : j < items.size) (h2 : j < items2.size), e j = false → RcLt A.in1 s items[j] items2[j] (r j))
    (h : Q (.bool (firstLt e r (decide (items.size < items2.size)) (List.range (min items.size items2.size)))) s) : wpAny (model prog w) A (call (.builtin "tuple.__lt__") [.ref l, .ref b]) Q E s := by
  obtain ⟨⟨cls, dd, data, sl⟩, ho, hc, n, hd⟩ := id hl
  obtain ⟨⟨cls2, dd2, data2, sl2⟩, ho2, hc2, n2, hd2⟩ := id hb
  simp only at hc hd hc2 hd2
  subst hc hd hc2 hd2
  exact call_meets F.slot_tuple_lt ⟨_, ho, rfl⟩ F.entry_tuple_lt (F.args_tuple_lt_2 _ _) (tuple_ltAt l b items items2 n n2 dd dd2 sl sl2 e r) ⟨ho, ho2, he, hr, h⟩

section
variable {prog : Program} {w : World} {A : Around} {s : Shared}
theorem oneLt_tup {xs ys : List PyData} {a b : Value} {as bs : List Addr} {E : Value → Shared → Prop} {Q : Bool → Shared → Prop} (ra : Reads s.heap a (.tuple xs) as) (rb : Reads s.heap b (.tuple ys) bs) (hal : alikeAll xs ys = true)
    (hu : A.units + min (PyData.tuple xs).depth (PyData.tuple ys).depth < cLine) (hq : Q (dataLt (.tuple xs) (.tuple ys)) s) : wpAny (model prog w) A (oneLt' true a b) Q E s := by
  cases ra with
  | @tuple l o vs n _ as₁ h1 h2 h3 h4 =>
    cases rb with
    | @tuple l' o' vs' n' _ bs₁ k1 k2 k3 k4 =>
      have n1 : vs.size = xs.length := by simpa using ReadsAll.length _ _ _ h4
      have n2 : vs'.size = ys.length := by simpa using ReadsAll.length _ _ _ k4
      rw [dataLt_tuple, ← firstLt_toks xs ys hal, ← n1, ← n2] at hq
      rw [oneLt'_eq]
      simp only [if_true]
      refine wpAny_bind (wpAny_cRoomFor (room_here hu) ?_)
      refine wpAny_bind (wpAny_callSpecialIfBound?_slot (T := "tuple") ⟨_, h1, h2⟩ F.slot_tuple_lt (call_tuple_lt (e := pairEq xs ys) (r := fun j => dataLt (xs.getD j .none) (ys.getD j .none)) ⟨_, h1, h2, _, h3⟩ ⟨_, k1, k2, _, k3⟩ (fun j j1 j2 => ?_) (fun j j1 j2 hj => ?_) ?_))
      · have := eqAt_alikeAll xs ys A.in1 s vs.toList vs'.toList _ _ h4 k4 hal (room_in hu) j (by simpa using j1) (by simpa using j2)
        simpa using this
      · have := rcLt_alikeAll xs ys A.in1 s vs.toList vs'.toList _ _ h4 k4 hal (room_in hu) j (by simpa using j1) (by simpa using j2) hj
        simpa using this
      · exact wpAny_truthy_bool hq
end
end Bk

namespace Bk
open PySem PySem.W PySem.Calls PyProof.Rows PySem.SeqAt

/-- tuples, and their first items -/
def Firsts (h : Heap) : List Value → List (Option Value) → Prop
  | [], [] => True
  | v :: vs, f :: fs => (∃ a o xs n, v = .ref a ∧ h.get? a = some o ∧ o.cls = .type "tuple" ∧ o.data = .seq xs n ∧ xs[0]? = f) ∧ Firsts h vs fs
  | _, _ => False
theorem firsts_len {h : Heap} : ∀ {vs : List Value} {fs : List (Option Value)}, Firsts h vs fs → vs.length = fs.length
  | [], [], _ => rfl
  | _ :: _, _ :: _, t => by rw [List.length_cons, List.length_cons, firsts_len t.2]
  | [], _ :: _, t => t.elim
  | _ :: _, [], t => t.elim
theorem firsts_types {h : Heap} {M : Model} : ∀ {vs : List Value} {fs : List (Option Value)}, Firsts h vs fs → ∀ v ∈ vs, Looks M h (typeOf v) (.type "tuple")
  | [], _, _, v, hv => by simp at hv
  | _ :: _, [], t, _, _ => t.elim
  | v :: vs, f :: fs, t, x, hx => by
    rcases List.mem_cons.mp hx with e | e
    · subst e
      obtain ⟨⟨a, o, xs, n, rfl, ho, hc, hd, hf⟩, _⟩ := t
      have q : Looks M h (typeOf (.ref a)) o.cls := (Looks.ld ho).andThen .now
      rw [hc] at q
      exact q
    · exact firsts_types t.2 x e
section
variable {M : Model} {A : Around} {E : Value → Shared → Prop} {s : Shared}
theorem firsts_run : ∀ (vs : List Value) (fs : List (Option Value)) {Q : List (Option Value) → Shared → Prop}, Firsts s.heap vs fs → Q fs s → wpAny M A (vs.mapM firstOfTuple') Q E s
  | [], [], _, _, h => by rw [List.mapM_nil]; exact wpAny_pure h
  | [], _ :: _, _, t, _ => t.elim
  | _ :: _, [], _, t, _ => t.elim
  | v :: vs, f :: fs, Q, t, h => by
    obtain ⟨⟨a, o, xs, n, rfl, ho, hc, hd, hf⟩, t⟩ := t
    rw [List.mapM_cons]
    refine wpAny_bind ?_
    rw [kas_first_eq]
    refine wpAny_bind (Looks.here (show Looks M s.heap (typeOf (.ref a)) o.cls from (Looks.ld ho).andThen .now) ?_)
    rw [hc, if_neg (by first | decide | simp)]
    refine wpAny_bind (listItems_at ho hd (wpAny_pure ?_))
    rw [hf]
    exact wpAny_bind (firsts_run vs fs (Q := fun bs s' => wpAny M A (pure (f :: bs)) Q E s') t (wpAny_pure h))
theorem kind_tup0 {vs : List Value} {fs : List (Option Value)} {Q : SortKind → Shared → Prop} (t : Firsts s.heap vs (none :: fs)) (h : Q oneType' s) : wpAny M A (keyKind' vs.toArray) Q E s := by
  rw [keyKind'_eq, List.mapM_toArray, map_eq_pure_bind]
  refine wpAny_bind (wpAny_bind (firsts_run vs _ t (wpAny_pure ?_)))
  rw [if_neg (by simp), if_neg (by simp)]
  rw [oneTypeOnly'_eq, List.mapM_toArray, map_eq_pure_bind]
  have hT := firsts_types (M := M) t
  refine wpAny_bind (wpAny_bind (wpAny_bind (kas_mapM (r := Value.type "tuple") _ (fun v hv Q' hq => (hT v hv).here hq) (wpAny_pure ?_))))
  have hall : ((List.map (fun _ => Value.type "tuple") vs).toArray.all fun x => x == Value.type "tuple") = true := by
    simp only [List.all_toArray, List.all_map, List.all_eq_true]
    intro _ _
    exact beq_self_eq_true _
  obtain ⟨v₁, rest, rfl⟩ : ∃ v₁ rest, vs = v₁ :: rest := by
    have := firsts_len t
    cases vs with
    | nil => simp at this
    | cons v r => exact ⟨v, r, rfl⟩
  have h0 : (List.map (fun _ => Value.type "tuple") (v₁ :: rest)).toArray[0]? = some (Value.type "tuple") := by simp
  rw [h0]
  simp only [hall, if_true]
  exact wpAny_pure (wpAny_pure h)
end
theorem each_firsts {h : Heap} : ∀ {vs : List Value} {rs : List (List Int)}, EachIs (fun v r => ∃ as, Reads h v (enc r) as) vs rs → ∃ fs, Firsts h vs fs ∧ ∀ r rs', rs = r :: rs' → r = [] → ∃ fs', fs = none :: fs'
  | _, _, .nil => ⟨[], trivial, fun r rs' e => by cases e⟩
  | _, _, .cons (b := r) ⟨as, q⟩ t => by
    obtain ⟨fs, h1, _⟩ := each_firsts t
    unfold enc at q
    cases q with
    | @tuple a o xs n _ _ ho hc hd hr =>
      refine ⟨xs[0]? :: fs, ⟨⟨a, o, xs, n, rfl, ho, hc, hd, rfl⟩, h1⟩, fun r0 rs' e e0 => ?_⟩
      cases e
      subst e0
      have hz : xs.toList.length = 0 := by
        have := ReadsAll.length _ _ _ hr
        simpa using this
      refine ⟨fs, ?_⟩
      have h0 : xs[0]? = none := by
        rw [← Array.getElem?_toList]
        exact List.getElem?_eq_none (by omega)
      rw [h0]
section
variable {prog : Program} {w : World} {A : Around} {s : Shared}
/-- roads, the first of which is the empty one, can be sorted -/
theorem sorts_roads {vs : List Value} {rs : List (List Int)} (e : EachIs (fun v r => ∃ as, Reads s.heap v (enc r) as) vs rs) (h0 : ∀ r rs', rs = r :: rs' → r = []) (hu : A.units + 1 < cLine) :
    SortsAt prog w A s (dataKind s.heap (rs.map enc)) vs := by
  have e' : EachIs (fun v d => ∃ as, Reads s.heap v d as) vs (rs.map enc) := each_map (R := fun v d => ∃ as, Reads s.heap v d as) enc e
  refine ⟨fun v hv => ?_, oneType', ?_, fun h2 E Q hq => ?_⟩
  · obtain ⟨d, hd, as, r⟩ := e'.left v hv
    exact ⟨_, dataKind_some (allAlike_enc rs) hd r⟩
  · intro E x y a b Q ha hb hq
    obtain ⟨d, as, hd, ra, rfl⟩ := dataKind_inv ha
    obtain ⟨d', as', hd', rb, rfl⟩ := dataKind_inv hb
    obtain ⟨r, _, rfl⟩ := List.mem_map.mp hd
    obtain ⟨r', _, rfl⟩ := List.mem_map.mp hd'
    rw [keyLt'_oneType]
    refine oneLt_tup ra rb (alike_ints _ _) ?_ hq
    have := depth_enc r
    have h2 : min (enc r).depth (enc r').depth ≤ (enc r).depth := Nat.min_le_left _ _
    show A.units + min (enc r).depth (enc r').depth < cLine
    omega
  · obtain ⟨fs, h1, h3⟩ := each_firsts e
    cases rs with
    | nil => cases e; simp at h2
    | cons r rs' =>
      obtain ⟨fs', rfl⟩ := h3 r rs' rfl (h0 r rs' rfl)
      exact kind_tup0 h1 hq
end
theorem enc_le (a b : List Int) : dataLe false enc a b = !decide (b < a) := by
  show (!dataLt (enc b) (enc a)) = _
  unfold enc
  rw [dataLt_tuple]
  exact congrArg (!·) (dataLt_ints b a)
end Bk

namespace Bk
open PySem PySem.Spec PyProof.Rows L2
open Evl (Ex)
def leR (a b : List Int) : Bool := !decide (b < a)
theorem leR_eq : PySem.W.dataLe false enc = leR := by
  funext a b
  exact enc_le a b
theorem dp_road {K : PySem.W.Frag} {H : Hp} {b : Addr} {r : List Int} (h : H b = some (.tup (r.map V.int))) : Dp K H (.ref b) (enc r) := by
  refine .tup (SqT.of h) ?_
  clear h
  induction r with
  | nil => exact .nil
  | cons i r ih => exact .cons (.int i) ih
theorem map_kV (r : List Int) : (r.map (Sum.inl : Int → Key)).map kV = r.map V.int := by
  rw [List.map_map]
  rfl
section
variable {X : Cx}
/-- the roads that some values are -/
def Rds (H : Hp) (ys : List V) (rs : List (List Int)) : Prop := PySem.W.EachIs (fun (y : V) (r : List Int) => ∃ b : Addr, y = V.ref b ∧ H b = some (.tup (r.map V.int))) ys rs
theorem Rds.dp {K : PySem.W.Frag} {H : Hp} {ys : List V} {rs : List (List Int)} (h : Rds H ys rs) : DpAll K H ys (rs.map enc) := by
  induction h with
  | nil => exact .nil
  | cons h t ih =>
    obtain ⟨b, rfl, hb⟩ := h
    exact .cons (dp_road hb) ih
theorem Rds.len {H : Hp} {ys : List V} {rs : List (List Int)} (h : Rds H ys rs) : ys.length = rs.length := by
  induction h with
  | nil => rfl
  | cons _ _ ih => simp [ih]
theorem Rds.get {H : Hp} {ys : List V} {rs : List (List Int)} (h : Rds H ys rs) : ∀ {i : Nat} {y : V}, ys[i]? = some y → ∃ (b : Addr) (r : List Int), y = V.ref b ∧ rs[i]? = some r ∧ H b = some (.tup (r.map V.int)) := by
  induction h with
  | nil => intro i y e; simp at e
  | cons h t ih =>
    intro i y e
    cases i with
    | zero =>
      obtain ⟨b, e1, hb⟩ := h
      simp at e
      subst e
      exact ⟨b, _, e1, rfl, hb⟩
    | succ i =>
      obtain ⟨b, r, h1, h2, h3⟩ := ih (i := i) (y := y) (by simpa using e)
      exact ⟨b, r, h1, by simpa using h2, h3⟩
theorem cr_sortedDT (hc : X.calm = true) (hu : X.A.units + 64 < cLine) : CallR X (.builtin "sorted") (fun xs H Q => ∃ (a : Addr) (kvs : List (List Key × V)) (rs : List (List Int)), xs = [.ref a] ∧ Rd H a (.dT kvs) ∧
    kvs.map (·.1) = rs.map (·.map Sum.inl) ∧ (∀ r t, rs = r :: t → r = []) ∧ ∀ ys p, Rds H ys (rs.mergeSort leR) → H p = none → Q (.ref p) (upd H p (.lst ys))) := by
  intro pins s σ H xs us Q I r h
  obtain ⟨d, kvs, rs, rfl, hd, hkr, h0, q⟩ := h
  obtain ⟨u, rfl, rx⟩ := r.one
  cases rx
  obtain ⟨z, hs, ks, pr, o, es, ep, ho, hx, hdt, he, hn⟩ := (show ObjOk X.prog X.w H s.heap d (.dT kvs) from hd.ok I.hok)
  have l1 : es.size = ks.length := size_of_entries he
  have l2 : kvs.length = ks.length := Paired.length pr
  have l3 : kvs.length = rs.length := by
    have := congrArg List.length hkr
    simpa using this
  refine Calls.call_function_entry PyProof.Rows.kind_sorted PyProof.Rows.plain_sorted PyProof.Rows.entry_sorted (PyProof.Rows.args_sorted1 _) ?_
  unfold Builtin.«sorted»
  refine wpAny_bind (m := checkCount "sorted" 1 1 _) (wpAny_pure ?_)
  refine wpAny_bind (PySem.W.kdu_collect (A := X.A.in1) (kdl_raw hs hx hdt) (I.ok.hd hc) ho (by omega) fun h' tk acc' hk it => ?_)
  have hal : acc'.toList.length = ks.length := by rw [Array.length_toList, it.1]; exact l1
  have ea : acc'.toList = (ks.map fun x => x.2.1).map Value.ref := by
    rw [List.map_map]
    apply List.ext_getElem?
    intro j
    rw [List.getElem?_map]
    cases hj : acc'.toList[j]? with
    | none =>
      have h1 := List.getElem?_eq_none_iff.mp hj
      rw [List.getElem?_eq_none (by omega)]
      all_goals rfl
    | some v =>
      obtain ⟨en, hen, hv⟩ := it.2 j v (by rw [← Array.getElem?_toList]; exact hj)
      have qe := entry_at he j
      rw [hen] at qe
      cases hb : ks[j]? with
      | none =>
        rw [hb] at qe
        exact nomatch (show some en = none from qe)
      | some b =>
        rw [hb] at qe
        have e2 : en = entryOfKey (tupleKind (mixKind X.prog X.w)) b := Option.some.inj qe
        rw [hv, e2]
        all_goals rfl
  have I1 : Inv X pins σ H { s with heap := h', toks := tk } := I.kept hk
  -- the addresses and their roads
  have hR : PySem.W.EachIs (fun (v : Value) (r : List Int) => ∃ b, v = .ref b ∧ H b = some (.tup (r.map V.int))) acc'.toList rs := by
    rw [ea]
    have key : ∀ (kvs : List (List Key × V)) (ks : List (List Key × Addr × Value)) (rs : List (List Int)), Paired (fun (p : List Key × V) (q : List Key × Addr × Value) => p.1 = q.1 ∧ H q.2.1 = some (.tup (p.1.map kV)) ∧ RelV p.2 q.2.2) kvs ks →
        kvs.map (·.1) = rs.map (·.map Sum.inl) → PySem.W.EachIs (fun (v : Value) (r : List Int) => ∃ b, v = .ref b ∧ H b = some (.tup (r.map V.int))) ((ks.map fun x => x.2.1).map Value.ref) rs := by
      intro kvs ks rs pr hk
      induction pr generalizing rs with
      | nil =>
        cases rs with
        | nil => exact .nil
        | cons r rs => simp at hk
      | cons h t ih =>
        cases rs with
        | nil => simp at hk
        | cons r rs =>
          rw [List.map_cons, List.map_cons] at hk
          injection hk with e1 e2
          refine .cons ⟨_, rfl, ?_⟩ (ih rs e2)
          rw [h.2.1, e1, map_kV]
    exact key kvs ks rs pr hkr
  have hL : acc'.toList.length ≤ sizeLine := by omega
  refine wpAny_bind (wpAny_newList ?_ hL)
  have hoL : (h'.push (seqObj "list" acc'.toList.toArray 0)).get? h'.objs.size = some (seqObj "list" acc'.toList.toArray 0) := Heap.get?_push_size _ rfl
  have keepS : ∀ b o, h'.get? b = some o → (PySem.W.sortingHeap (h'.push (seqObj "list" acc'.toList.toArray 0)) h'.objs.size acc'.toList).get? b = some o := fun b o e => by
    have hb : b < h'.objs.size := Heap.lt_size e
    exact PySem.W.sortingHeap_old (Nat.ne_of_lt hb) (Heap.get?_push_of_some _ e)
  show wpAny _ _ _ _ _ { s with heap := h'.push (seqObj "list" acc'.toList.toArray 0), toks := tk }
  have er : PySem.W.EachIs (fun (v : Value) (r : List Int) => ∃ as, Reads (PySem.W.sortingHeap (h'.push (seqObj "list" acc'.toList.toArray 0)) h'.objs.size acc'.toList) v (enc r) as) acc'.toList rs := hR.mono fun v r ⟨b, e, hb⟩ => by
    subst e
    obtain ⟨as, q⟩ := Dp.reads I1 (enc r) (.ref b) (.ref b) (dp_road hb) rfl
    exact ⟨as, PyProof.Rows.Reads.keeps keepS q⟩
  refine wpAny_bind (wpAny_holding (wpAny_call_entry PyProof.Rows.slot_list_sort ⟨_, hoL, rfl⟩ PyProof.Rows.entry_list_sort
    (PySem.W.list_sort_vals (s := { s with heap := h'.push (seqObj "list" acc'.toList.toArray 0), toks := tk }) (κ := PySem.W.dataKind (PySem.W.sortingHeap (h'.push (seqObj "list" acc'.toList.toArray 0)) h'.objs.size acc'.toList) (rs.map enc)) hoL
      (sorts_roads (s := { s with heap := PySem.W.sortingHeap (h'.push (seqObj "list" acc'.toList.toArray 0)) h'.objs.size acc'.toList, toks := tk }) er h0 (by show X.A.units + 1 + 1 + 1 < cLine; omega)) hL ⟨_, rfl, ?_⟩)
    (PyProof.Rows.args_list_sort _)))
  have out := PySem.W.sortVals_data (R := fun (v : Value) (r : List Int) => ∃ b, v = .ref b ∧ H b = some (.tup (r.map V.int))) false hR er (allAlike_enc rs)
  rw [leR_eq] at out
  generalize hov : PySem.W.sortVals (PySem.W.dataKind (PySem.W.sortingHeap (h'.push (seqObj "list" acc'.toList.toArray 0)) h'.objs.size acc'.toList) (rs.map enc)) false acc'.toList acc'.toList = ov at out ⊢
  obtain ⟨e', he'⟩ := PyProof.Rows.sortedHeap_at (vs := acc'.toList) (out := ov.toArray) hoL
  have hlen : ov.length ≤ sizeLine := by
    rw [out.length, List.length_mergeSort]
    omega
  obtain ⟨bs, eb, hbs⟩ : ∃ bs : List Addr, ov = bs.map Value.ref ∧ Rds H (bs.map V.ref) (rs.mergeSort leR) := by
    clear hov he' hlen e'
    generalize rs.mergeSort leR = rs' at out
    induction out with
    | nil => exact ⟨[], rfl, .nil⟩
    | cons h t ih =>
      obtain ⟨b, rfl, hb⟩ := h
      obtain ⟨bs, rfl, hbs⟩ := ih
      exact ⟨b :: bs, rfl, .cons ⟨b, rfl, hb⟩ hbs⟩
  have rv : Vals (bs.map V.ref) ov := by rw [eb]; exact vals_refs bs
  refine wpAny_pure ⟨_, rfl, .ref h'.objs.size, upd H h'.objs.size (.lst (bs.map V.ref)), I1.laid (t' := tk) (fun b u e => ?_) (Nat.le_refl _)
    (show ObjOk X.prog X.w _ _ _ (.lst (bs.map V.ref)) from ⟨by rw [rv.length]; exact hlen, ov, e', rv, he'⟩), rfl, q _ _ hbs (I1.hok.fresh (Nat.le_refl _))⟩
  have hb : b < h'.objs.size := Heap.lt_size e
  show (PyProof.Rows.sortedHeap _ _ _ _).get? b = some u
  rw [PyProof.Rows.sortedHeap_old (Nat.ne_of_lt hb) (by rw [size_push']; exact Nat.lt_succ_of_lt hb)]
  exact Heap.get?_push_of_some _ e
end
end Bk

namespace Bk
open PySem PySem.Spec PyProof.Rows L2
open Evl (Ex)
section
variable {X : Cx}
/-- xs.count(y), of data -/
def rCountD (K : PySem.W.Frag) : V → List V → Hp → VK → Prop := fun x xs H Q => ∃ (a : Addr) (y : V) (d : PyData) (ds : List PyData), x = V.ref a ∧ xs = [y] ∧ Dp K H (V.ref a) (.list ds) ∧ Dp K H y d ∧
    PyData.canLayAll0 ds = true ∧ SeqAt.shaped d = true ∧ Q (.int (ds.countP fun z => PyData.eqv z d : Nat)) H
theorem mt_countD (hu : X.A.units + 65 < cLine) : MtR X "list.count" (rCountD X.K) := by
  intro pins s σ H x xs v us Q I rx rxs h
  obtain ⟨a, y, d, ds, rfl, rfl, hl, hy, hxs, sd, q⟩ := h
  cases rx
  cases rxs with
  | cons ry rt =>
    rename_i uy ut
    cases rt
    obtain ⟨bs, r1⟩ := Dp.reads I d y uy hy ry
    have hroom : X.A.units + 1 + min (PyData.depthAll ds) d.depth < cLine := by
      have h1 := SeqAt.depth_of_shaped sd
      have h2 : min (PyData.depthAll ds) d.depth ≤ d.depth := Nat.min_le_right _ _
      omega
    cases hl with
    | lst hs ha =>
      obtain ⟨its, rv, ⟨⟨cls, dd, data, sls⟩, n, ho, hc, hdn, hdt⟩, hlen⟩ := I.list hs
      simp only at hc hdt
      subst hc hdt
      obtain ⟨as, h4⟩ := Dp.readsAll I ds _ its ha rv
      have hmap : its.map (SeqAt.readOf s.heap) = ds := SeqAt.readsAll_map ds its as hxs h4
      refine call_meets PySem.F.slot_list_count ⟨_, ho, rfl⟩ PySem.F.entry_list_count (PySem.F.args_list_count_2 _ _)
        (SeqAt.list_countAt a its.toArray n dd sls uy (fun u => PyData.eqv (SeqAt.readOf s.heap u) d)) ⟨ho, SeqAt.items_eqAt (vs := its.toArray) (show ReadsAll s.heap its.toArray.toList ds as from h4) r1 hxs (SeqAt.canLay_of_shaped sd) hroom, ?_⟩
      have ec : its.toArray.toList.countP (fun u => PyData.eqv (SeqAt.readOf s.heap u) d) = ds.countP fun z => PyData.eqv z d := by
        rw [← hmap, List.countP_map]
        rfl
      refine ⟨.int (ds.countP fun z => PyData.eqv z d : Nat), H, I.tok _, ⟨s.toks, ?_⟩, q⟩
      rw [ec]
/-- t * 1 is t -/
theorem tuple_mul1 (l : Addr) (items : Array Value) (n : Nat) (dd : Option Addr) (sl : Array (Option Value)) (u : Tok) :
    Meets (Builtin.«tuple.__mul__» ⟨[.ref l, .int 1 u], []⟩) (fun _ R s => s.heap.get? l = some { cls := .type "tuple", dict := dd, data := .seq items n, slots := sl } ∧ R (.ok (.ret (Value.ref l))) s) :=
  .of_wp fun prog w A R s h => by
    obtain ⟨hp, g, d, tk, os⟩ := s
    obtain ⟨hl, h⟩ := h
    have f1 := AutoSeq1.idx_int
    wp_walk using wpAny_loadPart' hl
    exact ⟨_, rfl, h⟩
def rRepT1 (K : PySem.W.Frag) : R2 := fun x y H Q => ∃ l k xs, x = .ref l ∧ y = .int k ∧ SqT K H l xs ∧ xs ≠ [] ∧ 1 ≤ k ∧ k ≤ 1000 ∧ xs.length ≤ 1000 ∧ (k = 1 → Q (.ref l) H) ∧ (2 ≤ k → ∀ p, H p = none → Q (.ref p) (upd H p (.tup (List.replicate k.toNat xs).flatten)))
theorem op_repT1 : OpR X (binaryOp .Mult) (rRepT1 X.K) := by
  intro pins s σ H x y v u Q I rx ry h
  obtain ⟨l, k, xs, rfl, rfl, hT, hne, h1, h2, hz, q1, q2⟩ := h
  by_cases hk : k = 1
  · subst hk
    cases rx
    obtain ⟨t, rfl⟩ := ry
    obtain ⟨its, r, ⟨⟨cls, dd, data, sl⟩, ho, hc, n, hd⟩, hs⟩ := I.tuple hT
    simp only at hc hd
    subst hc hd
    exact wpAny_binaryOp_repeat_ref (T := "tuple") (U := "int") (by decide) ⟨_, ho, rfl⟩ (fun s' => typeIs_int s' 1 t) noFill_tuple_mul F.fills_int_mul F.slot_int_rmul repeat_tuple F.slot_int_index.lookup
      (call_meets F.slot_int_rmul (typeIs_int s 1 t) F.entry_int_rmul (F.args_int_rmul_2 _ _) (int_rmul_tuple 1 t l its.toArray n dd sl)
        ⟨ho, rfl, ⟨_, ho, rfl⟩, call_meets F.slot_tuple_mul ⟨_, ho, rfl⟩ F.entry_tuple_mul (F.args_tuple_mul_2 _ _) (tuple_mul1 l its.toArray n dd sl t) ⟨ho, .ref l, H, I, rfl, q1 rfl⟩⟩)
  · exact op_repT pins s σ H _ _ v u Q I rx ry ⟨l, k, xs, rfl, rfl, hT, hne, by omega, h2, hz, q2 (by omega)⟩
/-- a * b, whatever they are, below 100 million bits together -/
def CMulB (i j : Int) : Prop := i.natAbs.log2 + j.natAbs.log2 < 100000000
theorem CMulB.ok {i j : Int} (h : CMulB i j) : IntMulOk i j := by
  have b : ∀ x : Int, Builtin.Int.intBits x ≤ x.natAbs.log2 + 1 := fun x => by
    unfold Builtin.Int.intBits
    split <;> omega
  have h1 := b i
  have h2 := b j
  have h3 : i.natAbs.log2 + j.natAbs.log2 < 100000000 := h
  have e : bitsLine = 134217728 := by decide
  unfold IntMulOk
  intro z
  rw [Bool.and_eq_true] at z
  have z2 := z.2
  unfold Builtin.Int.intTooBig at z2
  have z3 := of_decide_eq_true z2
  rw [e] at z3
  omega
theorem op_mulB : OpR X (binaryOp .Mult) (rI CMulB fun i j => .int (i * j)) := opI fun _ _ _ _ _ _ _ hc q => mul_int q hc.ok
theorem iop_mulB : OpR X (inplaceOp .Mult) (rI CMulB fun i j => .int (i * j)) := opI fun _ _ _ _ _ _ _ hc q => imul_int q hc.ok
end
section
variable {X : Cx} {o : Expr} {td : TE} {p pos mpos apos : Pos}
/-- list(o.values()), o a dict with tuple keys -/
def tListVals (td : TE) : TE := fun σ H Q => td σ H fun x H1 => ∃ a kvs, x = V.ref a ∧ H1 a = some (.dT kvs) ∧ ∀ p, H1 p = none → Q (.ref p) (upd H1 p (.lst (kvs.map (·.2))))
theorem pe_listVals (hc : X.calm = true) (hg : Gl X "list") (hm : X.mg "list" = none) (hd : PE X o td) (hbase : attributeBase o "values" X.env (eval o X.env) = eval o X.env := by rfl) (hline : (apos.endLine == mpos.line) = true := by rfl)
    (hse : starEach [Expr.Call (.Attribute o "values" apos) [] [] mpos] X.env = (false, eval (Expr.Call (.Attribute o "values" apos) [] [] mpos) X.env) :: starEach [] X.env := by rfl) :
    PE X (.Call (.Name "list" p) [.Call (.Attribute o "values" apos) [] [] mpos] [] pos) (tListVals td) := by
  refine ⟨fun pins s σ H Q I h => ?_⟩
  refine Call_ (ld_blt I hg hm boot_list (PyProof.Rows.callWith_type1 (args_cons (wpAny_Call_method0_late hbase hline (thn (hd.run pins s σ H _ I h) fun v s1 ⟨x, H1, I1, r1, a, kvs, ex, ha, q⟩ => ?_)) hse) hse))
  subst ex
  obtain rfl : v = Value.ref a := r1
  obtain ⟨z, hs, ks, pr, ob, es, ep, ho, hx, hdt, he, hn⟩ := (show ObjOk X.prog X.w H1 s1.heap a (.dT kvs) from I1.hok a _ ha)
  have l1 : es.size = ks.length := size_of_entries he
  have l2 : kvs.length = ks.length := Paired.length pr
  refine ⟨"dict", "dict.values", F.plainAttrs_dict, F.slot_dict_values, F.type_dict_values, ⟨ob, ho, hx.1⟩, fun b e => ?_, Calls.callWith_builtin rfl (PySem.evalArgs_none ?_)⟩
  · cases e
    exact ⟨ob, ho, hx.2.1⟩
  have raw : s1.heap.DictRaw a es ep := ⟨ob, ho, hx, hdt⟩
  refine call_meetsIn F.slot_dict_values ⟨ob, ho, hx.1⟩ F.entry_dict_values (F.args_dict_values_1 _) (meets_dict_values_raw a hs) ⟨⟨es, ep, raw⟩, args_nil ?_⟩
  have kp1 : ∀ b u, s1.heap.get? b = some u → (s1.heap.push { cls := .type "dict_values", data := .fields #[.ref a] }).get? b = some u := fun b u e => Heap.get?_push_of_some _ e
  have I2 : Inv X pins σ H1 { s1 with heap := s1.heap.push { cls := .type "dict_values", data := .fields #[.ref a] } } := I1.kept (t' := s1.toks) kp1
  have vw : (s1.heap.push { cls := .type "dict_values", data := .fields #[.ref a] }).IsValuesView s1.heap.objs.size a := ⟨_, Heap.get?_push_size _ rfl, rfl, rfl⟩
  refine PySem.W.kdl_call (KdlSrc.rawValues (es := es) (ep := ep)) (I1.ok.hd hc) ⟨vw, raw.push _⟩ (by omega) fun h' tk acc' c' kp e it => ?_
  have hal : acc'.toList.length = ks.length := by rw [Array.length_toList, it.1]; exact l1
  have rv : Vals (kvs.map (·.2)) acc'.toList := by
    have key : ∀ (kvs : List (List Key × V)) (ks : List (List Key × Addr × Value)) (us : List Value), Paired (fun (p : List Key × V) (q : List Key × Addr × Value) => p.1 = q.1 ∧ H1 q.2.1 = some (.tup (p.1.map kV)) ∧ RelV p.2 q.2.2) kvs ks →
        us = ks.map (fun x => x.2.2) → Vals (kvs.map (·.2)) us := by
      intro kvs ks us pr e
      subst e
      induction pr with
      | nil => exact .nil
      | cons h t ih => exact .cons h.2.2 ih
    refine key kvs ks _ pr ?_
    apply List.ext_getElem?
    intro j
    rw [List.getElem?_map]
    cases hj : acc'.toList[j]? with
    | none =>
      have h1 := List.getElem?_eq_none_iff.mp hj
      rw [List.getElem?_eq_none (by omega)]
      all_goals rfl
    | some v =>
      obtain ⟨hlt, hv⟩ := it.2 j v (by rw [← Array.getElem?_toList]; exact hj)
      have qe := entry_at he j
      rw [Array.getElem?_eq_getElem hlt] at qe
      cases hb : ks[j]? with
      | none =>
        rw [hb] at qe
        exact nomatch (show some es[j] = none from qe)
      | some b =>
        rw [hb] at qe
        have e2 : es[j] = entryOfKey (tupleKind (mixKind X.prog X.w)) b := Option.some.inj qe
        rw [hv, e2]
        all_goals rfl
  have hz : (kvs.map (·.2)).length ≤ sizeLine := by rw [List.length_map]; exact z
  have hne := I2.hok.fresh (Nat.le_refl _)
  refine ⟨.ref (s1.heap.push { cls := .type "dict_values", data := .fields #[.ref a] }).objs.size, upd H1 _ (.lst (kvs.map (·.2))), I2.laid (t' := tk) kp (Nat.le_refl _) ?_, rfl, q _ hne⟩
  exact ⟨hz, acc'.toList, c', rv, by rw [Array.toArray_toList]; exact e⟩
end
end Bk

namespace Bk
open PySem PySem.Spec PyProof.Rows L2
open Evl (Ex)
theorem ty_tup {K : PySem.W.Frag} {H : Hp} {a : Addr} {xs : List V} (h : SqT K H a xs) : TyX K H (.ref a) (.type "tuple") := by
  rcases h with (h | ⟨o, h⟩) | ⟨o, its, n, hk, hc, _⟩
  · exact .base (.tup h)
  · exact .fTuple h
  · exact .kTuple hk hc
/-- what a list holds: bushes -/
def LsB (K : PySem.W.Frag) (H : Hp) (q : Addr) (bs : List Bu) : Prop := ∃ vs, H q = some (.lst vs) ∧ DpAll K H vs (bs.map toD)
theorem fz_map (bs : List Bu) : fzA (bs.map toD) = true := fzA_of fun d hd => by
  obtain ⟨b, _, rfl⟩ := List.mem_map.mp hd
  exact fz_toD b
theorem LsB.keep {K : PySem.W.Frag} {H H' : Hp} {q p : Addr} {bs : List Bu} (h : LsB K H q bs) (e : ExB p H H') (n : q ≠ p) (t : Tu H H') : LsB K H' q bs := by
  obtain ⟨vs, h1, h2⟩ := h
  exact ⟨vs, e _ _ n h1, DpAll.tu t _ _ (fz_map bs) h2⟩
theorem LsB.ex {K : PySem.W.Frag} {H H' : Hp} {q : Addr} {bs : List Bu} (h : LsB K H q bs) (e : Ex H H') : LsB K H' q bs := by
  obtain ⟨vs, h1, h2⟩ := h
  exact ⟨vs, e _ _ h1, DpAll.ex e _ _ h2⟩
theorem yesI {σ : L2.St} {H : Hp} {A B : Hp → Prop} (h : A H) : tYes σ H (fun b H3 => if b = true then A H3 else B H3) := by
  show (if true = true then A H else B H)
  rw [if_pos rfl]
  exact h
section
variable {K : PySem.W.Frag} {σ : L2.St} {H : Hp} {te t1 tl : TE}
/-- [y for x in xs for y in f(x)], f(x) a tuple -/
theorem lc2_flat {a : Addr} {xs : List V} {jx jy : Nat} {vs vs1 : List Nat} {Q : VK} (ys : Nat → List V)
    (h : Evl.Ev tl σ H (.ref a)) (hx : SqL K H a xs) (hw : ∀ x, wipe ((wipe σ vs).set jx (some x)) vs = wipe σ vs)
    (hw1 : ∀ x y, wipe ((wipe ((wipe σ vs).set jx (some x)) vs1).set jy (some y)) vs1 = wipe ((wipe σ vs).set jx (some x)) vs1)
    (hy : ∀ x y, ((wipe ((wipe σ vs).set jx (some x)) vs1).set jy (some y))[jy]? = some (some y))
    (ht : ∀ (i : Nat) (x : V) H1, Ex H H1 → xs[i]? = some x → ∀ R : VK, (∀ b H2, Ex H1 H2 → SqT K H2 b (ys i) → R (.ref b) H2) → t1 ((wipe σ vs).set jx (some x)) H1 R)
    (hz : ((List.range xs.length).flatMap ys).length < sizeLine)
    (k : ∀ D H2, H D = none → Ex H H2 → H2 D = some (.lst ((List.range xs.length).flatMap ys)) → Q (.ref D) H2) :
    tLc2 (iList K tl) (gName jx) tYes (iTup K t1) (gName jy) tYes (tVar jy) vs vs1 σ H Q := by
  refine h H (Ex.refl H) _ fun H1 e1 => ⟨a, rfl, ⟨xs, Evl.ex_l e1 hx⟩, fun D hD => ?_⟩
  have hDH : H D = none := Evl.fresh_back e1 hD
  have pre : ∀ i, i < xs.length → ((List.range i).flatMap ys).length + (ys i).length ≤ ((List.range xs.length).flatMap ys).length := fun i hi => by
    have : List.range xs.length = List.range i ++ i :: (List.range xs.length).drop (i + 1) := by
      have h1 := List.take_append_drop i (List.range xs.length)
      have h2 : (List.range xs.length).take i = List.range i := by rw [List.take_range, Nat.min_eq_left (Nat.le_of_lt hi)]
      have h3 : (List.range xs.length).drop i = i :: (List.range xs.length).drop (i + 1) := by rw [List.drop_eq_getElem_cons (by simpa using hi)]; simp
      rw [h2, h3] at h1
      exact h1.symm
    rw [this, List.flatMap_append, List.flatMap_cons, List.length_append, List.length_append]
    omega
  refine ⟨fun i m H' => m = xs.length - i ∧ i ≤ xs.length ∧ Ex H H' ∧ H' D = some (.lst ((List.range i).flatMap ys)), ⟨xs.length, by simp, Nat.zero_le _, e1.trans (ex_new hD), upd_same⟩, ?_⟩
  rintro i m H' ⟨rfl, hi, eH, hL⟩
  have q := Evl.ex_l eH hx
  by_cases hlt : i < xs.length
  · refine .inr ⟨⟨xs, xs[i], q, by simp [hlt]⟩, fun H' => Ex H H' ∧ H' D = some (.lst ((List.range (i + 1)).flatMap ys)), fun H' p' => ⟨xs.length - (i + 1), by omega, rfl, hlt, p'.1, p'.2⟩, fun x H' y => ?_⟩
    obtain ⟨e, y⟩ := y
    subst e
    have hxi := y xs q
    refine ⟨hw x, yesI ?_⟩
    refine ht i x H' eH hxi _ fun b H2 e2 hb => ⟨b, rfl, ⟨_, hb⟩, ?_⟩
    refine ⟨fun j k H' => k = (ys i).length - j ∧ j ≤ (ys i).length ∧ Ex H H' ∧ SqT K H' b (ys i) ∧ H' D = some (.lst ((List.range i).flatMap ys ++ (ys i).take j)), ⟨(ys i).length, by simp, Nat.zero_le _, eH.trans e2, hb, by rw [List.take_zero, List.append_nil]; exact e2 _ _ hL⟩, ?_⟩
    rintro j k H3 ⟨rfl, hj, e3, hb3, hL3⟩
    by_cases hjl : j < (ys i).length
    · refine .inr ⟨⟨ys i, (ys i)[j], hb3, by simp [hjl]⟩, fun H' => Ex H H' ∧ SqT K H' b (ys i) ∧ H' D = some (.lst ((List.range i).flatMap ys ++ (ys i).take (j + 1))), fun H' p' => ⟨(ys i).length - (j + 1), by omega, rfl, hjl, p'.1, p'.2.1, p'.2.2⟩, fun yv H4 y4 => ?_⟩
      obtain ⟨e4, y4⟩ := y4
      subst e4
      have hyj := y4 (ys i) hb3
      refine ⟨hw1 x yv, yesI ?_⟩
      refine ⟨yv, hy x yv, _, hL3, ?_, Evl.Ex.mut e3 hDH, ?_, ?_⟩
      · have := pre i hlt
        rw [List.length_append, List.length_take]
        omega
      · exact (tu_lst hL3).seq hb3
      · rw [upd_same, List.take_add_one, hyj, List.append_assoc]
        rfl
    · refine .inl ⟨⟨ys i, hb3, by omega⟩, e3, ?_⟩
      rw [hL3, List.range_succ, List.flatMap_append, List.take_of_length_le (by omega)]
      simp
  · have e : i = xs.length := by omega
    subst e
    exact .inl ⟨⟨xs, q, Nat.le_refl _⟩, k D H' hDH eH hL⟩
theorem el_lc2 {a : Addr} {xs : List V} {jx jy : Nat} {vs vs1 : List Nat} (ys : Nat → List V)
    (h : Evl.Ev tl σ H (.ref a)) (hx : SqL K H a xs) (hw : ∀ x, wipe ((wipe σ vs).set jx (some x)) vs = wipe σ vs)
    (hw1 : ∀ x y, wipe ((wipe ((wipe σ vs).set jx (some x)) vs1).set jy (some y)) vs1 = wipe ((wipe σ vs).set jx (some x)) vs1)
    (hy : ∀ x y, ((wipe ((wipe σ vs).set jx (some x)) vs1).set jy (some y))[jy]? = some (some y))
    (ht : ∀ (i : Nat) (x : V) H1, Ex H H1 → xs[i]? = some x → ∀ R : VK, (∀ b H2, Ex H1 H2 → SqT K H2 b (ys i) → R (.ref b) H2) → t1 ((wipe σ vs).set jx (some x)) H1 R)
    (hz : ((List.range xs.length).flatMap ys).length < sizeLine) :
    Evl.EvL (tLc2 (iList K tl) (gName jx) tYes (iTup K t1) (gName jy) tYes (tVar jy) vs vs1) σ H ((List.range xs.length).flatMap ys) := fun H1 e Q k =>
  lc2_flat ys (h.mono e) (Evl.ex_l e hx) hw hw1 hy (fun i x H2 e2 => ht i x H2 (e.trans e2)) hz k
end
end Bk
namespace Bk
open PySem PySem.Spec PyProof.Rows L2
open Evl (Ex)
/-- the branches -/
def kids : Bu → List Bu
  | .tip => []
  | .knot _ bs => bs
theorem itm_kids (b : Bu) : (itm b).drop 1 = (kids b).map toD := by cases b <;> rfl
theorem cut_from1 (xs : List V) : cutV xs (some 1) none = xs.drop 1 := by
  unfold cutV
  have e1 : HT.sIx xs.length 0 (some 1) = min 1 xs.length := HT.sIx_nat xs.length 0 1
  rw [e1, HT.sIx_none]
  cases xs with
  | nil => rfl
  | cons x r =>
    have e2 : min 1 (x :: r).length = 1 := by rw [List.length_cons]; omega
    rw [e2]
    exact List.take_of_length_le (by simp)
theorem sl_from1 {K : PySem.W.Frag} {σ : L2.St} {H : Hp} {j : Nat} {a : Addr} {xs : List V} {R : VK} (hj : σ[j]? = some (some (.ref a))) (hx : SqT K H a xs) (k : ∀ b H2, Ex H H2 → SqT K H2 b (xs.drop 1) → R (.ref b) H2) :
    tSl (rSlA K) (tVar j) (tPart (tC (.int 1))) tNoPart σ H R := by
  refine ⟨_, hj, 1, rfl, a, xs, rfl, hx, fun h => ?_, fun h p hp => ?_⟩
  · refine k a H (Evl.Ex.refl H) ?_
    have e1 : HT.sIx xs.length 0 (some 1) = min 1 xs.length := HT.sIx_nat xs.length 0 1
    rw [e1] at h
    have h0 : xs = [] := by
      cases xs with
      | nil => rfl
      | cons x r =>
        rw [List.length_cons] at h
        omega
    subst h0
    exact hx
  · refine k p _ (ex_new hp) ?_
    rw [cut_from1]
    exact SqT.of upd_same
theorem bu_dp {K : PySem.W.Frag} {H : Hp} {v : V} {b : Bu} (h : Dp K H v (toD b)) : ∃ a xs, v = .ref a ∧ SqT K H a xs ∧ DpAll K H xs (itm b) := by
  rw [toD_itm] at h
  exact dp_tup h
theorem dpAll_map {K : PySem.W.Frag} {H : Hp} {xs : List V} {bs : List Bu} (h : DpAll K H xs (bs.map toD)) {i : Nat} {x : V} (e : xs[i]? = some x) : ∃ b, bs[i]? = some b ∧ Dp K H x (toD b) := by
  obtain ⟨d, h1, h2⟩ := DpAll.get h e
  rw [List.getElem?_map] at h1
  cases hb : bs[i]? with
  | none => rw [hb] at h1; cases h1
  | some b =>
    rw [hb] at h1
    cases h1
    exact ⟨b, rfl, h2⟩
end Bk

namespace Bk
open PySem PySem.Spec PyProof.Rows L2
open Evl (Ex Ev EvT EvL EvU EvA)
theorem okB_knot {c : Nat} {bs : List Bu} (h : okB (.knot c bs) = true) : (97 ≤ c ∧ c ≤ 122) ∧ (1 ≤ bs.length ∧ bs.length ≤ 6) ∧ okBs bs = true := by
  simp only [okB, Bool.and_eq_true, decide_eq_true_eq] at h
  exact ⟨⟨h.1.1.1.1, h.1.1.1.2⟩, ⟨h.1.1.2, h.1.2⟩, h.2⟩
theorem okBs_mem : ∀ {bs : List Bu} {b : Bu}, okBs bs = true → b ∈ bs → okB b = true
  | x :: xs, b, h, hb => by
    simp only [okBs, Bool.and_eq_true] at h
    rcases List.mem_cons.mp hb with e | e
    · rw [e]; exact h.1
    · exact okBs_mem h.2 e
theorem okBs_of {bs : List Bu} (h : ∀ b ∈ bs, okB b = true) : okBs bs = true := by
  induction bs with
  | nil => rfl
  | cons b bs ih =>
    simp only [okBs, Bool.and_eq_true]
    exact ⟨h b List.mem_cons_self, ih fun x hx => h x (List.mem_cons_of_mem _ hx)⟩
theorem strOk1 {c : Nat} (h : c ≤ 122) : PyData.strOk { cps := #[c] } = true := by
  unfold PyData.strOk
  simp
  omega
mutual
theorem lay_toD : ∀ b : Bu, okB b = true → (toD b).canLay0 = true
  | .tip, _ => by simp [toD, PyData.canLay0, PyData.canLayAll0]
  | .knot c bs, h => by
    obtain ⟨⟨_, h2⟩, _, h3⟩ := okB_knot h
    simp [toD, PyData.canLay0, PyData.canLayAll0, lay_toDs bs h3, strOk1 h2]
theorem lay_toDs : ∀ bs : List Bu, okBs bs = true → PyData.canLayAll0 (toDs bs) = true
  | [], _ => by simp [toDs, PyData.canLayAll0]
  | b :: bs, h => by
    have h' : okB b = true ∧ okBs bs = true := by simpa [okBs] using h
    simp [toDs, PyData.canLayAll0, lay_toD b h'.1, lay_toDs bs h'.2]
end
theorem lay_map {bs : List Bu} (h : okBs bs = true) : PyData.canLayAll0 (bs.map toD) = true := by rw [← toDs_map]; exact lay_toDs bs h
mutual
theorem depth_toD : ∀ b : Bu, (toD b).depth ≤ dep b + 1
  | .tip => by simp [toD, PyData.depth, PyData.depthAll, dep]
  | .knot c bs => by
    have := depth_toDs bs
    simp only [toD, PyData.depth, PyData.depthAll, dep]
    omega
theorem depth_toDs : ∀ bs : List Bu, PyData.depthAll (toDs bs) ≤ deps bs + 1
  | [] => by simp [toDs, PyData.depthAll]
  | b :: bs => by
    have h1 := depth_toD b
    have h2 := depth_toDs bs
    simp only [toDs, PyData.depthAll, deps]
    omega
end
theorem shaped_toD {b : Bu} (ho : okB b = true) (h : dep b ≤ 60) : SeqAt.shaped (toD b) = true := by
  have := depth_toD b
  show ((toD b).canLay0 && decide ((toD b).depth ≤ 64)) = true
  rw [lay_toD b ho, decide_eq_true (by omega)]
  rfl
theorem shaped_tup0 : SeqAt.shaped (.tuple []) = true := by decide
mutual
theorem eqv_toD : ∀ a b : Bu, PyData.eqv (toD a) (toD b) = true ↔ a = b
  | .tip, .tip => by simp [toD, PyData.eqv, PyData.eqvAll]
  | .tip, .knot c bs => by simp [toD, PyData.eqv, PyData.eqvAll]
  | .knot c bs, .tip => by simp [toD, PyData.eqv, PyData.eqvAll]
  | .knot c bs, .knot d es => by
    have ih := eqv_toDs bs es
    simp only [toD, PyData.eqv, PyData.eqvAll, Bool.and_eq_true, beq_iff_eq, ih]
    constructor
    · rintro ⟨h1, h2⟩
      rw [str1_inj h1, h2]
    · intro h
      injection h with h1 h2
      exact ⟨by rw [h1], h2⟩
theorem eqv_toDs : ∀ a b : List Bu, PyData.eqvAll (toDs a) (toDs b) = true ↔ a = b
  | [], [] => by simp [toDs, PyData.eqvAll]
  | [], _ :: _ => by simp [toDs, PyData.eqvAll]
  | _ :: _, [] => by simp [toDs, PyData.eqvAll]
  | x :: xs, y :: ys => by
    have h1 := eqv_toD x y
    have h2 := eqv_toDs xs ys
    simp only [toDs, PyData.eqvAll, Bool.and_eq_true, h1, h2, List.cons.injEq]
end
theorem isTip_eqv (b : Bu) : PyData.eqv (toD b) (.tuple []) = (match b with | .tip => true | .knot _ _ => false) := by
  cases b with
  | tip => simp [toD, PyData.eqv, PyData.eqvAll]
  | knot c bs => simp [toD, PyData.eqv, PyData.eqvAll]
def isTip : Bu → Bool
  | .tip => true
  | .knot _ _ => false
theorem evT_yes {σ : L2.St} {H : Hp} : EvT tYes σ H true := fun H1 _ Q q => q H1 (Evl.Ex.refl H1)
theorem given_all (n : Nat) (v : Nat → V) : Evl.given n (fun _ => true) v = (List.range n).map v := by
  unfold Evl.given
  rw [List.filter_eq_self.mpr (fun _ _ => rfl)]
theorem range_getD {α β : Type} (l : List α) (d : α) (f : α → β) : (List.range l.length).map (fun i => f (l.getD i d)) = l.map f := by
  apply List.ext_getElem?
  intro i
  rw [List.getElem?_map, List.getElem?_map]
  by_cases h : i < l.length
  · rw [List.getElem?_range h, List.getElem?_eq_getElem h]
    simp [List.getD_eq_getElem?_getD, h]
  · rw [List.getElem?_eq_none (by simpa using h), List.getElem?_eq_none (by omega)]
    rfl
section
variable {K : PySem.W.Frag} {σ : L2.St} {H : Hp} {te tl : TE}
theorem ev_sumL {ns : List Int} (h : EvL te σ H (ns.map V.int)) : Ev (tCB (rSum K) (tCons te tNil)) σ H (.int ns.sum) := fun H1 e Q q =>
  h H1 e _ fun p H2 _ e2 hp => ⟨p, ns, rfl, SqL.of hp, q H2 e2⟩
theorem ev_sumV {ns : List Int} {a : Addr} (h : Ev te σ H (.ref a)) (hx : SqL K H a (ns.map V.int)) : Ev (tCB (rSum K) (tCons te tNil)) σ H (.int ns.sum) := fun H1 e Q q =>
  h H1 e _ fun H2 e2 => ⟨a, ns, rfl, Evl.ex_l (e.trans e2) hx, q H2 e2⟩
theorem ev_minL {ns : List Int} {m : Int} (h : EvL te σ H (ns.map V.int)) (hm : m ∈ ns) (hl : ∀ y ∈ ns, m ≤ y) : Ev (tCB (rMin K) (tCons te tNil)) σ H (.int m) := fun H1 e Q q =>
  h H1 e _ fun p H2 _ e2 hp => ⟨p, ns, rfl, SqL.of hp, List.length_pos_iff.mpr (List.ne_nil_of_mem hm), fun m' h1 h2 => by
    have : m' = m := Int.le_antisymm (h2 m hm) (hl m' h1)
    rw [this]
    exact q H2 e2⟩
theorem ev_minV {ns : List Int} {m : Int} {a : Addr} (h : Ev te σ H (.ref a)) (hx : SqL K H a (ns.map V.int)) (hm : m ∈ ns) (hl : ∀ y ∈ ns, m ≤ y) : Ev (tCB (rMin K) (tCons te tNil)) σ H (.int m) := fun H1 e Q q =>
  h H1 e _ fun H2 e2 => ⟨a, ns, rfl, Evl.ex_l (e.trans e2) hx, List.length_pos_iff.mpr (List.ne_nil_of_mem hm), fun m' h1 h2 => by
    have : m' = m := Int.le_antisymm (h2 m hm) (hl m' h1)
    rw [this]
    exact q H2 e2⟩
theorem ev_maxV {ns : List Int} {m : Int} {a : Addr} (h : Ev te σ H (.ref a)) (hx : SqL K H a (ns.map V.int)) (hm : m ∈ ns) (hl : ∀ y ∈ ns, y ≤ m) : Ev (tCB (rMax K) (tCons te tNil)) σ H (.int m) := fun H1 e Q q =>
  h H1 e _ fun H2 e2 => ⟨a, ns, rfl, Evl.ex_l (e.trans e2) hx, List.length_pos_iff.mpr (List.ne_nil_of_mem hm), fun m' h1 h2 => by
    have : m' = m := Int.le_antisymm (hl m' h1) (h2 m hm)
    rw [this]
    exact q H2 e2⟩
theorem ev_countTip {q : Addr} {l : List Bu} (h : Ev te σ H (.ref q)) (hq : LsB K H q l) (ho : okBs l = true) : Ev (tBM K "list" (rCountD K) te (tCons (tTup tNil) tNil)) σ H (.int (l.countP isTip : Nat)) := fun H1 e Q k =>
  h H1 e _ fun H2 e2 => by
    obtain ⟨vs, h1, h2⟩ := hq.ex (e.trans e2)
    refine ⟨Or.inl ⟨rfl, _, SqL.of h1⟩, Nat.zero_le _, fun p hp => ?_⟩
    have e3 : Ex H2 (upd H2 p (.tup [])) := ex_new hp
    refine ⟨q, .ref p, .tuple [], l.map toD, rfl, rfl, .lst (SqL.of (e3 _ _ h1)) (DpAll.ex e3 _ _ h2), .tup (SqT.of upd_same) .nil, lay_map ho, shaped_tup0, ?_⟩
    have ec : (l.map toD).countP (fun z => PyData.eqv z (.tuple [])) = l.countP isTip := by
      rw [List.countP_map]
      congr 1
      funext b
      exact isTip_eqv b
    rw [ec]
    exact k _ (e2.trans e3)
theorem ev_lenB {q : Addr} {l : List Bu} (h : Ev te σ H (.ref q)) (hq : LsB K H q l) : Ev (tCB (Evl.rLenS K) (tCons te tNil)) σ H (.int (l.length : Nat)) := by
  obtain ⟨vs, h1, h2⟩ := hq
  have := Evl.ev_len (K := K) h (SqL.of h1)
  rw [show vs.length = l.length by rw [DpAll.len h2, List.length_map]] at this
  exact this
/-- [i for i, n in enumerate(ns) if n > 0] -/
theorem el_enum {ns : List Int} {a : Addr} {jd jm : Nat} {vs : List Nat} {tn : TGs} (h : Ev tl σ H (.ref a)) (hx : SqL K H a (ns.map V.int)) (hz : ns.length ≤ 40000)
    (htn : ∀ (x y : V) (σ' : L2.St) (H' : Hp) (R : L2.St → Hp → Prop), R ((σ'.set jd (some x)).set jm (some y)) H' → tn [x, y] σ' H' R)
    (hw : ∀ x y, wipe (((wipe σ vs).set jd (some x)).set jm (some y)) vs = wipe σ vs) (hd : ∀ x y, (((wipe σ vs).set jd (some x)).set jm (some y))[jd]? = some (some x)) (hm : ∀ x y, (((wipe σ vs).set jd (some x)).set jm (some y))[jm]? = some (some y)) :
    EvL (tLc (iEnum K (tCons tl tNil)) (gTup K 2 tn) (tTest (tOp (rI0 fun i j => .bl (decide (j < i))) (tVar jm) (tC (.int 0)))) (tVar jd) vs) σ H (Evl.given ns.length (fun i => decide (0 < ns.getD i 0)) (fun i => .int (i : Nat))) := by
  intro H0 e0 Q q
  refine h H0 e0 _ fun H1 e1 => ⟨a, _, rfl, Evl.ex_l (e0.trans e1) hx, fun D hD => ?_⟩
  have hDH : H0 D = none := Evl.fresh_back e1 hD
  refine ⟨fun i m H' => m = ns.length - i ∧ i ≤ ns.length ∧ Ex H0 H' ∧ H' D = some (.lst (Evl.given i (fun i => decide (0 < ns.getD i 0)) (fun i => .int (i : Nat)))), ⟨ns.length, by simp, Nat.zero_le _, e1.trans (ex_new hD), upd_same⟩, ?_⟩
  rintro i m H' ⟨rfl, hi, eH, hL⟩
  have qx := Evl.ex_l (e0.trans eH) hx
  by_cases hlt : i < ns.length
  · refine .inr ⟨⟨_, .int ns[i], qx, by simp [hlt]⟩, fun H' => Ex H0 H' ∧ H' D = some (.lst (Evl.given (i + 1) (fun i => decide (0 < ns.getD i 0)) (fun i => .int (i : Nat)))), fun H' p' => ⟨ns.length - (i + 1), by omega, rfl, hlt, p'.1, p'.2⟩, fun x H2 y => ?_⟩
    obtain ⟨T, x1, rfl, hT, rfl, hf⟩ := y
    have ex1 : x1 = .int ns[i] := by
      have := hf _ qx
      rw [List.getElem?_map, List.getElem?_eq_getElem hlt] at this
      exact (Option.some.inj this).symm
    subst ex1
    have eT : Ex H' (upd H' T (.tup [.int (i : Nat), .int ns[i]])) := ex_new hT
    refine ⟨T, _, rfl, SqT.of upd_same, rfl, ?_⟩
    refine htn _ _ _ _ _ ?_
    refine ⟨hw _ _, ?_⟩
    refine ⟨_, hm _ _, _, _, rfl, rfl, _, rfl, ?_⟩
    have eg : ns.getD i 0 = ns[i] := by simp [List.getD_eq_getElem?_getD, hlt]
    have hLT := eT _ _ hL
    by_cases hp : 0 < ns[i]
    · have hc : decide (0 < ns.getD i 0) = true := decide_eq_true (by rw [eg]; exact hp)
      rw [decide_eq_true hp]
      refine iteT ⟨_, hd _ _, _, hLT, ?_, Evl.Ex.mut (eH.trans eT) hDH, ?_⟩
      · have := Evl.given_len i (fun i => decide (0 < ns.getD i 0)) (fun i => V.int (i : Nat))
        exact Nat.lt_of_le_of_lt (show _ ≤ 40000 by omega) (by decide)
      · rw [upd_same, Evl.given_yes hc]
    · have hc : decide (0 < ns.getD i 0) = false := decide_eq_false (by rw [eg]; exact hp)
      rw [decide_eq_false hp]
      refine iteF ⟨eH.trans eT, ?_⟩
      rw [hLT, Evl.given_no hc]
  · have e : i = ns.length := by omega
    subst e
    exact .inl ⟨⟨_, qx, by simp⟩, q D H' hDH eH hL⟩
end
end Bk

namespace Bk
open PySem PySem.Spec PyProof.Rows L2
open Evl (Ex Ev EvT EvL EvU EvA)
section
variable {K : PySem.W.Frag} {σ : L2.St} {H : Hp} {te tl : TE}
/-- [f(x) for x in t], t a tuple, f(x) data that never changes -/
theorem lc_dataT {xs : List V} {ds : List PyData} {j : Nat} {vs : List Nat} {Q : VK} (hz : xs.length = ds.length) (hz2 : ds.length < 40000) (hf : fzA ds = true)
    (htl : ∀ R : VK, (∀ b H2, Ex H H2 → SqT K H2 b xs → R (.ref b) H2) → tl σ H R) (hw : ∀ x, wipe ((wipe σ vs).set j (some x)) vs = wipe σ vs)
    (he : ∀ (i : Nat) (x : V) (d : PyData) H1, Ex H H1 → xs[i]? = some x → ds[i]? = some d → ∀ R : VK, (∀ v H2, Ex H1 H2 → Dp K H2 v d → R v H2) → te ((wipe σ vs).set j (some x)) H1 R)
    (k : ∀ D H2 us, H D = none → Ex H H2 → H2 D = some (.lst us) → DpAll K H2 us ds → Q (.ref D) H2) : tLc (iTup K tl) (gName j) tYes te vs σ H Q := by
  refine htl _ fun a H1 e1 hx => ⟨a, rfl, ⟨xs, hx⟩, fun D hD => ?_⟩
  have hDH : H D = none := Evl.fresh_back e1 hD
  refine ⟨fun i m H' => m = xs.length - i ∧ i ≤ xs.length ∧ Ex H H' ∧ SqT K H' a xs ∧ ∃ us, H' D = some (.lst us) ∧ DpAll K H' us (ds.take i), ⟨xs.length, by simp, Nat.zero_le _, e1.trans (ex_new hD), Evl.ex_t (ex_new hD) hx, [], upd_same, by rw [List.take_zero]; exact .nil⟩, ?_⟩
  rintro i m H' ⟨rfl, hi, eH, hq, us, hL, hD2⟩
  by_cases hlt : i < xs.length
  · refine .inr ⟨⟨xs, xs[i], hq, by simp [hlt]⟩, fun H' => Ex H H' ∧ SqT K H' a xs ∧ ∃ us, H' D = some (.lst us) ∧ DpAll K H' us (ds.take (i + 1)), fun H' p' => ⟨xs.length - (i + 1), by omega, rfl, hlt, p'.1, p'.2.1, p'.2.2⟩, fun x H2 y => ?_⟩
    obtain ⟨e, y⟩ := y
    subst e
    have hxi := y xs hq
    have hid : i < ds.length := by omega
    refine ⟨hw x, yesI ?_⟩
    refine he i x ds[i] H2 eH hxi (by simp [hid]) _ fun v H3 e3 hv => ?_
    have hl := DpAll.len hD2
    have t3 : Tu H2 H3 := Tu.ex e3
    have hL3 := e3 _ _ hL
    have t4 : Tu H3 (upd H3 D (.lst (us ++ [v]))) := tu_lst hL3
    refine ⟨us, hL3, ?_, Evl.Ex.mut (eH.trans e3) hDH, t4.seq (t3.seq hq), us ++ [v], upd_same, ?_⟩
    · rw [hl, List.length_take]
      exact Nat.lt_of_lt_of_le (show min i ds.length < 40000 by omega) (by decide)
    · have ft : fzA (ds.take i) = true := fzA_of fun d hd => by
        obtain ⟨m, hm⟩ := List.getElem?_of_mem (List.mem_of_mem_take hd)
        exact fzA_get hf hm
      have e : ds.take (i + 1) = ds.take i ++ [ds[i]] := by rw [List.take_add_one]; simp [hid]
      rw [e]
      exact DpAll.snoc (DpAll.tu t4 _ _ ft (DpAll.tu t3 _ _ ft hD2)) (Dp.tu t4 _ _ (fzA_get hf (i := i) (by simp [hid])) hv)
  · have e : i = xs.length := by omega
    subst e
    rw [hz, List.take_length] at hD2
    exact .inl ⟨⟨xs, hq, Nat.le_refl _⟩, k D H' us hDH eH hL hD2⟩
theorem lc_dataL {a : Addr} {xs : List V} {ds : List PyData} {j : Nat} {vs : List Nat} {Q : VK} (hz : xs.length = ds.length) (hz2 : ds.length < 40000) (hf : fzA ds = true)
    (htl : Ev tl σ H (.ref a)) (hx : SqL K H a xs) (hw : ∀ x, wipe ((wipe σ vs).set j (some x)) vs = wipe σ vs)
    (he : ∀ (i : Nat) (x : V) (d : PyData) H1, Ex H H1 → xs[i]? = some x → ds[i]? = some d → ∀ R : VK, (∀ v H2, Ex H1 H2 → Dp K H2 v d → R v H2) → te ((wipe σ vs).set j (some x)) H1 R)
    (k : ∀ D H2 us, H D = none → Ex H H2 → H2 D = some (.lst us) → DpAll K H2 us ds → Q (.ref D) H2) : tLc (iList K tl) (gName j) tYes te vs σ H Q := by
  refine htl H (Evl.Ex.refl H) _ fun H1 e1 => ⟨a, rfl, ⟨xs, Evl.ex_l e1 hx⟩, fun D hD => ?_⟩
  have hDH : H D = none := Evl.fresh_back e1 hD
  refine ⟨fun i m H' => m = xs.length - i ∧ i ≤ xs.length ∧ Ex H H' ∧ ∃ us, H' D = some (.lst us) ∧ DpAll K H' us (ds.take i), ⟨xs.length, by simp, Nat.zero_le _, e1.trans (ex_new hD), [], upd_same, by rw [List.take_zero]; exact .nil⟩, ?_⟩
  rintro i m H' ⟨rfl, hi, eH, us, hL, hD2⟩
  have hq := Evl.ex_l eH hx
  by_cases hlt : i < xs.length
  · refine .inr ⟨⟨xs, xs[i], hq, by simp [hlt]⟩, fun H' => Ex H H' ∧ ∃ us, H' D = some (.lst us) ∧ DpAll K H' us (ds.take (i + 1)), fun H' p' => ⟨xs.length - (i + 1), by omega, rfl, hlt, p'.1, p'.2⟩, fun x H2 y => ?_⟩
    obtain ⟨e, y⟩ := y
    subst e
    have hxi := y xs hq
    have hid : i < ds.length := by omega
    refine ⟨hw x, yesI ?_⟩
    refine he i x ds[i] H2 eH hxi (by simp [hid]) _ fun v H3 e3 hv => ?_
    have hl := DpAll.len hD2
    have t3 : Tu H2 H3 := Tu.ex e3
    have hL3 := e3 _ _ hL
    have t4 : Tu H3 (upd H3 D (.lst (us ++ [v]))) := tu_lst hL3
    refine ⟨us, hL3, ?_, Evl.Ex.mut (eH.trans e3) hDH, us ++ [v], upd_same, ?_⟩
    · rw [hl, List.length_take]
      exact Nat.lt_of_lt_of_le (show min i ds.length < 40000 by omega) (by decide)
    · have ft : fzA (ds.take i) = true := fzA_of fun d hd => by
        obtain ⟨m, hm⟩ := List.getElem?_of_mem (List.mem_of_mem_take hd)
        exact fzA_get hf hm
      have e : ds.take (i + 1) = ds.take i ++ [ds[i]] := by rw [List.take_add_one]; simp [hid]
      rw [e]
      exact DpAll.snoc (DpAll.tu t4 _ _ ft (DpAll.tu t3 _ _ ft hD2)) (Dp.tu t4 _ _ (fzA_get hf (i := i) (by simp [hid])) hv)
  · have e : i = xs.length := by omega
    subst e
    rw [hz, List.take_length] at hD2
    exact .inl ⟨⟨xs, hq, Nat.le_refl _⟩, k D H' us hDH eH hL hD2⟩
theorem nx_of {D : Ends} (h : D.nx σ H) : tNext D σ H := h
theorem q_lcT {xs : List V} {ds : List PyData} {i j : Nat} {vs : List Nat} {D0 : Ends} {tz : TS} (hz : xs.length = ds.length) (hz2 : ds.length < 40000) (hf : fzA ds = true)
    (htl : ∀ R : VK, (∀ b H2, Ex H H2 → SqT K H2 b xs → R (.ref b) H2) → tl σ H R) (hw : ∀ x, wipe ((wipe σ vs).set j (some x)) vs = wipe σ vs)
    (he : ∀ (i : Nat) (x : V) (d : PyData) H1, Ex H H1 → xs[i]? = some x → ds[i]? = some d → ∀ R : VK, (∀ v H2, Ex H1 H2 → Dp K H2 v d → R v H2) → te ((wipe σ vs).set j (some x)) H1 R)
    (k : ∀ D H2 us, H D = none → Ex H H2 → H2 D = some (.lst us) → DpAll K H2 us ds → tz D0 (σ.set i (some (.ref D))) H2) : tSeq (tAsg (tLc (iTup K tl) (gName j) tYes te vs) (gName i)) tz D0 σ H :=
  lc_dataT (Q := fun v H1 => tz D0 (σ.set i (some v)) H1) hz hz2 hf htl hw he k
theorem q_lcL {a : Addr} {xs : List V} {ds : List PyData} {i j : Nat} {vs : List Nat} {D0 : Ends} {tz : TS} (hz : xs.length = ds.length) (hz2 : ds.length < 40000) (hf : fzA ds = true)
    (htl : Ev tl σ H (.ref a)) (hx : SqL K H a xs) (hw : ∀ x, wipe ((wipe σ vs).set j (some x)) vs = wipe σ vs)
    (he : ∀ (i : Nat) (x : V) (d : PyData) H1, Ex H H1 → xs[i]? = some x → ds[i]? = some d → ∀ R : VK, (∀ v H2, Ex H1 H2 → Dp K H2 v d → R v H2) → te ((wipe σ vs).set j (some x)) H1 R)
    (k : ∀ D H2 us, H D = none → Ex H H2 → H2 D = some (.lst us) → DpAll K H2 us ds → tz D0 (σ.set i (some (.ref D))) H2) : tSeq (tAsg (tLc (iList K tl) (gName j) tYes te vs) (gName i)) tz D0 σ H :=
  lc_dataL (Q := fun v H1 => tz D0 (σ.set i (some v)) H1) hz hz2 hf htl hx hw he k
end
end Bk

namespace Bk
open PySem PySem.Spec PyProof.Rows L2
open Evl (Ex Ev EvT EvL EvU EvA)
/-! ### expressions that give data, and leave all that is there -/
def EvD (K : PySem.W.Frag) (te : TE) (σ : L2.St) (H : Hp) (d : PyData) : Prop := ∀ H1, Ex H H1 → ∀ R : VK, (∀ v H2, Ex H1 H2 → Dp K H2 v d → R v H2) → te σ H1 R
def EvAD (K : PySem.W.Frag) (ta : TA) (σ : L2.St) (H : Hp) (ds : List PyData) : Prop := ∀ H1, Ex H H1 → ∀ R : List V → Hp → Prop, (∀ vs H2, Ex H1 H2 → DpAll K H2 vs ds → R vs H2) → ta σ H1 R
section
variable {K : PySem.W.Frag} {σ : L2.St} {H H' : Hp} {te tl ta tb : TE} {d e : PyData} {ds es : List PyData} {t : TT}
theorem EvD.mono (e : Ex H H') (h : EvD K te σ H d) : EvD K te σ H' d := fun H1 a R r => h H1 (e.trans a) R r
theorem EvAD.mono {ta : TA} (e : Ex H H') (h : EvAD K ta σ H ds) : EvAD K ta σ H' ds := fun H1 a R r => h H1 (e.trans a) R r
theorem ed_var {j : Nat} {v : V} (hj : σ[j]? = some (some v)) (h : Dp K H v d) : EvD K (tVar j) σ H d := fun H1 a R r => ⟨v, hj, r v H1 (Evl.Ex.refl H1) (Dp.ex a _ _ h)⟩
theorem ed_int {i : Int} : EvD K (tC (.int i)) σ H (.int i) := fun H1 _ R r => r _ H1 (Evl.Ex.refl H1) (.int i)
theorem ed_str {s : Str} : EvD K (tC (.str s)) σ H (.str s) := fun H1 _ R r => r _ H1 (Evl.Ex.refl H1) (.str s)
theorem ed_ev {i : Int} (h : Ev te σ H (.int i)) : EvD K te σ H (.int i) := fun H1 a R r => h H1 a _ fun H2 e2 => r _ H2 e2 (.int i)
theorem ed_is (h : EvD K te σ H d) (e : d = e') : EvD K te σ H e' := e ▸ h
theorem ead_nil : EvAD K tNil σ H [] := fun H1 _ R r => r [] H1 (Evl.Ex.refl H1) .nil
theorem ead_cons {tr : TA} (h : EvD K te σ H d) (hr : EvAD K tr σ H ds) : EvAD K (tCons te tr) σ H (d :: ds) := fun H1 a R r =>
  h H1 a _ fun v H2 e2 hv => hr H2 (a.trans e2) _ fun vs H3 e3 hvs => r (v :: vs) H3 (e2.trans e3) (.cons (Dp.ex e3 _ _ hv) hvs)
theorem ed_call {sp : Sp} {E : XK} {ta : TA} (h : EvAD K ta σ H ds) (hs : ∀ vs H1, Ex H H1 → DpAll K H1 vs ds → ∀ R : VK, (∀ v H2, Ex H1 H2 → Dp K H2 v d → R v H2) → sp vs H1 R E) : EvD K (tCall sp [] E ta) σ H d := fun H1 a R r =>
  h H1 a _ fun vs H2 e2 hv => by
    rw [List.append_nil]
    exact hs vs H2 (a.trans e2) hv R fun v H3 e3 hd => r v H3 (e2.trans e3) hd
theorem ev_callD {sp : Sp} {E : XK} {ta : TA} {z : V} (h : EvAD K ta σ H ds) (hs : ∀ vs H1, Ex H H1 → DpAll K H1 vs ds → ∀ R : VK, (∀ H2, Ex H1 H2 → R z H2) → sp vs H1 R E) : Ev (tCall sp [] E ta) σ H z := fun H1 a R r =>
  h H1 a _ fun vs H2 e2 hv => by
    rw [List.append_nil]
    exact hs vs H2 (a.trans e2) hv R fun H3 e3 => r H3 (e2.trans e3)
theorem el_callD {sp : Sp} {E : XK} {ta : TA} {ds' : List PyData} (h : EvAD K ta σ H ds) (hs : ∀ vs H1, Ex H H1 → DpAll K H1 vs ds → ∀ R : VK, (∀ p H2 us, H1 p = none → Ex H1 H2 → H2 p = some (.lst us) → DpAll K H2 us ds' → R (.ref p) H2) → sp vs H1 R E) :
    EvD K (tCall sp [] E ta) σ H (.list ds') := ed_call h fun vs H1 e1 hv R r => hs vs H1 e1 hv R fun p H2 us _ e2 hp hu => r _ H2 e2 (.lst (SqL.of hp) hu)
theorem ed_tup {ta : TA} (h : EvAD K ta σ H ds) (hl : ds.length ≤ 100000) : EvD K (tTup ta) σ H (.tuple ds) := fun H1 a R r =>
  h H1 a _ fun vs H2 e2 hv => ⟨Evl.sz_of (by rw [DpAll.len hv]; exact hl), fun p hp => r _ _ (e2.trans (ex_new hp)) (.tup (SqT.of upd_same) (DpAll.ex (ex_new hp) _ _ hv))⟩
theorem ed_lst {ta : TA} (h : EvAD K ta σ H ds) (hl : ds.length ≤ 100000) : EvD K (tLst ta) σ H (.list ds) := fun H1 a R r =>
  h H1 a _ fun vs H2 e2 hv => ⟨Evl.sz_of (by rw [DpAll.len hv]; exact hl), fun p hp => r _ _ (e2.trans (ex_new hp)) (.lst (SqL.of upd_same) (DpAll.ex (ex_new hp) _ _ hv))⟩
theorem ed_cat (ha : EvD K ta σ H (.tuple ds)) (hb : EvD K tb σ H (.tuple es)) (hz : ds.length + es.length ≤ 100000) : EvD K (tOp (rCatA K) ta tb) σ H (.tuple (ds ++ es)) := fun H1 a R r =>
  ha H1 a _ fun v H2 e2 hv => hb H2 (a.trans e2) _ fun u H3 e3 hu => by
    obtain ⟨p, xs, rfl, hxs, hxa⟩ := dp_tup (Dp.ex e3 _ _ hv)
    obtain ⟨q, ys, rfl, hys, hya⟩ := dp_tup hu
    have l1 := DpAll.len hxa
    have l2 := DpAll.len hya
    refine ⟨p, q, xs, ys, rfl, rfl, hxs, hys, Evl.sz_of (by omega), fun h0 => ?_, fun _ h0 => ?_, fun _ _ p2 hp2 => ?_⟩
    · subst h0
      cases hxa
      exact r _ _ (e2.trans e3) (.tup hys hya)
    · subst h0
      cases hya
      rw [List.append_nil] at *
      exact r _ _ (e2.trans e3) (.tup hxs hxa)
    · exact r _ _ ((e2.trans e3).trans (ex_new hp2)) (.tup (SqT.of upd_same) (DpAll.ex (ex_new hp2) _ _ (DpAll.app hxa hya)))
theorem cut_to (xs : List V) (k : Nat) : cutV xs none (some (k : Int)) = xs.take k := by
  unfold cutV
  have e1 : HT.sIx xs.length xs.length (some (k : Int)) = min k xs.length := HT.sIx_nat xs.length xs.length k
  rw [e1, HT.sIx_none, List.drop_zero, Nat.sub_zero]
  by_cases h : k ≤ xs.length
  · rw [Nat.min_eq_left h]
  · rw [Nat.min_eq_right (by omega), List.take_of_length_le (Nat.le_refl _), List.take_of_length_le (by omega)]
theorem cut_from (xs : List V) (k : Nat) : cutV xs (some (k : Int)) none = xs.drop k := by
  unfold cutV
  have e1 : HT.sIx xs.length 0 (some (k : Int)) = min k xs.length := HT.sIx_nat xs.length 0 k
  rw [e1, HT.sIx_none]
  by_cases h : k ≤ xs.length
  · rw [Nat.min_eq_left h]
    exact List.take_of_length_le (by simp)
  · rw [Nat.min_eq_right (by omega)]
    rw [List.drop_eq_nil_of_le (Nat.le_refl _), List.drop_eq_nil_of_le (by omega), List.take_nil]
theorem ed_slTo {k : Nat} (ha : EvD K ta σ H (.tuple ds)) (hk : Ev tb σ H (.int (k : Int))) : EvD K (tSl (rSlA K) ta tNoPart (tPart tb)) σ H (.tuple (ds.take k)) := fun H1 a R r =>
  ha H1 a _ fun v H2 e2 hv => hk H2 (a.trans e2) _ fun H3 e3 => by
    obtain ⟨p, xs, rfl, hxs, hxa⟩ := dp_tup (Dp.ex e3 _ _ hv)
    refine ⟨_, rfl, p, xs, rfl, hxs, fun h0 => ?_, fun _ p2 hp2 => ?_⟩
    · have e1 : HT.sIx xs.length xs.length (some (k : Int)) = min k xs.length := HT.sIx_nat xs.length xs.length k
      rw [e1] at h0
      have : xs.length = ds.length := DpAll.len hxa
      have ht : ds.take k = ds := List.take_of_length_le (by omega)
      exact r _ _ (e2.trans e3) (by rw [ht]; exact .tup hxs hxa)
    · rw [cut_to]
      exact r _ _ ((e2.trans e3).trans (ex_new hp2)) (.tup (SqT.of upd_same) (DpAll.ex (ex_new hp2) _ _ (DpAll.take k hxa)))
theorem ed_slFrom {k : Nat} (ha : EvD K ta σ H (.tuple ds)) (hk : Ev tb σ H (.int (k : Int))) : EvD K (tSl (rSlA K) ta (tPart tb) tNoPart) σ H (.tuple (ds.drop k)) := fun H1 a R r =>
  ha H1 a _ fun v H2 e2 hv => hk H2 (a.trans e2) _ fun H3 e3 => by
    obtain ⟨p, xs, rfl, hxs, hxa⟩ := dp_tup (Dp.ex e3 _ _ hv)
    refine ⟨_, rfl, p, xs, rfl, hxs, fun h0 => ?_, fun _ p2 hp2 => ?_⟩
    · have e1 : HT.sIx xs.length 0 (some (k : Int)) = min k xs.length := HT.sIx_nat xs.length 0 k
      rw [e1] at h0
      have hl : xs.length = ds.length := DpAll.len hxa
      have hd : ds.drop k = ds := by
        by_cases hk0 : k = 0
        · rw [hk0, List.drop_zero]
        · have h1 : ds = [] := List.eq_nil_of_length_eq_zero (by omega)
          rw [h1, List.drop_nil]
      exact r _ _ (e2.trans e3) (by rw [hd]; exact .tup hxs hxa)
    · rw [cut_from]
      exact r _ _ ((e2.trans e3).trans (ex_new hp2)) (.tup (SqT.of upd_same) (DpAll.ex (ex_new hp2) _ _ (DpAll.drop k hxa)))
theorem ed_slLTo {k : Nat} (ha : EvD K ta σ H (.list ds)) (hk : Ev tb σ H (.int (k : Int))) : EvD K (tSl (rSlL K) ta tNoPart (tPart tb)) σ H (.list (ds.take k)) := fun H1 a R r =>
  ha H1 a _ fun v H2 e2 hv => hk H2 (a.trans e2) _ fun H3 e3 => by
    obtain ⟨p, xs, rfl, hxs, hxa⟩ := dp_lst (Dp.ex e3 _ _ hv)
    refine ⟨_, rfl, p, xs, rfl, hxs, fun p2 hp2 => ?_⟩
    rw [cut_to]
    exact r _ _ ((e2.trans e3).trans (ex_new hp2)) (.lst (SqL.of upd_same) (DpAll.ex (ex_new hp2) _ _ (DpAll.take k hxa)))
theorem ed_ixT {k : Nat} (ha : EvD K ta σ H (.tuple ds)) (hk : Ev tb σ H (.int (k : Int))) (hd : ds[k]? = some d) : EvD K (tOp (rIxT K) ta tb) σ H d := fun H1 a R r =>
  ha H1 a _ fun v H2 e2 hv => hk H2 (a.trans e2) _ fun H3 e3 => by
    obtain ⟨p, xs, rfl, hxs, hxa⟩ := dp_tup (Dp.ex e3 _ _ hv)
    obtain ⟨x, hx, hxd⟩ := DpAll.get' hxa hd
    exact ⟨p, xs, k, x, rfl, rfl, hxs, atI_nat hx, r _ _ (e2.trans e3) hxd⟩
theorem ed_ixL {k : Nat} (ha : EvD K ta σ H (.list ds)) (hk : Ev tb σ H (.int (k : Int))) (hd : ds[k]? = some d) : EvD K (tOp (rIxL K) ta tb) σ H d := fun H1 a R r =>
  ha H1 a _ fun v H2 e2 hv => hk H2 (a.trans e2) _ fun H3 e3 => by
    obtain ⟨p, xs, rfl, hxs, hxa⟩ := dp_lst (Dp.ex e3 _ _ hv)
    obtain ⟨x, hx, hxd⟩ := DpAll.get' hxa hd
    exact ⟨p, xs, k, x, rfl, rfl, hxs, atI_nat hx, r _ _ (e2.trans e3) hxd⟩
theorem dpAll_snocD {vs : List V} (h : DpAll K H vs (ds ++ [d])) : ∃ us v, vs = us ++ [v] ∧ DpAll K H us ds ∧ Dp K H v d := by
  induction ds generalizing vs with
  | nil =>
    cases h with
    | cons h1 h2 => cases h2; exact ⟨[], _, rfl, .nil, h1⟩
  | cons x l ih =>
    cases h with
    | cons h1 h2 =>
      obtain ⟨us, v, e, d1, d2⟩ := ih h2
      exact ⟨_ :: us, v, by rw [e]; rfl, .cons h1 d1, d2⟩
theorem ed_lastL (ha : EvD K ta σ H (.list (ds ++ [d]))) (hk : Ev tb σ H (.int (-1))) : EvD K (tOp (rIxL K) ta tb) σ H d := fun H1 a R r =>
  ha H1 a _ fun v H2 e2 hv => hk H2 (a.trans e2) _ fun H3 e3 => by
    obtain ⟨p, xs, rfl, hxs, hxa⟩ := dp_lst (Dp.ex e3 _ _ hv)
    obtain ⟨us, x, rfl, _, hxd⟩ := dpAll_snocD hxa
    exact ⟨p, _, -1, x, rfl, rfl, hxs, atI_last us x, r _ _ (e2.trans e3) hxd⟩
theorem ev_eqD (ha : EvD K ta σ H d) (hb : EvD K tb σ H e) (sd : SeqAt.shaped d = true) (se : SeqAt.shaped e = true) : Ev (tOp (rEqD K) ta tb) σ H (.bl (PyData.eqv d e)) := fun H1 a R r =>
  ha H1 a _ fun v H2 e2 hv => hb H2 (a.trans e2) _ fun u H3 e3 hu => ⟨d, e, Dp.ex e3 _ _ hv, hu, sd, se, r _ (e2.trans e3)⟩
theorem ev_neD (ha : EvD K ta σ H d) (hb : EvD K tb σ H e) (sd : SeqAt.shaped d = true) (se : SeqAt.shaped e = true) : Ev (tOp (rNeD K) ta tb) σ H (.bl (!PyData.eqv d e)) := fun H1 a R r =>
  ha H1 a _ fun v H2 e2 hv => hb H2 (a.trans e2) _ fun u H3 e3 hu => ⟨d, e, Dp.ex e3 _ _ hv, hu, sd, se, r _ (e2.trans e3)⟩
theorem ev_lenD (ha : EvD K ta σ H (.tuple ds)) : Ev (tCB (Evl.rLenS K) (tCons ta tNil)) σ H (.int (ds.length : Nat)) := fun H1 a R r =>
  ha H1 a _ fun v H2 e2 hv => by
    obtain ⟨p, xs, rfl, hxs, hxa⟩ := dp_tup hv
    refine ⟨p, xs, rfl, .inr hxs, ?_⟩
    rw [DpAll.len hxa]
    exact r _ e2
theorem ev_lenDL (ha : EvD K ta σ H (.list ds)) : Ev (tCB (Evl.rLenS K) (tCons ta tNil)) σ H (.int (ds.length : Nat)) := fun H1 a R r =>
  ha H1 a _ fun v H2 e2 hv => by
    obtain ⟨p, xs, rfl, hxs, hxa⟩ := dp_lst hv
    refine ⟨p, xs, rfl, .inl hxs, ?_⟩
    rw [DpAll.len hxa]
    exact r _ e2
theorem ed_if {b : Bool} (h : EvT t σ H b) (h1 : b = true → EvD K ta σ H d) (h2 : b = false → EvD K tb σ H d) : EvD K (tIf t ta tb) σ H d := fun H1 e Q q => h H1 e _ fun H2 e2 => by
  cases b with
  | true => exact iteT (h1 rfl H2 (e.trans e2) Q fun v H3 e3 => q v H3 (e2.trans e3))
  | false => exact iteF (h2 rfl H2 (e.trans e2) Q fun v H3 e3 => q v H3 (e2.trans e3))
theorem ed_rep {k : Nat} (ha : EvD K ta σ H (.tuple ds)) (hk : Ev tb σ H (.int (k : Int))) (hn : ds ≠ []) (h1 : 1 ≤ k) (h2 : k ≤ 1000) (hz : ds.length ≤ 1000) : EvD K (tOp (rRepT1 K) ta tb) σ H (.tuple (List.replicate k ds).flatten) := fun H1 a R r =>
  ha H1 a _ fun v H2 e2 hv => hk H2 (a.trans e2) _ fun H3 e3 => by
    obtain ⟨p, xs, rfl, hxs, hxa⟩ := dp_tup (Dp.ex e3 _ _ hv)
    have hl : xs.length = ds.length := DpAll.len hxa
    have key : ∀ n, DpAll K H3 (List.replicate n xs).flatten (List.replicate n ds).flatten := by
      intro n
      induction n with
      | zero => exact .nil
      | succ n ih => rw [List.replicate_succ, List.replicate_succ, List.flatten_cons, List.flatten_cons]; exact DpAll.app hxa ih
    refine ⟨p, k, xs, rfl, rfl, hxs, fun h0 => ?_, by omega, by omega, by omega, fun e => ?_, fun _ p2 hp2 => ?_⟩
    · subst h0
      exact hn (List.eq_nil_of_length_eq_zero hl.symm)
    · have : k = 1 := by omega
      subst this
      have e1 : (List.replicate 1 ds).flatten = ds := by simp
      exact r _ _ (e2.trans e3) (by rw [e1]; exact .tup hxs hxa)
    · have e1 : ((k : Int)).toNat = k := rfl
      rw [e1]
      exact r _ _ ((e2.trans e3).trans (ex_new hp2)) (.tup (SqT.of upd_same) (DpAll.ex (ex_new hp2) _ _ (key k)))
variable {D : Ends} {tz : TS}
theorem s_asgD {i : Nat} (h : EvD K te σ H d) (k : ∀ v H1, Ex H H1 → Dp K H1 v d → D.nx (σ.set i (some v)) H1) : tAsg te (gName i) D σ H := h H (Evl.Ex.refl H) _ fun v H1 e hv => k v H1 e hv
theorem q_asgD {i : Nat} (h : EvD K te σ H d) (k : ∀ v H1, Ex H H1 → Dp K H1 v d → tz D (σ.set i (some v)) H1) : tSeq (tAsg te (gName i)) tz D σ H := s_asgD (D := { D with nx := tz D }) h k
theorem s_retD (h : EvD K te σ H d) (k : ∀ v H1, Ex H H1 → Dp K H1 v d → D.rt v H1) : tRet te D σ H := h H (Evl.Ex.refl H) _ k
theorem s_appD {l : Addr} {xs : List V} (hl : H l = some (.lst xs)) (ha : Ev ta σ H (.ref l)) (h : EvD K te σ H d) (hz : xs.length < 100000) (k : ∀ v H1, Ex H H1 → Dp K H1 v d → D.nx σ (upd H1 l (.lst (xs ++ [v])))) :
    tDrop (tBM K "list" rAppend ta (tCons te tNil)) D σ H := ha H (Evl.Ex.refl H) _ fun H1 e1 =>
  ⟨Or.inl ⟨rfl, xs, Evl.sq_of (e1 l _ hl)⟩, h H1 e1 _ fun v H2 e2 hv => ⟨l, xs, v, rfl, rfl, e2 l _ (e1 l _ hl), Evl.sz_lt hz, k v H2 (e1.trans e2) hv⟩⟩
theorem q_appD {l : Addr} {xs : List V} (hl : H l = some (.lst xs)) (ha : Ev ta σ H (.ref l)) (h : EvD K te σ H d) (hz : xs.length < 100000) (k : ∀ v H1, Ex H H1 → Dp K H1 v d → tz D σ (upd H1 l (.lst (xs ++ [v])))) :
    tSeq (tDrop (tBM K "list" rAppend ta (tCons te tNil))) tz D σ H := s_appD (D := { D with nx := tz D }) hl ha h hz k
theorem ret_cb {r : List V → Hp → VK → Prop} (h : te σ H (fun v H1 => r [v] H1 D.rt)) : tRet (tCB r (tCons te tNil)) D σ H := h
end
end Bk

/-! enumerate(t), t a tuple -/
namespace Bk
open PySem PySem.Spec PyProof.Rows L2
theorem enumT_new (a : Addr) (its : Array Value) :
    Meets (Builtin.«enumerate.__new__» ⟨[.type "enumerate", .ref a], []⟩) (fun _ R s => s.heap.IsTuple a its ∧
      R (.ok (.ret (.ref (s.heap.push { cls := .type "tuple_iterator", data := .fields #[.ref a, .int 0 0] }).objs.size)))
        { s with heap := (s.heap.push { cls := .type "tuple_iterator", data := .fields #[.ref a, .int 0 0] }).push { cls := .type "enumerate", data := .fields #[.none, .bool false, .ref s.heap.objs.size, rawInt 0, .none, .none] } }) :=
  .of_wp fun prog w A R s h => by
    obtain ⟨hp, g, d, tk, os⟩ := s
    obtain ⟨ht, h⟩ := h
    have su := sub_enumerate
    have it : ∀ {A2 : Around} {E2 : Value → Shared → Prop} {Q2 : Value → Shared → Prop}, Q2 (.ref hp.objs.size) ⟨hp.push { cls := .type "tuple_iterator", data := .fields #[.ref a, .int 0 0] }, g, d, tk, os⟩ → wpAny (model prog w) A2 (pyIter (.ref a)) Q2 E2 ⟨hp, g, d, tk, os⟩ :=
      fun q => (begins_tuple a its).iter prog w _ _ ⟨hp, g, d, tk, os⟩ _ ht q
    wp_walk using it
    refine wpAny_stack_any fun st => wpAny_pure ?_
    split
    · rename_i c _ _ _ _ _
      cases (c == Value.type "enumerate") <;> (wp_walk using it; exact ⟨_, rfl, h⟩)
    · wp_walk using it
      exact ⟨_, rfl, h⟩
section
variable {prog : Program} {w : World} {A : Around} {E : Value → Shared → Prop} {s : Shared}
theorem enumT_call {a : Addr} {its : Array Value} {Q : Value → Shared → Prop} (ht : s.heap.IsTuple a its)
    (h : ∀ h', IsEnum h' (s.heap.objs.size + 1) s.heap.objs.size 0 .none → h'.IsTupleIter s.heap.objs.size a 0 → (∀ b o, s.heap.get? b = some o → h'.get? b = some o) → Q (.ref (s.heap.objs.size + 1)) { s with heap := h' }) :
    wpAny (model prog w) A (call (.type "enumerate") [.ref a]) Q E s := by
  refine callType_new F.called_enumerate (by decide) (F.typeCall_enumerate_1 _) (F.newCall_enumerate_1 _) (fun obj => F.args_object_init_2 obj _) F.entry_enumerate_new (enumT_new a its) ⟨ht, ?_⟩
  have sz : (s.heap.push { cls := .type "tuple_iterator", data := .fields #[.ref a, .int 0 0] }).objs.size = s.heap.objs.size + 1 := Heap.size_push ..
  have en := Heap.get?_push_size (s.heap.push { cls := .type "tuple_iterator", data := .fields #[.ref a, .int 0 0] }) (o := { cls := .type "enumerate", data := .fields #[.none, .bool false, .ref s.heap.objs.size, rawInt 0, .none, .none] }) rfl
  show _ ∧ _
  rw [sz] at en ⊢
  exact ⟨⟨_, en, rfl⟩, h _ en ⟨_, Heap.get?_push_of_some _ (Heap.get?_push_size _ rfl), rfl, rfl⟩ fun b o x => Heap.get?_push_of_some _ (Heap.get?_push_of_some _ x)⟩
end
/-- the tuple at a, each item in a new pair -/
def IteT (K : PySem.W.Frag) (a : Addr) : It where
  go := fun i H => ∃ (xs : List V) (x : V), SqT K H a xs ∧ xs[i]? = some x
  yld := fun i H v H' => ∃ T x, v = .ref T ∧ H T = none ∧ H' = upd H T (.tup [.int (i : Nat), x]) ∧ ∀ xs, SqT K H a xs → xs[i]? = some x
  stop := fun i H => ∃ xs : List V, SqT K H a xs ∧ xs.length ≤ i
theorem turnT {P : Program} {w : World} {K : PySem.W.Frag} {elts : List Expr} {kk : Nat} {tpos : Pos} (a e it : Addr) :
    Turn P w K (.Tuple elts kk tpos) (IteT K a) [e, it] e (fun i h => (∃ old, IsEnum h e it ((i : Nat) : Int) old) ∧ h.IsTupleIter it a i ∧ e ≠ it ∧ a ≠ it ∧ e ≠ a) where
  mem := List.mem_cons_self
  obj := fun i h st b hb => by
    obtain ⟨⟨old, he⟩, ⟨o, ho, hc, hd⟩, _⟩ := st
    rcases List.mem_cons.mp hb with z | z
    · subst z
      exact ⟨_, he, fun v q => nomatch q⟩
    · have z2 : b = it := by simpa using z
      subst z2
      exact ⟨o, ho, fun v q => by rw [hd] at q; cases q⟩
  keep := fun i h h' st k => let ⟨⟨old, he⟩, hi, hne⟩ := st; ⟨⟨old, k e (by simp) _ he⟩, hi.at fun o q => k it (by simp) o q, hne⟩
  item := by
    intro X hP hw hK hc i pins s σ H E I hf st hg
    subst hP hw hK
    obtain ⟨⟨old, he⟩, hit, n1, n2, n3⟩ := st
    obtain ⟨xs, x, hq, hx⟩ := hg
    obtain ⟨its, rv, p, hz⟩ := I.tuple hq
    have ht : s.heap.IsTuple a its.toArray := p
    obtain ⟨u, hu, ru⟩ := rv.get hx
    have hel : e < s.heap.objs.size := Heap.lt_size he
    have hil : it < s.heap.objs.size := let ⟨_, q, _⟩ := hit; Heap.lt_size q
    have hlt : i < its.toArray.size := by
      have := (List.getElem?_eq_some_iff.mp hu).1
      simpa using this
    have nin : e ∉ [it, a] := by simp [n1, n3]
    refine wpAny_pyNext_enum_itemD (Draws.tuple (show X.A.in1.handled = none from I.ok.hd hc) it a n2 its.toArray) he ⟨hit, ht⟩ hlt n1 nin fun y h' tk py ho st' hT hsz hk => ?_
    have ey : y = u := by
      have h1 : its.toArray[i]? = some y := py
      have h2 : its.toArray[i]? = some u := by simpa using hu
      exact Option.some.inj (h1.symm.trans h2)
    subst ey
    refine ⟨_, rfl, wpAny_letOwnedTupleGo_enum (s := { s with heap := h', toks := tk + 1 }) ho fun h'' he' sb => ?_⟩
    have hT2 : h''.get? s.heap.objs.size = some { cls := .type "tuple", data := .seq #[.int i tk, y] } := (sb.2 _ (Nat.ne_of_gt hel)).trans hT
    have new : ObjOk X.prog X.w (upd H s.heap.objs.size (.tup [.int (i : Nat), x])) h'' s.heap.objs.size (.tup [.int (i : Nat), x]) :=
      ⟨by show 2 ≤ sizeLine; decide, [.int i tk, y], .cons ⟨_, rfl⟩ (.cons ru .nil), _, hT2, rfl, _, rfl⟩
    have I1 : Inv X pins σ (upd H s.heap.objs.size (.tup [.int (i : Nat), x])) { s with heap := h'', toks := tk + 1 } :=
      I.turnedNew (ch := [e, it]) (fun b ob hb q => (sb.2 b fun z => hb (by simp [z])).trans (hk b ob (fun z => hb (by simp [z])) (fun z => hb (by simp [z])) q)) hf (Nat.le_refl _) new
    refine ⟨.ref s.heap.objs.size, _, I1, rfl, ⟨_, x, rfl, I.hok.fresh (Nat.le_refl _), rfl, fun ys hy => by rw [I.tuple_inj hy hq]; exact hx⟩, ⟨⟨y, ?_⟩, st'.1.at fun o q => (sb.2 it (Ne.symm n1)).trans q, n1, n2, n3⟩, fun b hb => ?_⟩
    · rw [show ((i + 1 : Nat) : Int) = (i : Int) + 1 by omega]
      exact he'
    · have hb' : b < s.heap.objs.size := by
        rcases List.mem_cons.mp hb with z | z
        · rw [z]; exact hel
        · have z2 : b = it := by simpa using z
          rw [z2]; exact hil
      rw [upd_ne (Nat.ne_of_lt hb')]
      exact (hf b hb).1
  done := by
    intro X hP hw hK hc i pins s σ H E I hf st hg
    subst hP hw hK
    obtain ⟨⟨old, he⟩, hit, n1, n2, n3⟩ := st
    obtain ⟨xs, hq, hx⟩ := hg
    obtain ⟨its, rv, p, hz⟩ := I.tuple hq
    have ht : s.heap.IsTuple a its.toArray := p
    obtain ⟨f0, f1, f2, f3, f4, f5⟩ := hf it (by simp)
    have hl := rv.length
    -- the end: the iterator stands at or behind the last item
    refine wpAny_pyNext_enum_endD (n := i) (P := fun _ _ => True) (St := fun j h => j = i ∧ h.IsTupleIter it a i ∧ h.IsTuple a its.toArray) (fp := [it, a])
      { live := fun _ _ q => let ⟨o, ho, _⟩ := q.2.1; ⟨o, ho⟩
        frame := fun _ _ _ q hk => ⟨q.1, q.2.1.at fun o e => hk it (by simp) o e, q.2.2.at fun o e => hk a (by simp) o e⟩
        item := fun j s2 Q2 E2 hj q _ => absurd q.1 (Nat.ne_of_lt hj)
        done := fun s2 Q2 E2 q hE => wpAny_nextOf_tuple_end (show X.A.in1.handled = none from I.ok.hd hc) q.2.1 q.2.2 (by simp; omega) hE } he ⟨rfl, hit, ht⟩ fun h' eb => ?_
    exact ⟨rfl, I.turned (t' := s.toks) (fun b o hb q => eb b o hb q) f0 f1 f3 f4 f5⟩
  self := fun A i s Q E st h => let ⟨⟨_, he⟩, _⟩ := st; wpAny_pyIter_enum he h
def iEnumT (K : PySem.W.Frag) (ta : TA) : TI := fun σ H R => ta σ H fun vs H1 => ∃ a xs, vs = [.ref a] ∧ SqT K H1 a xs ∧ R (IteT K a) H1
theorem pi_enumT {X : Cx} {e : Expr} {ta : TA} {p pos tpos : Pos} {elts : List Expr} {kk : Nat} (hg : Gl X "enumerate") (hm : X.mg "enumerate" = none) (ha : PA X [e] ta) (hs : starEach [e] X.env = [(false, eval e X.env)] := by rfl) :
    PI X (.Tuple elts kk tpos) (.Call (.Name "enumerate" p) [e] [] pos) (iEnumT X.K ta) := by
  refine ⟨fun pins s σ H R I h => ?_⟩
  refine Call_ (ld_blt I hg hm boot_enumerate (PyProof.Rows.callWith_type1 (thn (ha.run pos pins s σ H _ I h) fun us s1 ⟨vs, H1, I1, r1, q1⟩ => ?_) hs rfl))
  obtain ⟨a, xs, rfl, hq, q⟩ := q1
  obtain ⟨u, rfl, ru⟩ := r1.one
  cases ru
  obtain ⟨its, rv, p', hz⟩ := I1.tuple hq
  have ht : s1.heap.IsTuple a its.toArray := p'
  have hal : a < s1.heap.objs.size := let ⟨_, q, _⟩ := ht; Heap.lt_size q
  refine enumT_call ht fun h' he hit hk => wpAny_pyIter_enum he ?_
  have I2 : Inv X pins σ H1 { s1 with heap := h' } := I1.kept (t' := s1.toks) hk
  refine ⟨s1.heap.objs.size + 1, [s1.heap.objs.size + 1, s1.heap.objs.size], _, _, H1, rfl, I2, turnT a (s1.heap.objs.size + 1) s1.heap.objs.size, ⟨⟨.none, he⟩, hit, Nat.succ_ne_self _, Nat.ne_of_lt hal, Nat.ne_of_gt (Nat.lt_succ_of_lt hal)⟩, fun b hb => ?_, q⟩
  have hle : s1.heap.objs.size ≤ b := by
    rcases List.mem_cons.mp hb with z | z
    · rw [z]; exact Nat.le_succ _
    · have z2 : b = s1.heap.objs.size := by simpa using z
      rw [z2]; exact Nat.le_refl _
  exact I1.fpOk hle (I1.hok.fresh hle)
end Bk

namespace Bk
open PySem PySem.Spec PyProof.Rows L2 HT
open Evl (Ex Ev EvT EvL EvU EvA)
/-! ### t[::-1], t[:0:-1] of tuples -/
theorem pick_back (xs : Array Value) (m : Nat) (hm : m ≤ xs.size) : ((List.range m).filterMap fun (k : Nat) => xs[(((xs.size : Int) - 1) + (k : Int) * (-1)).toNat]?) = (xs.toList.drop (xs.size - m)).reverse := by
  induction m with
  | zero => simp
  | succ m ih =>
    rw [List.range_succ, List.filterMap_append, ih (by omega)]
    have e1 : (((xs.size : Int) - 1) + (m : Int) * (-1)).toNat = xs.size - (m + 1) := by omega
    have e2 : xs.toList.drop (xs.size - (m + 1)) = xs.toList[xs.size - (m + 1)]'(by rw [Array.length_toList]; omega) :: xs.toList.drop (xs.size - m) := by
      rw [List.drop_eq_getElem_cons (by rw [Array.length_toList]; omega)]
      congr 2
      omega
    rw [e2, List.reverse_cons]
    simp only [List.filterMap_cons, List.filterMap_nil, e1]
    rw [Array.getElem?_eq_getElem (show xs.size - (m + 1) < xs.size by omega)]
    simp
section
variable {prog : Program} {w : World} {A : Around} {E : Value → Shared → Prop} {s : Shared}
theorem sliceApplied_back {sl : Addr} {vl vu vs : Value} {hi : Option Int} {n m : Nat} {Q : Int × Int × Nat → Shared → Prop} (hs : s.heap.IsSliceOf sl vl vu vs) (pl : IsPart vl none) (pu : IsPart vu hi) (ps : IsPart vs (some (-1)))
    (hm : (hi = none ∧ m = n) ∨ (hi = some 0 ∧ m = n - 1)) (h : Q ((n : Int) - 1, -1, m) s) : wpAny (model prog w) A (Builtin.Slice.sliceApplied (.ref sl) (pure (n : Int))) Q E s := by
  obtain ⟨os, hos, hcs, hds⟩ := id hs
  unfold Builtin.Slice.sliceApplied Builtin.Slice.sliceFields
  refine wpAny_bind (wpAny_bind (wpAny_field hos hds (x := vl) rfl (wpAny_bind (wpAny_field hos hds (x := vu) rfl (wpAny_bind (wpAny_field hos hds (x := vs) rfl (wpAny_pure ?_)))))))
  refine wpAny_bind (slicePart_ ps ?_)
  show wpAny _ _ (if ((-1 : Int) == 0) = true then _ else _) _ _ s
  rw [if_neg (by decide)]
  refine wpAny_bind (slicePart_ pl (wpAny_bind (slicePart_ pu (wpAny_bind (wpAny_pure ?_)))))
  have e : ∃ b, Builtin.Slice.sliceAdjust none hi (-1) (n : Int) = ((n : Int) - 1, b) ∧ Builtin.Slice.slicePlaces ((n : Int) - 1) b (-1) = m := by
    rcases hm with ⟨rfl, rfl⟩ | ⟨rfl, rfl⟩
    · refine ⟨-1, by unfold Builtin.Slice.sliceAdjust; simp, ?_⟩
      unfold Builtin.Slice.slicePlaces
      simp
      split <;> omega
    · refine ⟨min 0 ((n : Int) - 1), by unfold Builtin.Slice.sliceAdjust; simp, ?_⟩
      unfold Builtin.Slice.slicePlaces
      simp
      split <;> omega
  obtain ⟨b, e1, e2⟩ := e
  show wpAny _ _ (match Builtin.Slice.sliceAdjust none hi (-1) (n : Int) with | (lo, hi) => pure (lo, (-1 : Int), Builtin.Slice.slicePlaces lo hi (-1))) _ _ s
  rw [e1]
  show wpAny _ _ (pure ((n : Int) - 1, (-1 : Int), Builtin.Slice.slicePlaces ((n : Int) - 1) b (-1))) _ _ s
  rw [e2]
  exact wpAny_pure h
theorem getItem_tuple_back {t sl : Addr} {items : Array Value} {vl vu vs : Value} {hi : Option Int} {m : Nat} {Q : Value → Shared → Prop} (ht : IsTup s.heap t items) (hs : s.heap.IsSliceOf sl vl vu vs) (pl : IsPart vl none) (pu : IsPart vu hi) (ps : IsPart vs (some (-1)))
    (hm : (hi = none ∧ m = items.size) ∨ (hi = some 0 ∧ m = items.size - 1))
    (h : Q (.ref s.heap.objs.size) { s with heap := s.heap.push { cls := .type "tuple", data := .seq (items.toList.drop (items.size - m)).reverse.toArray } })
    (hsz : items.size ≤ sizeLine) : wpAny (model prog w) A (getItem (.ref t) (.ref sl)) Q E s := by
  have hmn : m ≤ items.size := by rcases hm with ⟨_, h⟩ | ⟨_, h⟩ <;> omega
  have htake : sizeOk (.seq (items.toList.drop (items.size - m)).reverse.toArray) := by
    show (items.toList.drop (items.size - m)).reverse.toArray.size ≤ sizeLine
    rw [List.size_toArray, List.length_reverse, List.length_drop, Array.length_toList]
    omega
  obtain ⟨os, hos, hcs, hds⟩ := id hs
  have hTs : s.TypeIs (.ref sl) "slice" := ⟨os, hos, hcs⟩
  unfold getItem
  try with_reducible refine wpAny_holding ?_
  first | refine wpAny_bind (wpAny_pure ?_) | skip
  refine wpAny_bind (wpAny_sequenceKey ht.typeIs (by decide) ?_)
  refine wpAny_bind (wpAny_callSpecial?_slot (name := Str.ofString "__getitem__") ht.typeIs PyProof.Rows.slot_tuple_getitem
    (wpAny_call_entry PyProof.Rows.slot_tuple_getitem ht.typeIs entry_tuple_getitem ?_ (args_tuple_getitem _ _)))
  show wpAny _ _ (Builtin.Tuple.tupleItemsOf (.ref t) >>= _) _ _ s
  refine wpAny_bind (tupleItemsOf_ ht ?_)
  refine wpAny_bind (wpAny_typeOf hTs ?_)
  rw [if_pos (by decide)]
  refine wpAny_bind (sliceApplied_back hs pl pu ps hm ?_)
  have hno : ¬ ((((items.size : Int) - 1) == 0 && (-1 : Int) == 1 && m == items.size) = true) := by simp
  show wpAny _ _ (if (((items.size : Int) - 1) == 0 && (-1 : Int) == 1 && m == items.size) = true then _ else _) _ _ s
  rw [if_neg hno, pick_back items m hmn]
  first
    | exact wpAny_bind (m := Builtin.Tuple.tupleExact _) (wpAny_newObj_type (wpAny_pure ⟨_, rfl, wpAny_pure h⟩) htake)
    | exact wpAny_bind (m := Builtin.Tuple.tupleExact _) (wpAny_newObj_type (wpAny_bind (wpAny_pure (wpAny_pure ⟨_, rfl, wpAny_pure h⟩))) htake)
    | exact wpAny_bind (wpAny_bind (m := Builtin.Tuple.tupleExact _) (wpAny_newObj_type (wpAny_pure (wpAny_pure ⟨_, rfl, wpAny_pure h⟩)) htake))
    | exact wpAny_bind (wpAny_bind (m := Builtin.Tuple.tupleExact _) (wpAny_newObj_type (wpAny_pure ⟨_, rfl, wpAny_pure h⟩) htake))
end
section
variable {X : Cx}
/-- the items of t[::-1] (hi none), of t[:0:-1] -/
def backV (xs : List V) (hi : Option Int) : List V := if hi = none then xs.reverse else (xs.drop 1).reverse
def tBackT (K : PySem.W.Frag) (te : TE) (hi : Option Int) : TE := fun σ H Q => te σ H fun x H1 => ∃ a xs, x = .ref a ∧ SqT K H1 a xs ∧ ∀ p, H1 p = none → Q (.ref p) (upd H1 p (.tup (backV xs hi)))
theorem back_core {e : Expr} {te : TE} {k : Nat} {hix : Option Expr} {hi : Option Int} {th : TO} {p1 p2 p3 pos : Pos} (he : PE X e te) (hh : PO X hix th) (hth : ∀ σ H, th σ H (fun o H2 => o = hi ∧ H2 = H)) (hhi : hi = none ∨ hi = some 0)
    (hops : ∀ (a sl : Addr), subscripted (.Slice none hix (some (.UnaryOp .USub (.Constant (.int 1) k p1) p2)) p3) false (.ref a) (.ref sl) = operate [.ref a, .ref sl] (getItem (.ref a) (.ref sl))) :
    PE X (.Subscript e (.Slice none hix (some (.UnaryOp .USub (.Constant (.int 1) k p1) p2)) p3) pos) (tBackT X.K te hi) := by
  refine ⟨fun pins s σ H Q I h => ?_⟩
  refine Subscript_ (thn (he.run pins s σ H _ I h) fun v s1 ⟨x, H1, I1, r1, q1⟩ => ?_)
  obtain ⟨a, xs, ex, hx, q⟩ := q1
  subst ex
  cases r1
  have hst : PO X (some (.UnaryOp .USub (.Constant (.int 1) k p1) p2)) (tPart (tUn (rU fun i => .int (-i)) (tC (.int 1)))) := po_some (pe_un un_neg pe_int)
  refine wpAny_Slice (thn (po_none.run pins s1 σ H1 (fun o H2 => o = none ∧ H2 = H1) I1 ⟨rfl, rfl⟩) fun vl s2 ⟨l, H2, I2, pl, el, e2⟩ => ?_)
  subst el e2
  refine thn (hh.run pins s2 σ H2 (fun o H3 => o = hi ∧ H3 = H2) I2 (hth σ H2)) fun vu s3 ⟨u, H3, I3, pu, eu, e3⟩ => ?_
  subst eu e3
  refine thn (hst.run pins s3 σ H3 (fun o H4 => o = some (-1) ∧ H4 = H3) I3 ⟨1, rfl, -1, rfl, rfl, rfl⟩) fun vs s4 ⟨o, H4, I4, ps, eo, e4⟩ => ?_
  subst eo e4
  have I5 : Inv X pins σ H4 { s4 with heap := s4.heap.push { cls := .type "slice", data := .fields #[vl, vu, vs] } } := I4.kept (t' := s4.toks) fun b ob q => Heap.get?_push_of_some _ q
  obtain ⟨its, r, ht, hz⟩ := I5.tuple hx
  have hlen := r.length
  have hsz : its.toArray.size = xs.length := by rw [List.size_toArray]; exact hlen.symm
  show wpAny (model X.prog X.w) X.A (subscriptTail e (.Slice none hix (some (.UnaryOp .USub (.Constant (.int 1) k p1) p2)) p3) (.ref a) (.ref s4.heap.objs.size)) (EP X pins σ Q) X.xe { s4 with heap := s4.heap.push { cls := .type "slice", data := .fields #[vl, vu, vs] } }
  refine tail_any (ops := [.ref a, .ref s4.heap.objs.size]) ht.typeIs (PyProof.Rows.slot_tuple_getitem.lookup) ?_ (hops _ _)
  have key : ∀ m, (u = none ∧ m = its.toArray.size) ∨ (u = some 0 ∧ m = its.toArray.size - 1) → (its.toArray.toList.drop (its.toArray.size - m)).reverse = (if u = none then its.reverse else (its.drop 1).reverse) := by
    intro m hm
    rcases hm with ⟨rfl, rfl⟩ | ⟨rfl, rfl⟩
    · simp
    · rw [if_neg (by simp)]
      have hd : its.drop (its.length - (its.length - 1)) = its.drop 1 := by
        cases its with
        | nil => rfl
        | cons y l => congr 1; simp
      simpa using hd
  have fin : ∀ m, (u = none ∧ m = its.toArray.size) ∨ (u = some 0 ∧ m = its.toArray.size - 1) → wpAny (model X.prog X.w) X.A (getItem (.ref a) (.ref s4.heap.objs.size)) (EP X pins σ Q) X.xe { s4 with heap := s4.heap.push { cls := .type "slice", data := .fields #[vl, vu, vs] } } := fun m hm => by
    refine getItem_tuple_back ht (Heap.IsSliceOf.new _ vl vu vs) pl pu ps hm ?_ (by rw [hsz]; exact hz)
    rw [key m hm]
    refine ⟨.ref _, _, I5.laid (t' := s4.toks) (o := .tup (backV xs u)) (fun b ob q => Heap.get?_push_of_some _ q) (Nat.le_refl _) ?_, rfl, q _ (I5.hok.fresh (Nat.le_refl _))⟩
    have hv : Vals (backV xs u) (if u = none then its.reverse else (its.drop 1).reverse) := by
      unfold backV
      by_cases hu : u = none
      · rw [if_pos hu, if_pos hu]; exact r.reverse
      · rw [if_neg hu, if_neg hu]
        exact (Vals.drop 1 r).reverse
    have hl2 : (backV xs u).length ≤ sizeLine := by
      unfold backV
      split
      · rw [List.length_reverse]; exact hz
      · rw [List.length_reverse, List.length_drop]; omega
    first
      | exact ⟨hl2, _, 0, hv, Heap.get?_push_size _ rfl⟩
      | exact ⟨hl2, _, hv, Heap.get?_push_size _ rfl⟩
      | exact ⟨hl2, _, hv, _, Heap.get?_push_size _ rfl, rfl, _, rfl⟩
  rcases hhi with h0 | h0
  · exact fin _ (.inl ⟨h0, rfl⟩)
  · exact fin _ (.inr ⟨h0, rfl⟩)
theorem pe_revT {e : Expr} {te : TE} {k : Nat} {p1 p2 p3 pos : Pos} (he : PE X e te) : PE X (.Subscript e (.Slice none none (some (.UnaryOp .USub (.Constant (.int 1) k p1) p2)) p3) pos) (tBackT X.K te none) :=
  back_core he po_none (fun σ H => ⟨rfl, rfl⟩) (.inl rfl) (fun _ _ => by with_unfolding_all rfl)
theorem pe_rev1T {e : Expr} {te : TE} {k j : Nat} {p1 p2 p3 p4 pos : Pos} (he : PE X e te) : PE X (.Subscript e (.Slice none (some (.Constant (.int 0) j p4)) (some (.UnaryOp .USub (.Constant (.int 1) k p1) p2)) p3) pos) (tBackT X.K te (some 0)) :=
  back_core he (po_some pe_int) (fun σ H => ⟨0, rfl, rfl, rfl⟩) (.inr rfl) (fun _ _ => by with_unfolding_all rfl)
end
section
variable {K : PySem.W.Frag} {σ : L2.St} {H : Hp} {te : TE} {ds : List PyData}
theorem DpAll.rev {vs : List V} (h : DpAll K H vs ds) : DpAll K H vs.reverse ds.reverse := by
  induction ds generalizing vs with
  | nil => cases h; exact .nil
  | cons d l ih =>
    cases h with
    | cons h1 h2 => rw [List.reverse_cons, List.reverse_cons]; exact DpAll.app (ih h2) (.cons h1 .nil)
theorem ed_revT (h : EvD K te σ H (.tuple ds)) : EvD K (tBackT K te none) σ H (.tuple ds.reverse) := fun H1 a R r => h H1 a _ fun v H2 e2 hv => by
  obtain ⟨p, xs, rfl, hxs, hxa⟩ := dp_tup hv
  exact ⟨p, xs, rfl, hxs, fun q hq => r _ _ (e2.trans (ex_new hq)) (.tup (SqT.of upd_same) (DpAll.ex (ex_new hq) _ _ (DpAll.rev hxa)))⟩
theorem ed_rev1T (h : EvD K te σ H (.tuple ds)) : EvD K (tBackT K te (some 0)) σ H (.tuple (ds.drop 1).reverse) := fun H1 a R r => h H1 a _ fun v H2 e2 hv => by
  obtain ⟨p, xs, rfl, hxs, hxa⟩ := dp_tup hv
  exact ⟨p, xs, rfl, hxs, fun q hq => r _ _ (e2.trans (ex_new hq)) (.tup (SqT.of upd_same) (DpAll.ex (ex_new hq) _ _ (DpAll.rev (DpAll.drop 1 hxa))))⟩
end
end Bk

namespace Bk
open PySem PySem.Spec PyProof.Rows L2
open Evl (Ex Ev EvT EvL EvU EvA)
/-! ### defs that are called where no text is being shown (for repr) -/
structure FnG (P : Program) (w : World) (K : PySem.W.Frag) (mg : Str → Option Value) (base : Heap) (CX : CXT) (k : Nat) (f : Addr) (fd : FuncData) (ps : List Str) (sp : Sp) : Prop where
  len : ∀ vs H Q E, sp vs H Q E → vs.length = ps.length
  run : ∀ (A : Around) (outer : List PySem.Env) (s : Shared) (H : Hp) (args : Args) (us : List Value) (vs : List V) (Q : VK) (E : XK), A.guards = some [] → Room k A → Env0 P w K mg base A outer s H → BindsTo s fd args (ps.zip us) → Vals vs us → sp vs H Q E →
    codeAny (model P w) A (.call (.ref f) args) (CR CX outer P w H s Q E) s
section
variable {P : Program} {w : World} {K : PySem.W.Frag} {mg : Str → Option Value} {base : Heap} {CX : CXT}
theorem FnOk.toG {k : Nat} {f : Addr} {fd : FuncData} {ps : List Str} {sp : Sp} (F : FnOk P w K mg base CX k f fd ps sp) : FnG P w K mg base CX k f fd ps sp := ⟨F.len, fun A o s H a us vs Q E _ => F.run A o s H a us vs Q E⟩
theorem FnG.mono {j k : Nat} {f : Addr} {fd : FuncData} {ps : List Str} {sp : Sp} (F : FnG P w K mg base CX j f fd ps sp) (h : j ≤ k) : FnG P w K mg base CX k f fd ps sp := ⟨F.len, fun A o s H a us vs Q E g hr => F.run A o s H a us vs Q E g (hr.mono h)⟩
theorem fnG_of {k : Nat} {f : Addr} {name qual : Str} {params : Arguments} {body : List Stmt} {scope : Scope} {dV kV doc pm cdv ct oc : Value} {an od : Option Addr}
    {osl : Array (Option Value)} {N ps : List Str} {sp : Sp} (lk : K.lookup f = some ⟨oc, od, .func (PySem.W.fnOf name qual params body scope dV kV doc pm an cdv ct), osl⟩) (hcd : PySem.W.codeIn K cdv qual = true) (S : FnScope N ps scope)
    (len : ∀ vs H Q E, sp vs H Q E → vs.length = ps.length)
    (hbody : ∀ (A : Around) (outer : List PySem.Env) (s : Shared) (H : Hp) (vs : List V) (Q : VK) (E : XK), (A.deeper (envOfC qual scope s.heap.objs.size f cdv)).guards = some [] → Room k (A.deeper (envOfC qual scope s.heap.objs.size f cdv)) → sp vs H Q E →
      ∃ t, PSs (cxOf CX P w K mg base N qual scope f cdv A outer s H E) body t ∧ t { nx := fun _ H' => Q .non H', rt := Q } (L2.start N vs) H) :
    FnG P w K mg base CX (k + 1) f (PySem.W.fnOf name qual params body scope dV kV doc pm an cdv ct) ps sp := ⟨len, fun A outer s H args us vs Q E hgd hr e0 hb r hsp => by
  have KX : K.In s.heap := e0.mod.kin.keeps fun b o e => (e0.bs b o e).1
  have lim : s.heap.NoLimit := e0.mod.nolimit.keeps fun b o e => (e0.bs b o e).1
  have vis : ∀ y ∈ ps.zip us, scope.names.lookup y.1 = some .local ∨ (scope.names.lookup y.1 = some .cell ∧ ((cellsFrom (s.heap.objs.size + 1) scope.names []).lookup y.1).isSome = true) := by
    rintro ⟨n, v⟩ hy
    rcases S.par n (List.of_mem_zip hy).1 with q | q
    · exact .inl q
    · exact .inr ⟨q, PySem.W.cellsFrom_some _ _ _ (.inl q)⟩
  refine codeAny_call_function hr.depth (KX _ _ lk) rfl S.co S.gen rfl (PySem.W.codeRec_of KX hcd) (hb _ _ _ _ (wpAny_newFunctionEnv_cells S.kind vis fun env he s1 x => ?_))
  subst he
  obtain ⟨t, ht, hq⟩ := hbody A outer s H vs Q E hgd (hr.deeper _) hsp
  refine ⟨lim.keeps x.toInCall.keep, codeAny_func (wpAny_mono (ht.run [] s1 (L2.start N vs) H _ (inv_start S hr.hd e0 (len _ _ _ _ hsp) r x) hq) (fun fl s' hs => ?_) fun e s' hs => hs)⟩
  have fin : ∀ {σ' : L2.St} {H' : Hp} {v : V} {u : Value}, Inv (cxOf CX P w K mg base N qual scope f cdv A outer s H E) [] σ' H' s' → RelV v u → Q v H' → CE outer P w H s Q u s' := fun {σ' H' v u} J rv q => ⟨v, H', J.os, J.bare, J.base, J.hok, rv, q⟩
  cases fl with
  | ret u => obtain ⟨v, σ', H', J, rv, q⟩ := hs; exact fin J rv q
  | next => obtain ⟨σ', H', J, q⟩ := hs; exact fin (v := V.non) (u := Value.none) J rfl q
  | brk => obtain ⟨_, _, _, q⟩ := hs; exact False.elim q
  | cont => obtain ⟨_, _, _, q⟩ := hs; exact False.elim q⟩
/-- the rule for a def, as Fun.ok -/
theorem Fun.okg {x qual : Str} {st : Stmt} {f : Addr} {fd : FuncData} {N ps : List Str} {k : Nat} {sp : Sp} (F : Fun K x qual st f fd) (S : FnScope N ps (defScope st)) (len : ∀ vs H Q E, sp vs H Q E → vs.length = ps.length)
    (hbody : ∀ (cdv : Value) (A : Around) (outer : List PySem.Env) (s : Shared) (H : Hp) (vs : List V) (Q : VK) (E : XK), (A.deeper (envOfC qual (defScope st) s.heap.objs.size f cdv)).guards = some [] → Room k (A.deeper (envOfC qual (defScope st) s.heap.objs.size f cdv)) → sp vs H Q E →
      ∃ t, PSs (cxOf CX0 P w K mg base N qual (defScope st) f cdv A outer s H E).nox (defBody st) t ∧ t { nx := fun _ H' => Q .non H', rt := Q } (L2.start N vs) H) : FnG P w K mg base CX0 (k + 1) f fd ps sp := by
  obtain ⟨oc, od, kV, doc, pm, an, cdv, ct, osl, rfl, lk, hcd⟩ := F.ex
  refine fnG_of lk hcd S len fun A outer s H vs Q E hg hr hsp => ?_
  obtain ⟨t, h, q⟩ := hbody cdv A outer s H vs Q E hg hr hsp
  exact ⟨t, h.nox, q⟩
end
section
variable {X : Cx} {CX : CXT} {k : Nat} {f : Addr} {fd : FuncData} {ps : List Str} {sp : Sp} {dvs : List V} {ds : List Value} {E : XK} {x : Str} {p pos : Pos} {e : Expr} {es : List Expr} {t : TA}
theorem pe_callG (F : FnG X.prog X.w X.K X.mg X.base CX k f fd ps sp) (hgd : X.A.guards = some []) (hr : Room k X.A) (hg : Gl X x) (hm : X.mg x = some (.ref f)) (hk : PySem.W.keepIn X.K (.ref f) = true) (hb : Binds X.K fd ps ds) (hd : Vals dvs ds) (hx : Passes CX X E)
    (ha : PA X (e :: es) t) (hdb : (x == ("__debug__" : Str)) = false := by decide) (he : starEach (e :: es) X.env = (false, eval e X.env) :: starEach es X.env := by rfl) (hpl : (backTo pos (starEach es X.env)).any (·.1) = false := by rfl) :
    PE X (.Call (.Name x p) (e :: es) [] pos) (tCall sp dvs E t) := ⟨fun pins s σ H Q I h => wpAny_Call_Name_kw (ld_glob I hg hm (PySem.W.callWith_K (h₀ := X.base) I.ok.mod.kin hk (thn (ha.run pos pins s σ H _ I h) fun us s1 ⟨vs, H1, I1, r, q⟩ => ⟨I1.kIn, by
  have r2 : Vals (vs ++ dvs) (us ++ ds) := r.append hd
  have hl : (us ++ ds).length = ps.length := by rw [← r2.length]; exact F.len _ _ _ _ q
  refine wpAny_call (codeAny_mono (F.run X.A X.stack s1 H1 ⟨us, []⟩ (us ++ ds) (vs ++ dvs) Q E hgd hr I1.env0 (hb s1 us I1.kIn hl) r2 q) fun r s' hq => ?_)
  cases r with
  | error e => exact hx pins σ H1 s1 e s' I1 hq
  | ok fl =>
    cases fl with
    | ret u => exact I1.after hq
    | next => exact False.elim hq
    | brk => exact False.elim hq
    | cont => exact False.elim hq⟩) he hpl) hdb)⟩
/-- repr(x) of data: its text -/
def rReprD (K : PySem.W.Frag) : List V → Hp → VK → Prop := fun xs H Q => (∃ (v : V) (d : PyData), xs = [v] ∧ Dp K H v d ∧ d.showable = true ∧ d.hasDict = false ∧ d.depth ≤ 60 ∧ d.shown.length ≤ sizeLine ∧ (∃ a, v = .ref a) ∧ Q (.str d.shown) H) ∨ (∃ b : Bool, xs = [.bl b] ∧ Q (.str (if b then "True" else "False")) H) ∨ (xs = [.non] ∧ Q (.str "None") H)
theorem call_reprD (hgd : X.A.guards = some []) (hu : X.A.units + 64 < cLine) : CallR X (.builtin "repr") (rReprD X.K) := by
  intro pins s σ H xs us Q I r h
  rcases h with ⟨v, d, rfl, hv, hs, hd, h60, hz, ⟨a, rfl⟩, q⟩ | ⟨b, rfl, q⟩ | ⟨rfl, q⟩
  rotate_left
  · obtain ⟨u, rfl, ru⟩ := r.one
    cases ru
    exact PySem.P.repr_of_bool ⟨.str _, H, I.tok _, ⟨_, rfl⟩, q⟩
  · obtain ⟨u, rfl, ru⟩ := r.one
    cases ru
    exact PySem.P.repr_of_none ⟨.str _, H, I.tok _, ⟨_, rfl⟩, q⟩
  obtain ⟨u, rfl, ru⟩ := r.one
  cases ru
  obtain ⟨as, rd⟩ := Dp.reads I d _ _ hv rfl
  refine repr_of_reads' rd hs (fun z => by rw [hd] at z; cases z) hgd (by omega) (fun _ _ e => e) (fun h' u tk hk => ?_) hz
  exact ⟨.str d.shown, H, I.kept (t' := tk) (fun b o e => hk b o e), ⟨u, rfl⟩, q⟩
end
end Bk

/-! ### the functional layer: what a def does, as a plain function over data, cells and slots -/
namespace Fx
open PySem PySem.Spec PyProof.Rows L2
open Bk (Dp.ex DpAll.ex DpAll.len DpAll.get DpAll.get' DpAll.app DpAll.take DpAll.drop DpAll.snoc dp_tup dp_lst dp_int dp_str dp_bl ex_new)
open Evl (Ex)

/-- a mutable thing: a list, a dict (keys ints and texts), a dict (keys tuples of these) -/
inductive Cel where
  | lst (ds : List PyData)
  | dic (kvs : List (PyData × PyData))
  | dit (kvs : List (PyData × PyData))
abbrev Glo := List (Option Cel)
/-- a value: data, a cell that was handed in, a cell of the def's own -/
inductive AV where
  | d (x : PyData)
  | g (k : Nat)
  | l (k : Nat)
structure S where
  sl : List (Option AV)
  gl : Glo
  lo : Glo
/-- an error of the program's own -/
structure Xc where
  cls : Str
  args : List PyData
inductive R (α : Type) where
  | ok (a : α) (s : S)
  | xc (x : Xc) (s : S)
  | no
def R.bind {α β : Type} (r : R α) (f : α → S → R β) : R β :=
  match r with
  | .ok a s => f a s
  | .xc x s => .xc x s
  | .no => .no
/-- what a def gives: data, a cell that was handed in, a new cell -/
inductive RV where
  | d (x : PyData)
  | g (k : Nat)
  | f (c : Cel)
inductive RR where
  | ok (v : RV) (gl : Glo)
  | xc (x : Xc) (gl : Glo)
  | no

/-! what hides -/
def hid (A : List Addr) (cs : Glo) (a : Addr) : Prop := ∃ (k : Nat) (c : Cel), cs[k]? = some (some c) ∧ A[k]? = some a
open Classical in
noncomputable def hd (A : List Addr) (cs : Glo) (H : Hp) : Hp := fun a => if hid A cs a then none else H a
def keyD : Key → PyData
  | .inl i => .int i
  | .inr x => .str x
def CelAt (K : PySem.W.Frag) (Hh H : Hp) (a : Addr) : Cel → Prop
  | .lst ds => ∃ us, H a = some (.lst us) ∧ DpAll K Hh us ds
  | .dic kvs => ∃ us : List (Key × V), H a = some (.dK us) ∧ kvs.map (·.1) = us.map (fun p => keyD p.1) ∧ DpAll K Hh (us.map (·.2)) (kvs.map (·.2))
  | .dit kvs => ∃ us : List (List Key × V), H a = some (.dT us) ∧ kvs.map (·.1) = us.map (fun p => PyData.tuple (p.1.map keyD)) ∧ DpAll K Hh (us.map (·.2)) (kvs.map (·.2))
structure Cells (K : PySem.W.Frag) (A : List Addr) (cs : Glo) (H : Hp) : Prop where
  len : A.length = cs.length
  nd : A.Nodup
  ex : ∀ a ∈ A, H a ≠ none
  cel : ∀ (k : Nat) (c : Cel) (a : Addr), cs[k]? = some (some c) → A[k]? = some a → CelAt K (hd A cs H) H a c
section
variable {K : PySem.W.Frag} {A A' : List Addr} {cs cs' : Glo} {H H' Hh Hh' : Hp} {a b : Addr}
theorem hd_get (h : ¬ hid A cs a) : hd A cs H a = H a := by unfold hd; rw [if_neg h]
theorem hd_none (h : hid A cs a) : hd A cs H a = none := by unfold hd; rw [if_pos h]
theorem hd_some {o : HO} (h : hd A cs H a = some o) : ¬ hid A cs a ∧ H a = some o := by
  unfold hd at h
  split at h
  · cases h
  · exact ⟨‹_›, h⟩
theorem hd_sub : Ex (hd A cs H) H := fun a o h => (hd_some h).2
theorem CelAt.ex {c : Cel} (e : Ex Hh Hh') (h : CelAt K Hh H a c) (q : H' a = H a) : CelAt K Hh' H' a c := by
  cases c with
  | lst ds => obtain ⟨us, h1, h2⟩ := h; exact ⟨us, q.trans h1, DpAll.ex e _ _ h2⟩
  | dic kvs => obtain ⟨us, h1, h2, h3⟩ := h; exact ⟨us, q.trans h1, h2, DpAll.ex e _ _ h3⟩
  | dit kvs => obtain ⟨us, h1, h2, h3⟩ := h; exact ⟨us, q.trans h1, h2, DpAll.ex e _ _ h3⟩
theorem CelAt.some {c : Cel} (h : CelAt K Hh H a c) : ∃ o, H a = some o := by
  cases c with
  | lst ds => obtain ⟨us, h1, _⟩ := h; exact ⟨_, h1⟩
  | dic kvs => obtain ⟨us, h1, _⟩ := h; exact ⟨_, h1⟩
  | dit kvs => obtain ⟨us, h1, _⟩ := h; exact ⟨_, h1⟩
theorem hid_lt (h : hid A cs a) : ∃ k, k < cs.length ∧ A[k]? = some a := by
  obtain ⟨k, c, h1, h2⟩ := h
  exact ⟨k, (List.getElem?_eq_some_iff.mp h1).1, h2⟩
theorem hid_mem (h : hid A cs a) : a ∈ A := by
  obtain ⟨k, c, _, h2⟩ := h
  exact List.mem_of_getElem? h2
theorem nd_ix (hn : A.Nodup) {i j : Nat} (h1 : A[i]? = some a) (h2 : A[j]? = some a) : i = j := by
  obtain ⟨p1, e1⟩ := List.getElem?_eq_some_iff.mp h1
  obtain ⟨p2, e2⟩ := List.getElem?_eq_some_iff.mp h2
  exact (List.getElem_inj hn).mp (e1.trans e2.symm)
theorem Cells.hid (h : Cells K A cs H) (q : hid A cs a) : ∃ o, H a = some o := by
  obtain ⟨k, c, h1, h2⟩ := q
  exact (h.cel k c a h1 h2).some
theorem Cells.fresh (h : Cells K A cs H) (q : H a = none) : a ∉ A := fun z => h.ex a z q
theorem Cells.nhid (h : Cells K A cs H) (q : H a = none) : ¬ Fx.hid A cs a := fun z => h.fresh q (hid_mem z)
theorem hd_ex (e : ∀ a o, ¬ hid A cs a → H a = some o → H' a = some o) : Ex (hd A cs H) (hd A cs H') := fun a o h => by
  obtain ⟨n, h⟩ := hd_some h
  rw [hd_get n]
  exact e a o n h
/-- the same shape: the same is hidden -/
theorem hid_shape (h : cs'.map Option.isSome = cs.map Option.isSome) : hid A cs' a ↔ hid A cs a := by
  have key : ∀ {x y : Glo}, x.map Option.isSome = y.map Option.isSome → hid A x a → hid A y a := fun {x y} h ⟨k, c, h1, h2⟩ => by
    have e : (x.map Option.isSome)[k]? = some true := by rw [List.getElem?_map, h1]; rfl
    rw [h, List.getElem?_map] at e
    cases q : y[k]? with
    | none => rw [q] at e; cases e
    | some o =>
      rw [q] at e
      cases o with
      | none => cases e
      | some c' => exact ⟨k, c', q, h2⟩
  exact ⟨key h, key h.symm⟩
theorem hd_shape (h : cs'.map Option.isSome = cs.map Option.isSome) : hd A cs' H = hd A cs H := by
  funext a
  by_cases q : hid A cs a
  · rw [hd_none q, hd_none ((hid_shape h).mpr q)]
  · rw [hd_get q, hd_get fun z => q ((hid_shape h).mp z)]
/-- the heap grows -/
theorem Cells.grow (h : Cells K A cs H) (e : Ex H H') : Cells K A cs H' where
  len := h.len
  nd := h.nd
  ex := fun a m => by
    cases q : H a with
    | none => exact absurd q (h.ex a m)
    | some o => rw [e a o q]; exact fun z => by cases z
  cel := fun k c a h1 h2 => by
    have hc := h.cel k c a h1 h2
    obtain ⟨o, ho⟩ := hc.some
    exact hc.ex (hd_ex fun a o _ q => e a o q) ((e a o ho).trans ho.symm)
end

/-- how errors are told: the class, the error's own dict, the heap -/
abbrev XRep := Xc → Value → Option Addr → Hp → Prop
/-! the frame -/
structure Fr where
  G : List Addr
  g0 : Glo
  H0 : Hp
  xr : XRep
  /-- what is wanted where an error leaves -/
  xw : Value → Option Addr → L2.St → Hp → Prop
def AvR (K : PySem.W.Frag) (G R : List Addr) (Hh : Hp) (v : V) : AV → Prop
  | .d x => Dp K Hh v x
  | .g k => ∃ a, G[k]? = some a ∧ v = .ref a
  | .l k => ∃ a, R[k]? = some a ∧ v = .ref a
structure Env (K : PySem.W.Frag) (B : Fr) (R : List Addr) (s : S) (σ : L2.St) (H : Hp) : Prop where
  cells : Cells K (B.G ++ R) (s.gl ++ s.lo) H
  lg : s.gl.length = B.G.length
  shp : s.gl.map Option.isSome = B.g0.map Option.isSome
  new : ∀ a ∈ R, B.H0 a = none
  old : ∀ a o, ¬ hid B.G B.g0 a → B.H0 a = some o → H a = some o
  len : σ.length = s.sl.length
  sl : ∀ (i : Nat) (x : AV), s.sl[i]? = some (some x) → ∃ v, σ[i]? = some (some v) ∧ AvR K B.G R (hd (B.G ++ R) (s.gl ++ s.lo) H) v x
/-- a step of an expression: cells come at the end, slots are at most frozen -/
structure St (B : Fr) (R : List Addr) (s : S) (H : Hp) (R' : List Addr) (s' : S) (H' : Hp) : Prop where
  hx : Ex (hd (B.G ++ R) (s.gl ++ s.lo) H) (hd (B.G ++ R') (s'.gl ++ s'.lo) H')
  dom : ∀ a, H a ≠ none → H' a ≠ none
  pre : ∃ T, R' = R ++ T ∧ ∀ a ∈ T, H a = none
  lsl : s'.sl.length = s.sl.length
  slm : ∀ (i k : Nat), s'.sl[i]? = some (some (.l k)) → s.sl[i]? = some (some (.l k))
/-- .. of a statement -/
structure Kp (B : Fr) (R : List Addr) (s : S) (H : Hp) (R' : List Addr) (s' : S) (H' : Hp) : Prop where
  hx : Ex (hd (B.G ++ R) (s.gl ++ s.lo) H) (hd (B.G ++ R') (s'.gl ++ s'.lo) H')
  dom : ∀ a, H a ≠ none → H' a ≠ none
section
variable {K : PySem.W.Frag} {B : Fr} {R R1 R2 : List Addr} {s s1 s2 : S} {σ : L2.St} {H H1 H2 : Hp} {v : V} {x : AV}
theorem St.refl : St B R s H R s H := ⟨fun _ _ h => h, fun _ h => h, ⟨[], by simp, by simp⟩, rfl, fun _ _ h => h⟩
theorem St.trans (a : St B R s H R1 s1 H1) (b : St B R1 s1 H1 R2 s2 H2) : St B R s H R2 s2 H2 := by
  obtain ⟨T, e1, f1⟩ := a.pre
  obtain ⟨U, e2, f2⟩ := b.pre
  refine ⟨a.hx.trans b.hx, fun x h => b.dom x (a.dom x h), ⟨T ++ U, by rw [e2, e1, List.append_assoc], fun x hx => ?_⟩, b.lsl.trans a.lsl, fun i k h => a.slm i k (b.slm i k h)⟩
  rcases List.mem_append.mp hx with h | h
  · exact f1 x h
  · cases q : H x with
    | none => rfl
    | some o => exact absurd (f2 x h) (a.dom x (by rw [q]; exact fun z => by cases z))
theorem St.kp (a : St B R s H R1 s1 H1) : Kp B R s H R1 s1 H1 := ⟨a.hx, a.dom⟩
theorem Kp.refl : Kp B R s H R s H := ⟨fun _ _ h => h, fun _ h => h⟩
theorem Kp.trans (a : Kp B R s H R1 s1 H1) (b : Kp B R1 s1 H1 R2 s2 H2) : Kp B R s H R2 s2 H2 := ⟨a.hx.trans b.hx, fun x h => b.dom x (a.dom x h)⟩
theorem St.len (a : St B R s H R1 s1 H1) : R.length ≤ R1.length := by
  obtain ⟨T, e, _⟩ := a.pre
  rw [e, List.length_append]; omega
theorem AvR.ex {G : List Addr} {Hh Hh' : Hp} {T : List Addr} (e : Ex Hh Hh') (h : AvR K G R Hh v x) : AvR K G (R ++ T) Hh' v x := by
  cases x with
  | d x => exact Dp.ex e _ _ h
  | g k => exact h
  | l k =>
    obtain ⟨a, h1, h2⟩ := h
    exact ⟨a, by rw [List.getElem?_append_left (List.getElem?_eq_some_iff.mp h1).1]; exact h1, h2⟩
/-- the value of an expression -/
abbrev VR (K : PySem.W.Frag) (B : Fr) (R : List Addr) (s : S) (H : Hp) (v : V) (x : AV) : Prop := AvR K B.G R (hd (B.G ++ R) (s.gl ++ s.lo) H) v x
theorem VR.st (a : St B R s H R1 s1 H1) (h : VR K B R s H v x) : VR K B R1 s1 H1 v x := by
  obtain ⟨T, e, _⟩ := a.pre
  have := AvR.ex (T := T) a.hx h
  rw [e] at this ⊢
  exact this
theorem Env.ll (e : Env K B R s σ H) : s.lo.length = R.length := by
  have h := e.cells.len
  rw [List.length_append, List.length_append, e.lg] at h
  omega
theorem Env.grow (e : Env K B R s σ H) (x : Ex H H1) : Env K B R s σ H1 where
  cells := e.cells.grow x
  lg := e.lg
  shp := e.shp
  new := e.new
  old := fun a o n h => x a o (e.old a o n h)
  len := e.len
  sl := fun i y h => by
    obtain ⟨v, h1, h2⟩ := e.sl i y h
    have := AvR.ex (T := []) (hd_ex (H' := H1) fun a o _ q => x a o q) h2
    rw [List.append_nil] at this
    exact ⟨v, h1, this⟩
theorem Env.growSt (e : Env K B R s σ H) (x : Ex H H1) : St B R s H R s H1 := ⟨hd_ex fun a o _ q => x a o q, fun a h => by
  cases q : H a with
  | none => exact absurd q h
  | some o => rw [x a o q]; exact (fun z => by cases z), ⟨[], by simp, by simp⟩, rfl, fun _ _ h => h⟩
theorem Env.fresh (e : Env K B R s σ H) {p : Addr} (h : H p = none) : B.H0 p = none := by
  cases q : B.H0 p with
  | none => rfl
  | some o =>
    by_cases z : hid B.G B.g0 p
    · exact absurd h (e.cells.ex p (List.mem_append_left _ (hid_mem z)))
    · have := e.old p o z q
      rw [h] at this; cases this
theorem get_set_some {Γ : List (Option AV)} {i j : Nat} {x : Option AV} {y : AV} (h : (Γ.set i x)[j]? = some (some y)) : (i = j ∧ x = some y) ∨ (i ≠ j ∧ Γ[j]? = some (some y)) := by
  rw [List.getElem?_set] at h
  by_cases q : i = j
  · subst q
    rw [if_pos rfl] at h
    split at h
    · exact .inl ⟨rfl, Option.some.inj h⟩
    · cases h
  · rw [if_neg q] at h; exact .inr ⟨q, h⟩
theorem set_ne {α : Type} {l : List α} {i j : Nat} {x : α} (h : i ≠ j) : (l.set i x)[j]? = l[j]? := by rw [List.getElem?_set, if_neg h]
theorem set_eq {α : Type} {l : List α} {i : Nat} {x : α} (h : i < l.length) : (l.set i x)[i]? = some x := by rw [List.getElem?_set, if_pos rfl, if_pos h]
/-- a slot is set -/
theorem Env.set (e : Env K B R s σ H) {i : Nat} (h : VR K B R s H v x) : Env K B R { s with sl := s.sl.set i (some x) } (σ.set i (some v)) H where
  cells := e.cells
  lg := e.lg
  shp := e.shp
  new := e.new
  old := e.old
  len := by simp [e.len]
  sl := fun j y q => by
    have hlt : j < σ.length := by
      have := (List.getElem?_eq_some_iff.mp q).1
      rw [List.length_set] at this
      rw [e.len]; exact this
    rcases get_set_some q with ⟨rfl, q1⟩ | ⟨n, q1⟩
    · cases q1; exact ⟨v, set_eq hlt, h⟩
    · obtain ⟨u, h1, h2⟩ := e.sl j y q1
      exact ⟨u, (set_ne n).trans h1, h2⟩
theorem Env.forget (e : Env K B R s σ H) {i : Nat} : Env K B R { s with sl := s.sl.set i none } (σ.set i none) H where
  cells := e.cells
  lg := e.lg
  shp := e.shp
  new := e.new
  old := e.old
  len := by simp [e.len]
  sl := fun j y q => by
    rcases get_set_some q with ⟨rfl, q1⟩ | ⟨n, q1⟩
    · cases q1
    · obtain ⟨u, h1, h2⟩ := e.sl j y q1
      exact ⟨u, (set_ne n).trans h1, h2⟩
end
section
variable {K : PySem.W.Frag} {A : List Addr} {cs : Glo} {H H' : Hp} {p : Addr} {c : Cel}
/-- a new cell is hidden -/
theorem hid_snoc (hl : A.length = cs.length) {a : Addr} : hid (A ++ [p]) (cs ++ [some c]) a ↔ a = p ∨ hid A cs a := by
  constructor
  · rintro ⟨k, d, h1, h2⟩
    by_cases q : k < cs.length
    · rw [List.getElem?_append_left q] at h1
      rw [List.getElem?_append_left (by omega)] at h2
      exact .inr ⟨k, d, h1, h2⟩
    · have hk := (List.getElem?_eq_some_iff.mp h1).1
      rw [List.length_append, List.length_singleton] at hk
      have hk : k = A.length := by omega
      subst hk
      rw [List.getElem?_append_right (Nat.le_refl _), Nat.sub_self] at h2
      exact .inl (by simpa using h2.symm)
  · rintro (rfl | ⟨k, d, h1, h2⟩)
    · exact ⟨A.length, c, by rw [hl, List.getElem?_append_right (Nat.le_refl _), Nat.sub_self]; rfl, by rw [List.getElem?_append_right (Nat.le_refl _), Nat.sub_self]; rfl⟩
    · exact ⟨k, d, by rw [List.getElem?_append_left (List.getElem?_eq_some_iff.mp h1).1]; exact h1, by rw [List.getElem?_append_left (List.getElem?_eq_some_iff.mp h2).1]; exact h2⟩
theorem hd_snoc (h : Cells K A cs H) (hp : H p = none) (e : Ex H H') : Ex (hd A cs H) (hd (A ++ [p]) (cs ++ [some c]) H') := fun a o q => by
  obtain ⟨n, q⟩ := hd_some q
  have hap : a ≠ p := fun z => by rw [z, hp] at q; cases q
  rw [hd_get fun z => ((hid_snoc h.len).mp z).elim hap n]
  exact e a o q
theorem Cells.snoc (h : Cells K A cs H) (hp : H p = none) (e : Ex H H') (hc : CelAt K (hd A cs H) H' p c) : Cells K (A ++ [p]) (cs ++ [some c]) H' where
  len := by simp [h.len]
  nd := by
    rw [List.nodup_append]
    refine ⟨h.nd, by simp, fun a ha b hb => ?_⟩
    have : b = p := by simpa using hb
    subst this
    exact fun z => h.fresh hp (z ▸ ha)
  ex := fun a m => by
    rcases List.mem_append.mp m with m | m
    · cases q : H a with
      | none => exact absurd q (h.ex a m)
      | some o => rw [e a o q]; exact fun z => by cases z
    · have : a = p := by simpa using m
      subst this
      obtain ⟨o, ho⟩ := hc.some
      rw [ho]; exact fun z => by cases z
  cel := fun k d a h1 h2 => by
    have hx := hd_snoc (c := c) h hp e
    by_cases q : k < cs.length
    · rw [List.getElem?_append_left q] at h1
      rw [List.getElem?_append_left (by rw [h.len]; exact q)] at h2
      have hk := h.cel k d a h1 h2
      obtain ⟨o, ho⟩ := hk.some
      exact hk.ex hx ((e a o ho).trans ho.symm)
    · have hk := (List.getElem?_eq_some_iff.mp h1).1
      rw [List.length_append, List.length_singleton] at hk
      have hk : k = cs.length := by omega
      subst hk
      rw [List.getElem?_append_right (Nat.le_refl _), Nat.sub_self] at h1
      rw [← h.len, List.getElem?_append_right (Nat.le_refl _), Nat.sub_self] at h2
      have e1 : c = d := by simpa using h1
      have e2 : p = a := by simpa using h2
      subst e1
      subst e2
      exact hc.ex hx rfl
theorem CelAt.keep {c : Cel} {Hh : Hp} {a : Addr} (h : CelAt K Hh H a c) : CelAt K Hh H a c := h
end
section
variable {K : PySem.W.Frag} {B : Fr} {R R1 R2 : List Addr} {s s1 s2 : S} {σ : L2.St} {H H1 H2 : Hp} {v : V} {x : AV} {p : Addr} {c : Cel}
def S.push (s : S) (c : Cel) : S := { s with lo := s.lo ++ [some c] }
/-- a new cell of the def's own -/
theorem Env.push (e : Env K B R s σ H) (hp : H p = none) (x : Ex H H1) (hc : CelAt K (hd (B.G ++ R) (s.gl ++ s.lo) H) H1 p c) : Env K B (R ++ [p]) (s.push c) σ H1 ∧ St B R s H (R ++ [p]) (s.push c) H1 ∧ VR K B (R ++ [p]) (s.push c) H1 (.ref p) (.l s.lo.length) := by
  have e1 : B.G ++ (R ++ [p]) = (B.G ++ R) ++ [p] := (List.append_assoc ..).symm
  have e2 : (s.push c).gl ++ (s.push c).lo = (s.gl ++ s.lo) ++ [some c] := (List.append_assoc ..).symm
  have hx : Ex (hd (B.G ++ R) (s.gl ++ s.lo) H) (hd (B.G ++ (R ++ [p])) ((s.push c).gl ++ (s.push c).lo) H1) := by rw [e1, e2]; exact hd_snoc e.cells hp x
  refine ⟨⟨by rw [e1, e2]; exact e.cells.snoc hp x hc, e.lg, e.shp, fun a m => ?_, fun a o n h => x a o (e.old a o n h), e.len, fun i y h => ?_⟩, ⟨hx, (e.growSt x).dom, ⟨[p], rfl, by simpa using hp⟩, rfl, fun _ _ h => h⟩, ?_⟩
  · rcases List.mem_append.mp m with m | m
    · exact e.new a m
    · have : a = p := by simpa using m
      subst this
      exact e.fresh hp
  · obtain ⟨v, h1, h2⟩ := e.sl i y h
    exact ⟨v, h1, AvR.ex hx h2⟩
  · exact ⟨p, by rw [e.ll, List.getElem?_append_right (Nat.le_refl _), Nat.sub_self]; rfl, rfl⟩
end
/-! fewer cells, other places -/
section
variable {K : PySem.W.Frag} {A A' : List Addr} {cs cs' : Glo} {H H' : Hp} {a : Addr} {o : HO} {c c0 : Cel} {k : Nat}
theorem hid_sub (hs : ∀ (k : Nat) (c : Cel) (a : Addr), cs'[k]? = some (some c) → A'[k]? = some a → ∃ j : Nat, cs[j]? = some (some c) ∧ A[j]? = some a) : hid A' cs' a → hid A cs a := fun ⟨k, c, h1, h2⟩ => by
  obtain ⟨j, e1, e2⟩ := hs k c a h1 h2
  exact ⟨j, c, e1, e2⟩
theorem hd_more (hs : ∀ a, hid A' cs' a → hid A cs a) : Ex (hd A cs H) (hd A' cs' H) := fun a o h => by
  obtain ⟨n, h⟩ := hd_some h
  rw [hd_get fun z => n (hs a z)]
  exact h
theorem Cells.sub (h : Cells K A cs H) (hl : A'.length = cs'.length) (hn : A'.Nodup) (hm : ∀ a ∈ A', a ∈ A) (hs : ∀ (k : Nat) (c : Cel) (a : Addr), cs'[k]? = some (some c) → A'[k]? = some a → ∃ j : Nat, cs[j]? = some (some c) ∧ A[j]? = some a) : Cells K A' cs' H where
  len := hl
  nd := hn
  ex := fun a m => h.ex a (hm a m)
  cel := fun k c a h1 h2 => by
    obtain ⟨j, e1, e2⟩ := hs k c a h1 h2
    exact (h.cel j c a e1 e2).ex (hd_more fun b z => hid_sub hs z) rfl
/-- a cell is changed -/
theorem hid_put (hk : cs[k]? = some (some c0)) : hid A (cs.set k (some c)) a ↔ hid A cs a := by
  refine hid_shape ?_
  rw [List.map_set]
  refine List.ext_getElem? fun i => ?_
  rw [List.getElem?_set]
  split
  · rename_i e
    subst e
    rw [List.getElem?_map, hk]
    split
    · rfl
    · rename_i q
      rw [List.length_map] at q
      exact absurd (List.getElem?_eq_some_iff.mp hk).1 q
  · rfl
theorem hd_put (hk : cs[k]? = some (some c0)) (ha : A[k]? = some a) : hd A (cs.set k (some c)) (upd H a o) = hd A cs H := by
  funext b
  by_cases q : hid A cs b
  · rw [hd_none q, hd_none ((hid_put hk).mpr q)]
  · have hb : b ≠ a := fun z => q (z ▸ ⟨k, c0, hk, ha⟩)
    rw [hd_get q, hd_get fun z => q ((hid_put hk).mp z), upd_ne hb]
theorem Cells.put (h : Cells K A cs H) (hk : cs[k]? = some (some c0)) (ha : A[k]? = some a) (hc : CelAt K (hd A cs H) (upd H a o) a c) : Cells K A (cs.set k (some c)) (upd H a o) where
  len := by rw [List.length_set]; exact h.len
  nd := h.nd
  ex := fun b m => by
    by_cases q : b = a
    · subst q; rw [upd_same]; exact fun z => by cases z
    · rw [upd_ne q]; exact h.ex b m
  cel := fun j d b h1 h2 => by
    rw [hd_put hk ha]
    by_cases q : k = j
    · subst q
      rw [List.getElem?_set_self (List.getElem?_eq_some_iff.mp hk).1] at h1
      rw [ha] at h2
      cases h1
      cases h2
      exact hc
    · rw [List.getElem?_set_ne q] at h1
      have hb : b ≠ a := fun z => q (nd_ix h.nd ha (z ▸ h2))
      exact (h.cel j d b h1 h2).ex (fun _ _ z => z) (upd_ne hb)
end
section
variable {K : PySem.W.Frag} {B : Fr} {R R1 R2 : List Addr} {s s1 s2 : S} {σ σ' : L2.St} {H H1 H2 : Hp} {v : V} {x : AV} {p : Addr} {c c0 : Cel} {o : HO}
/-- the cell of a value -/
def cellOf (s : S) : AV → Option Cel
  | .d _ => none
  | .g k => (s.gl[k]?).join
  | .l k => (s.lo[k]?).join
def S.put (s : S) (x : AV) (c : Cel) : S :=
  match x with
  | .d _ => s
  | .g k => { s with gl := s.gl.set k (some c) }
  | .l k => { s with lo := s.lo.set k (some c) }
/-- the place of a cell among all -/
def S.at (s : S) : AV → Nat
  | .d _ => 0
  | .g k => k
  | .l k => s.gl.length + k
theorem join_some {α : Type} {o : Option (Option α)} {x : α} (h : o.join = some x) : o = some (some x) := by
  match o, h with
  | some (some y), h => exact congrArg (some ∘ some) (Option.some.inj h)
theorem Env.cell (e : Env K B R s σ H) (r : VR K B R s H v x) (h : cellOf s x = some c) : ∃ a, v = .ref a ∧ (s.gl ++ s.lo)[s.at x]? = some (some c) ∧ (B.G ++ R)[s.at x]? = some a ∧ CelAt K (hd (B.G ++ R) (s.gl ++ s.lo) H) H a c := by
  cases x with
  | d x => cases h
  | g k =>
    obtain ⟨a, h1, h2⟩ := r
    have h := join_some h
    have k1 : (s.gl ++ s.lo)[k]? = some (some c) := by rw [List.getElem?_append_left (List.getElem?_eq_some_iff.mp h).1]; exact h
    have k2 : (B.G ++ R)[k]? = some a := by rw [List.getElem?_append_left (List.getElem?_eq_some_iff.mp h1).1]; exact h1
    exact ⟨a, h2, k1, k2, e.cells.cel k c a k1 k2⟩
  | l k =>
    obtain ⟨a, h1, h2⟩ := r
    have h := join_some h
    have k1 : (s.gl ++ s.lo)[s.gl.length + k]? = some (some c) := by rw [List.getElem?_append_right (Nat.le_add_right _ _), Nat.add_sub_cancel_left]; exact h
    have k2 : (B.G ++ R)[s.gl.length + k]? = some a := by rw [e.lg, List.getElem?_append_right (Nat.le_add_right _ _), Nat.add_sub_cancel_left]; exact h1
    exact ⟨a, h2, k1, k2, e.cells.cel _ c a k1 k2⟩
theorem put_all (h : cellOf s x = some c0) : (s.put x c).gl ++ (s.put x c).lo = (s.gl ++ s.lo).set (s.at x) (some c) ∧ (s.put x c).sl = s.sl ∧ (s.put x c).gl.length = s.gl.length ∧ (s.put x c).gl.map Option.isSome = s.gl.map Option.isSome := by
  cases x with
  | d x => cases h
  | g k =>
    have h := join_some h
    refine ⟨?_, rfl, by simp [S.put], ?_⟩
    · show s.gl.set k (some c) ++ s.lo = (s.gl ++ s.lo).set k (some c)
      rw [List.set_append_left _ _ (List.getElem?_eq_some_iff.mp h).1]
    · show (s.gl.set k (some c)).map Option.isSome = _
      rw [List.map_set]
      refine List.ext_getElem? fun i => ?_
      rw [List.getElem?_set]
      split
      · rename_i e
        subst e
        rw [List.getElem?_map, h]
        split
        · rfl
        · rename_i q
          rw [List.length_map] at q
          exact absurd (List.getElem?_eq_some_iff.mp h).1 q
      · rfl
  | l k =>
    have h := join_some h
    refine ⟨?_, rfl, rfl, rfl⟩
    show s.gl ++ s.lo.set k (some c) = (s.gl ++ s.lo).set (s.gl.length + k) (some c)
    rw [List.set_append_right _ _ (Nat.le_add_right _ _), Nat.add_sub_cancel_left]
/-- a cell is changed -/
theorem Env.put (e : Env K B R s σ H) {a : Addr} (h : cellOf s x = some c0) (ha : (B.G ++ R)[s.at x]? = some a) (hc : CelAt K (hd (B.G ++ R) (s.gl ++ s.lo) H) (upd H a o) a c) : Env K B R (s.put x c) σ (upd H a o) ∧ St B R s H R (s.put x c) (upd H a o) := by
  obtain ⟨p1, p2, p3, p4⟩ := put_all (c := c) h
  have hk : (s.gl ++ s.lo)[s.at x]? = some (some c0) := by
    cases x with
    | d x => cases h
    | g k => have h := join_some h; rw [show s.at (.g k) = k from rfl, List.getElem?_append_left (List.getElem?_eq_some_iff.mp h).1]; exact h
    | l k => have h := join_some h; rw [show s.at (.l k) = s.gl.length + k from rfl, List.getElem?_append_right (Nat.le_add_right _ _), Nat.add_sub_cancel_left]; exact h
  have hh : hd (B.G ++ R) ((s.put x c).gl ++ (s.put x c).lo) (upd H a o) = hd (B.G ++ R) (s.gl ++ s.lo) H := by rw [p1]; exact hd_put hk ha
  refine ⟨⟨by rw [p1]; exact e.cells.put hk ha hc, p3.trans e.lg, p4.trans e.shp, e.new, fun b u n q => ?_, by rw [p2]; exact e.len, fun i y q => ?_⟩, ⟨by rw [hh]; exact fun _ _ q => q, fun b q => ?_, ⟨[], by simp, by simp⟩, by rw [p2], fun i k q => by rw [p2] at q; exact q⟩⟩
  · have q1 := e.old b u n q
    by_cases z : b = a
    · subst z
      have z1 : b ∈ B.G ++ R := List.mem_of_getElem? ha
      rcases List.mem_append.mp z1 with z2 | z2
      · exfalso
        refine n ?_
        have hlt : s.at x < B.G.length := by
          by_cases w : s.at x < B.G.length
          · exact w
          · obtain ⟨j, hj⟩ := List.mem_iff_getElem?.mp z2
            have hj2 : (B.G ++ R)[j]? = some b := by rw [List.getElem?_append_left (List.getElem?_eq_some_iff.mp hj).1]; exact hj
            have := nd_ix e.cells.nd ha hj2
            have := (List.getElem?_eq_some_iff.mp hj).1
            omega
        refine (hid_shape e.shp).mp ⟨s.at x, c0, ?_, ?_⟩
        · rw [List.getElem?_append_left (by rw [e.lg]; exact hlt)] at hk; exact hk
        · rw [List.getElem?_append_left hlt] at ha; exact ha
      · rw [e.new b z2] at q; cases q
    · rw [upd_ne z]; exact q1
  · rw [p2] at q
    obtain ⟨u, h1, h2⟩ := e.sl i y q
    exact ⟨u, h1, by rw [hh]; exact h2⟩
  · by_cases z : b = a
    · subst z; rw [upd_same]; exact fun z => by cases z
    · rw [upd_ne z]; exact q
/-- other cells (fewer, in other places), other slots -/
theorem Env.sub (e : Env K B R s σ H) (h1 : s1.gl = s.gl) (hl : R1.length = s1.lo.length) (hn : R1.Nodup) (hm : ∀ a ∈ R1, a ∈ R) (hs : ∀ (k : Nat) (c : Cel) (a : Addr), s1.lo[k]? = some (some c) → R1[k]? = some a → ∃ j : Nat, s.lo[j]? = some (some c) ∧ R[j]? = some a)
    (hlen : σ'.length = s1.sl.length) (hsl : Ex (hd (B.G ++ R) (s.gl ++ s.lo) H) (hd (B.G ++ R1) (s1.gl ++ s1.lo) H) → ∀ (i : Nat) (x : AV), s1.sl[i]? = some (some x) → ∃ v, σ'[i]? = some (some v) ∧ AvR K B.G R1 (hd (B.G ++ R1) (s1.gl ++ s1.lo) H) v x) : Env K B R1 s1 σ' H ∧ Kp B R s H R1 s1 H := by
  have hss : ∀ (k : Nat) (c : Cel) (a : Addr), (s1.gl ++ s1.lo)[k]? = some (some c) → (B.G ++ R1)[k]? = some a → ∃ j : Nat, (s.gl ++ s.lo)[j]? = some (some c) ∧ (B.G ++ R)[j]? = some a := fun k c a q1 q2 => by
    rw [h1] at q1
    by_cases z : k < s.gl.length
    · rw [List.getElem?_append_left z] at q1
      rw [List.getElem?_append_left (by rw [← e.lg]; exact z)] at q2
      exact ⟨k, by rw [List.getElem?_append_left z]; exact q1, by rw [List.getElem?_append_left (by rw [← e.lg]; exact z)]; exact q2⟩
    · rw [List.getElem?_append_right (by omega)] at q1
      rw [List.getElem?_append_right (by rw [← e.lg]; omega), ← e.lg] at q2
      obtain ⟨j, j1, j2⟩ := hs _ c a q1 q2
      exact ⟨s.gl.length + j, by rw [List.getElem?_append_right (Nat.le_add_right _ _), Nat.add_sub_cancel_left]; exact j1, by rw [e.lg, List.getElem?_append_right (Nat.le_add_right _ _), Nat.add_sub_cancel_left]; exact j2⟩
  have hx : Ex (hd (B.G ++ R) (s.gl ++ s.lo) H) (hd (B.G ++ R1) (s1.gl ++ s1.lo) H) := hd_more fun b z => hid_sub hss z
  refine ⟨⟨e.cells.sub (by rw [List.length_append, List.length_append, h1, e.lg, hl]) ?_ (fun a m => ?_) hss, by rw [h1]; exact e.lg, by rw [h1]; exact e.shp, fun a m => e.new a (hm a m), e.old, hlen, hsl hx⟩, ⟨hx, fun _ h => h⟩⟩
  · obtain ⟨n1, n2, n3⟩ := List.nodup_append.mp e.cells.nd
    exact List.nodup_append.mpr ⟨n1, hn, fun a ha b hb => n3 a ha b (hm b hb)⟩
  · rcases List.mem_append.mp m with m | m
    · exact List.mem_append_left _ m
    · exact List.mem_append_right _ (hm a m)
/-- what is behind a statement: its own new cells are forgotten -/
def S.cut (n : Nat) (s : S) : S := { s with lo := s.lo.take n }
theorem Env.cut (e : Env K B R s σ H) {n : Nat} (hs : ∀ (i k : Nat), s.sl[i]? = some (some (.l k)) → k < n) : Env K B (R.take n) (s.cut n) σ H ∧ Kp B R s H (R.take n) (s.cut n) H := by
  have hR : R.Nodup := (List.nodup_append.mp e.cells.nd).2.1
  refine e.sub rfl ?_ (hR.sublist (List.take_sublist _ _)) (fun a m => List.mem_of_mem_take m) (fun k c a h1 h2 => ?_) e.len (fun hx i x q => ?_)
  · show (R.take n).length = (s.lo.take n).length
    rw [List.length_take, List.length_take, e.ll]
  · have h1 : (s.lo.take n)[k]? = some (some c) := h1
    rw [List.getElem?_take] at h1 h2
    split at h1
    · rename_i z
      rw [if_pos z] at h2
      exact ⟨k, h1, h2⟩
    · cases h1
  · obtain ⟨v, h1, h2⟩ := e.sl i x q
    refine ⟨v, h1, ?_⟩
    cases x with
    | d x => exact Dp.ex hx _ _ h2
    | g k => exact h2
    | l k =>
      obtain ⟨a, h3, h4⟩ := h2
      exact ⟨a, by rw [List.getElem?_take, if_pos (hs i k q)]; exact h3, h4⟩
/-- a list becomes data -/
def unl (k : Nat) (ds : List PyData) : Option AV → Option AV
  | some (.l j) => if j = k then some (.d (.list ds)) else some (.l j)
  | y => y
def S.frz (s : S) (k : Nat) (ds : List PyData) : S := { s with lo := s.lo.set k none, sl := s.sl.map (unl k ds) }
theorem frz_live {lo : Glo} {R : List Addr} {k j : Nat} {a : Addr} (h : (lo.set k none)[j]? = some (some c)) : j ≠ k ∧ lo[j]? = some (some c) := by
  by_cases z : k = j
  · subst z
    rw [List.getElem?_set] at h
    rw [if_pos rfl] at h
    split at h <;> cases h
  · rw [List.getElem?_set_ne z] at h
    exact ⟨fun w => z w.symm, h⟩
theorem Env.frz (e : Env K B R s σ H) {k : Nat} {ds : List PyData} {a : Addr} (h : s.lo[k]? = some (some (.lst ds))) (ha : R[k]? = some a) : Env K B R (s.frz k ds) σ H ∧ St B R s H R (s.frz k ds) H ∧ Dp K (hd (B.G ++ R) ((s.frz k ds).gl ++ (s.frz k ds).lo) H) (.ref a) (.list ds) := by
  have hR : R.Nodup := (List.nodup_append.mp e.cells.nd).2.1
  have hx : Ex (hd (B.G ++ R) (s.gl ++ s.lo) H) (hd (B.G ++ R) ((s.frz k ds).gl ++ (s.frz k ds).lo) H) := hd_more fun b z => hid_sub (fun j c b h1 h2 => by
    show ∃ j : Nat, (s.gl ++ s.lo)[j]? = some (some c) ∧ (B.G ++ R)[j]? = some b
    have h1 : (s.gl ++ s.lo.set k none)[j]? = some (some c) := h1
    refine ⟨j, ?_, h2⟩
    by_cases q : j < s.gl.length
    · rw [List.getElem?_append_left q] at h1 ⊢; exact h1
    · rw [List.getElem?_append_right (by omega)] at h1 ⊢
      exact (frz_live (R := R) (a := b) h1).2) z
  obtain ⟨us, hu1, hu2⟩ := e.cells.cel (s.gl.length + k) (.lst ds) a (by rw [List.getElem?_append_right (Nat.le_add_right _ _), Nat.add_sub_cancel_left]; exact h) (by rw [e.lg, List.getElem?_append_right (Nat.le_add_right _ _), Nat.add_sub_cancel_left]; exact ha)
  have hv : ¬ hid (B.G ++ R) ((s.frz k ds).gl ++ (s.frz k ds).lo) a := by
    rintro ⟨j, c, h1, h2⟩
    have h1 : (s.gl ++ s.lo.set k none)[j]? = some (some c) := h1
    have hj : j = s.gl.length + k := nd_ix e.cells.nd h2 (by rw [e.lg, List.getElem?_append_right (Nat.le_add_right _ _), Nat.add_sub_cancel_left]; exact ha)
    subst hj
    rw [List.getElem?_append_right (Nat.le_add_right _ _), Nat.add_sub_cancel_left] at h1
    exact (frz_live (R := R) (a := a) h1).1 rfl
  have hd1 : Dp K (hd (B.G ++ R) ((s.frz k ds).gl ++ (s.frz k ds).lo) H) (.ref a) (.list ds) := .lst (SqL.of (by rw [hd_get hv]; exact hu1)) (DpAll.ex hx _ _ hu2)
  obtain ⟨e', kp⟩ := e.sub (s1 := s.frz k ds) (R1 := R) (σ' := σ) rfl (by show R.length = (s.lo.set k none).length; rw [List.length_set, e.ll]) hR (fun a m => m) (fun j c b h1 h2 => ⟨j, (frz_live (R := R) (a := b) h1).2, h2⟩) (by show σ.length = (s.sl.map (unl k ds)).length; rw [List.length_map]; exact e.len) (fun hx i x q => by
    have q : (s.sl.map (unl k ds))[i]? = some (some x) := q
    rw [List.getElem?_map] at q
    cases w : s.sl[i]? with
    | none => rw [w] at q; cases q
    | some y =>
      rw [w] at q
      have q : unl k ds y = some x := Option.some.inj q
      cases y with
      | none => cases q
      | some y =>
        obtain ⟨v, h1, h2⟩ := e.sl i y w
        refine ⟨v, h1, ?_⟩
        cases y with
        | d y => cases q; exact Dp.ex hx _ _ h2
        | g j => cases q; exact h2
        | l j =>
          by_cases z : j = k
          · subst z
            have : x = .d (.list ds) := by
              have q : (if j = j then some (AV.d (.list ds)) else some (.l j)) = some x := q
              rw [if_pos rfl] at q; exact (Option.some.inj q).symm
            subst this
            obtain ⟨b, h3, h4⟩ := h2
            rw [ha] at h3
            cases h3
            subst h4
            exact hd1
          · have : x = .l j := by
              have q : (if j = k then some (AV.d (.list ds)) else some (.l j)) = some x := q
              rw [if_neg z] at q; exact (Option.some.inj q).symm
            subst this
            exact h2)
  refine ⟨e', ⟨kp.hx, kp.dom, ⟨[], by simp, by simp⟩, by show (s.sl.map (unl k ds)).length = _; rw [List.length_map], fun i j q => ?_⟩, hd1⟩
  have q : (s.sl.map (unl k ds))[i]? = some (some (.l j)) := q
  rw [List.getElem?_map] at q
  cases w : s.sl[i]? with
  | none => rw [w] at q; cases q
  | some y =>
    rw [w] at q
    have q : unl k ds y = some (.l j) := Option.some.inj q
    cases y with
    | none => cases q
    | some y =>
      cases y with
      | d y => cases q
      | g m => cases q
      | l m =>
        have q : (if m = k then some (AV.d (.list ds)) else some (.l m)) = some (.l j) := q
        by_cases z : m = k
        · rw [if_pos z] at q; cases q
        · rw [if_neg z] at q
          rw [Option.some.inj q]
end
end Fx

/-! ### what an expression does -/
namespace Fx
open PySem PySem.Spec PyProof.Rows L2
open Bk (Dp.ex DpAll.ex DpAll.len DpAll.get DpAll.get' DpAll.app DpAll.take DpAll.drop DpAll.snoc dp_tup dp_lst dp_int dp_str dp_bl ex_new)
open Evl (Ex)
section
variable {K : PySem.W.Frag} {B : Fr} {R R1 : List Addr} {s s1 : S} {σ : L2.St} {H H1 : Hp}
abbrev VRel (α β : Type) := List Addr → S → Hp → β → α → Prop
def Post (K : PySem.W.Frag) (B : Fr) {α β : Type} (V : VRel α β) (σ : L2.St) (R : List Addr) (s : S) (H : Hp) (r : Fx.R α) (Q : β → Hp → Prop) : Prop :=
  match r with
  | .ok x s' => ∀ R' v H', Env K B R' s' σ H' → St B R s H R' s' H' → V R' s' H' v x → Q v H'
  | .xc x s' => ∀ R' H' cls d, Env K B R' s' σ H' → St B R s H R' s' H' → B.xr x cls d H' → B.xw cls d σ H'
  | .no => False
theorem Post.st {α β : Type} {V : VRel α β} {r : Fx.R α} {Q : β → Hp → Prop} (a : St B R s H R1 s1 H1) (h : Post K B V σ R s H r Q) : Post K B V σ R1 s1 H1 r Q := by
  cases r with
  | ok x s' => exact fun R' v H' e st q => h R' v H' e (a.trans st) q
  | xc x s' => exact fun R' H' cls d e st q => h R' H' cls d e (a.trans st) q
  | no => exact h
theorem post_bind {α β γ δ : Type} {V : VRel α β} {V2 : VRel γ δ} {r : Fx.R α} {k : α → S → Fx.R γ} {Q : δ → Hp → Prop} {Q' : β → Hp → Prop} (h : Post K B V2 σ R s H (r.bind k) Q)
    (hk : ∀ x s1 R1 v H1, r = .ok x s1 → Env K B R1 s1 σ H1 → St B R s H R1 s1 H1 → V R1 s1 H1 v x → Post K B V2 σ R1 s1 H1 (k x s1) Q → Q' v H1) : Post K B V σ R s H r Q' := by
  cases r with
  | ok x s' => exact fun R' v H' e st q => hk x s' R' v H' rfl e st q (Post.st st h)
  | xc x s' => exact fun R' H' cls d e st q => h R' H' cls d e st q
  | no => exact h
/-- a reading -/
def rX (K : PySem.W.Frag) (B : Fr) {α β : Type} (V : VRel α β) (f : S → Fx.R α) : L2.St → Hp → (β → Hp → Prop) → Prop := fun σ H Q => ∃ R s, Env K B R s σ H ∧ Post K B V σ R s H (f s) Q
abbrev vE (K : PySem.W.Frag) (B : Fr) : VRel AV V := fun R s H v x => VR K B R s H v x
abbrev vT : VRel Bool Bool := fun _ _ _ v x => v = x
abbrev vA (K : PySem.W.Frag) (B : Fr) : VRel (List AV) (List V) := fun R s H vs xs => Paired (fun v x => VR K B R s H v x) vs xs
abbrev rE (K : PySem.W.Frag) (B : Fr) (f : S → Fx.R AV) : TE := rX K B (vE K B) f
abbrev rT (K : PySem.W.Frag) (B : Fr) (f : S → Fx.R Bool) : TT := rX K B vT f
abbrev rA (K : PySem.W.Frag) (B : Fr) (f : S → Fx.R (List AV)) : TA := rX K B (vA K B) f
theorem vA.st {vs : List V} {xs : List AV} (a : St B R s H R1 s1 H1) (h : vA K B R s H vs xs) : vA K B R1 s1 H1 vs xs := Paired.mapP h fun _ _ q => VR.st a q
theorem rX_of {α β : Type} {V : VRel α β} {f : S → Fx.R α} {Q : β → Hp → Prop} (e : Env K B R s σ H) (h : Post K B V σ R s H (f s) Q) : rX K B V f σ H Q := ⟨R, s, e, h⟩
/-! what is read -/
def rd (s : S) (x : AV) : Option PyData :=
  match x with
  | .d y => some y
  | .g k => match (s.gl[k]?).join with | some (.lst ds) => some (.list ds) | _ => none
  | .l k => match (s.lo[k]?).join with | some (.lst ds) => some (.list ds) | _ => none
/-- v reads as d: data, or the list of a cell -/
def Dq (K : PySem.W.Frag) (Hh H : Hp) (v : V) (d : PyData) : Prop := Dp K Hh v d ∨ ∃ a us ds, d = .list ds ∧ v = .ref a ∧ H a = some (.lst us) ∧ DpAll K Hh us ds
theorem Dq.dp {Hh : Hp} {v : V} {d : PyData} (e : Ex Hh H) (h : Dq K Hh H v d) : Dp K H v d := by
  rcases h with h | ⟨a, us, ds, rfl, rfl, h1, h2⟩
  · exact Dp.ex e _ _ h
  · exact .lst (SqL.of h1) (DpAll.ex e _ _ h2)
theorem Dq.tup {Hh : Hp} {v : V} {ds : List PyData} (h : Dq K Hh H v (.tuple ds)) : ∃ a xs, v = .ref a ∧ SqT K Hh a xs ∧ DpAll K Hh xs ds := by
  rcases h with h | ⟨a, us, es, e, _⟩
  · exact dp_tup h
  · cases e
theorem Dq.lst {Hh : Hp} {v : V} {ds : List PyData} (e : Ex Hh H) (h : Dq K Hh H v (.list ds)) : ∃ a xs, v = .ref a ∧ SqL K H a xs ∧ DpAll K Hh xs ds := by
  rcases h with h | ⟨a, us, es, q, rfl, h1, h2⟩
  · obtain ⟨a, xs, h1, h2, h3⟩ := dp_lst h
    exact ⟨a, xs, h1, Evl.ex_l e h2, h3⟩
  · cases q; exact ⟨a, us, rfl, SqL.of h1, h2⟩
theorem Dq.int {Hh : Hp} {v : V} {i : Int} (h : Dq K Hh H v (.int i)) : v = .int i := by
  rcases h with h | ⟨a, us, es, q, _⟩
  · exact dp_int h
  · cases q
theorem Dq.str {Hh : Hp} {v : V} {i : Str} (h : Dq K Hh H v (.str i)) : v = .str i := by
  rcases h with h | ⟨a, us, es, q, _⟩
  · exact dp_str h
  · cases q
theorem Dq.bool {Hh : Hp} {v : V} {i : Bool} (h : Dq K Hh H v (.bool i)) : v = .bl i := by
  rcases h with h | ⟨a, us, es, q, _⟩
  · exact dp_bl h
  · cases q
theorem Dq.none {Hh : Hp} {v : V} (h : Dq K Hh H v .none) : v = .non := by
  rcases h with h | ⟨a, us, es, q, _⟩
  · cases h; rfl
  · cases q
noncomputable abbrev hdS (B : Fr) (R : List Addr) (s : S) (H : Hp) : Hp := hd (B.G ++ R) (s.gl ++ s.lo) H
theorem Env.rd (e : Env K B R s σ H) {v : V} {x : AV} {d : PyData} (r : VR K B R s H v x) (h : rd s x = some d) : Dq K (hdS B R s H) H v d := by
  have key : ∀ {o : Option Cel}, (match o with | some (.lst ds) => some (PyData.list ds) | _ => none) = some d → ∃ ds, o = some (.lst ds) ∧ d = .list ds := fun {o} h => by
    match o, h with
    | some (.lst ds), h => exact ⟨ds, rfl, (Option.some.inj h).symm⟩
  cases x with
  | d y => cases h; exact .inl r
  | g k =>
    obtain ⟨ds, h1, rfl⟩ := key h
    obtain ⟨a, q1, _, _, us, q2, q3⟩ := e.cell r (x := .g k) h1
    exact .inr ⟨a, us, ds, rfl, q1, q2, q3⟩
  | l k =>
    obtain ⟨ds, h1, rfl⟩ := key h
    obtain ⟨a, q1, _, _, us, q2, q3⟩ := e.cell r (x := .l k) h1
    exact .inr ⟨a, us, ds, rfl, q1, q2, q3⟩
/-! ends -/
theorem Post.dat {Q : VK} {v : V} {z : PyData} (e : Env K B R s σ H) (h : Post K B (vE K B) σ R s H (.ok (.d z) s) Q) (r : Dp K (hdS B R s H) v z) : Q v H := h R v H e St.refl r
theorem Post.bool {Q : VK} {b : Bool} (e : Env K B R s σ H) (h : Post K B (vE K B) σ R s H (.ok (.d (.bool b)) s) Q) : Q (.bl b) H := h.dat e (.bl b)
theorem Post.int {Q : VK} {b : Int} (e : Env K B R s σ H) (h : Post K B (vE K B) σ R s H (.ok (.d (.int b)) s) Q) : Q (.int b) H := h.dat e (.int b)
theorem Post.str {Q : VK} {b : Str} (e : Env K B R s σ H) (h : Post K B (vE K B) σ R s H (.ok (.d (.str b)) s) Q) : Q (.str b) H := h.dat e (.str b)
theorem Post.tup {Q : VK} {p : Addr} {vs : List V} {ds : List PyData} (e : Env K B R s σ H) (h : Post K B (vE K B) σ R s H (.ok (.d (.tuple ds)) s) Q) (r : DpAll K (hdS B R s H) vs ds) (hp : H p = none) : Q (.ref p) (upd H p (.tup vs)) := by
  have x : Ex H (upd H p (.tup vs)) := ex_new hp
  have st := e.growSt x
  refine h R _ _ (e.grow x) st (.tup (SqT.of ?_) (DpAll.ex st.hx _ _ r))
  rw [hd_get (e.cells.nhid hp), upd_same]
theorem Post.lst {Q : VK} {p : Addr} {vs : List V} {ds : List PyData} (e : Env K B R s σ H) (h : Post K B (vE K B) σ R s H (.ok (.l s.lo.length) (s.push (.lst ds))) Q) (r : DpAll K (hdS B R s H) vs ds) (hp : H p = none) : Q (.ref p) (upd H p (.lst vs)) := by
  obtain ⟨e1, st, v⟩ := e.push (c := .lst ds) hp (ex_new hp) ⟨vs, upd_same, r⟩
  exact h _ _ _ e1 st v
end
/-! ### the rules -/
section
variable {X : Cx} {B : Fr}
theorem pe_imp {e : Expr} {t t' : TE} (h : PE X e t) (hi : ∀ σ H Q, t' σ H Q → t σ H Q) : PE X e t' := ⟨fun pins s σ H Q I q => h.run pins s σ H Q I (hi σ H Q q)⟩
theorem pt_imp {e : Expr} {t t' : TT} (h : PT X e t) (hi : ∀ σ H Q, t' σ H Q → t σ H Q) : PT X e t' := ⟨fun pins s σ H Q I q => h.run pins s σ H Q I (hi σ H Q q)⟩
theorem pw_imp {e : Expr} {t t' : TT} (h : PW X e t) (hi : ∀ σ H Q, t' σ H Q → t σ H Q) : PW X e t' := ⟨fun wh pins s σ H Q I q => h.run wh pins s σ H Q I (hi σ H Q q)⟩
theorem pa_imp {e : List Expr} {t t' : TA} (h : PA X e t) (hi : ∀ σ H Q, t' σ H Q → t σ H Q) : PA X e t' := ⟨fun wh pins s σ H Q I q => h.run wh pins s σ H Q I (hi σ H Q q)⟩
theorem ps_imp {e : Stmt} {t t' : TS} (h : PS X e t) (hi : ∀ D σ H, t' D σ H → t D σ H) : PS X e t' := ⟨fun pins s σ H D I q => h.run pins s σ H D I (hi D σ H q)⟩
theorem pss_imp {e : List Stmt} {t t' : TS} (h : PSs X e t) (hi : ∀ D σ H, t' D σ H → t D σ H) : PSs X e t' := ⟨fun pins s σ H D I q => h.run pins s σ H D I (hi D σ H q)⟩
theorem pi_imp {e tg : Expr} {t t' : TI} (h : PI X tg e t) (hi : ∀ σ H Q, t' σ H Q → t σ H Q) : PI X tg e t' := ⟨fun pins s σ H D I q => h.run pins s σ H D I (hi σ H D q)⟩
/-- a name -/
def fV (i : Nat) (s : S) : R AV :=
  match s.sl[i]? with
  | some (some x) => .ok x s
  | _ => .no
theorem q_var {K : PySem.W.Frag} {i : Nat} (σ : L2.St) (H : Hp) (Q : VK) (h : rE K B (fV i) σ H Q) : tVar i σ H Q := by
  obtain ⟨R, s, e, h⟩ := h
  unfold fV at h
  cases q : s.sl[i]? with
  | none => rw [q] at h; exact h.elim
  | some x =>
    cases x with
    | none => rw [q] at h; exact h.elim
    | some x =>
      rw [q] at h
      obtain ⟨v, h1, h2⟩ := e.sl i x q
      exact ⟨v, h1, h R v H e St.refl h2⟩
/-- a constant -/
def fC (x : PyData) (s : S) : R AV := .ok (.d x) s
def cV : PyData → V
  | .bool b => .bl b
  | .int i => .int i
  | .str x => .str x
  | _ => .non
def flat : PyData → Bool
  | .none => true
  | .bool _ => true
  | .int _ => true
  | .str _ => true
  | _ => false
theorem dp_c {K : PySem.W.Frag} {H : Hp} {x : PyData} (h : flat x = true) : Dp K H (cV x) x := by
  cases x with
  | none => exact .non
  | bool b => exact .bl b
  | int i => exact .int i
  | str x => exact .str x
  | list _ => cases h
  | tuple _ => cases h
  | dict _ => cases h
theorem q_c {K : PySem.W.Frag} {x : PyData} (hx : flat x = true) (σ : L2.St) (H : Hp) (Q : VK) (h : rE K B (fC x) σ H Q) : tC (cV x) σ H Q := by
  obtain ⟨R, s, e, h⟩ := h
  exact h R _ H e St.refl (dp_c hx)
/-! arguments, in turn -/
def fNil (s : S) : R (List AV) := .ok [] s
def fCons (f : S → R AV) (g : S → R (List AV)) (s : S) : R (List AV) := (f s).bind fun x s1 => (g s1).bind fun xs s2 => .ok (x :: xs) s2
theorem q_nil {K : PySem.W.Frag} (σ : L2.St) (H : Hp) (Q : List V → Hp → Prop) (h : rA K B fNil σ H Q) : tNil σ H Q := by
  obtain ⟨R, s, e, h⟩ := h
  exact h R _ H e St.refl .nil
theorem q_cons {K : PySem.W.Frag} {f : S → R AV} {g : S → R (List AV)} (σ : L2.St) (H : Hp) (Q : List V → Hp → Prop) (h : rA K B (fCons f g) σ H Q) : tCons (rE K B f) (rA K B g) σ H Q := by
  obtain ⟨R, s, e, h⟩ := h
  exact ⟨R, s, e, post_bind h fun x s1 R1 v H1 _ e1 st1 r1 h1 => ⟨R1, s1, e1, post_bind h1 fun xs s2 R2 vs H2 _ e2 st2 r2 h2 => h2 R2 (v :: vs) H2 e2 St.refl (.cons (VR.st st2 r1) r2)⟩⟩
/-! two operands -/
def f2 (g : AV → AV → S → R AV) (a b : S → R AV) (s : S) : R AV := (a s).bind fun x s1 => (b s1).bind fun y s2 => g x y s2
def f1 (g : AV → S → R AV) (a : S → R AV) (s : S) : R AV := (a s).bind fun x s1 => g x s1
/-- an operator's rule, for its function -/
def Op2 (K : PySem.W.Frag) (r : R2) (g : AV → AV → S → R AV) : Prop := ∀ (B : Fr) (R : List Addr) (s : S) (σ : L2.St) (H : Hp) (v w : V) (x y : AV) (Q : VK), Env K B R s σ H → VR K B R s H v x → VR K B R s H w y → Post K B (vE K B) σ R s H (g x y s) Q → r v w H Q
def Op1 (K : PySem.W.Frag) (r : V → Hp → VK → Prop) (g : AV → S → R AV) : Prop := ∀ (B : Fr) (R : List Addr) (s : S) (σ : L2.St) (H : Hp) (v : V) (x : AV) (Q : VK), Env K B R s σ H → VR K B R s H v x → Post K B (vE K B) σ R s H (g x s) Q → r v H Q
theorem q_op {K : PySem.W.Frag} {r : R2} {g : AV → AV → S → R AV} {a b : S → R AV} (ho : Op2 K r g) (σ : L2.St) (H : Hp) (Q : VK) (h : rE K B (f2 g a b) σ H Q) : tOp r (rE K B a) (rE K B b) σ H Q := by
  obtain ⟨R, s, e, h⟩ := h
  exact ⟨R, s, e, post_bind h fun x s1 R1 v H1 _ e1 st1 r1 h1 => ⟨R1, s1, e1, post_bind h1 fun y s2 R2 w H2 _ e2 st2 r2 h2 => ho B R2 s2 σ H2 v w x y Q e2 (VR.st st2 r1) r2 h2⟩⟩
theorem q_un {K : PySem.W.Frag} {r : V → Hp → VK → Prop} {g : AV → S → R AV} {a : S → R AV} (ho : Op1 K r g) (σ : L2.St) (H : Hp) (Q : VK) (h : rE K B (f1 g a) σ H Q) : tUn r (rE K B a) σ H Q := by
  obtain ⟨R, s, e, h⟩ := h
  exact ⟨R, s, e, post_bind h fun x s1 R1 v H1 _ e1 st1 r1 h1 => ho B R1 s1 σ H1 v x Q e1 r1 h1⟩
/-- a plain function of data -/
inductive Rs where
  | d (x : PyData)
  | c (c : Cel)
  | no
def gv (r : Rs) (s : S) : R AV :=
  match r with
  | .d x => .ok (.d x) s
  | .c c => .ok (.l s.lo.length) (s.push c)
  | .no => .no
def p2 (f : PyData → PyData → Rs) (x y : AV) (s : S) : R AV :=
  match rd s x, rd s y with
  | some a, some b => gv (f a b) s
  | _, _ => .no
def p1 (f : PyData → Rs) (x : AV) (s : S) : R AV :=
  match rd s x with
  | some a => gv (f a) s
  | _ => .no
theorem op_p2 {K : PySem.W.Frag} {r : R2} {f : PyData → PyData → Rs} (h : ∀ (B : Fr) (R : List Addr) (s : S) (σ : L2.St) (H : Hp) (v w : V) (a b : PyData) (Q : VK), Env K B R s σ H → Dq K (hdS B R s H) H v a → Dq K (hdS B R s H) H w b → Post K B (vE K B) σ R s H (gv (f a b) s) Q → r v w H Q) : Op2 K r (p2 f) := fun B R s σ H v w x y Q e r1 r2 q => by
  unfold p2 at q
  cases h1 : Fx.rd s x with
  | none => rw [h1] at q; exact q.elim
  | some a =>
    cases h2 : Fx.rd s y with
    | none => rw [h1, h2] at q; exact q.elim
    | some b =>
      rw [h1, h2] at q
      exact h B R s σ H v w a b Q e (e.rd r1 h1) (e.rd r2 h2) q
theorem op_p1 {K : PySem.W.Frag} {r : V → Hp → VK → Prop} {f : PyData → Rs} (h : ∀ (B : Fr) (R : List Addr) (s : S) (σ : L2.St) (H : Hp) (v : V) (a : PyData) (Q : VK), Env K B R s σ H → Dq K (hdS B R s H) H v a → Post K B (vE K B) σ R s H (gv (f a) s) Q → r v H Q) : Op1 K r (p1 f) := fun B R s σ H v x Q e r1 q => by
  unfold p1 at q
  cases h1 : Fx.rd s x with
  | none => rw [h1] at q; exact q.elim
  | some a =>
    rw [h1] at q
    exact h B R s σ H v a Q e (e.rd r1 h1) q
end
end Fx

namespace Bk
open PySem PySem.Spec PyProof.Rows L2
open Evl (Ex Ev EvT EvL EvU EvA)
/-- the cup from which is drawn -/
def Cup (H : Hp) (c : Addr) : Prop := ∃ a b : Int, H c = some (.lst [.int a, .int b]) ∧ 0 ≤ a ∧ 0 ≤ b ∧ b < 2147483648
theorem Cup.ex {H H' : Hp} {c : Addr} (e : Ex H H') (h : Cup H c) : Cup H' c := by
  obtain ⟨a, b, h1, h2⟩ := h
  exact ⟨a, b, e _ _ h1, h2⟩
theorem Cup.lst {H : Hp} {c : Addr} (h : Cup H c) : ∃ xs, H c = some (.lst xs) := let ⟨a, b, h1, _⟩ := h; ⟨_, h1⟩
theorem Cup.b {H H' : Hp} {c : Addr} (h : Cup H c) : ∃ xs, H c = some (.lst xs) := h.lst
theorem ExB.tuC {c : Addr} {H H' : Hp} (b : ExB c H H') (h : Cup H c) : Tu H H' := let ⟨_, h1⟩ := h.lst; b.tu h1
theorem Cup.ne {H : Hp} {c l : Addr} (h : Cup H c) (hl : H l = none) : l ≠ c := by
  obtain ⟨xs, hx⟩ := h.lst
  intro e
  rw [e, hx] at hl
  cases hl
/-! ### slots by what they hold -/
/-- data | the cup | a list of the def's own, its items data that never changes -/
inductive AV where
  | d (x : PyData)
  | cup
  | own (p : Addr) (ds : List PyData)
abbrev GE := List (Option AV)
abbrev At (Γ : GE) (i : Nat) (x : AV) : Prop := Γ[i]? = some (some x)
abbrev SAt (σ : L2.St) (i : Nat) (v : V) : Prop := σ[i]? = some (some v)
def Hides (c : Option Addr) (Γ : GE) (a : Addr) : Prop := c = some a ∨ ∃ (i : Nat) (ds : List PyData), Γ[i]? = some (some (AV.own a ds))
open Classical in
/-- the heap but for what may change -/
noncomputable def hd (c : Option Addr) (Γ : GE) (H : Hp) : Hp := fun a => if Hides c Γ a then none else H a
/-- all stands but the cup, which is one still -/
def Wd (c : Option Addr) (H H' : Hp) : Prop := (∀ a o, c ≠ some a → H a = some o → H' a = some o) ∧ ∀ a, c = some a → Cup H' a
theorem Wd.refl {c : Option Addr} {H : Hp} (h : ∀ a, c = some a → Cup H a) : Wd c H H := ⟨fun _ _ _ h => h, h⟩
theorem Wd.trans {c : Option Addr} {H H1 H2 : Hp} (a : Wd c H H1) (b : Wd c H1 H2) : Wd c H H2 := ⟨fun x o n h => b.1 x o n (a.1 x o n h), b.2⟩
theorem Wd.ex {c : Option Addr} {H H1 : Hp} (h : ∀ a, c = some a → Cup H a) (e : Ex H H1) : Wd c H H1 := ⟨fun a o _ h => e a o h, fun a q => (h a q).ex e⟩
theorem Wd.exB {c : Addr} {H H1 : Hp} (e : ExB c H H1) (h : Cup H1 c) : Wd (some c) H H1 := ⟨fun a o n h => e a o (fun z => n (by rw [z])) h, fun a q => by cases q; exact h⟩
theorem Wd.toB {c : Addr} {H H1 : Hp} (e : Wd (some c) H H1) : ExB c H H1 ∧ Cup H1 c := ⟨fun a o n h => e.1 a o (fun z => n (Option.some.inj z).symm) h, e.2 c rfl⟩
theorem Wd.toEx {H H1 : Hp} (e : Wd none H H1) : Ex H H1 := fun a o h => e.1 a o (by simp) h
section
variable {c : Option Addr} {Γ Γ' : GE} {H H' : Hp}
theorem hd_sub : Ex (hd c Γ H) H := fun a o h => by
  unfold hd at h
  split at h
  · cases h
  · exact h
theorem hd_get {a : Addr} (h : ¬ Hides c Γ a) : hd c Γ H a = H a := by unfold hd; rw [if_neg h]
theorem hd_ex (w : Wd c H H') : Ex (hd c Γ H) (hd c Γ H') := fun a o h => by
  by_cases q : Hides c Γ a
  · unfold hd at h; rw [if_pos q] at h; cases h
  · rw [hd_get q] at h ⊢
    exact w.1 a o (fun z => q (.inl z)) h
theorem hd_less (h : ∀ a, Hides c Γ' a → Hides c Γ a) : Ex (hd c Γ H) (hd c Γ' H) := fun a o e => by
  by_cases q : Hides c Γ a
  · unfold hd at e; rw [if_pos q] at e; cases e
  · rw [hd_get q] at e
    rw [hd_get fun z => q (h a z)]
    exact e
end
structure Env (K : PySem.W.Frag) (c : Option Addr) (H0 : Hp) (Γ : GE) (σ : L2.St) (H : Hp) : Prop where
  cup : ∀ a, c = some a → Cup H a
  old : ∀ a o, c ≠ some a → H0 a = some o → H a = some o
  len : σ.length = Γ.length
  d : ∀ i x, At Γ i (.d x) → ∃ v, SAt σ i v ∧ Dp K (hd c Γ H) v x
  cu : ∀ i, At Γ i .cup → ∃ a, c = some a ∧ SAt σ i (.ref a)
  ow : ∀ i p ds, At Γ i (.own p ds) → SAt σ i (.ref p) ∧ H0 p = none ∧ c ≠ some p ∧ fzA ds = true ∧ ∃ us, H p = some (.lst us) ∧ DpAll K (hd c Γ H) us ds
  un : ∀ i j p ds es, At Γ i (.own p ds) → At Γ j (.own p es) → i = j
section
variable {K : PySem.W.Frag} {c : Option Addr} {H0 H H' : Hp} {Γ Γ' : GE} {σ : L2.St} {te ta tb tl : TE} {tt : TT} {d : PyData} {ds es : List PyData}
theorem Env.wd (e : Env K c H0 Γ σ H) : Wd c H0 H := ⟨e.old, e.cup⟩
theorem Env.step (e : Env K c H0 Γ σ H) (w : Wd c H H') : Env K c H0 Γ σ H' where
  cup := w.2
  old := fun a o n h => w.1 a o n (e.old a o n h)
  len := e.len
  d := fun i x h => let ⟨v, h1, h2⟩ := e.d i x h; ⟨v, h1, Dp.ex (hd_ex w) _ _ h2⟩
  cu := e.cu
  ow := fun i p ds h => let ⟨h1, h2, h3, h4, us, h5, h6⟩ := e.ow i p ds h; ⟨h1, h2, h3, h4, us, w.1 p _ h3 h5, DpAll.ex (hd_ex w) _ _ h6⟩
  un := e.un
theorem Env.ex (e : Env K c H0 Γ σ H) (w : Ex H H') : Env K c H0 Γ σ H' := e.step (.ex e.cup w)
theorem Env.hid_lst (e : Env K c H0 Γ σ H) {a : Addr} (h : Hides c Γ a) : ∃ xs, H a = some (.lst xs) := by
  rcases h with h | ⟨i, ds, h⟩
  · exact (e.cup a h).lst
  · obtain ⟨_, _, _, _, us, h5, _⟩ := e.ow i a ds h
    exact ⟨us, h5⟩
/-- what is no list stands in the heap that does not change -/
theorem Env.tu (e : Env K c H0 Γ σ H) : Tu H (hd c Γ H) := ⟨fun a xs h => by
    rw [hd_get fun q => by obtain ⟨ys, hy⟩ := e.hid_lst q; rw [h] at hy; cases hy]
    exact h, fun a o u h => by
    rw [hd_get fun q => by obtain ⟨ys, hy⟩ := e.hid_lst q; rw [h] at hy; cases hy]
    exact h⟩
theorem Env.hide (e : Env K c H0 Γ σ H) {v : V} (hf : fz d = true) (h : Dp K H v d) : Dp K (hd c Γ H) v d := Dp.tu e.tu d v hf h
theorem Env.hideA (e : Env K c H0 Γ σ H) {vs : List V} (hf : fzA ds = true) (h : DpAll K H vs ds) : DpAll K (hd c Γ H) vs ds := DpAll.tu e.tu ds vs hf h
theorem Env.fresh (e : Env K c H0 Γ σ H) {p : Addr} (h : H p = none) : ¬ Hides c Γ p := fun q => by
  obtain ⟨xs, hx⟩ := e.hid_lst q
  rw [h] at hx; cases hx
theorem Env.fresh0 (e : Env K c H0 Γ σ H) {p : Addr} (h : H p = none) : H0 p = none := by
  cases q : H0 p with
  | none => rfl
  | some o =>
    have := e.old p o (fun z => e.fresh h (.inl z)) q
    rw [h] at this; cases this
/-! leaves of readings -/
theorem Env.v (e : Env K c H0 Γ σ H) {i : Nat} (h : At Γ i (.d d)) : EvD K (tVar i) σ H d := let ⟨_, h1, h2⟩ := e.d i d h; ed_var h1 (Dp.ex hd_sub _ _ h2)
theorem Env.o (e : Env K c H0 Γ σ H) {i : Nat} {p : Addr} (h : At Γ i (.own p ds)) : EvD K (tVar i) σ H (.list ds) :=
  let ⟨h1, _, _, _, us, h5, h6⟩ := e.ow i p ds h; ed_var h1 (.lst (SqL.of h5) (DpAll.ex hd_sub _ _ h6))
theorem Env.i (e : Env K c H0 Γ σ H) {i : Nat} {n : Int} (h : At Γ i (.d (.int n))) : Ev (tVar i) σ H (.int n) := by
  obtain ⟨v, h1, h2⟩ := e.d i _ h
  rw [dp_int h2] at h1
  exact Evl.ev_var h1
theorem Env.n (e : Env K c H0 Γ σ H) {i : Nat} (h : At Γ i (.d .none)) : Ev (tVar i) σ H .non := by
  obtain ⟨v, h1, h2⟩ := e.d i _ h
  cases h2
  exact Evl.ev_var h1
theorem Env.b (e : Env K c H0 Γ σ H) {i : Nat} {n : Bool} (h : At Γ i (.d (.bool n))) : Ev (tVar i) σ H (.bl n) := by
  obtain ⟨v, h1, h2⟩ := e.d i _ h
  rw [dp_bl h2] at h1
  exact Evl.ev_var h1
/-! slots set, forgotten -/
theorem get_set_some {Γ : GE} {i j : Nat} {x : Option AV} {y : AV} (h : (Γ.set i x)[j]? = some (some y)) : (i = j ∧ x = some y) ∨ (i ≠ j ∧ Γ[j]? = some (some y)) := by
  rw [List.getElem?_set] at h
  by_cases q : i = j
  · subst q
    rw [if_pos rfl] at h
    split at h
    · exact .inl ⟨rfl, Option.some.inj h⟩
    · cases h
  · rw [if_neg q] at h; exact .inr ⟨q, h⟩
theorem hides_set {i : Nat} {x : Option AV} (hx : ∀ p es, x ≠ some (.own p es)) (a : Addr) (h : Hides c (Γ.set i x) a) : Hides c Γ a := by
  rcases h with h | ⟨j, es, h⟩
  · exact .inl h
  · rcases get_set_some h with ⟨_, h⟩ | ⟨_, h⟩
    · exact absurd h (hx _ _)
    · exact .inr ⟨j, es, h⟩
theorem set_ne {α : Type} {l : List α} {i j : Nat} {x : α} (h : i ≠ j) : (l.set i x)[j]? = l[j]? := by rw [List.getElem?_set, if_neg h]
theorem set_eq {α : Type} {l : List α} {i : Nat} {x : α} (h : i < l.length) : (l.set i x)[i]? = some x := by rw [List.getElem?_set, if_pos rfl, if_pos h]
theorem Env.lt (e : Env K c H0 Γ σ H) {i : Nat} {x : Option AV} {y : AV} (h : (Γ.set i x)[i]? = some (some y)) : i < σ.length := by
  have := (List.getElem?_eq_some_iff.mp h).1
  rw [List.length_set] at this
  rw [e.len]; exact this
theorem Env.setX (e : Env K c H0 Γ σ H) {i : Nat} {v : V} (h : Dp K (hd c Γ H) v d) : Env K c H0 (Γ.set i (some (.d d))) (σ.set i (some v)) H ∧ Ex (hd c Γ H) (hd c (Γ.set i (some (.d d))) H) := by
  have hh := hides_set (c := c) (Γ := Γ) (i := i) (x := some (.d d)) (by intro p es z; cases z)
  have hx : Ex (hd c Γ H) (hd c (Γ.set i (some (.d d))) H) := hd_less hh
  refine ⟨?_, hx⟩
  refine ⟨e.cup, e.old, by simp [e.len], fun j x q => ?_, fun j q => ?_, fun j p es q => ?_, fun j k p es fs q r => ?_⟩
  · have q0 := q
    rcases get_set_some q with ⟨rfl, q1⟩ | ⟨n, q1⟩
    · cases q1
      exact ⟨v, set_eq (e.lt q0), Dp.ex hx _ _ h⟩
    · obtain ⟨u, h1, h2⟩ := e.d j x q1
      exact ⟨u, (set_ne n).trans h1, Dp.ex hx _ _ h2⟩
  · rcases get_set_some q with ⟨rfl, q1⟩ | ⟨n, q1⟩
    · cases q1
    · obtain ⟨a, h1, h2⟩ := e.cu j q1
      exact ⟨a, h1, (set_ne n).trans h2⟩
  · rcases get_set_some q with ⟨rfl, q1⟩ | ⟨n, q1⟩
    · cases q1
    · obtain ⟨h1, h2, h3, h4, us, h5, h6⟩ := e.ow j p es q1
      exact ⟨(set_ne n).trans h1, h2, h3, h4, us, h5, DpAll.ex hx _ _ h6⟩
  · rcases get_set_some q with ⟨rfl, q1⟩ | ⟨n, q1⟩
    · cases q1
    · rcases get_set_some r with ⟨rfl, r1⟩ | ⟨n2, r1⟩
      · cases r1
      · exact e.un j k p es fs q1 r1
theorem Env.set (e : Env K c H0 Γ σ H) {i : Nat} {v : V} (h : Dp K (hd c Γ H) v d) : Env K c H0 (Γ.set i (some (.d d))) (σ.set i (some v)) H := (e.setX h).1
theorem Env.setF (e : Env K c H0 Γ σ H) {i : Nat} {v : V} (hf : fz d = true) (h : Dp K H v d) : Env K c H0 (Γ.set i (some (.d d))) (σ.set i (some v)) H := e.set (e.hide hf h)
/-- a new list, for the def's own -/
theorem Env.setO (e : Env K c H0 Γ σ H) {i : Nat} {p : Addr} {us : List V} (hp : H p = none) (w : Ex H H') (hL : H' p = some (.lst us)) (hf : fzA ds = true) (hA : DpAll K H' us ds) : Env K c H0 (Γ.set i (some (.own p ds))) (σ.set i (some (.ref p))) H' ∧ Ex (hd c Γ H) (hd c (Γ.set i (some (.own p ds))) H') := by
  have e' := e.ex w
  have nh := e.fresh hp
  have hids : ∀ a, Hides c (Γ.set i (some (.own p ds))) a → a = p ∨ Hides c Γ a := fun a h => by
    rcases h with h | ⟨j, fs, h⟩
    · exact .inr (.inl h)
    · rcases get_set_some h with ⟨_, h⟩ | ⟨_, h⟩
      · cases h; exact .inl rfl
      · exact .inr (.inr ⟨j, fs, h⟩)
  have hx : Ex (hd c Γ H) (hd c (Γ.set i (some (.own p ds))) H') := fun a o h => by
    have h1 := hd_sub a o h
    have hap : a ≠ p := fun z => by rw [z, hp] at h1; cases h1
    have hn : ¬ Hides c Γ a := fun z => by unfold hd at h; rw [if_pos z] at h; cases h
    rw [hd_get fun z => (hids a z).elim hap hn]
    exact w a o h1
  have hnew : ∀ a, Hides c (Γ.set i (some (.own p ds))) a → ∃ xs, H' a = some (.lst xs) := fun a h => by
    rcases hids a h with rfl | h
    · exact ⟨us, hL⟩
    · exact e'.hid_lst h
  have htu : Tu H' (hd c (Γ.set i (some (.own p ds))) H') := ⟨fun a xs h => by
      rw [hd_get fun q => by obtain ⟨ys, hy⟩ := hnew a q; rw [h] at hy; cases hy]
      exact h, fun a o u h => by
      rw [hd_get fun q => by obtain ⟨ys, hy⟩ := hnew a q; rw [h] at hy; cases hy]
      exact h⟩
  refine ⟨?_, hx⟩
  refine ⟨e'.cup, e'.old, by simp [e.len], fun j x q => ?_, fun j q => ?_, fun j q' es q => ?_, fun j k q' es fs q r => ?_⟩
  · rcases get_set_some q with ⟨rfl, q1⟩ | ⟨n, q1⟩
    · cases q1
    · obtain ⟨u, h1, h2⟩ := e.d j x q1
      exact ⟨u, (set_ne n).trans h1, Dp.ex hx _ _ h2⟩
  · rcases get_set_some q with ⟨rfl, q1⟩ | ⟨n, q1⟩
    · cases q1
    · obtain ⟨a, h1, h2⟩ := e.cu j q1
      exact ⟨a, h1, (set_ne n).trans h2⟩
  · have q0 := q
    rcases get_set_some q with ⟨rfl, q1⟩ | ⟨n, q1⟩
    · cases q1
      exact ⟨set_eq (e.lt q0), e.fresh0 hp, fun z => nh (.inl z), hf, us, hL, DpAll.tu htu ds us hf hA⟩
    · obtain ⟨h1, h2, h3, h4, us, h5, h6⟩ := e.ow j q' es q1
      exact ⟨(set_ne n).trans h1, h2, h3, h4, us, w _ _ h5, DpAll.ex hx _ _ h6⟩
  · rcases get_set_some q with ⟨rfl, q1⟩ | ⟨n, q1⟩
    · cases q1
      rcases get_set_some r with ⟨rfl, r1⟩ | ⟨n2, r1⟩
      · rfl
      · exact absurd (.inr ⟨k, fs, r1⟩) nh
    · rcases get_set_some r with ⟨rfl, r1⟩ | ⟨n2, r1⟩
      · cases r1
        exact absurd (.inr ⟨j, es, q1⟩) nh
      · exact e.un j k q' es fs q1 r1
/-- the def's own list changed -/
theorem Env.mut (e : Env K c H0 Γ σ H) {i : Nat} {p : Addr} {us : List V} (hi : At Γ i (.own p ds)) (hf : fzA es = true) (hA : DpAll K (hd c Γ H) us es) : Env K c H0 (Γ.set i (some (.own p es))) σ (upd H p (.lst us)) ∧ Ex (hd c Γ H) (hd c (Γ.set i (some (.own p es))) (upd H p (.lst us))) := by
  obtain ⟨a1, a2, a3, a4, us0, a5, a6⟩ := e.ow i p ds hi
  have hlt : i < Γ.length := (List.getElem?_eq_some_iff.mp hi).1
  have hids : ∀ a, Hides c (Γ.set i (some (.own p es))) a ↔ Hides c Γ a := fun a => by
    constructor
    · rintro (h | ⟨j, fs, h⟩)
      · exact .inl h
      · rcases get_set_some h with ⟨_, h⟩ | ⟨_, h⟩
        · cases h; exact .inr ⟨i, ds, hi⟩
        · exact .inr ⟨j, fs, h⟩
    · rintro (h | ⟨j, fs, h⟩)
      · exact .inl h
      · by_cases q : i = j
        · subst q
          rw [hi] at h
          cases h
          exact .inr ⟨i, es, set_eq hlt⟩
        · exact .inr ⟨j, fs, by rw [set_ne q]; exact h⟩
  have hx : Ex (hd c Γ H) (hd c (Γ.set i (some (.own p es))) (upd H p (.lst us))) := fun a o h => by
    have hn : ¬ Hides c Γ a := fun z => by unfold hd at h; rw [if_pos z] at h; cases h
    have hap : a ≠ p := fun z => hn (by rw [z]; exact .inr ⟨i, ds, hi⟩)
    rw [hd_get fun z => hn ((hids a).mp z), upd_ne hap]
    exact hd_sub a o h
  refine ⟨?_, hx⟩
  refine ⟨fun a q => ?_, fun a o n h => ?_, by simp [e.len], fun j x q => ?_, fun j q => ?_, fun j q' fs q => ?_, fun j k q' fs gs q r => ?_⟩
  · obtain ⟨x, y, h1, h2⟩ := e.cup a q
    exact ⟨x, y, by rw [upd_ne fun z => a3 (by rw [← z]; exact q)]; exact h1, h2⟩
  · rw [upd_ne fun z => by rw [z, a2] at h; cases h]
    exact e.old a o n h
  · rcases get_set_some q with ⟨rfl, q1⟩ | ⟨n, q1⟩
    · cases q1
    · obtain ⟨u, h1, h2⟩ := e.d j x q1
      exact ⟨u, h1, Dp.ex hx _ _ h2⟩
  · rcases get_set_some q with ⟨rfl, q1⟩ | ⟨n, q1⟩
    · cases q1
    · exact e.cu j q1
  · rcases get_set_some q with ⟨rfl, q1⟩ | ⟨n, q1⟩
    · cases q1
      exact ⟨a1, a2, a3, hf, us, upd_same, DpAll.ex hx _ _ hA⟩
    · obtain ⟨h1, h2, h3, h4, vs, h5, h6⟩ := e.ow j q' fs q1
      exact ⟨h1, h2, h3, h4, vs, by rw [upd_ne fun z => n (e.un i j p ds fs hi (by rw [← z]; exact q1))]; exact h5, DpAll.ex hx _ _ h6⟩
  · have key : ∀ m ms, At (Γ.set i (some (.own p es))) m (.own q' ms) → ∃ ls, At Γ m (.own q' ls) := fun m ms h => by
      rcases get_set_some h with ⟨rfl, h1⟩ | ⟨_, h1⟩
      · cases h1; exact ⟨ds, hi⟩
      · exact ⟨ms, h1⟩
    obtain ⟨l1, k1⟩ := key j fs q
    obtain ⟨l2, k2⟩ := key k gs r
    exact e.un j k q' l1 l2 k1 k2
/-- some slots forgotten -/
inductive Fg : GE → GE → Prop
  | nil : Fg [] []
  | keep {x : Option AV} {l m : GE} : Fg l m → Fg (x :: l) (x :: m)
  | drop {x : Option AV} {l m : GE} : Fg l m → Fg (x :: l) (none :: m)
theorem Fg.len {l m : GE} (h : Fg l m) : l.length = m.length := by induction h <;> simp_all
theorem Fg.get {l m : GE} (h : Fg l m) : ∀ {i : Nat} {x : AV}, m[i]? = some (some x) → l[i]? = some (some x) := by
  induction h with
  | nil => intro i x h; exact h
  | keep _ ih => intro i x h; cases i with
    | zero => exact h
    | succ i => exact ih (by simpa using h)
  | drop _ ih => intro i x h; cases i with
    | zero => simp at h
    | succ i => exact ih (by simpa using h)
theorem Fg.refl : ∀ l : GE, Fg l l
  | [] => .nil
  | _ :: l => .keep (Fg.refl l)
theorem Fg.ex (f : Fg Γ Γ') : Ex (hd c Γ H) (hd c Γ' H) := hd_less fun a h => by
    rcases h with h | ⟨j, es, h⟩
    · exact .inl h
    · exact .inr ⟨j, es, f.get h⟩
theorem Env.fg (e : Env K c H0 Γ σ H) (f : Fg Γ Γ') : Env K c H0 Γ' σ H := by
  have hx : Ex (hd c Γ H) (hd c Γ' H) := hd_less fun a h => by
    rcases h with h | ⟨j, es, h⟩
    · exact .inl h
    · exact .inr ⟨j, es, f.get h⟩
  refine ⟨e.cup, e.old, by rw [e.len, f.len], fun j x q => ?_, fun j q => e.cu j (f.get q), fun j p es q => ?_, fun j k p es fs q r => e.un j k p es fs (f.get q) (f.get r)⟩
  · obtain ⟨u, h1, h2⟩ := e.d j x (f.get q)
    exact ⟨u, h1, Dp.ex hx _ _ h2⟩
  · obtain ⟨h1, h2, h3, h4, us, h5, h6⟩ := e.ow j p es (f.get q)
    exact ⟨h1, h2, h3, h4, us, h5, DpAll.ex hx _ _ h6⟩
/-- the arguments of a def -/
inductive Ars (K : PySem.W.Frag) (c : Option Addr) (H : Hp) : List V → List AV → Prop
  | nil : Ars K c H [] []
  | d {v : V} {d : PyData} {vs : List V} {as : List AV} : Dp K H v d → fz d = true → Ars K c H vs as → Ars K c H (v :: vs) (.d d :: as)
  | cup {a : Addr} {vs : List V} {as : List AV} : c = some a → Ars K c H vs as → Ars K c H (.ref a :: vs) (.cup :: as)
theorem Ars.len {vs : List V} {as : List AV} (h : Ars K c H vs as) : vs.length = as.length := by induction h <;> simp_all
theorem Ars.env {vs : List V} {as : List AV} {N : List Str} (h : Ars K c H vs as) (hc : ∀ a, c = some a → Cup H a) : Env K c H (as.map some ++ List.replicate (N.length - vs.length) none) (start N vs) H := by
  have hno : ∀ i (x : AV), (as.map some ++ List.replicate (N.length - vs.length) none)[i]? = some (some x) → as[i]? = some x := fun i x q => by
    by_cases hi : i < as.length
    · rw [List.getElem?_append_left (by rw [List.length_map]; exact hi), List.getElem?_map] at q
      cases hx : as[i]? with
      | none => rw [hx] at q; cases q
      | some y => rw [hx] at q; simpa using q
    · rw [List.getElem?_append_right (by rw [List.length_map]; omega)] at q
      have := List.mem_of_getElem? q
      simp at this
  have hnown : ∀ p ds, AV.own p ds ∉ as := by
    intro p ds
    clear hno
    induction h with
    | nil => simp
    | d _ _ _ ih => simp [ih]
    | cup _ _ ih => simp [ih]
  have hh : ∀ a, Hides c (as.map some ++ List.replicate (N.length - vs.length) none) a → c = some a := fun a q => by
    rcases q with q | ⟨i, es, q⟩
    · exact q
    · exact absurd (List.mem_of_getElem? (hno i _ q)) (hnown a es)
  have htu : Tu H (hd c (as.map some ++ List.replicate (N.length - vs.length) none) H) := ⟨fun a xs q => by
      rw [hd_get fun z => by obtain ⟨ys, hy⟩ := (hc a (hh a z)).lst; rw [q] at hy; cases hy]
      exact q, fun a o u q => by
      rw [hd_get fun z => by obtain ⟨ys, hy⟩ := (hc a (hh a z)).lst; rw [q] at hy; cases hy]
      exact q⟩
  have hst : ∀ i v, vs[i]? = some v → (start N vs)[i]? = some (some v) := fun i v q => by
    have hi := (List.getElem?_eq_some_iff.mp q).1
    unfold L2.start
    rw [List.getElem?_append_left (by rw [List.length_map]; exact hi), List.getElem?_map, q]
    rfl
  have key : ∀ (i : Nat) (x : AV), as[i]? = some x → ∃ v, vs[i]? = some v ∧ (match x with | AV.d x1 => Dp K H v x1 ∧ fz x1 = true | AV.cup => ∃ a, v = V.ref a ∧ c = some a | AV.own _ _ => False) := by
    intro i x
    clear hno hnown hh htu hst
    induction h generalizing i with
    | nil => intro q; simp at q
    | d h1 h2 h3 ih =>
      intro q
      cases i with
      | zero => simp at q; subst q; exact ⟨_, rfl, h1, h2⟩
      | succ i => simpa using ih i (by simpa using q)
    | cup h1 h3 ih =>
      intro q
      cases i with
      | zero => simp at q; subst q; exact ⟨_, rfl, _, rfl, h1⟩
      | succ i => simpa using ih i (by simpa using q)
  refine ⟨hc, fun a o _ q => q, ?_, fun i x q => ?_, fun i q => ?_, fun i p ds q => ?_, fun i j p ds es q r => ?_⟩
  · unfold L2.start
    rw [List.length_append, List.length_append, List.length_map, List.length_map, List.length_replicate, List.length_replicate, h.len]
  · obtain ⟨v, h1, h2⟩ := key i _ (hno i _ q)
    exact ⟨v, hst i v h1, Dp.tu htu _ _ h2.2 h2.1⟩
  · obtain ⟨v, h1, a, h2, h3⟩ := key i _ (hno i _ q)
    subst h2
    exact ⟨a, h3, hst i _ h1⟩
  · exact absurd (List.mem_of_getElem? (hno i _ q)) (hnown p ds)
  · exact absurd (List.mem_of_getElem? (hno i _ q)) (hnown p ds)
end
end Bk

namespace Bk
open PySem PySem.Spec PyProof.Rows L2
open Evl (Ex Ev EvT EvL EvU EvA)
section
variable (K : PySem.W.Frag) (c : Option Addr) (H0 : Hp)
/-- raw | in what does not change | one of some, the cup may turn | a new list -/
def EvH (te : TE) (Γ : GE) (d : PyData) : Prop := ∀ ⦃σ : L2.St⦄ ⦃H : Hp⦄, Env K c H0 Γ σ H → EvD K te σ H d
def EvG (te : TE) (Γ : GE) (d : PyData) : Prop := ∀ ⦃σ : L2.St⦄ ⦃H : Hp⦄, Env K c H0 Γ σ H → ∀ R : VK, (∀ v H2, Ex H H2 → Dp K (hd c Γ H2) v d → R v H2) → te σ H R
def EvP (te : TE) (Γ : GE) (P : PyData → Prop) : Prop := ∀ ⦃σ : L2.St⦄ ⦃H : Hp⦄, Env K c H0 Γ σ H → ∀ R : VK, (∀ v H2 d, Wd c H H2 → P d → Dp K (hd c Γ H2) v d → R v H2) → te σ H R
def EvO (te : TE) (Γ : GE) (ds : List PyData) : Prop := ∀ ⦃σ : L2.St⦄ ⦃H : Hp⦄, Env K c H0 Γ σ H → ∀ R : VK, (∀ p H2 us, H p = none → Ex H H2 → H2 p = some (.lst us) → DpAll K H2 us ds → R (.ref p) H2) → te σ H R
def EtH (tt : TT) (Γ : GE) (b : Bool) : Prop := ∀ ⦃σ : L2.St⦄ ⦃H : Hp⦄, Env K c H0 Γ σ H → EvT tt σ H b
def EtP (tt : TT) (Γ : GE) (P : Bool → Prop) : Prop := ∀ ⦃σ : L2.St⦄ ⦃H : Hp⦄, Env K c H0 Γ σ H → ∀ R : Bool → Hp → Prop, (∀ b H2, Wd c H H2 → P b → R b H2) → tt σ H R
/-- arguments, some drawn: raw -/
def EaP (ta : TA) (Γ : GE) (P : List PyData → Prop) : Prop := ∀ ⦃σ : L2.St⦄ ⦃H : Hp⦄, Env K c H0 Γ σ H → ∀ R : List V → Hp → Prop, (∀ vs H2 ds, Wd c H H2 → P ds → DpAll K (hd c Γ H2) vs ds → R vs H2) → ta σ H R
/-- what a def gives back -/
def Fin (v : V) (H' : Hp) : AV → Prop
  | .d x => Wd c H0 H' ∧ Dp K H' v x
  | .cup => False
  | .own p ds => Wd c H0 H' ∧ v = .ref p ∧ H0 p = none ∧ ∃ us, H' p = some (.lst us) ∧ DpAll K H' us ds
def SG (ts : TS) (Γ : GE) (N : GE → Prop) (Rt : AV → Prop) : Prop := ∀ (D : Ends) (σ : L2.St) (H : Hp), Env K c H0 Γ σ H → (∀ σ' H' Γ', Env K c H0 Γ' σ' H' → Ex (hd c Γ H) (hd c Γ' H') → N Γ' → D.nx σ' H') → (∀ v H' r, Fin K c H0 v H' r → Rt r → D.rt v H') → ts D σ H
/-- a target -/
def GtG (g : TG) (Γ : GE) (d : PyData) (Γ' : GE) : Prop := ∀ ⦃σ : L2.St⦄ ⦃H : Hp⦄ ⦃v : V⦄, Env K c H0 Γ σ H → Dp K (hd c Γ H) v d → ∀ Q : L2.St → Hp → Prop, (∀ σ', Env K c H0 Γ' σ' H → Ex (hd c Γ H) (hd c Γ' H) → Q σ' H) → g v σ H Q
end
section
variable {K : PySem.W.Frag} {c : Option Addr} {H0 : Hp} {Γ Γ1 Γ2 : GE} {te tb tl : TE} {ta tr : TA} {tt : TT} {d e : PyData} {ds es : List PyData} {P : PyData → Prop} {N : GE → Prop} {Rt : AV → Prop} {rest tu tw : TS} {i j : Nat} {g : TG}
theorem EvH.fz (h : EvH K c H0 te Γ d) (hf : fz d = true) : EvG K c H0 te Γ d := fun σ H e R r => h e H (Ex.refl H) R fun v H2 e2 hv => r v H2 e2 ((e.ex e2).hide hf hv)
theorem EvG.p (h : EvG K c H0 te Γ d) : EvP K c H0 te Γ (· = d) := fun σ H e R r => h e R fun v H2 e2 hv => r v H2 d (.ex e.cup e2) rfl hv
theorem EvP.imp {P' : PyData → Prop} (h : EvP K c H0 te Γ P) (q : ∀ d, P d → P' d) : EvP K c H0 te Γ P' := fun σ H e R r => h e R fun v H2 d w p hv => r v H2 d w (q d p) hv
theorem EtH.p {b : Bool} (h : EtH K c H0 tt Γ b) : EtP K c H0 tt Γ (· = b) := fun σ H e R r => h e H (Ex.refl H) R fun H2 e2 => r b H2 (.ex e.cup e2) rfl
theorem EvG.h (h : EvG K c H0 te Γ d) : EvH K c H0 te Γ d := fun σ H e H1 e1 R r => h (e.ex e1) R fun v H2 e2 hv => r v H2 e2 (Dp.ex hd_sub _ _ hv)
theorem EvO.ls (h : EvO K c H0 te Γ ds) (hf : fzA ds = true) : EvG K c H0 te Γ (.list ds) := fun σ H e R r => h e R fun p H2 us hp e2 hL hA =>
  r _ H2 e2 (.lst (SqL.of (by rw [hd_get fun q => by have := e.fresh hp; exact this q]; exact hL)) ((e.ex e2).hideA hf hA))
theorem eo_lst (h : ∀ ⦃σ : L2.St⦄ ⦃H : Hp⦄, Env K c H0 Γ σ H → EvAD K ta σ H ds) (hl : ds.length ≤ 100000 := by decide) : EvO K c H0 (tLst ta) Γ ds := fun σ H e R r =>
  h e H (Ex.refl H) _ fun vs H1 e1 hv => ⟨Evl.sz_of (by rw [DpAll.len hv]; exact hl), fun p hp => r p _ vs (Evl.fresh_back e1 hp) (e1.trans (ex_new hp)) upd_same (DpAll.ex (ex_new hp) _ _ hv)⟩
theorem eg_v (h : At Γ i (.d d)) : EvG K c H0 (tVar i) Γ d := fun σ H e R r => let ⟨v, h1, h2⟩ := e.d i d h; ⟨v, h1, r v H (Ex.refl H) h2⟩
theorem eap_nil : EaP K c H0 tNil Γ (· = []) := fun σ H e R r => r [] H [] (.refl e.cup) rfl .nil
theorem eap_cons {Q : List PyData → Prop} (h : EvP K c H0 te Γ P) (hr : EaP K c H0 tr Γ Q) : EaP K c H0 (tCons te tr) Γ (fun l => ∃ d ds, l = d :: ds ∧ P d ∧ Q ds) := fun σ H e R r =>
  h e _ fun v H1 d w1 p hv => hr (e.step w1) _ fun vs H2 ds w2 q hvs => r (v :: vs) H2 (d :: ds) (w1.trans w2) ⟨d, ds, rfl, p, q⟩ (.cons (Dp.ex (hd_ex w2) _ _ hv) hvs)
theorem Ex.kp (e : Ex H H2) (w : Env K c H0 Γ σ H) : Ex (hd c Γ H) (hd c Γ H2) := hd_ex (.ex w.cup e)
/-! statements -/
theorem sg_last {t : TS} (h : SG K c H0 (tSeq t tNext) Γ N Rt) : SG K c H0 t Γ N Rt := h
theorem sg_nx (h : N Γ) : SG K c H0 tNext Γ N Rt := fun D σ H e hn _ => hn σ H Γ e (Ex.refl _) h
theorem sg_fg (f : Fg Γ Γ1) (h : SG K c H0 rest Γ1 N Rt) : SG K c H0 rest Γ N Rt := fun D σ H e hn hr => h D σ H (e.fg f) (fun σ' H' Γ' e' x q => hn σ' H' Γ' e' ((Fg.ex f).trans x) q) hr
theorem sg_imp {N' : GE → Prop} {Rt' : AV → Prop} (h : SG K c H0 rest Γ N Rt) (h1 : ∀ Γ', N Γ' → N' Γ') (h2 : ∀ r, Rt r → Rt' r) : SG K c H0 rest Γ N' Rt' := fun D σ H e hn hr => h D σ H e (fun σ' H' Γ' e' x q => hn σ' H' Γ' e' x (h1 _ q)) fun v H' r f q => hr v H' r f (h2 _ q)
theorem sg_q (h : EvG K c H0 te Γ d) (k : SG K c H0 rest (Γ.set i (some (.d d))) N Rt) : SG K c H0 (tSeq (tAsg te (gName i)) rest) Γ N Rt := fun D σ H e hn hr => h e _ fun v H2 e2 hv =>
  let ⟨a, b⟩ := (e.ex e2).setX hv
  k D _ H2 a (fun σ' H' Γ' e' x q => hn σ' H' Γ' e' (((hd_ex (.ex e.cup e2)).trans b).trans x) q) hr
theorem sg_qp (h : EvP K c H0 te Γ P) (k : ∀ d, P d → SG K c H0 rest (Γ.set i (some (.d d))) N Rt) : SG K c H0 (tSeq (tAsg te (gName i)) rest) Γ N Rt := fun D σ H e hn hr => h e _ fun v H2 d w p hv =>
  let ⟨a, b⟩ := (e.step w).setX hv
  k d p D _ H2 a (fun σ' H' Γ' e' x q => hn σ' H' Γ' e' (((hd_ex w).trans b).trans x) q) hr
theorem sg_qo (h : EvO K c H0 te Γ ds) (hf : fzA ds = true) (k : ∀ p, SG K c H0 rest (Γ.set i (some (.own p ds))) N Rt) : SG K c H0 (tSeq (tAsg te (gName i)) rest) Γ N Rt := fun D σ H e hn hr => h e _ fun p H2 us hp e2 hL hA =>
  let ⟨a, b⟩ := e.setO hp e2 hL hf hA
  k p D _ H2 a (fun σ' H' Γ' e' x q => hn σ' H' Γ' e' (b.trans x) q) hr
theorem sg_ret (h : EvH K c H0 te Γ d) (k : Rt (.d d)) : SG K c H0 (tRet te) Γ N Rt := fun D σ H e hn hr => h e H (Ex.refl H) _ fun v H2 e2 hv => hr v H2 (.d d) ⟨(e.ex e2).wd, hv⟩ k
theorem sg_retq (h : EvH K c H0 te Γ d) (k : Rt (.d d)) : SG K c H0 (tSeq (tRet te) rest) Γ N Rt := fun D σ H e hn hr => h e H (Ex.refl H) _ fun v H2 e2 hv => hr v H2 (.d d) ⟨(e.ex e2).wd, hv⟩ k
theorem sg_retp (h : EvP K c H0 te Γ P) (k : ∀ d, P d → Rt (.d d)) : SG K c H0 (tRet te) Γ N Rt := fun D σ H e hn hr => h e _ fun v H2 d w p hv => hr v H2 (.d d) ⟨(e.step w).wd, Dp.ex hd_sub _ _ hv⟩ (k d p)
theorem sg_retpq (h : EvP K c H0 te Γ P) (k : ∀ d, P d → Rt (.d d)) : SG K c H0 (tSeq (tRet te) rest) Γ N Rt := fun D σ H e hn hr => h e _ fun v H2 d w p hv => hr v H2 (.d d) ⟨(e.step w).wd, Dp.ex hd_sub _ _ hv⟩ (k d p)
theorem sg_reto {p : Addr} (h : At Γ i (.own p ds)) (k : Rt (.own p ds)) : SG K c H0 (tRet (tVar i)) Γ N Rt := fun D σ H e hn hr =>
  let ⟨h1, h2, _, _, us, h5, h6⟩ := e.ow i p ds h
  ⟨_, h1, hr _ H (.own p ds) ⟨e.wd, rfl, h2, us, h5, DpAll.ex hd_sub _ _ h6⟩ k⟩
theorem sg_retO (h : EvO K c H0 te Γ ds) (k : ∀ p, Rt (.own p ds)) : SG K c H0 (tRet te) Γ N Rt := fun D σ H e hn hr => h e _ fun p H2 us hp e2 hL hA => hr _ H2 (.own p ds) ⟨(e.ex e2).wd, rfl, e.fresh0 hp, us, hL, hA⟩ (k p)
theorem sg_retN (k : Rt (.d .none)) : SG K c H0 tRetN Γ N Rt := fun D σ H e hn hr => hr _ H (.d .none) ⟨e.wd, .non⟩ k
theorem sg_if {b : Bool} {t : TT} (h : EtH K c H0 t Γ b) (h1 : b = true → SG K c H0 (tSeq tu rest) Γ N Rt) (h2 : b = false → SG K c H0 (tSeq tw rest) Γ N Rt) : SG K c H0 (tSeq (tIfS t tu tw) rest) Γ N Rt := fun D σ H e hn hr => h e H (Ex.refl H) _ fun H1 e1 => by
  have e' := e.ex e1
  have hx : Ex (hd c Γ H) (hd c Γ H1) := hd_ex (.ex e.cup e1)
  cases b with
  | true => exact h1 rfl D σ H1 e' (fun σ' H' Γ' a x q => hn σ' H' Γ' a (hx.trans x) q) hr
  | false => exact h2 rfl D σ H1 e' (fun σ' H' Γ' a x q => hn σ' H' Γ' a (hx.trans x) q) hr
theorem sg_when {b : Bool} {t : TT} (h : EtH K c H0 t Γ b) (h1 : b = true → SG K c H0 (tSeq tu rest) Γ N Rt) (h2 : b = false → SG K c H0 rest Γ N Rt) : SG K c H0 (tSeq (tIfS t tu tNext) rest) Γ N Rt := sg_if h h1 h2
/-- if what is never so: .. -/
theorem sg_never {t : TT} (h : EtH K c H0 t Γ false) (h2 : SG K c H0 rest Γ N Rt) : SG K c H0 (tSeq (tIfS t tu tNext) rest) Γ N Rt := sg_if h (fun z => by cases z) fun _ => h2
theorem sg_ifp {Pb : Bool → Prop} {t : TT} (h : EtP K c H0 t Γ Pb) (h1 : Pb true → SG K c H0 (tSeq tu rest) Γ N Rt) (h2 : Pb false → SG K c H0 (tSeq tw rest) Γ N Rt) : SG K c H0 (tSeq (tIfS t tu tw) rest) Γ N Rt := fun D σ H e hn hr => h e _ fun b H1 w pb => by
  have e' := e.step w
  have hx : Ex (hd c Γ H) (hd c Γ H1) := hd_ex w
  cases b with
  | true => exact h1 pb D σ H1 e' (fun σ' H' Γ' a x q => hn σ' H' Γ' a (hx.trans x) q) hr
  | false => exact h2 pb D σ H1 e' (fun σ' H' Γ' a x q => hn σ' H' Γ' a (hx.trans x) q) hr
theorem sg_whenp {Pb : Bool → Prop} {t : TT} (h : EtP K c H0 t Γ Pb) (h1 : Pb true → SG K c H0 (tSeq tu rest) Γ N Rt) (h2 : Pb false → SG K c H0 rest Γ N Rt) : SG K c H0 (tSeq (tIfS t tu tNext) rest) Γ N Rt := sg_ifp h h1 h2
theorem sg_neverp {t : TT} (h : EtP K c H0 t Γ (· = false)) (h2 : SG K c H0 rest Γ N Rt) : SG K c H0 (tSeq (tIfS t tu tNext) rest) Γ N Rt := sg_ifp h (fun z => by cases z) fun _ => h2
theorem sg_drop (h : EvH K c H0 te Γ d) (k : SG K c H0 rest Γ N Rt) : SG K c H0 (tSeq (tDrop te) rest) Γ N Rt := fun D σ H e hn hr => h e H (Ex.refl H) _ fun v H2 e2 _ =>
  k D σ H2 (e.ex e2) (fun σ' H' Γ' a x q => hn σ' H' Γ' a ((hd_ex (.ex e.cup e2)).trans x) q) hr
theorem sg_app {p : Addr} (hi : At Γ i (.own p ds)) (h : EvH K c H0 te Γ d) (hf : fz d = true) (hz : ds.length < 100000) (k : SG K c H0 rest (Γ.set i (some (.own p (ds ++ [d])))) N Rt) :
    SG K c H0 (tSeq (tDrop (tBM K "list" rAppend (tVar i) (tCons te tNil))) rest) Γ N Rt := fun D σ H e hn hr => by
  obtain ⟨h1, h2, h3, h4, us, h5, h6⟩ := e.ow i p ds hi
  refine ⟨_, h1, .inl ⟨rfl, us, Evl.sq_of h5⟩, h e H (Ex.refl H) _ fun v H2 e2 hv => ⟨p, us, v, rfl, rfl, e2 p _ h5, Evl.sz_lt (by rw [DpAll.len h6]; exact hz), ?_⟩⟩
  have e' := e.ex e2
  have hx : Ex (hd c Γ H) (hd c Γ H2) := hd_ex (.ex e.cup e2)
  obtain ⟨a, b⟩ := e'.mut (us := us ++ [v]) (es := ds ++ [d]) hi (by rw [fzA_app, h4]; simp [fzA, hf]) (DpAll.snoc (DpAll.ex hx _ _ h6) (e'.hide hf hv))
  exact k D σ _ a (fun σ' H' Γ' a' x q => hn σ' H' Γ' a' ((hx.trans b).trans x) q) hr
theorem sg_aug {a b : Int} {f : Int → Int → Int} (hi : At Γ i (.d (.int a))) (h : EvH K c H0 te Γ (.int b)) (k : SG K c H0 rest (Γ.set i (some (.d (.int (f a b))))) N Rt) : SG K c H0 (tSeq (tAug i te (ipI f)) rest) Γ N Rt := fun D σ H e hn hr => by
  obtain ⟨v, h1, h2⟩ := e.d i _ hi
  obtain rfl := dp_int h2
  refine ⟨_, h1, h e H (Ex.refl H) _ fun u H2 e2 hu => ?_⟩
  obtain rfl := dp_int hu
  obtain ⟨a', b'⟩ := (e.ex e2).setX (i := i) (d := .int (f a b)) (v := .int (f a b)) (.int _)
  exact ⟨a, b, rfl, rfl, k D _ H2 a' (fun σ' H' Γ' a x q => hn σ' H' Γ' a (((hd_ex (.ex e.cup e2)).trans b').trans x) q) hr⟩
theorem sg_par (h : ∀ ⦃σ : L2.St⦄ ⦃H : Hp⦄, Env K c H0 Γ σ H → EvAD K ta σ H [d, e]) (f1 : fz d = true) (f2 : fz e = true) (k : SG K c H0 rest ((Γ.set i (some (.d d))).set j (some (.d e))) N Rt) : SG K c H0 (tSeq (tPar i j ta) rest) Γ N Rt := fun D σ H w hn hr => h w H (Ex.refl H) _ fun vs H1 e1 hvs => by
  cases hvs with
  | cons h1 h2 =>
    cases h2 with
    | cons h3 h4 =>
      cases h4
      have w' := w.ex e1
      obtain ⟨a1, b1⟩ := w'.setX (i := i) (w'.hide f1 h1)
      obtain ⟨a2, b2⟩ := a1.setX (i := j) (a1.hide f2 h3)
      exact ⟨_, _, rfl, k D _ H1 a2 (fun σ' H' Γ' a x q => hn σ' H' Γ' a ((((hd_ex (.ex w.cup e1)).trans b1).trans b2).trans x) q) hr⟩
/-! targets, loops -/
theorem gt_name : GtG K c H0 (gName i) Γ d (Γ.set i (some (.d d))) := fun σ H v e hv Q q => let ⟨a, b⟩ := e.setX hv; q _ a b
theorem gt_two (h1 : d = .tuple [x, y]) : GtG K c H0 (gTup K 2 (gCons (gName i) (gCons (gName j) gNil))) Γ d ((Γ.set i (some (.d x))).set j (some (.d y))) := fun σ H v e hv Q q => by
  subst h1
  obtain ⟨a, xs, rfl, hs, hA⟩ := dp_tup hv
  cases hA with
  | cons h1 h2 =>
    cases h2 with
    | cons h3 h4 =>
      cases h4
      obtain ⟨a1, b1⟩ := e.setX (i := i) h1
      obtain ⟨a2, b2⟩ := a1.setX (i := j) (Dp.ex b1 _ _ h3)
      exact ⟨a, _, rfl, Evl.ex_t hd_sub hs, rfl, _, _, rfl, _, _, rfl, rfl, q _ a2 (b1.trans b2)⟩
theorem gt_three {k : Nat} {z : PyData} (h1 : d = .tuple [x, y, z]) : GtG K c H0 (gTup K 3 (gCons (gName i) (gCons (gName j) (gCons (gName k) gNil)))) Γ d (((Γ.set i (some (.d x))).set j (some (.d y))).set k (some (.d z))) := fun σ H v e hv Q q => by
  subst h1
  obtain ⟨a, xs, rfl, hs, hA⟩ := dp_tup hv
  cases hA with
  | cons h1 h2 =>
    cases h2 with
    | cons h3 h4 =>
      cases h4 with
      | cons h5 h6 =>
        cases h6
        obtain ⟨a1, b1⟩ := e.setX (i := i) h1
        obtain ⟨a2, b2⟩ := a1.setX (i := j) (Dp.ex b1 _ _ h3)
        obtain ⟨a3, b3⟩ := a2.setX (i := k) (Dp.ex (b1.trans b2) _ _ h5)
        exact ⟨a, _, rfl, Evl.ex_t hd_sub hs, rfl, _, _, rfl, _, _, rfl, _, _, rfl, rfl, q _ a3 ((b1.trans b2).trans b3)⟩
/-- x, y = e -/
theorem sg_un (h : EvG K c H0 te Γ d) (hg : GtG K c H0 g Γ d Γ1) (k : SG K c H0 rest Γ1 N Rt) : SG K c H0 (tSeq (tAsg te g) rest) Γ N Rt := fun D σ H e hn hr => h e _ fun v H2 e2 hv =>
  hg (e.ex e2) hv _ fun σ' e' x => k D _ H2 e' (fun σ' H' Γ' a y q => hn σ' H' Γ' a (((hd_ex (.ex e.cup e2)).trans x).trans y) q) hr
theorem sg_unp {f : PyData → GE} (h : EvP K c H0 te Γ P) (hg : ∀ d, P d → GtG K c H0 g Γ d (f d)) (k : ∀ d, P d → SG K c H0 rest (f d) N Rt) : SG K c H0 (tSeq (tAsg te g) rest) Γ N Rt := fun D σ H e hn hr => h e _ fun v H2 d w p hv =>
  hg d p (e.step w) hv _ fun σ' e' x => k d p D _ H2 e' (fun σ' H' Γ' a y q => hn σ' H' Γ' a (((hd_ex w).trans x).trans y) q) hr
/-- for j in range(n): the slots at each turn are f i -/
theorem sg_forR {n : Nat} (f : Nat → GE) (h : ∀ ⦃σ : L2.St⦄ ⦃H : Hp⦄, Env K c H0 Γ σ H → EvA ta σ H [.int (n : Int)]) (hn : n ≤ 100000) (h0 : Fg Γ (f 0)) (hs : ∀ i, i < n → SG K c H0 tu ((f i).set j (some (.d (.int (i : Int))))) (fun Γ' => Fg Γ' (f (i + 1))) Rt) (k : SG K c H0 rest (f n) N Rt) :
    SG K c H0 (tSeq (tFor (iRng1 ta) (gName j) tu) rest) Γ N Rt := fun D σ H e hx hr => by
  refine h e H (Ex.refl H) _ fun H1 e1 => ⟨(n : Int), rfl, by omega, by omega, for_range (lo := 0) (n := n) (fun i σ' H' => Env K c H0 (f i) σ' H' ∧ Ex (hd c Γ H) (hd c (f i) H')) ⟨(e.ex e1).fg h0, (hd_ex (.ex e.cup e1)).trans (Fg.ex h0)⟩ (fun i σ' H' hi p => ?_) (fun σ' H' p => ?_)⟩
  · have e0 : (0 : Int) + (i : Int) = (i : Int) := Int.zero_add _
    show tu _ (σ'.set j (some (.int ((0 : Int) + (i : Int))))) H'
    rw [e0]
    obtain ⟨a, b⟩ := p.1.setX (i := j) (d := .int (i : Int)) (v := .int (i : Int)) (.int _)
    exact hs i hi _ _ H' a (fun σ2 H2 Γ2 a2 x2 q2 => ⟨a2.fg q2, (((p.2).trans b).trans x2).trans (Fg.ex q2)⟩) hr
  · exact k D σ' H' p.1 (fun σ2 H2 Γ2 a2 x2 q2 => hx σ2 H2 Γ2 a2 (p.2.trans x2) q2) hr
/-- over a tuple -/
theorem sg_forT (f : Nat → GE) (fx : Nat → GE) (h : EvG K c H0 tl Γ (.tuple ds)) (h0 : Fg Γ (f 0)) (hg : ∀ i d, ds[i]? = some d → GtG K c H0 g (f i) d (fx i)) (hs : ∀ i d, ds[i]? = some d → SG K c H0 tu (fx i) (fun Γ' => Fg Γ' (f (i + 1))) Rt) (k : SG K c H0 rest (f ds.length) N Rt) :
    SG K c H0 (tSeq (tFor (iTup K tl) g tu) rest) Γ N Rt := fun D σ H e hx hr => by
  refine h e _ fun v H1 e1 hv => ?_
  obtain ⟨a, xs, rfl, hT, hA⟩ := dp_tup hv
  have hl : xs.length = ds.length := DpAll.len hA
  refine ⟨a, rfl, ⟨xs, Evl.ex_t hd_sub hT⟩, for_tup (xs := xs) (fun i σ' H' => Env K c H0 (f i) σ' H' ∧ Ex (hd c Γ H1) (hd c (f i) H')) ⟨(e.ex e1).fg h0, Fg.ex h0⟩ (fun i σ' H' _ p => Evl.ex_t (p.2.trans hd_sub) hT) (fun i x σ' H' hi p => ?_) (fun σ' H' p => ?_)⟩
  · obtain ⟨d, hd1, hd2⟩ := DpAll.get hA hi
    refine hg i d hd1 p.1 (Dp.ex p.2 _ _ hd2) _ fun σ2 e2 x2 => ?_
    exact hs i d hd1 _ _ H' e2 (fun σ3 H3 Γ3 a3 x3 q3 => ⟨a3.fg q3, ((p.2.trans x2).trans x3).trans (Fg.ex q3)⟩) hr
  · rw [hl] at p
    exact k D σ' H' p.1 (fun σ2 H2 Γ2 a2 x2 q2 => hx σ2 H2 Γ2 a2 (((hd_ex (.ex e.cup e1)).trans p.2).trans x2) q2) hr
/-- over a list that does not change -/
theorem sg_forL (f : Nat → GE) (fx : Nat → GE) (h : EvG K c H0 tl Γ (.list ds)) (h0 : Fg Γ (f 0)) (hg : ∀ i d, ds[i]? = some d → GtG K c H0 g (f i) d (fx i)) (hs : ∀ i d, ds[i]? = some d → SG K c H0 tu (fx i) (fun Γ' => Fg Γ' (f (i + 1))) Rt) (k : SG K c H0 rest (f ds.length) N Rt) :
    SG K c H0 (tSeq (tFor (iList K tl) g tu) rest) Γ N Rt := fun D σ H e hx hr => by
  refine h e _ fun v H1 e1 hv => ?_
  obtain ⟨a, xs, rfl, hT, hA⟩ := dp_lst hv
  have hl : xs.length = ds.length := DpAll.len hA
  refine ⟨a, rfl, ⟨xs, Evl.ex_l hd_sub hT⟩, for_list (xs := xs) (fun i σ' H' => Env K c H0 (f i) σ' H' ∧ Ex (hd c Γ H1) (hd c (f i) H')) ⟨(e.ex e1).fg h0, Fg.ex h0⟩ (fun i σ' H' _ p => Evl.ex_l (p.2.trans hd_sub) hT) (fun i x σ' H' hi p => ?_) (fun σ' H' p => ?_)⟩
  · obtain ⟨d, hd1, hd2⟩ := DpAll.get hA hi
    refine hg i d hd1 p.1 (Dp.ex p.2 _ _ hd2) _ fun σ2 e2 x2 => ?_
    exact hs i d hd1 _ _ H' e2 (fun σ3 H3 Γ3 a3 x3 q3 => ⟨a3.fg q3, ((p.2.trans x2).trans x3).trans (Fg.ex q3)⟩) hr
  · rw [hl] at p
    exact k D σ' H' p.1 (fun σ2 H2 Γ2 a2 x2 q2 => hx σ2 H2 Γ2 a2 (((hd_ex (.ex e.cup e1)).trans p.2).trans x2) q2) hr
/-- a def's body, at its arguments -/
theorem sg_run {ts : TS} {vs : List V} {as : List AV} {Ns : List Str} {Q : VK} (h : Ars K c H0 vs as) (hc : ∀ a, c = some a → Cup H0 a) (k : SG K c H0 ts (as.map some ++ List.replicate (Ns.length - vs.length) none) N Rt) (hN : ∀ Γ', N Γ' → Rt (.d .none)) (hQ : ∀ v H' r, Fin K c H0 v H' r → Rt r → Q v H') :
    ts { nx := fun _ H' => Q .non H', rt := Q } (L2.start Ns vs) H0 := k _ _ _ (h.env hc) (fun σ' H' Γ' e _ q => hQ .non H' (.d .none) ⟨e.wd, .non⟩ (hN Γ' q)) hQ
end
end Bk

namespace Bk
open PySem PySem.Spec PyProof.Rows L2
open Evl (Ex Ev EvT EvL EvU EvA)
/-- a promise: for x with ok x, arguments enc x, what comes is told by res -/
def spE (K : PySem.W.Frag) {α : Type} (n : Nat) (enc : α → List AV) (ok : α → Prop) (res : α → AV → Prop) : Sp := fun vs H Q _ => vs.length = n ∧ ∃ (c : Option Addr) (x : α), Ars K c H vs (enc x) ∧ (∀ a, c = some a → Cup H a) ∧ ok x ∧ ∀ v H' r, Fin K c H v H' r → res x r → Q v H'
section
variable {P : Program} {w : World} {K : PySem.W.Frag} {mg : Str → Option Value} {base : Heap}
theorem okE {α : Type} {n : Nat} {enc : α → List AV} {ok : α → Prop} {res : α → AV → Prop} {x qual : Str} {st : Stmt} {f : Addr} {fd : FuncData} {N ps : List Str} {k : Nat} (F : Fun K x qual st f fd) (S : FnScope N ps (defScope st)) (hn : ps.length = n)
    (hbody : ∀ (cdv : Value) (A : Around) (outer : List PySem.Env) (s : Shared) (H : Hp) (E : XK), Room k (A.deeper (envOfC qual (defScope st) s.heap.objs.size f cdv)) →
      ∃ t, PSs (cxOf CX0 P w K mg base N qual (defScope st) f cdv A outer s H E).nox (defBody st) t ∧ ∀ (c : Option Addr) (H0 : Hp) (x : α), ok x → SG K c H0 t ((enc x).map some ++ List.replicate (N.length - n) none) (fun _ => res x (.d .none)) (res x)) :
    FnOk P w K mg base CX0 (k + 1) f fd ps (spE K n enc ok res) := by
  refine F.ok S (fun vs H Q E h => h.1.trans hn.symm) (fun cdv A outer s H vs Q E hr h => ?_)
  obtain ⟨hl, c, y, ha, hc, ho, q⟩ := h
  obtain ⟨t, ht, hS⟩ := hbody cdv A outer s H E hr
  have hS := hS c H y ho
  rw [← hl] at hS
  exact ⟨t, ht, sg_run ha hc hS (fun _ z => z) q⟩
end
section
variable {K : PySem.W.Frag} {c : Option Addr} {H0 : Hp} {Γ Γ1 Γ2 : GE} {te tb tl : TE} {ta tr : TA} {tt tu : TT} {d e : PyData} {ds es : List PyData} {P Q : PyData → Prop} {i j : Nat} {α : Type} {n : Nat} {enc : α → List AV} {ok : α → Prop} {res : α → AV → Prop} {E : XK}
theorem ars_of {H : Hp} {vs : List V} (h : DpAll K H vs ds) (hf : fzA ds = true) : Ars K c H vs (ds.map AV.d) := by
  induction ds generalizing vs with
  | nil => cases h; exact .nil
  | cons d l ih =>
    cases h with
    | cons h1 h2 =>
      have hf' : fz d = true ∧ fzA l = true := by simpa [fzA] using hf
      exact .d h1 hf'.1 (ih h2 hf'.2)
theorem eh_call (x : α) (ha : ∀ ⦃σ : L2.St⦄ ⦃H : Hp⦄, Env K c H0 Γ σ H → EvAD K ta σ H ds) (hx : enc x = ds.map AV.d) (hf : fzA ds = true) (ho : ok x) (hr : ∀ r, res x r → r = .d d) (hn : ds.length = n := by rfl) : EvH K c H0 (tCall (spE K n enc ok res) [] E ta) Γ d := fun σ H e =>
  ed_call (ha e) fun vs H1 e1 hv R r => ⟨(DpAll.len hv).trans hn, none, x, by rw [hx]; exact ars_of hv hf, (fun a q => by cases q), ho, fun v H' rr hF hR => by
    have := hr rr hR
    subst this
    exact r v H' hF.1.toEx hF.2⟩
theorem eo_call (x : α) (ha : ∀ ⦃σ : L2.St⦄ ⦃H : Hp⦄, Env K c H0 Γ σ H → EvAD K ta σ H ds) (hx : enc x = ds.map AV.d) (hf : fzA ds = true) (ho : ok x) (hr : ∀ r, res x r → ∃ p, r = .own p es) (hn : ds.length = n := by rfl) : EvO K c H0 (tCall (spE K n enc ok res) [] E ta) Γ es := fun σ H e R r =>
  ha e H (Ex.refl H) _ fun vs H1 e1 hv => by
    rw [List.append_nil]
    refine ⟨(DpAll.len hv).trans hn, none, x, by rw [hx]; exact ars_of hv hf, (fun a q => by cases q), ho, fun v H' rr hF hR => ?_⟩
    obtain ⟨p, rfl⟩ := hr rr hR
    obtain ⟨h1, rfl, h3, us, h4, h5⟩ := hF
    exact r p H' us (Evl.fresh_back e1 h3) (e1.trans h1.toEx) h4 h5
/-- the cup first, then others -/
theorem ep_call {Qa : List PyData → Prop} (hi : At Γ i .cup) (ha : EaP K c H0 ta Γ Qa) (hq : ∀ ds, Qa ds → ∃ x, enc x = .cup :: ds.map AV.d ∧ fzA ds = true ∧ ok x ∧ ds.length + 1 = n ∧ ∀ r, res x r → ∃ d, r = .d d ∧ fz d = true ∧ P d) : EvP K c H0 (tCall (spE K n enc ok res) [] E (tCons (tVar i) ta)) Γ P := fun σ H e R r => by
  obtain ⟨a, h1, h2⟩ := e.cu i hi
  refine ⟨_, h2, ha e _ fun vs H1 ds w1 q hvs => ?_⟩
  obtain ⟨x, hx, hf, ho, hn, hr⟩ := hq ds q
  rw [List.append_nil]
  have e1 := e.step w1
  refine ⟨by rw [List.length_cons, DpAll.len hvs, hn], c, x, by rw [hx]; exact .cup h1 (ars_of (DpAll.ex hd_sub _ _ hvs) hf), e1.cup, ho, fun v H' rr hF hR => ?_⟩
  obtain ⟨d, rfl, hfd, hp⟩ := hr rr hR
  exact r v H' d (w1.trans hF.1) hp ((e1.step hF.1).hide hfd hF.2)
theorem ep_call1 (hi : At Γ i .cup) (x : α) (hx : enc x = [.cup]) (ho : ok x) (hr : ∀ r, res x r → ∃ d, r = .d d ∧ fz d = true ∧ P d) : EvP K c H0 (tCall (spE K 1 enc ok res) [] E (tCons (tVar i) tNil)) Γ P :=
  ep_call hi eap_nil fun ds q => ⟨x, by rw [q]; exact hx, by rw [q]; rfl, ho, by rw [q]; rfl, hr⟩
/-- no cup, some arguments drawn -/
theorem ep_callN {Qa : List PyData → Prop} (ha : EaP K c H0 ta Γ Qa) (hq : ∀ ds, Qa ds → ∃ x, enc x = ds.map AV.d ∧ fzA ds = true ∧ ok x ∧ ds.length = n ∧ ∀ r, res x r → ∃ d, r = .d d ∧ fz d = true ∧ P d) : EvP K c H0 (tCall (spE K n enc ok res) [] E ta) Γ P := fun σ H e R r => by
  refine ha e _ fun vs H1 ds w1 q hvs => ?_
  obtain ⟨x, hx, hf, ho, hn, hr⟩ := hq ds q
  rw [List.append_nil]
  have e1 := e.step w1
  refine ⟨(DpAll.len hvs).trans hn, none, x, by rw [hx]; exact ars_of (DpAll.ex hd_sub _ _ hvs) hf, (fun a q => by cases q), ho, fun v H' rr hF hR => ?_⟩
  obtain ⟨d, rfl, hfd, hp⟩ := hr rr hR
  have w2 : Wd c H1 H' := .ex e1.cup hF.1.toEx
  exact r v H' d (w1.trans w2) hp ((e1.step w2).hide hfd hF.2)
/-- a def with a promise of any other form: what it gives never changes -/
theorem ep_old {sp : Sp} {Qa : List PyData → Prop} (ha : EaP K c H0 ta Γ Qa) (hs : ∀ ds, Qa ds → ∀ vs H1, DpAll K H1 vs ds → ∀ R : VK, (∀ v H2 d, Ex H1 H2 → fz d = true → P d → Dp K H2 v d → R v H2) → sp vs H1 R E) : EvP K c H0 (tCall sp [] E ta) Γ P := fun σ H e R r =>
  ha e _ fun vs H1 ds w1 q hvs => by
    rw [List.append_nil]
    have e1 := e.step w1
    exact hs ds q vs H1 (DpAll.ex hd_sub _ _ hvs) _ fun v H2 d e2 hf hp hv => r v H2 d (w1.trans (.ex e1.cup e2)) hp ((e1.ex e2).hide hf hv)
theorem sg_parp {rest : TS} {N : GE → Prop} {Rt : AV → Prop} {Qa : List PyData → Prop} (h : EaP K c H0 ta Γ Qa) (hq : ∀ ds, Qa ds → ∃ d e, ds = [d, e]) (k : ∀ d e, Qa [d, e] → SG K c H0 rest ((Γ.set i (some (.d d))).set j (some (.d e))) N Rt) : SG K c H0 (tSeq (tPar i j ta) rest) Γ N Rt := fun D σ H w hn hr => h w _ fun vs H1 ds w1 q hvs => by
  obtain ⟨d, e, rfl⟩ := hq ds q
  cases hvs with
  | cons h1 h2 =>
    cases h2 with
    | cons h3 h4 =>
      cases h4
      have w' := w.step w1
      obtain ⟨a1, b1⟩ := w'.setX (i := i) h1
      obtain ⟨a2, b2⟩ := a1.setX (i := j) (Dp.ex b1 _ _ h3)
      exact ⟨_, _, rfl, k d e q D _ H1 a2 (fun σ' H' Γ' a x q => hn σ' H' Γ' a ((((hd_ex w1).trans b1).trans b2).trans x) q) hr⟩
/-! tests, drawn -/
theorem etp_B {b : Bool} (h : EvP K c H0 te Γ (· = .bool b)) : EtP K c H0 (tB te) Γ (· = b) := fun σ H e R r => h e _ fun v H2 d w q hv => by
  subst q; rw [dp_bl (Dp.ex hd_sub _ _ hv)]; exact ⟨b, rfl, r b H2 w rfl⟩
theorem etp_T {b : Bool} (h : EvP K c H0 te Γ (· = .bool b)) : EtP K c H0 (tTest te) Γ (· = b) := fun σ H e R r => h e _ fun v H2 d w q hv => by
  subst q; rw [dp_bl (Dp.ex hd_sub _ _ hv)]; exact ⟨b, rfl, r b H2 w rfl⟩
theorem etp_any (h : EvP K c H0 te Γ (fun d => ∃ b, d = .bool b)) : EtP K c H0 (tTest te) Γ (fun _ => True) := fun σ H e R r => h e _ fun v H2 d w q hv => by
  obtain ⟨b, rfl⟩ := q
  rw [dp_bl (Dp.ex hd_sub _ _ hv)]; exact ⟨b, rfl, r b H2 w trivial⟩
theorem etp_not {b : Bool} (h : EtP K c H0 tt Γ (· = b)) : EtP K c H0 (tNot tt) Γ (· = !b) := fun σ H e R r => h e _ fun b' H2 w q => r _ H2 w (by rw [q])
theorem etp_orF (h1 : EtP K c H0 tt Γ (· = false)) (h2 : EtP K c H0 tu Γ (· = false)) : EtP K c H0 (tOr tt tu) Γ (· = false) := fun σ H e R r => h1 e _ fun b H1 w1 q1 => by
  subst q1
  exact h2 (e.step w1) _ fun b H2 w2 q2 => r b H2 (w1.trans w2) q2
theorem etp_eqI {m : Int} (h : EvP K c H0 te Γ (fun d => ∃ r : Nat, d = .int (r : Int) ∧ P d)) : EtP K c H0 (tTest (tOp rEq te (tC (.int m)))) Γ (fun b => ∃ r : Nat, P (.int (r : Int)) ∧ b = decide ((r : Int) = m)) := fun σ H e R r => h e _ fun v H2 d w q hv => by
  obtain ⟨k, rfl, hp⟩ := q
  rw [dp_int (Dp.ex hd_sub _ _ hv)]
  refine ⟨rfl, _, rfl, r _ H2 w ⟨k, hp, ?_⟩⟩
  by_cases hk : (k : Int) = m
  · subst hk; simp
  · rw [decide_eq_false hk, decide_eq_false (fun x => hk (V.int.inj x))]
/-! more readings -/
theorem eh_of (h : ∀ ⦃σ : L2.St⦄ ⦃H : Hp⦄, Env K c H0 Γ σ H → EvD K te σ H d) : EvH K c H0 te Γ d := h
theorem ed_bool {σ : L2.St} {H : Hp} {b : Bool} (h : Ev te σ H (.bl b)) : EvD K te σ H (.bool b) := fun H1 a R r => h H1 a _ fun H2 e2 => r _ H2 e2 (.bl b)
theorem ed_noneV {σ : L2.St} {H : Hp} (h : Ev te σ H .non) : EvD K te σ H .none := fun H1 a R r => h H1 a _ fun H2 e2 => r _ H2 e2 .non
theorem ed_none {σ : L2.St} {H : Hp} : EvD K (tC .non) σ H .none := fun H1 _ R r => r _ H1 (Ex.refl H1) .non
theorem ed_tc {σ : L2.St} {H : Hp} {b : Bool} : EvD K (tC (.bl b)) σ H (.bool b) := fun H1 _ R r => r _ H1 (Ex.refl H1) (.bl b)
theorem ev_ofI {σ : L2.St} {H : Hp} {m : Int} (h : EvD K te σ H (.int m)) : Ev te σ H (.int m) := fun H1 a R r => h H1 a _ fun v H2 e2 hv => by rw [dp_int hv]; exact r H2 e2
theorem ev_ofB {σ : L2.St} {H : Hp} {m : Bool} (h : EvD K te σ H (.bool m)) : Ev te σ H (.bl m) := fun H1 a R r => h H1 a _ fun v H2 e2 hv => by rw [dp_bl hv]; exact r H2 e2
theorem ed_addI {σ : L2.St} {H : Hp} {a b : Int} (h1 : EvD K te σ H (.int a)) (h2 : EvD K tb σ H (.int b)) : EvD K (tOp (rI0 fun i j => .int (i + j)) te tb) σ H (.int (a + b)) := ed_ev (Evl.ev_op (ev_ofI h1) (ev_ofI h2) (Evl.rv_I0 (g := fun i j => .int (i + j))))
theorem ed_subI {σ : L2.St} {H : Hp} {a b : Int} (h1 : EvD K te σ H (.int a)) (h2 : EvD K tb σ H (.int b)) : EvD K (tOp (rI0 fun i j => .int (i - j)) te tb) σ H (.int (a - b)) := ed_ev (Evl.ev_op (ev_ofI h1) (ev_ofI h2) (Evl.rv_I0 (g := fun i j => .int (i - j))))
theorem ev_leI {σ : L2.St} {H : Hp} {a b : Int} (h1 : EvD K te σ H (.int a)) (h2 : EvD K tb σ H (.int b)) : Ev (tOp (rI0 fun i j => .bl (decide (i ≤ j))) te tb) σ H (.bl (decide (a ≤ b))) := Evl.ev_op (ev_ofI h1) (ev_ofI h2) (Evl.rv_I0 (g := fun i j => .bl (decide (i ≤ j))))
theorem ev_ltI {σ : L2.St} {H : Hp} {a b : Int} (h1 : EvD K te σ H (.int a)) (h2 : EvD K tb σ H (.int b)) : Ev (tOp (rI0 fun i j => .bl (decide (i < j))) te tb) σ H (.bl (decide (a < b))) := Evl.ev_op (ev_ofI h1) (ev_ofI h2) (Evl.rv_I0 (g := fun i j => .bl (decide (i < j))))
theorem ev_gtI {σ : L2.St} {H : Hp} {a b : Int} (h1 : EvD K te σ H (.int a)) (h2 : EvD K tb σ H (.int b)) : Ev (tOp (rI0 fun i j => .bl (decide (j < i))) te tb) σ H (.bl (decide (b < a))) := Evl.ev_op (ev_ofI h1) (ev_ofI h2) (Evl.rv_I0 (g := fun i j => .bl (decide (j < i))))
theorem ed_len {σ : L2.St} {H : Hp} (h : EvD K te σ H (.tuple ds)) : EvD K (tCB (Evl.rLenS K) (tCons te tNil)) σ H (.int (ds.length : Nat)) := ed_ev (ev_lenD h)
theorem ed_lenL {σ : L2.St} {H : Hp} (h : EvD K te σ H (.list ds)) : EvD K (tCB (Evl.rLenS K) (tCons te tNil)) σ H (.int (ds.length : Nat)) := ed_ev (ev_lenDL h)
end
end Bk

namespace Bk
open PySem PySem.Spec PyProof.Rows L2
/-- the heap in which nothing but the script at a is told -/
def scriptHp (a : Addr) (ob : Obj) (xs : List V) : Hp := fun b => if b = a then some (.frz ob (.lst xs)) else none
/-- the law's call, its def promised where no text is being shown -/
theorem law_runG {P : Program} {w : World} {K : PySem.W.Frag} {mg mb : Str → Option Value} {k : Nat} {fa a : Addr} {fd : FuncData} {x : Str} {sp : Sp} {s₁ : Shared} {vs : List Value} {H : Hp}
    (KX : K.In s₁.heap) (hns : s₁.heap.Ns mainGlobals mg) (hb : s₁.heap.Ns builtinsNs mb) (hbb : ∀ x : Str, x ≠ "__name__" → mb x = bootBuiltins x) (hlim : s₁.heap.NoLimit) (hg : s₁.gens = #[])
    (ha : s₁.heap.get? a = some { cls := .type "list", data := .seq vs.toArray }) (hr : Room k callerA)
    (F : ∀ base : Heap, K.In base → base.Ns mainGlobals mg → FnG P w K mg base CX0 k fa fd [x] sp) (hbind : ∀ (s : Shared) (u : Value), BindsTo s fd ⟨[u], []⟩ [(x, u)])
    (hO : Only H) (hok : HOk P w H s₁.heap) (hA : ∀ b, H b ≠ none → b = a) (hK : H a ≠ none → K.lookup a = none)
    (hsp : sp [.ref a] H (fun v _ => v = .bl true) fun _ _ _ => False) :
    codeAny (model P w) callerA (.call (.ref fa) ⟨[.ref a], []⟩) (fun r s' => r = .ok (.ret (.bool true)) ∧ OldK s₁.heap s'.heap ∧ s'.os = s₁.os ∧ AllBare s'.gens) s₁ := by
  have keepT : ∀ {b : Addr} {o : Obj}, s₁.heap.get? b = some o → H b = none → (hidT s₁.heap H).get? b = some o := fun e n => hidT_get e n
  have dictNone : ∀ {b : Addr} {o : Obj} {es : Array DictEntry} {ep : Nat}, s₁.heap.get? b = some o → o.data = .dict es ep → H b = none := by
    intro b o es ep e d
    by_cases q : H b = none
    · exact q
    · have hba := hA b q
      rw [hba, ha] at e
      have eo := Option.some.inj e
      rw [← eo] at d
      cases (show Data.seq vs.toArray _ = Data.dict es ep from d)
  have nsT : ∀ {b : Addr} {m : Str → Option Value}, s₁.heap.Ns b m → (hidT s₁.heap H).Ns b m := fun {b m} h => let ⟨o, es, ep, e, d, r⟩ := h; ⟨o, es, ep, keepT e (dictNone e d), d, r⟩
  have inT : K.In (hidT s₁.heap H) := by
    intro b o e
    refine keepT (KX b o e) ?_
    by_cases q : H b = none
    · exact q
    · have hba := hA b q
      rw [hba] at e q
      rw [hK q] at e
      cases e
  have modT : Mod K mg (hidT s₁.heap H) := ⟨inT, nsT hns, ⟨mb, nsT hb, hbb⟩, let ⟨mc, h1, h2⟩ := hlim; ⟨mc, nsT h1, h2⟩⟩
  have env : Env0 P w K mg (hidT s₁.heap H) callerA [] s₁ H := { frames := rfl, mod := modT, bs := fun b o e => of_hidT e, bsz := Nat.le_of_eq (hidT_size _ _), funs := trivial, frf := fun b h => absurd (show b ∈ ([] : List Addr) from h) (by simp), hok := hok, bare := .of_eq hg }
  have run := (F _ inT (nsT hns)).run callerA [] s₁ H ⟨[.ref a], []⟩ [.ref a] [.ref a] (fun v _ => v = .bl true) (fun _ _ _ => False) rfl hr env (hbind s₁ (.ref a)) (.cons rfl .nil) hsp
  refine codeAny_mono run fun r s' h => ?_
  match r, h with
  | .error e, h => exact (show False from h).elim
  | .ok .next, h => exact False.elim h
  | .ok .brk, h => exact False.elim h
  | .ok .cont, h => exact False.elim h
  | .ok (.ret u), ⟨v, H', os, bare, un, hok', rv, q⟩ =>
    have hv : v = .bl true := q
    rw [hv] at rv
    have hu : u = Value.bool true := rv
    rw [hu]
    refine ⟨rfl, OldK.of_keep fun b o e => ?_, os, bare⟩
    by_cases q : H b = none
    · exact un.keep b o e q (fun z => absurd (show b ∈ ([] : List Addr) from z) (by simp)) (by simp)
    · rcases hO b with z | ⟨ob, xs, z⟩
      · exact absurd z q
      · obtain ⟨e1, _⟩ := hok b _ z
        obtain ⟨e2, _⟩ := hok' b _ (un.frzs b ob _ z)
        rw [e] at e1
        rw [e2, ← Option.some.inj e1]
theorem law_callG {P : Program} {w : World} {K : PySem.W.Frag} {mg mb : Str → Option Value} {k : Nat} {fa a : Addr} {fd : FuncData} {x : Str} {sp : Sp} {s₁ : Shared} {vs : List Value} {ns : List Int}
    (KX : K.In s₁.heap) (hns : s₁.heap.Ns mainGlobals mg) (hb : s₁.heap.Ns builtinsNs mb) (hbb : ∀ x : Str, x ≠ "__name__" → mb x = bootBuiltins x) (hlim : s₁.heap.NoLimit) (hg : s₁.gens = #[])
    (ha : s₁.heap.get? a = some { cls := .type "list", data := .seq vs.toArray }) (hi : IntsAre vs ns) (hl : ns.length ≤ sizeLine) (hr : Room k callerA)
    (F : ∀ base : Heap, K.In base → base.Ns mainGlobals mg → FnG P w K mg base CX0 k fa fd [x] sp) (hbind : ∀ (s : Shared) (u : Value), BindsTo s fd ⟨[u], []⟩ [(x, u)])
    (hsp : ∀ H : Hp, Only H → SqL K H a (ns.map V.int) → sp [.ref a] H (fun v _ => v = .bl true) fun _ _ _ => False) :
    codeAny (model P w) callerA (.call (.ref fa) ⟨[.ref a], []⟩) (fun r s' => r = .ok (.ret (.bool true)) ∧ OldK s₁.heap s'.heap ∧ s'.os = s₁.os ∧ AllBare s'.gens) s₁ := by
  have rv := vals_ints hi
  have hlv : vs.length = ns.length := hi.length
  by_cases hk : K.lookup a = none
  · have h1 : scriptHp a { cls := .type "list", data := .seq vs.toArray } (ns.map V.int) a = some (.frz { cls := .type "list", data := .seq vs.toArray } (.lst (ns.map V.int))) := if_pos rfl
    have hO : Only (scriptHp a { cls := .type "list", data := .seq vs.toArray } (ns.map V.int)) := fun b => by
      by_cases hba : b = a
      · exact .inr ⟨_, _, by rw [hba]; exact h1⟩
      · exact .inl (if_neg hba)
    refine law_runG KX hns hb hbb hlim hg ha hr F hbind hO (fun b u z => ?_) (fun b z => ?_) (fun _ => hk) (hsp _ hO (.inl (.inr ⟨_, h1⟩)))
    · by_cases hba : b = a
      · have z' := (show scriptHp a _ _ b = _ from if_pos hba).symm.trans z
        cases z'
        rw [hba]
        exact ⟨ha, by rw [List.length_map]; exact hl, vs, _, rv, ha⟩
      · have z' := (show scriptHp a _ _ b = none from if_neg hba).symm.trans z
        cases z'
    · by_cases hba : b = a
      · exact hba
      · exact absurd (if_neg hba) z
  · obtain ⟨o, ho⟩ := Option.ne_none_iff_exists'.mp hk
    have e := KX a o ho
    rw [ha] at e
    have e' := Option.some.inj e
    subst e'
    exact law_runG (H := fun _ => none) KX hns hb hbb hlim hg ha hr F hbind (fun _ => .inl rfl) (fun b u z => (by cases (show (none : Option HO) = some u from z))) (fun b z => absurd rfl z) (fun z => absurd rfl z) (hsp _ (fun _ => .inl rfl) (.inr ⟨_, vs.toArray, _, ho, rfl, rfl, rfl, by rw [List.size_toArray, hlv]; exact hl, by simpa using rv⟩))
end Bk
namespace PySem.W
open PySem PySem.Spec PyProof.Rows
theorem walk_ofBG {l : PySem.W.OpenLaw} {n k : Nat} {q : Program} {loose : List Str} {XP : (Str → Option Value) → Heap → Prop} {YP : World → Heap → Prop} {d : DefRec} {K : Params → PySem.W.Frag} {CX : World → L2.CXT} {sp : World → L2.Sp} {x : Str}
    (hn : l.most = some n) (hn2 : n ≤ sizeLine) (hdf : d.params.defaults = []) (hr : L2.Room k callerA)
    (hY : ∀ (w : World) (h : Heap), YP w h → (K w.params).In h)
    (F : ∀ (w : World) (mg : Str → Option Value) (fa : Addr) (h : Heap), (K w.params).In h → h.Ns mainGlobals mg → mg d.name = some (.ref fa) →
      ∃ fd : FuncData, (∀ (s : Shared) (u : Value), BindsTo s fd ⟨[u], []⟩ [(x, u)]) ∧
        ∀ base : Heap, (K w.params).In base → base.Ns mainGlobals mg → Bk.FnG l.prog w (K w.params) mg base L2.CX0 k fa fd [x] (sp w))
    (hsp : ∀ (w : World) (H : L2.Hp) (a : Addr) (ns : List Int), ns.length ≤ n → (∀ z ∈ ns, Builtin.Int.intBits z ≤ 1048576) → L2.Only H → L2.SqL (K w.params) H a (ns.map L2.V.int) → sp w [.ref a] H (fun v _ => v = .bl true) fun _ _ _ => False) :
    PySem.W.WalkO q loose XP YP l.row.toRowW d [] (fun f vs => PySem.call f vs) :=
  Att.attach_callB hn hdf fun w s₀ s₁ mg mb fa o pm cd doc a vs ns G Y ho hd hcd hmg hobj hints hlen hbits hg => by
    obtain ⟨fd, hb, hF⟩ := F w mg fa s₁.heap (hY w s₁.heap Y) G.T.g hmg
    exact Bk.law_callG (hY w s₁.heap Y) G.T.g G.T.b G.T.builtins G.T.nolimit hg hobj hints (Nat.le_trans hlen hn2) hr hF hb fun H hO hS => hsp w H a ns hlen hbits hO hS
end PySem.W

namespace Bk
open PySem PySem.Spec PyProof.Rows L2
open Evl (Ex Ev EvT EvL EvU EvA)
/-! ### d[r], r in d: r a tuple of ints that is known as data -/
/-- what a dict with roads as keys has at a road that is told by y -/
def RGet (K : PySem.W.Frag) (H : Hp) (a : Addr) (y : V) (o : Option V) : Prop := ∃ (kvs : List (List Key × V)) (k : List Key) (b : Addr), H a = some (.dT kvs) ∧ y = .ref b ∧ SqT K H b (k.map kV) ∧ o = valV kvs k
def tRGet (K : PySem.W.Frag) (td ty : TE) : TE := fun σ H Q => td σ H fun x H1 => ty σ H1 fun y H2 => ∃ a v, x = .ref a ∧ RGet K H2 a y (some v) ∧ Q v H2
def rRIn (K : PySem.W.Frag) (neg : Bool) : R2 := fun y x H Q => ∃ a o, x = .ref a ∧ RGet K H a y o ∧ Q (.bl (if neg then !o.isSome else o.isSome)) H
section
variable {X : Cx} {pins : List (Addr × Obj)} {σ : L2.St} {H : Hp} {s : Shared}
theorem key_ofS {ks : List Key} {a : Addr} (I : Inv X pins σ H s) (h : SqT X.K H a (ks.map kV)) : (tupleKind (mixKind X.prog X.w)).is s.heap ks a := by
  obtain ⟨its, r, ⟨o, ho, hc, n, hd⟩, _⟩ := I.tuple h
  exact ⟨o, its.toArray, n, ho, hc, hd, by simpa using items_are r⟩
variable {o i : Expr} {pos : Pos} {td ty : TE}
theorem pe_rget (hu : X.A.units + 1 < cLine) (ho : PE X o td) (hi : PE X i ty) (hs : NoSl i) : PE X (.Subscript o i pos) (tRGet X.K td ty) := ⟨fun pins s σ H Q I h =>
  subD_of PySem.F.slot_dict_getitem.lookup hs (thn (ho.run pins s σ H _ I h) fun u s1 ⟨x, H1, I1, rx, q1⟩ => thn (hi.run pins s1 σ H1 _ I1 q1) fun iv s2 ⟨y, H2, I2, ry, a, v, ex, ⟨kvs, k, b, e, ey, eb, l⟩, q2⟩ => by
    subst ex
    subst ey
    obtain rfl : u = Value.ref a := rx
    cases (show iv = Value.ref b from ry)
    obtain ⟨z, hd, xs, rel, dd⟩ := dt_rd I2.hok (.inl e)
    obtain ⟨w', hw, rw'⟩ := RelO.some_of (v := v) (o := (atKey xs k).map (·.2)) (by rw [l]; exact rel.val k)
    obtain ⟨p, hp, hp2⟩ := Option.map_eq_some_iff.mp hw
    refine ⟨dd.typeIs, wpAny_getItem_heap (tupleKind_room_in1 hu) (key_ofS I2 eb) dd hp ?_⟩
    rw [hp2]
    exact ⟨v, H2, I2.tok _, rw', q2⟩)⟩
theorem op_rin (hu : X.A.units + 1 < cLine) : OpR X (compareOp .In) (rRIn X.K false) := by
  intro pins s σ H y x v u Q I ry rx h
  obtain ⟨a, ov, ex, ⟨kvs, k, b, e, ey, eb, l⟩, q⟩ := h
  subst ex
  subst ey
  obtain rfl : u = Value.ref a := rx
  cases (show v = Value.ref b from ry)
  obtain ⟨z, hd, xs, rel, dd⟩ := dt_rd I.hok (.inl e)
  refine wpAny_in_heap (tupleKind_room_in1 hu) (key_ofS I eb) hd dd ?_
  have q2 := (rel.val k).isSome_eq
  rw [Option.isSome_map, ← l] at q2
  rw [← q2]
  exact ⟨.bl ov.isSome, H, I.tok _, rfl, q⟩
theorem op_rnin (hu : X.A.units + 1 < cLine) : OpR X (compareOp .NotIn) (rRIn X.K true) := by
  intro pins s σ H y x v u Q I ry rx h
  obtain ⟨a, ov, ex, ⟨kvs, k, b, e, ey, eb, l⟩, q⟩ := h
  subst ex
  subst ey
  obtain rfl : u = Value.ref a := rx
  cases (show v = Value.ref b from ry)
  obtain ⟨z, hd, xs, rel, dd⟩ := dt_rd I.hok (.inl e)
  refine wpAny_notIn_heap (tupleKind_room_in1 hu) (key_ofS I eb) hd dd ?_
  have q2 := (rel.val k).isSome_eq
  rw [Option.isSome_map, ← l] at q2
  rw [← q2]
  exact ⟨.bl (!ov.isSome), H, I.tok _, rfl, q⟩
end
end Bk

namespace Bk
open PySem PySem.Spec PyProof.Rows L2
open Evl (Ex Ev EvT EvL EvU EvA)
/-! ### sum of a tuple of ints -/
def rSumT (K : PySem.W.Frag) : List V → Hp → VK → Prop := fun vs H Q => ∃ (a : Addr) (ns : List Int), vs = [V.ref a] ∧ SqT K H a (ns.map V.int) ∧ Q (.int ns.sum) H
theorem cr_sumT {X : Cx} (hc : X.calm = true) : CallR X (.builtin "sum") (rSumT X.K) := by
  intro pins s σ H vs us Q I r h
  obtain ⟨a, ns, rfl, hs, q⟩ := h
  obtain ⟨its, rv, ht, _⟩ := I.tuple hs
  rw [Vals.ref1 r]
  obtain ⟨xs, e⟩ := rv.ints.allInts.items
  have hn : numsOf (intItems xs).toList = ns := by rw [← e]; exact rv.ints.numsOf
  rw [nums_intItems] at hn
  rw [e] at ht
  refine PySem.W.ktm_sumG (I.ok.hd hc) ht fun h' tk t' hk => ?_
  rw [preSum_eq, List.take_of_length_le (by simp), hn]
  exact ⟨.int _, H, I.kept hk, ⟨_, rfl⟩, q⟩
theorem dp_ints {K : PySem.W.Frag} {H : Hp} : ∀ (ns : List Int) (xs : List V), DpAll K H xs (ns.map .int) → xs = ns.map V.int
  | [], _, h => by cases h; rfl
  | n :: ns, _, h => by
    cases h with
    | cons h1 h2 => rw [dp_int h1, dp_ints ns _ h2]; rfl
theorem ed_sumT {K : PySem.W.Frag} {σ : L2.St} {H : Hp} {te : TE} {ns : List Int} (h : EvD K te σ H (.tuple (ns.map .int))) : EvD K (tCB (rSumT K) (tCons te tNil)) σ H (.int ns.sum) := fun H1 a R r => h H1 a _ fun v H2 e2 hv => by
  obtain ⟨p, xs, rfl, hxs, hxa⟩ := dp_tup hv
  have ex := dp_ints ns xs hxa
  rw [ex] at hxs
  exact ⟨p, ns, rfl, hxs, r _ _ e2 (.int _)⟩
end Bk

namespace Bk
open PySem PySem.Spec PyProof.Rows L2
open Evl (Ex Ev EvT EvL EvU EvA)
/-! ### defs where no text is being shown, by slots -/
section
variable {P : Program} {w : World} {K : PySem.W.Frag} {mg : Str → Option Value} {base : Heap}
theorem okEg {α : Type} {n : Nat} {enc : α → List AV} {ok : α → Prop} {res : α → AV → Prop} {x qual : Str} {st : Stmt} {f : Addr} {fd : FuncData} {N ps : List Str} {k : Nat} (F : Fun K x qual st f fd) (S : FnScope N ps (defScope st)) (hn : ps.length = n)
    (hbody : ∀ (cdv : Value) (A : Around) (outer : List PySem.Env) (s : Shared) (H : Hp) (E : XK), (A.deeper (envOfC qual (defScope st) s.heap.objs.size f cdv)).guards = some [] → Room k (A.deeper (envOfC qual (defScope st) s.heap.objs.size f cdv)) →
      ∃ t, PSs (cxOf CX0 P w K mg base N qual (defScope st) f cdv A outer s H E).nox (defBody st) t ∧ ∀ (c : Option Addr) (H0 : Hp) (x : α), ok x → SG K c H0 t ((enc x).map some ++ List.replicate (N.length - n) none) (fun _ => res x (.d .none)) (res x)) :
    FnG P w K mg base CX0 (k + 1) f fd ps (spE K n enc ok res) := by
  refine Bk.Fun.okg F S (fun vs H Q E h => h.1.trans hn.symm) (fun cdv A outer s H vs Q E hgd hr h => ?_)
  obtain ⟨hl, c, y, ha, hc, ho, q⟩ := h
  obtain ⟨t, ht, hS⟩ := hbody cdv A outer s H E hgd hr
  have hS := hS c H y ho
  rw [← hl] at hS
  exact ⟨t, ht, sg_run ha hc hS (fun _ z => z) q⟩
end
/-! repr -/
structure Rep (d : PyData) : Prop where
  sh : d.showable = true
  nd : d.hasDict = false
  dp : d.depth ≤ 60
  sz : d.shown.length ≤ sizeLine
/-- an int that is short -/
def Sm (i : Int) : Prop := 0 ≤ i ∧ i ≤ 999999999999
theorem Sm.log {i : Int} (h : Sm i) : i.natAbs.log2 ≤ 39 := by
  obtain ⟨h1, h2⟩ := h
  have : i.natAbs < 2 ^ 40 := by
    have e : (2 : Nat) ^ 40 = 1099511627776 := by decide
    omega
  by_cases z : i.natAbs = 0
  · rw [z]; decide
  · have := (Nat.log2_lt z).mpr this; omega
theorem Sm.weight {i : Int} (h : Sm i) : (PyData.int i).weight ≤ 40 := by
  unfold PyData.weight
  have := h.log
  split <;> omega
theorem ints_all (ns : List Int) (h : ∀ n ∈ ns, Sm n) : PyData.canLayAll0 (ns.map .int) = true ∧ PyData.showableAll (ns.map .int) = true ∧ PyData.hasDictAll (ns.map .int) = false ∧ PyData.depthAll (ns.map .int) = 0 ∧ PyData.weightAll (ns.map .int) ≤ 41 * ns.length ∧ PyData.intsShortAll 13 (ns.map .int) = true := by
  refine ⟨?_, ?_, ?_, ?_, ?_, intsShortAll_ints2 ns fun n hn => by obtain ⟨a, b⟩ := h n hn; omega⟩
  all_goals induction ns with
    | nil => first | rfl | exact Nat.le_refl _
    | cons n l ih =>
      have hn := h n List.mem_cons_self
      have ih := ih fun m hm => h m (List.mem_cons_of_mem _ hm)
      have hl := hn.log
      have hw := hn.weight
      rw [List.map_cons]
      first
        | (simp only [PyData.canLayAll0, PyData.canLay0, ih]; rfl)
        | (simp only [PyData.showableAll, PyData.showable, ih]; simp; omega)
        | (simp only [PyData.hasDictAll, PyData.hasDict, ih]; rfl)
        | (simp only [PyData.depthAll, PyData.depth, ih]; rfl)
        | (simp only [PyData.weightAll, List.length_cons]; omega)
theorem rep_of {d : PyData} (h1 : d.canLay0 = true) (h2 : d.showable = true) (h3 : d.hasDict = false) (h4 : d.depth ≤ 60) (h5 : d.weight ≤ 2 ^ 20) (h6 : d.intsShort 13 = true) : Rep d := ⟨h2, h3, h4, by
  have hl : PyData.layable0 d = true := by
    unfold PyData.layable0
    rw [h1, decide_eq_true (show d.depth ≤ 64 by omega), decide_eq_true h5]; rfl
  have := shown_le13 hl h6
  rw [sizeLine_eq]
  omega⟩
section
variable {K : PySem.W.Frag} {c : Option Addr} {H0 : Hp} {Γ Γ1 Γ2 : GE} {te tb tl : TE} {ta tr : TA} {tt tu : TT} {d e : PyData} {ds es : List PyData} {i j : Nat} {N : GE → Prop} {Rt : AV → Prop} {rest : TS}
theorem ev_repr {σ : L2.St} {H : Hp} (h : EvD K te σ H d) (hR : Rep d) (hd : (∃ l, d = .list l) ∨ ∃ l, d = .tuple l) : Ev (tCB (rReprD K) (tCons te tNil)) σ H (.str d.shown) := fun H1 a R r => h H1 a _ fun v H2 e2 hv => by
  refine .inl ⟨v, d, rfl, hv, hR.sh, hR.nd, hR.dp, hR.sz, ?_, r H2 e2⟩
  rcases hd with ⟨l, rfl⟩ | ⟨l, rfl⟩
  · obtain ⟨p, _, rfl, _⟩ := dp_lst hv; exact ⟨_, rfl⟩
  · obtain ⟨p, _, rfl, _⟩ := dp_tup hv; exact ⟨_, rfl⟩
theorem ev_reprB {σ : L2.St} {H : Hp} {b : Bool} (h : Ev te σ H (.bl b)) : Ev (tCB (rReprD K) (tCons te tNil)) σ H (.str (if b then "True" else "False")) := fun H1 a R r => h H1 a _ fun H2 e2 => .inr (.inl ⟨b, rfl, r H2 e2⟩)
theorem ev_reprN {σ : L2.St} {H : Hp} (h : Ev te σ H .non) : Ev (tCB (rReprD K) (tCons te tNil)) σ H (.str "None") := fun H1 a R r => h H1 a _ fun H2 e2 => .inr (.inr ⟨rfl, r H2 e2⟩)
theorem sg_parG (h1 : EvG K c H0 te Γ d) (h2 : EvG K c H0 tb Γ e) (k : SG K c H0 rest ((Γ.set i (some (.d d))).set j (some (.d e))) N Rt) : SG K c H0 (tSeq (tPar i j (tCons te (tCons tb tNil))) rest) Γ N Rt := fun D σ H w hn hr => h1 w _ fun v H1 e1 hv => h2 (w.ex e1) _ fun u H2 e2 hu => by
  have w1 := w.ex e1
  have w2 := w1.ex e2
  have x1 : Ex (hd c Γ H) (hd c Γ H1) := hd_ex (.ex w.cup e1)
  have x2 : Ex (hd c Γ H1) (hd c Γ H2) := hd_ex (.ex w1.cup e2)
  obtain ⟨a1, b1⟩ := w2.setX (i := i) (Dp.ex x2 _ _ hv)
  obtain ⟨a2, b2⟩ := a1.setX (i := j) (Dp.ex b1 _ _ hu)
  exact ⟨_, _, rfl, k D _ H2 a2 (fun σ' H' Γ' a x q => hn σ' H' Γ' a (((((x1.trans x2).trans b1).trans b2)).trans x) q) hr⟩
/-! more readings -/
theorem ed_minL {σ : L2.St} {H : Hp} {ns : List Int} {m : Int} (h : EvD K te σ H (.list (ns.map .int))) (hm : m ∈ ns) (hl : ∀ y ∈ ns, m ≤ y) : EvD K (tCB (rMin K) (tCons te tNil)) σ H (.int m) := fun H1 a R r => h H1 a _ fun v H2 e2 hv => by
  obtain ⟨p, xs, rfl, hxs, hxa⟩ := dp_lst hv
  rw [dp_ints ns xs hxa] at hxs
  refine ⟨p, ns, rfl, hxs, List.length_pos_iff.mpr (List.ne_nil_of_mem hm), fun m' h1 h2 => ?_⟩
  have : m' = m := Int.le_antisymm (h2 m hm) (hl m' h1)
  rw [this]
  exact r _ _ e2 (.int _)
theorem ed_maxL {σ : L2.St} {H : Hp} {ns : List Int} {m : Int} (h : EvD K te σ H (.list (ns.map .int))) (hm : m ∈ ns) (hl : ∀ y ∈ ns, y ≤ m) : EvD K (tCB (rMax K) (tCons te tNil)) σ H (.int m) := fun H1 a R r => h H1 a _ fun v H2 e2 hv => by
  obtain ⟨p, xs, rfl, hxs, hxa⟩ := dp_lst hv
  rw [dp_ints ns xs hxa] at hxs
  refine ⟨p, ns, rfl, hxs, List.length_pos_iff.mpr (List.ne_nil_of_mem hm), fun m' h1 h2 => ?_⟩
  have : m' = m := Int.le_antisymm (hl m' h1) (h2 m hm)
  rw [this]
  exact r _ _ e2 (.int _)
theorem ev_eqI {σ : L2.St} {H : Hp} {a b : Int} (h1 : EvD K te σ H (.int a)) (h2 : EvD K tb σ H (.int b)) : Ev (tOp rEq te tb) σ H (.bl (decide (a = b))) := fun H1 x R r => ev_ofI h1 H1 x _ fun H2 e2 => ev_ofI h2 H2 (x.trans e2) _ fun H3 e3 => ⟨rfl, by
  have e : (V.bl (decide (a = b))) = V.bl (decide ((V.int a) = V.int b)) := by
    congr 1
    by_cases q : a = b
    · subst q; simp
    · rw [decide_eq_false q, decide_eq_false fun z => q (V.int.inj z)]
  rw [← e]
  exact r _ (e2.trans e3)⟩
theorem ev_neS {σ : L2.St} {H : Hp} {a : Str} (h1 : Ev te σ H (.str a)) (h2 : Ev tb σ H (.str a)) : Ev (tOp rNe te tb) σ H (.bl false) := fun H1 x R r => h1 H1 x _ fun H2 e2 => h2 H2 (x.trans e2) _ fun H3 e3 => ⟨rfl, by
  have e : (!decide (V.str a = V.str a)) = false := by simp
  rw [e]
  exact r _ (e2.trans e3)⟩
end
end Bk

namespace Bk
open PySem PySem.Spec PyProof.Rows L2
open Evl (Ex Ev EvT EvL EvU EvA)
/-! ### more readings, by slots -/
def rIsN0 : R2 := fun x y H Q => y = .non ∧ Q (.bl (decide (x = .non))) H
def rNotN0 : R2 := fun x y H Q => y = .non ∧ Q (.bl (!decide (x = .non))) H
theorem op_isN0 {X : Cx} : OpR X (compareOp .Is) rIsN0 := op_isN
theorem op_notN0 {X : Cx} : OpR X (compareOp .IsNot) rNotN0 := op_notN
theorem rv_isN1 {x : V} {H : Hp} : Evl.RV rIsN0 x .non H (.bl (decide (x = .non))) := fun H1 _ _ q => ⟨rfl, q H1 (Ex.refl H1)⟩
theorem rv_notN1 {x : V} {H : Hp} : Evl.RV rNotN0 x .non H (.bl (!decide (x = .non))) := fun H1 _ _ q => ⟨rfl, q H1 (Ex.refl H1)⟩
theorem shaped_lay {d : PyData} (h : SeqAt.shaped d = true) : d.canLay0 = true := by
  have h1 : (d.canLay0 && decide (d.depth ≤ 64)) = true := h
  rw [Bool.and_eq_true] at h1
  exact h1.1
theorem shaped_of {d : PyData} (h : d.canLay0 = true) (h2 : d.depth ≤ 64) : SeqAt.shaped d = true := by
  show (d.canLay0 && decide (d.depth ≤ 64)) = true
  rw [h, decide_eq_true h2]; rfl
section
variable {K : PySem.W.Frag} {c : Option Addr} {H0 : Hp} {Γ : GE} {te tb tl : TE} {ta : TA} {d e : PyData} {ds es : List PyData} {i : Nat} {σ : L2.St} {H : Hp}
theorem ev_neSelf (h1 : EvD K te σ H d) (h2 : EvD K tb σ H d) (hs : SeqAt.shaped d = true) : Ev (tOp (rNeD K) te tb) σ H (.bl false) := by
  have := ev_neD h1 h2 hs hs
  rw [PySem.SeqAt.eqv_refl d (shaped_lay hs)] at this
  exact this
theorem ev_eqSelf (h1 : EvD K te σ H d) (h2 : EvD K tb σ H d) (hs : SeqAt.shaped d = true) : Ev (tOp (rEqD K) te tb) σ H (.bl true) := by
  have := ev_eqD h1 h2 hs hs
  rw [PySem.SeqAt.eqv_refl d (shaped_lay hs)] at this
  exact this
theorem ev_notN0 (h : EvD K te σ H .none) : Ev (tOp rNotN0 te (tC .non)) σ H (.bl false) := fun H1 a R r => h H1 a _ fun v H2 e2 hv => by
  cases hv
  exact ⟨rfl, r _ e2⟩
theorem ev_notN1 (h : EvD K te σ H (.tuple ds)) : Ev (tOp rNotN0 te (tC .non)) σ H (.bl true) := fun H1 a R r => h H1 a _ fun v H2 e2 hv => by
  obtain ⟨p, xs, rfl, _⟩ := dp_tup hv
  exact ⟨rfl, r _ e2⟩
theorem ev_isN0 (h : EvD K te σ H .none) : Ev (tOp rIsN0 te (tC .non)) σ H (.bl true) := fun H1 a R r => h H1 a _ fun v H2 e2 hv => by
  cases hv
  exact ⟨rfl, r _ e2⟩
theorem ev_isN1 (h : EvD K te σ H (.tuple ds)) : Ev (tOp rIsN0 te (tC .non)) σ H (.bl false) := fun H1 a R r => h H1 a _ fun v H2 e2 hv => by
  obtain ⟨p, xs, rfl, _⟩ := dp_tup hv
  exact ⟨rfl, r _ e2⟩
theorem sg_assoc {a b : TS} {N : GE → Prop} {Rt : AV → Prop} {rest : TS} (h : SG K c H0 (tSeq a (tSeq b rest)) Γ N Rt) : SG K c H0 (tSeq (tSeq a b) rest) Γ N Rt := h
/-- a list of its own and a new one -/
theorem eo_cat {p : Addr} (h1 : At Γ i (.own p ds)) (h2 : EvO K c H0 tb Γ es) (hz : ds.length + es.length ≤ 100000) : EvO K c H0 (tOp rCat (tVar i) tb) Γ (ds ++ es) := fun σ H e R r => by
  obtain ⟨a1, _, _, _, us, a5, a6⟩ := e.ow i p ds h1
  refine ⟨_, a1, h2 e _ fun p2 H2 us2 hp2 e2 hL2 hA2 => ⟨p, p2, us, us2, rfl, rfl, e2 _ _ a5, hL2, Evl.sz_of (by rw [DpAll.len a6, DpAll.len hA2]; exact hz), fun q hq => ?_⟩⟩
  have e3 := ex_new (o := .lst (us ++ us2)) hq
  exact r q _ (us ++ us2) (Evl.fresh_back e2 hq) (e2.trans e3) upd_same (DpAll.ex e3 _ _ (DpAll.app (DpAll.ex e2 _ _ (DpAll.ex hd_sub _ _ a6)) hA2))
/-- a, b, c, e = .. -/
theorem gt_four {Γ : GE} {i j k l : Nat} {x y z u : PyData} (h1 : d = .tuple [x, y, z, u]) : GtG K c H0 (gTup K 4 (gCons (gName i) (gCons (gName j) (gCons (gName k) (gCons (gName l) gNil))))) Γ d ((((Γ.set i (some (.d x))).set j (some (.d y))).set k (some (.d z))).set l (some (.d u))) := fun σ H v e hv Q q => by
  subst h1
  obtain ⟨a, xs, rfl, hs, hA⟩ := dp_tup hv
  cases hA with
  | cons h1 h2 =>
    cases h2 with
    | cons h3 h4 =>
      cases h4 with
      | cons h5 h6 =>
        cases h6 with
        | cons h7 h8 =>
          cases h8
          obtain ⟨a1, b1⟩ := e.setX (i := i) h1
          obtain ⟨a2, b2⟩ := a1.setX (i := j) (Dp.ex b1 _ _ h3)
          obtain ⟨a3, b3⟩ := a2.setX (i := k) (Dp.ex (b1.trans b2) _ _ h5)
          obtain ⟨a4, b4⟩ := a3.setX (i := l) (Dp.ex ((b1.trans b2).trans b3) _ _ h7)
          exact ⟨a, _, rfl, Evl.ex_t hd_sub hs, rfl, _, _, rfl, _, _, rfl, _, _, rfl, _, _, rfl, rfl, q _ a4 (((b1.trans b2).trans b3).trans b4)⟩
theorem etp_andF {tt tu : TT} {b : Bool} (h1 : EtH K c H0 tt Γ b) (h2 : EtP K c H0 tu Γ (· = false)) : EtP K c H0 (tAnd tt tu) Γ (· = false) := fun σ H e R r => h1 e H (Ex.refl H) _ fun H1 e1 => by
  cases b with
  | true => exact h2 (e.ex e1) _ fun b H2 w q => r b H2 ((Wd.ex e.cup e1).trans w) q
  | false => exact r false H1 (.ex e.cup e1) rfl
/-- [x for x in t if ..], t a tuple -/
theorem ed_lcTf {tl : TE} {ps : List (PyData × Bool)} {j : Nat} {vs : List Nat} {tt : TT} (h : EvD K tl σ H (.tuple (ps.map (·.1)))) (hz : ps.length ≤ 40000) (hw : ∀ x, wipe ((wipe σ vs).set j (some x)) vs = wipe σ vs) (hj : j < σ.length)
    (hl : (wipe σ vs).length = σ.length) (ht : ∀ (p : PyData × Bool) (x : V) H1, Ex H H1 → p ∈ ps → Dp K H1 x p.1 → EvT tt ((wipe σ vs).set j (some x)) H1 p.2) :
    EvD K (tLc (iTup K tl) (gName j) tt (tVar j) vs) σ H (.list ((ps.filter (·.2)).map (·.1))) := fun H0 a R r => h H0 a _ fun v H1 e1 hv => by
  obtain ⟨p, xs, rfl, hxs, hxa⟩ := dp_tup hv
  have hlen : xs.length = ps.length := by rw [DpAll.len hxa, List.length_map]
  refine ⟨p, rfl, ⟨xs, hxs⟩, fun Dl hD => lc_tup (xs := xs) (fun i H' => Ex H1 H' ∧ ∃ us, H' Dl = some (.lst us) ∧ DpAll K H1 us (((ps.take i).filter (·.2)).map (·.1))) ⟨ex_new hD, [], upd_same, by rw [List.take_zero]; exact .nil⟩ (fun i H' _ q => Evl.ex_t q.1 hxs) (fun i x H' hi q => ⟨hw x, ?_⟩) (fun H' q => ?_)⟩
  · obtain ⟨e, us, hL, hA⟩ := q
    obtain ⟨d, hd, hdx⟩ := DpAll.get hxa hi
    rw [List.getElem?_map] at hd
    obtain ⟨pr, hpr, rfl⟩ := Option.map_eq_some_iff.mp hd
    have htk : ps.take (i + 1) = ps.take i ++ [pr] := by rw [List.take_add_one, hpr]; rfl
    have hle : us.length ≤ i := by
      rw [DpAll.len hA, List.length_map]
      exact Nat.le_trans (List.length_filter_le _ _) (by rw [List.length_take]; omega)
    have hi2 : i < ps.length := by have := (List.getElem?_eq_some_iff.mp hi).1; omega
    refine ht pr x H1 (a.trans e1) (List.mem_of_getElem? hpr) hdx H' e _ fun H2 e2 => ?_
    cases hb : pr.2 with
    | true =>
      refine ⟨x, by rw [List.getElem?_set, if_pos rfl, if_pos (by rw [hl]; exact hj)], us, e2 _ _ hL, Evl.sz_lt (by omega), Evl.Ex.mut (e.trans e2) hD, _, upd_same, ?_⟩
      rw [htk, List.filter_append, List.map_append, List.filter_cons, if_pos hb]
      exact DpAll.snoc hA hdx
    | false =>
      refine ⟨e.trans e2, us, e2 _ _ hL, ?_⟩
      rw [htk, List.filter_append, List.map_append, List.filter_cons, if_neg (by rw [hb]; simp)]
      simpa using hA
  · obtain ⟨e, us, hL, hA⟩ := q
    rw [hlen, List.take_length] at hA
    exact r _ H' (e1.trans e) (.lst (SqL.of hL) (DpAll.ex e _ _ hA))
theorem ed_callE {α : Type} {n : Nat} {enc : α → List AV} {ok : α → Prop} {res : α → AV → Prop} {E : XK} (x : α) (ha : EvAD K ta σ H ds) (hx : enc x = ds.map AV.d) (hf : fzA ds = true) (ho : ok x) (hr : ∀ r, res x r → r = .d d) (hn : ds.length = n := by rfl) : EvD K (tCall (spE K n enc ok res) [] E ta) σ H d :=
  ed_call ha fun vs H1 e1 hv R r => ⟨(DpAll.len hv).trans hn, none, x, by rw [hx]; exact ars_of hv hf, (fun a q => by cases q), ho, fun v H' rr hF hR => by
    have := hr rr hR
    subst this
    exact r v H' hF.1.toEx hF.2⟩
theorem ev_isB {a b : Bool} (h1 : Ev te σ H (.bl a)) (h2 : Ev tb σ H (.bl b)) : Ev (tOp rIsB te tb) σ H (.bl (decide (a = b))) := fun H1 x R r => h1 H1 x _ fun H2 e2 => h2 H2 (x.trans e2) _ fun H3 e3 => ⟨a, b, rfl, rfl, r _ (e2.trans e3)⟩
end
end Bk

/-! ### operators -/
namespace Fx
open PySem PySem.Spec PyProof.Rows L2
open Bk (Dp.ex DpAll.ex DpAll.len DpAll.get DpAll.get' DpAll.app DpAll.take DpAll.drop DpAll.snoc dp_tup dp_lst dp_int dp_str dp_bl ex_new)
open Evl (Ex)
/-! + -/
def rCatL (K : PySem.W.Frag) : R2 := fun x y H Q => ∃ l b xs zs, x = .ref l ∧ y = .ref b ∧ SqL K H l xs ∧ SqL K H b zs ∧ xs.length + zs.length ≤ sizeLine ∧ ∀ p, H p = none → Q (.ref p) (upd H p (.lst (xs ++ zs)))
theorem op_catL {X : Cx} : OpR X (binaryOp .Add) (rCatL X.K) := by
  intro pins s σ H x y v u Q I rx ry h
  obtain ⟨l, b, xs, zs, rfl, rfl, hH, hB, hz, q⟩ := h
  cases rx
  cases ry
  obtain ⟨its, r, ⟨⟨cls, dd, data, sl⟩, n, ho, hc, _, hd⟩, z⟩ := I.list hH
  obtain ⟨its2, r2, ⟨⟨cls2, dd2, data2, sl2⟩, n2, ho2, hc2, _, hd2⟩, z2⟩ := I.list hB
  simp only at hc hd hc2 hd2
  subst hc hd hc2 hd2
  have e : its.toArray ++ its2.toArray = (its ++ its2).toArray := by simp
  refine concat_meets ⟨_, ho, rfl⟩ ⟨_, ho2, rfl⟩ noFill_list_add seq_list_add PySem.F.slot_list_add PySem.F.entry_list_add (PySem.F.args_list_add_2 _ _) (list_addW l b its.toArray its2.toArray n n2 dd dd2 sl sl2 (by rw [List.size_toArray, List.size_toArray, ← r.length, ← r2.length]; exact hz)) ⟨ho, ho2, ?_⟩
  rw [e]
  exact ⟨.ref _, _, I.lnew (t' := s.toks) (r.append r2) (by rw [List.length_append]; omega), rfl, q _ I.fresh⟩
def plusD : PyData → PyData → Rs
  | .int i, .int j => .d (.int (i + j))
  | .str i, .str j => if i.length + j.length ≤ sizeLine then .d (.str (i ++ j)) else .no
  | .tuple xs, .tuple ys => if xs.length + ys.length ≤ sizeLine then .d (.tuple (xs ++ ys)) else .no
  | .list xs, .list ys => if xs.length + ys.length ≤ sizeLine then .c (.lst (xs ++ ys)) else .no
  | .int i, .bool b => .d (.int (i + (if b then 1 else 0)))
  | _, _ => .no
def rPlus (K : PySem.W.Frag) : R2 := fun x y H Q => rI0 (fun i j => .int (i + j)) x y H Q ∨ (∃ i j, x = .str i ∧ y = .str j ∧ i.length + j.length ≤ sizeLine ∧ Q (.str (i ++ j)) H) ∨ rCatA K x y H Q ∨ rCatL K x y H Q ∨ (∃ i k, x = .int i ∧ y = .bl k ∧ Q (.int (i + b2i k)) H)
theorem op_plus {X : Cx} : OpR X (binaryOp .Add) (rPlus X.K) := OpR.or op_add (OpR.or op_add_str (OpR.or op_catA (OpR.or op_catL op_add_ib)))
section
variable {K : PySem.W.Frag} {B : Fr} {R : List Addr} {s : S} {σ : L2.St} {H : Hp}
theorem post_no {Q : VK} (h : Post K B (vE K B) σ R s H (gv .no s) Q) : False := h
theorem post_if {c : Prop} [Decidable c] {r : Rs} {Q : VK} (h : Post K B (vE K B) σ R s H (gv (if c then r else .no) s) Q) : c ∧ Post K B (vE K B) σ R s H (gv r s) Q := by
  by_cases q : c
  · rw [if_pos q] at h; exact ⟨q, h⟩
  · rw [if_neg q] at h; exact (post_no h).elim
theorem nil_of_len {α β : Type} {l : List α} {m : List β} (h : l.length = m.length) : l = [] ↔ m = [] := by
  rw [← List.length_eq_zero_iff, h, List.length_eq_zero_iff]
theorem s_plus : Op2 K (rPlus K) (p2 plusD) := op_p2 fun B R s σ H v w a b Q e r1 r2 h => by
  unfold plusD at h
  split at h
  · rw [r1.int, r2.int]; exact .inl ⟨_, _, rfl, rfl, h.int e⟩
  · obtain ⟨q, h⟩ := post_if h
    rw [r1.str, r2.str]; exact .inr (.inl ⟨_, _, rfl, rfl, q, h.str e⟩)
  · rename_i ds es
    obtain ⟨q, h⟩ := post_if h
    obtain ⟨a, xs, rfl, h1, h2⟩ := r1.tup
    obtain ⟨b, ys, rfl, h3, h4⟩ := r2.tup
    have l1 := DpAll.len h2
    have l2 := DpAll.len h4
    refine .inr (.inr (.inl ⟨a, b, xs, ys, rfl, rfl, Evl.ex_t hd_sub h1, Evl.ex_t hd_sub h3, by omega, fun z => ?_, fun z1 z2 => ?_, fun z1 z2 p hp => ?_⟩))
    · subst z
      cases h2
      exact h.dat e (.tup h3 h4)
    · subst z2
      cases h4
      refine h.dat e ?_
      rw [List.append_nil]
      exact .tup h1 h2
    · exact h.tup e (DpAll.app h2 h4) hp
  · rename_i ds es
    obtain ⟨q, h⟩ := post_if h
    obtain ⟨a, xs, rfl, h1, h2⟩ := r1.lst hd_sub
    obtain ⟨b, ys, rfl, h3, h4⟩ := r2.lst hd_sub
    have l1 := DpAll.len h2
    have l2 := DpAll.len h4
    exact .inr (.inr (.inr (.inl ⟨a, b, xs, ys, rfl, rfl, h1, h3, by omega, fun p hp => h.lst e (DpAll.app h2 h4) hp⟩)))
  · rename_i i b
    rw [r1.int, r2.bool]; exact .inr (.inr (.inr (.inr ⟨_, _, rfl, rfl, by
      have : b2i b = (if b then 1 else 0) := by cases b <;> rfl
      rw [this]; exact h.int e⟩)))
  · exact (post_no h).elim
/-! the others -/
def minusD : PyData → PyData → Rs
  | .int i, .int j => .d (.int (i - j))
  | _, _ => .no
theorem s_minus : Op2 K (rI0 fun i j => .int (i - j)) (p2 minusD) := op_p2 fun B R s σ H v w a b Q e r1 r2 h => by
  unfold minusD at h
  split at h
  · rw [r1.int, r2.int]; exact ⟨_, _, rfl, rfl, h.int e⟩
  · exact (post_no h).elim
instance (i j : Int) : Decidable (Bk.CMulB i j) := inferInstanceAs (Decidable (_ < _))
def timesD : PyData → PyData → Rs
  | .int i, .int j => if (-(2 ^ 64) < i ∧ i < 2 ^ 64) ∨ (-(2 ^ 64) < j ∧ j < 2 ^ 64) ∨ Bk.CMulB i j then .d (.int (i * j)) else .no
  | .tuple xs, .int k => if xs ≠ [] ∧ 1 ≤ k ∧ k ≤ 1000 ∧ xs.length ≤ 1000 then .d (.tuple (List.replicate k.toNat xs).flatten) else .no
  | _, _ => .no
def timesL (xs : List PyData) (k : Int) : Rs := if -(2 ^ 63) ≤ k ∧ k < 2 ^ 63 ∧ xs.length * k.toNat ≤ sizeLine then .c (.lst (List.replicate k.toNat xs).flatten) else .no
def gTimes (x y : AV) (s : S) : Fx.R AV :=
  match cellOf s x, rd s y with
  | some (.lst xs), some (.int k) => gv (timesL xs k) s
  | _, _ => p2 timesD x y s
def CMulA (i j : Int) : Prop := (-(2 ^ 64) < i ∧ i < 2 ^ 64) ∨ (-(2 ^ 64) < j ∧ j < 2 ^ 64) ∨ Bk.CMulB i j
theorem CMulA.ok {i j : Int} (h : CMulA i j) : IntMulOk i j := by
  rcases h with h | h | h
  · exact CMul.ok (.inl h)
  · exact CMul.ok (.inr h)
  · exact h.ok
theorem op_mulA {X : Cx} : OpR X (binaryOp .Mult) (rI CMulA fun i j => .int (i * j)) := opI fun _ _ _ _ _ _ _ hc q => mul_int q hc.ok
theorem iop_mulA {X : Cx} : OpR X (inplaceOp .Mult) (rI CMulA fun i j => .int (i * j)) := opI fun _ _ _ _ _ _ _ hc q => imul_int q hc.ok
def rTimes (K : PySem.W.Frag) : R2 := fun x y H Q => rI CMulA (fun i j => .int (i * j)) x y H Q ∨ Bk.rRepT1 K x y H Q ∨ rRep x y H Q
theorem op_times {X : Cx} : OpR X (binaryOp .Mult) (rTimes X.K) := OpR.or op_mulA (OpR.or Bk.op_repT1 op_rep)
theorem dpAll_rep {Hh : Hp} : ∀ {xs : List V} {ds : List PyData} (k : Nat), DpAll K Hh xs ds → DpAll K Hh (List.replicate k xs).flatten (List.replicate k ds).flatten
  | xs, ds, 0, _ => by simp; exact .nil
  | xs, ds, k + 1, h => by
    rw [List.replicate_succ, List.replicate_succ, List.flatten_cons, List.flatten_cons]
    exact DpAll.app h (dpAll_rep k h)
theorem s_timesD {v w : V} {a b : PyData} {Q : VK} (e : Env K B R s σ H) (r1 : Dq K (hdS B R s H) H v a) (r2 : Dq K (hdS B R s H) H w b) (h : Post K B (vE K B) σ R s H (gv (timesD a b) s) Q) : rTimes K v w H Q := by
  unfold timesD at h
  split at h
  · obtain ⟨q, h⟩ := post_if h
    rw [r1.int, r2.int]; exact .inl ⟨_, _, rfl, rfl, q, h.int e⟩
  · rename_i ds k
    obtain ⟨⟨q1, q2, q3, q4⟩, h⟩ := post_if h
    obtain ⟨a, xs, rfl, h1, h2⟩ := r1.tup
    rw [r2.int]
    have l1 := DpAll.len h2
    refine .inr (.inl ⟨a, k, xs, rfl, rfl, Evl.ex_t hd_sub h1, fun z => q1 ((nil_of_len l1).mp z), q2, q3, by omega, fun z => ?_, fun z p hp => ?_⟩)
    · subst z
      refine h.dat e ?_
      rw [show (List.replicate (Int.toNat 1) ds).flatten = ds by simp]
      exact .tup h1 h2
    · exact h.tup e (dpAll_rep _ h2) hp
  · exact (post_no h).elim
theorem s_times : Op2 K (rTimes K) gTimes := fun B R s σ H v w x y Q e r1 r2 h => by
  unfold gTimes at h
  split at h
  · rename_i xs k hx hy
    unfold timesL at h
    obtain ⟨⟨q1, q2, q3⟩, h⟩ := post_if h
    obtain ⟨a, rfl, _, _, us, h1, h2⟩ := e.cell r1 hx
    rw [(e.rd r2 hy).int]
    have l1 := DpAll.len h2
    exact .inr (.inr ⟨a, k, us, rfl, rfl, h1, q1, q2, by rw [l1]; exact q3, fun p hp => h.lst e (dpAll_rep _ h2) hp⟩)
  · unfold p2 at h
    cases h1 : rd s x with
    | none => rw [h1] at h; exact h.elim
    | some a =>
      cases h2 : rd s y with
      | none => rw [h1, h2] at h; exact h.elim
      | some b =>
        rw [h1, h2] at h
        exact s_timesD e (e.rd r1 h1) (e.rd r2 h2) h
/-! ints -/
def divD : PyData → PyData → Rs
  | .int i, .int j => if 0 < j ∧ j.natAbs.log2 < 9000 then .d (.int (i / j)) else if j ≠ 0 ∧ j.natAbs < 1073741824 then .d (.int (i.fdiv j)) else .no
  | _, _ => .no
def rDiv : R2 := fun x y H Q => rI CDivW (fun i j => .int (i / j)) x y H Q ∨ rI CDivN (fun i j => .int (i.fdiv j)) x y H Q
theorem op_div {X : Cx} : OpR X (binaryOp .FloorDiv) rDiv := OpR.or op_fdivW op_fdivN
theorem s_div : Op2 K rDiv (p2 divD) := op_p2 fun B R s σ H v w a b Q e r1 r2 h => by
  unfold divD at h
  split at h
  · rename_i i j
    rw [r1.int, r2.int]
    by_cases q : 0 < j ∧ j.natAbs.log2 < 9000
    · rw [if_pos q] at h; exact .inl ⟨_, _, rfl, rfl, q, h.int e⟩
    · rw [if_neg q] at h
      obtain ⟨q2, h⟩ := post_if h
      exact .inr ⟨_, _, rfl, rfl, q2, h.int e⟩
  · exact (post_no h).elim
def modD : PyData → PyData → Rs
  | .int i, .int j => if 0 < j then .d (.int (i % j)) else if j ≠ 0 then .d (.int (i.fmod j)) else .no
  | _, _ => .no
def rMod : R2 := fun x y H Q => rI (fun _ j => 0 < j) (fun i j => .int (i % j)) x y H Q ∨ rI (fun _ j => j ≠ 0) (fun i j => .int (i.fmod j)) x y H Q
theorem op_modA {X : Cx} : OpR X (binaryOp .Mod) rMod := OpR.or op_mod op_modN
theorem s_mod : Op2 K rMod (p2 modD) := op_p2 fun B R s σ H v w a b Q e r1 r2 h => by
  unfold modD at h
  split at h
  · rename_i i j
    rw [r1.int, r2.int]
    by_cases q : 0 < j
    · rw [if_pos q] at h; exact .inl ⟨_, _, rfl, rfl, q, h.int e⟩
    · rw [if_neg q] at h
      obtain ⟨q2, h⟩ := post_if h
      exact .inr ⟨_, _, rfl, rfl, q2, h.int e⟩
  · exact (post_no h).elim
def powD : PyData → PyData → Rs
  | .int i, .int j => if 0 ≤ j ∧ j ≤ 1000000 ∧ i.natAbs < 2 ^ 64 then .d (.int (i ^ j.toNat)) else .no
  | _, _ => .no
theorem s_pow : Op2 K (rI CPow fun i j => .int (i ^ j.toNat)) (p2 powD) := op_p2 fun B R s σ H v w a b Q e r1 r2 h => by
  unfold powD at h
  split at h
  · obtain ⟨q, h⟩ := post_if h
    rw [r1.int, r2.int]; exact ⟨_, _, rfl, rfl, q, h.int e⟩
  · exact (post_no h).elim
def shlD : PyData → PyData → Rs
  | .int i, .int j => if 0 ≤ j ∧ j ≤ 1000000 ∧ i.natAbs < 2 ^ 64 then .d (.int (i * 2 ^ j.toNat)) else .no
  | _, _ => .no
theorem s_shl : Op2 K (rI CPow fun i j => .int (i * 2 ^ j.toNat)) (p2 shlD) := op_p2 fun B R s σ H v w a b Q e r1 r2 h => by
  unfold shlD at h
  split at h
  · obtain ⟨q, h⟩ := post_if h
    rw [r1.int, r2.int]; exact ⟨_, _, rfl, rfl, q, h.int e⟩
  · exact (post_no h).elim
def shrD : PyData → PyData → Rs
  | .int i, .int j => if 0 ≤ j then .d (.int (i / 2 ^ j.toNat)) else .no
  | _, _ => .no
theorem s_shr : Op2 K (rI (fun _ j => 0 ≤ j) fun i j => .int (i / 2 ^ j.toNat)) (p2 shrD) := op_p2 fun B R s σ H v w a b Q e r1 r2 h => by
  unfold shrD at h
  split at h
  · obtain ⟨q, h⟩ := post_if h
    rw [r1.int, r2.int]; exact ⟨_, _, rfl, rfl, q, h.int e⟩
  · exact (post_no h).elim
def intD (g : Int → Int → Int) : PyData → PyData → Rs
  | .int i, .int j => .d (.int (g i j))
  | _, _ => .no
theorem s_int {g : Int → Int → Int} : Op2 K (rI0 fun i j => .int (g i j)) (p2 (intD g)) := op_p2 fun B R s σ H v w a b Q e r1 r2 h => by
  unfold intD at h
  split at h
  · rw [r1.int, r2.int]; exact ⟨_, _, rfl, rfl, h.int e⟩
  · exact (post_no h).elim
def negD : PyData → Rs
  | .int i => .d (.int (-i))
  | _ => .no
theorem s_neg : Op1 K (rU fun i => .int (-i)) (p1 negD) := op_p1 fun B R s σ H v a Q e r1 h => by
  unfold negD at h
  split at h
  · rw [r1.int]; exact ⟨_, rfl, h.int e⟩
  · exact (post_no h).elim
/-! comparisons -/
def eqD (a b : PyData) : Rs := if SeqAt.shaped a && SeqAt.shaped b then .d (.bool (PyData.eqv a b)) else .no
def neD (a b : PyData) : Rs := if SeqAt.shaped a && SeqAt.shaped b then .d (.bool (!PyData.eqv a b)) else .no
theorem s_eq : Op2 K (rEqD K) (p2 eqD) := op_p2 fun B R s σ H v w a b Q e r1 r2 h => by
  unfold eqD at h
  obtain ⟨q, h⟩ := post_if h
  rw [Bool.and_eq_true] at q
  exact ⟨a, b, r1.dp hd_sub, r2.dp hd_sub, q.1, q.2, h.bool e⟩
theorem s_ne : Op2 K (rNeD K) (p2 neD) := op_p2 fun B R s σ H v w a b Q e r1 r2 h => by
  unfold neD at h
  obtain ⟨q, h⟩ := post_if h
  rw [Bool.and_eq_true] at q
  exact ⟨a, b, r1.dp hd_sub, r2.dp hd_sub, q.1, q.2, h.bool e⟩
/-- orders: of ints, of texts -/
def ltD : PyData → PyData → Rs
  | .int i, .int j => .d (.bool (decide (i < j)))
  | .str i, .str j => .d (.bool (decide (i.cps.toList < j.cps.toList)))
  | _, _ => .no
def rLt : R2 := fun x y H Q => rI0 (fun i j => .bl (decide (i < j))) x y H Q ∨ (∃ i j, x = .str i ∧ y = .str j ∧ Q (.bl (decide (i.cps.toList < j.cps.toList))) H)
theorem op_ltA {X : Cx} : OpR X (compareOp .Lt) rLt := OpR.or op_lt op_lt_str
theorem s_lt : Op2 K rLt (p2 ltD) := op_p2 fun B R s σ H v w a b Q e r1 r2 h => by
  unfold ltD at h
  split at h
  · rw [r1.int, r2.int]; exact .inl ⟨_, _, rfl, rfl, h.bool e⟩
  · rw [r1.str, r2.str]; exact .inr ⟨_, _, rfl, rfl, h.bool e⟩
  · exact (post_no h).elim
def leD : PyData → PyData → Rs
  | .int i, .int j => .d (.bool (decide (i ≤ j)))
  | .str i, .str j => .d (.bool (!decide (j.cps.toList < i.cps.toList)))
  | _, _ => .no
def rLe : R2 := fun x y H Q => rI0 (fun i j => .bl (decide (i ≤ j))) x y H Q ∨ (∃ i j, x = .str i ∧ y = .str j ∧ Q (.bl (!decide (j.cps.toList < i.cps.toList))) H)
theorem op_leA {X : Cx} : OpR X (compareOp .LtE) rLe := OpR.or op_le op_le_str
theorem s_le : Op2 K rLe (p2 leD) := op_p2 fun B R s σ H v w a b Q e r1 r2 h => by
  unfold leD at h
  split at h
  · rw [r1.int, r2.int]; exact .inl ⟨_, _, rfl, rfl, h.bool e⟩
  · rw [r1.str, r2.str]; exact .inr ⟨_, _, rfl, rfl, h.bool e⟩
  · exact (post_no h).elim
def gtD : PyData → PyData → Rs
  | .int i, .int j => .d (.bool (decide (j < i)))
  | .str i, .str j => .d (.bool (decide (j.cps.toList < i.cps.toList)))
  | _, _ => .no
def rGt : R2 := fun x y H Q => rI0 (fun i j => .bl (decide (j < i))) x y H Q ∨ (∃ i j, x = .str i ∧ y = .str j ∧ Q (.bl (decide (j.cps.toList < i.cps.toList))) H)
theorem op_gtA {X : Cx} : OpR X (compareOp .Gt) rGt := OpR.or op_gt op_gt_str
theorem s_gt : Op2 K rGt (p2 gtD) := op_p2 fun B R s σ H v w a b Q e r1 r2 h => by
  unfold gtD at h
  split at h
  · rw [r1.int, r2.int]; exact .inl ⟨_, _, rfl, rfl, h.bool e⟩
  · rw [r1.str, r2.str]; exact .inr ⟨_, _, rfl, rfl, h.bool e⟩
  · exact (post_no h).elim
def geD : PyData → PyData → Rs
  | .int i, .int j => .d (.bool (decide (j ≤ i)))
  | .str i, .str j => .d (.bool (!decide (i.cps.toList < j.cps.toList)))
  | _, _ => .no
def rGe : R2 := fun x y H Q => rI0 (fun i j => .bl (decide (j ≤ i))) x y H Q ∨ (∃ i j, x = .str i ∧ y = .str j ∧ Q (.bl (!decide (i.cps.toList < j.cps.toList))) H)
theorem op_geA {X : Cx} : OpR X (compareOp .GtE) rGe := OpR.or op_ge op_ge_str
theorem s_ge : Op2 K rGe (p2 geD) := op_p2 fun B R s σ H v w a b Q e r1 r2 h => by
  unfold geD at h
  split at h
  · rw [r1.int, r2.int]; exact .inl ⟨_, _, rfl, rfl, h.bool e⟩
  · rw [r1.str, r2.str]; exact .inr ⟨_, _, rfl, rfl, h.bool e⟩
  · exact (post_no h).elim
/-- x is None -/
def isND (neg : Bool) (x y : AV) (s : S) : Fx.R AV :=
  match y with
  | .d .none => .ok (.d (.bool (match x with | .d .none => !neg | _ => neg))) s
  | _ => .no
theorem non_iff {v : V} {x : AV} (r : VR K B R s H v x) : decide (v = .non) = (match x with | .d .none => true | _ => false) := by
  cases x with
  | d y =>
    cases y with
    | none => cases r; rfl
    | bool b => cases r; rfl
    | int i => cases r; rfl
    | str i => cases r; rfl
    | list l => obtain ⟨a, xs, rfl, _⟩ := dp_lst r; rfl
    | tuple l => obtain ⟨a, xs, rfl, _⟩ := dp_tup r; rfl
    | dict l => cases r
  | g k => obtain ⟨a, _, rfl⟩ := r; rfl
  | l k => obtain ⟨a, _, rfl⟩ := r; rfl
theorem s_is : Op2 K Bk.rIsN0 (isND false) := fun B R s σ H v w x y Q e r1 r2 h => by
  unfold isND at h
  split at h
  · cases r2
    refine ⟨rfl, ?_⟩
    rw [non_iff r1]
    cases x with
    | d z => cases z <;> exact h.bool e
    | _ => exact h.bool e
  · exact h.elim
theorem s_isnot : Op2 K Bk.rNotN0 (isND true) := fun B R s σ H v w x y Q e r1 r2 h => by
  unfold isND at h
  split at h
  · cases r2
    refine ⟨rfl, ?_⟩
    rw [non_iff r1]
    cases x with
    | d z => cases z <;> exact h.bool e
    | _ => exact h.bool e
  · exact h.elim
end
end Fx

/-! ### names, displays, tests, subscripts, built-ins -/
namespace Fx
open PySem PySem.Spec PyProof.Rows L2
open Bk (Dp.ex DpAll.ex DpAll.len DpAll.get DpAll.get' DpAll.app DpAll.take DpAll.drop DpAll.snoc dp_tup dp_lst dp_int dp_str dp_bl ex_new)
open Evl (Ex)
section
variable {X : Cx} {B : Fr} {a b c : Expr} {es rest : List Expr} {fa fb fc : S → R AV} {fs : S → R (List AV)} {ta tb tc : S → R Bool} {pos : Pos}
theorem pf_op {op : Operator} {r : R2} {g : AV → AV → S → R AV} (ho : OpR X (binaryOp op) r) (hs : Op2 X.K r g) (ha : PE X a (rE X.K B fa)) (hb : PE X b (rE X.K B fb)) : PE X (.BinOp a op b pos) (rE X.K B (f2 g fa fb)) := pe_imp (pe_op ho ha hb) (q_op hs)
theorem pf_un {op : UnaryOp} {r : V → Hp → VK → Prop} {g : AV → S → R AV} (ho : UnR X (unaryOp op) r) (hs : Op1 X.K r g) (ha : PE X a (rE X.K B fa)) : PE X (.UnaryOp op a pos) (rE X.K B (f1 g fa)) := pe_imp (pe_un ho ha) (q_un hs)
theorem pf_cmp {op : CmpOp} {r : R2} {g : AV → AV → S → R AV} (ho : OpR X (compareOp op) r) (hs : Op2 X.K r g) (ha : PE X a (rE X.K B fa)) (hb : PE X b (rE X.K B fb)) (hm : behindInMarks op b = false) : PE X (.Compare a [op] [b] pos) (rE X.K B (f2 g fa fb)) := pe_imp (pe_cmpR ho ha hb hm) (q_op hs)
theorem pf_imp {t : TE} {f : S → R AV} (h : PE X a t) (hi : ∀ σ H Q, rE X.K B f σ H Q → t σ H Q) : PE X a (rE X.K B f) := pe_imp h hi
theorem pf_var {i : Nat} (h : PE X a (tVar i)) : PE X a (rE X.K B (fV i)) := pe_imp h q_var
theorem pf_c (x : PyData) (h : PE X a (tC (cV x))) (hx : flat x = true := by rfl) : PE X a (rE X.K B (fC x)) := pe_imp h (q_c hx)
theorem pf_nil : PA X [] (rA X.K B fNil) := pa_imp pa_nil q_nil
theorem pf_cons (ha : PE X a (rE X.K B fa)) (hr : PA X es (rA X.K B fs)) (hs : starEach (a :: es) X.env = (false, eval a X.env) :: starEach es X.env := by rfl) : PA X (a :: es) (rA X.K B (fCons fa fs)) := pa_imp (pa_cons ha hr hs) q_cons
/-! displays -/
/-- values become data -/
def toD1 (x : AV) (s : S) : R PyData :=
  match x with
  | .d y => .ok y s
  | .l k => match (s.lo[k]?).join with
    | some (.lst ds) => .ok (.list ds) (s.frz k ds)
    | _ => .no
  | .g _ => .no
def toDs : List AV → S → R (List PyData)
  | [], s => .ok [] s
  | x :: xs, s => (toD1 x s).bind fun y s1 => (toDs xs s1).bind fun ys s2 => .ok (y :: ys) s2
def fTup (f : S → R (List AV)) (s : S) : R AV := (f s).bind fun xs s1 => (toDs xs s1).bind fun ds s2 => if ds.length ≤ sizeLine then .ok (.d (.tuple ds)) s2 else .no
def fLst (f : S → R (List AV)) (s : S) : R AV := (f s).bind fun xs s1 => (toDs xs s1).bind fun ds s2 => if ds.length ≤ sizeLine then .ok (.l s2.lo.length) (s2.push (.lst ds)) else .no
section
variable {K : PySem.W.Frag} {R R1 : List Addr} {s s1 : S} {σ : L2.St} {H H1 : Hp}
/-- .. and nothing else changes -/
theorem toD1_ok {x : AV} {y : PyData} {v : V} (e : Env K B R s σ H) (r : VR K B R s H v x) (h : toD1 x s = .ok y s1) : Env K B R s1 σ H ∧ St B R s H R s1 H ∧ Dp K (hdS B R s1 H) v y := by
  cases x with
  | d z => cases h; exact ⟨e, St.refl, r⟩
  | g k => cases h
  | l k =>
    unfold toD1 at h
    dsimp only at h
    cases q : (s.lo[k]?).join with
    | none => rw [q] at h; cases h
    | some c =>
      rw [q] at h
      cases c with
      | lst ds =>
        cases h
        obtain ⟨a, h1, rfl⟩ := r
        exact e.frz (join_some q) h1
      | dic _ => cases h
      | dit _ => cases h
theorem toDs_ok : ∀ {xs : List AV} {ds : List PyData} {vs : List V} {s s1 : S}, Env K B R s σ H → vA K B R s H vs xs → toDs xs s = .ok ds s1 → Env K B R s1 σ H ∧ St B R s H R s1 H ∧ DpAll K (hdS B R s1 H) vs ds
  | [], ds, vs, s, s1, e, r, h => by
    cases r
    cases h
    exact ⟨e, St.refl, .nil⟩
  | x :: xs, ds, vs, s, s1, e, r, h => by
    cases r with
    | cons r1 r2 =>
      unfold toDs at h
      cases h1 : toD1 x s with
      | no => rw [h1] at h; cases h
      | xc _ _ => rw [h1] at h; cases h
      | ok y s2 =>
        rw [h1] at h
        have h : (toDs xs s2).bind (fun ys s3 => Fx.R.ok (y :: ys) s3) = .ok ds s1 := h
        obtain ⟨e2, st2, d1⟩ := toD1_ok e r1 h1
        cases h2 : toDs xs s2 with
        | no => rw [h2] at h; cases h
        | xc _ _ => rw [h2] at h; cases h
        | ok ys s3 =>
          rw [h2] at h
          cases h
          obtain ⟨e3, st3, d2⟩ := toDs_ok e2 (vA.st st2 r2) h2
          exact ⟨e3, st2.trans st3, .cons (Dp.ex st3.hx _ _ d1) d2⟩
theorem toD1_noxc {x : AV} {c : Xc} : toD1 x s ≠ .xc c s1 := fun h => by
  cases x with
  | d z => cases h
  | g k => cases h
  | l k =>
    unfold toD1 at h
    dsimp only at h
    cases q : (s.lo[k]?).join with
    | none => rw [q] at h; cases h
    | some c =>
      rw [q] at h
      cases c <;> cases h
theorem toDs_noxc : ∀ {xs : List AV} {s s1 : S} {c : Xc}, toDs xs s ≠ .xc c s1
  | [], s, s1, c, h => by cases h
  | x :: xs, s, s1, c, h => by
    unfold toDs at h
    cases h1 : toD1 x s with
    | no => rw [h1] at h; cases h
    | xc _ _ => exact toD1_noxc h1
    | ok y s2 =>
      rw [h1] at h
      have h : (toDs xs s2).bind (fun ys s3 => Fx.R.ok (y :: ys) s3) = .xc c s1 := h
      cases h2 : toDs xs s2 with
      | no => rw [h2] at h; cases h
      | xc _ _ => exact toDs_noxc h2
      | ok ys s3 => rw [h2] at h; cases h
/-- behind values that become data -/
theorem post_toDs {γ δ : Type} {V2 : VRel γ δ} {xs : List AV} {vs : List V} {k : List PyData → S → Fx.R γ} {Q : δ → Hp → Prop} (e : Env K B R s σ H) (r : vA K B R s H vs xs) (h : Post K B V2 σ R s H ((toDs xs s).bind k) Q) :
    ∃ ds s1, toDs xs s = .ok ds s1 ∧ Env K B R s1 σ H ∧ St B R s H R s1 H ∧ DpAll K (hdS B R s1 H) vs ds ∧ Post K B V2 σ R s1 H (k ds s1) Q := by
  cases h1 : toDs xs s with
  | no => rw [h1] at h; exact h.elim
  | xc _ _ => exact (toDs_noxc h1).elim
  | ok ds s1 =>
    rw [h1] at h
    obtain ⟨e1, st, d⟩ := toDs_ok e r h1
    exact ⟨ds, s1, rfl, e1, st, d, Post.st st h⟩
theorem post_toD1 {γ δ : Type} {V2 : VRel γ δ} {x : AV} {v : V} {k : PyData → S → Fx.R γ} {Q : δ → Hp → Prop} (e : Env K B R s σ H) (r : VR K B R s H v x) (h : Post K B V2 σ R s H ((toD1 x s).bind k) Q) :
    ∃ y s1, toD1 x s = .ok y s1 ∧ Env K B R s1 σ H ∧ St B R s H R s1 H ∧ Dp K (hdS B R s1 H) v y ∧ Post K B V2 σ R s1 H (k y s1) Q := by
  cases h1 : toD1 x s with
  | no => rw [h1] at h; exact h.elim
  | xc _ _ => exact (toD1_noxc h1).elim
  | ok ds s1 =>
    rw [h1] at h
    obtain ⟨e1, st, d⟩ := toD1_ok e r h1
    exact ⟨ds, s1, rfl, e1, st, d, Post.st st h⟩
end
theorem pf_tup {x1} (h : PA X es (rA X.K B fs)) : PE X (.Tuple es x1 pos) (rE X.K B (fTup fs)) := pe_imp (pe_tup h) fun σ H Q ⟨R, s, e, q⟩ => ⟨R, s, e, post_bind q fun xs s1 R1 vs H1 _ e1 st r q1 => by
  obtain ⟨ds, s2, _, e2, st2, d, q2⟩ := post_toDs e1 r q1
  by_cases z : ds.length ≤ sizeLine
  · rw [if_pos z] at q2
    exact ⟨by rw [DpAll.len d]; exact z, fun p hp => q2.tup e2 d hp⟩
  · rw [if_neg z] at q2; exact q2.elim⟩
theorem pf_lst (h : PA X es (rA X.K B fs)) : PE X (.List es pos) (rE X.K B (fLst fs)) := pe_imp (pe_lst h) fun σ H Q ⟨R, s, e, q⟩ => ⟨R, s, e, post_bind q fun xs s1 R1 vs H1 _ e1 st r q1 => by
  obtain ⟨ds, s2, _, e2, st2, d, q2⟩ := post_toDs e1 r q1
  by_cases z : ds.length ≤ sizeLine
  · rw [if_pos z] at q2
    exact ⟨by rw [DpAll.len d]; exact z, fun p hp => q2.lst e2 d hp⟩
  · rw [if_neg z] at q2; exact q2.elim⟩
/-- *e among the items of a display -/
def fStar (f : S → R AV) (g : S → R (List AV)) (s : S) : R (List AV) := (f s).bind fun x s1 =>
  match rd s1 x with
  | some (.tuple ds) => (g s1).bind fun ys s2 => .ok (ds.map AV.d ++ ys) s2
  | some (.list ds) => (g s1).bind fun ys s2 => .ok (ds.map AV.d ++ ys) s2
  | _ => .no
theorem vA_ds {K : PySem.W.Frag} {R : List Addr} {s : S} {H : Hp} : ∀ {vs : List V} {ds : List PyData}, DpAll K (hdS B R s H) vs ds → vA K B R s H vs (ds.map AV.d)
  | _, _, .nil => .nil
  | _, _, .cons h t => .cons h (vA_ds t)
theorem vA.app {K : PySem.W.Frag} {R : List Addr} {s : S} {H : Hp} : ∀ {vs ws : List V} {xs ys : List AV}, vA K B R s H vs xs → vA K B R s H ws ys → vA K B R s H (vs ++ ws) (xs ++ ys)
  | _, _, _, _, .nil, h => h
  | _, _, _, _, .cons r t, h => .cons r (vA.app t h)
theorem pf_star {p : Pos} (ha : PE X a (rE X.K B fa)) (hr : PA X es (rA X.K B fs)) (hs : starEach (.Starred a p :: es) X.env = (true, eval a X.env) :: starEach es X.env := by rfl) : PA X (.Starred a p :: es) (rA X.K B (fStar fa fs)) := pa_imp (StX.pa_star ha hr hs) fun σ H Q ⟨R, s, e, q⟩ => ⟨R, s, e, post_bind q fun x s1 R1 v H1 _ e1 st r q1 => by
  try dsimp only at q1
  split at q1
  · rename_i ds hx
    obtain ⟨p, us, rfl, h1, h2⟩ := (e1.rd r hx).tup
    exact ⟨p, us, rfl, .inl (Evl.ex_t hd_sub h1), R1, s1, e1, post_bind q1 fun ys s2 R2 ws H2 _ e2 st2 r2 q2 => q2 R2 _ H2 e2 St.refl (vA.app (vA_ds (DpAll.ex st2.hx _ _ h2)) r2)⟩
  · rename_i ds hx
    obtain ⟨p, us, rfl, h1, h2⟩ := (e1.rd r hx).lst hd_sub
    exact ⟨p, us, rfl, .inr h1, R1, s1, e1, post_bind q1 fun ys s2 R2 ws H2 _ e2 st2 r2 q2 => q2 R2 _ H2 e2 St.refl (vA.app (vA_ds (DpAll.ex st2.hx _ _ h2)) r2)⟩
  · exact q1.elim⟩
/-! tests -/
def truD : PyData → Option Bool
  | .none => some false
  | .bool b => some b
  | .int i => some (i != 0)
  | .str y => if y.length ≤ sizeLine then some ((y.length : Int) != 0) else none
  | .list ds => some (!ds.isEmpty)
  | .tuple ds => some (!ds.isEmpty)
  | .dict _ => none
def tru (s : S) (x : AV) : Option Bool :=
  match x with
  | .d y => truD y
  | x => match cellOf s x with
    | some (.lst ds) => some (!ds.isEmpty)
    | some (.dic kvs) => some (!kvs.isEmpty)
    | _ => none
theorem empty_len {α β : Type} {l : List α} {m : List β} (h : l.length = m.length) : l.isEmpty = m.isEmpty := by
  cases l <;> cases m <;> simp_all
theorem tru_v {K : PySem.W.Frag} {R : List Addr} {s : S} {σ : L2.St} {H : Hp} {v : V} {x : AV} {k : Bool} (e : Env K B R s σ H) (r : VR K B R s H v x) (h : tru s x = some k) : TruV K v H k := by
  have cell : ∀ {x : AV}, VR K B R s H v x → (match cellOf s x with | some (.lst ds) => some (!ds.isEmpty) | some (.dic kvs) => some (!kvs.isEmpty) | _ => none) = some k → TruV K v H k := fun {x} r h => by
    cases q : cellOf s x with
    | none => rw [q] at h; cases h
    | some c =>
      rw [q] at h
      obtain ⟨a, rfl, _, _, hc⟩ := e.cell r q
      cases c with
      | lst ds =>
        obtain ⟨us, h1, h2⟩ := hc
        exact .inl ⟨us, SqL.of h1, by rw [empty_len (DpAll.len h2)]; exact (Option.some.inj h).symm⟩
      | dic kvs =>
        obtain ⟨us, h1, h2, _⟩ := hc
        refine .inr (.inr ⟨us, h1, ?_⟩)
        have : us.length = kvs.length := by have := congrArg List.length h2; simpa using this.symm
        rw [empty_len this]; exact (Option.some.inj h).symm
      | dit kvs => cases h
  cases x with
  | d y =>
    have h : truD y = some k := h
    cases y with
    | none => cases r; exact (Option.some.inj h).symm
    | bool b => cases r; exact (Option.some.inj h).symm
    | int i => cases r; exact (Option.some.inj h).symm
    | str y =>
      cases r
      unfold truD at h
      dsimp only at h
      by_cases z : y.length ≤ sizeLine
      · rw [if_pos z] at h; exact ⟨z, (Option.some.inj h).symm⟩
      · rw [if_neg z] at h; cases h
    | list ds =>
      obtain ⟨a, xs, rfl, h1, h2⟩ := dp_lst r
      exact .inl ⟨xs, Evl.ex_l hd_sub h1, by rw [empty_len (DpAll.len h2)]; exact (Option.some.inj h).symm⟩
    | tuple ds =>
      obtain ⟨a, xs, rfl, h1, h2⟩ := dp_tup r
      exact .inr (.inl ⟨xs, Evl.ex_t hd_sub h1, by rw [empty_len (DpAll.len h2)]; exact (Option.some.inj h).symm⟩)
    | dict _ => cases h
  | g k => exact cell (x := .g k) r h
  | l k => exact cell (x := .l k) r h
/-- a value's truth -/
def fT (f : S → R AV) (s : S) : R Bool := (f s).bind fun x s1 =>
  match tru s1 x with
  | some k => .ok k s1
  | none => .no
theorem pf_truth (ha : PE X a (rE X.K B fa)) (he : ∀ whole, isTrue a X.env whole = (do let v ← whole; standAt a.pos; holding [v] (truthy v)) := by intro _; rfl) : PT X a (rT X.K B (fT fa)) := pt_imp (pt_truth ha he) fun σ H Q ⟨R, s, e, q⟩ => ⟨R, s, e, post_bind q fun x s1 R1 v H1 _ e1 st r q1 => by
  try dsimp only at q1
  cases h : tru s1 x with
  | none => rw [h] at q1; exact q1.elim
  | some k => rw [h] at q1; exact ⟨k, tru_v e1 r h, q1 R1 k H1 e1 St.refl rfl⟩⟩
/-- a comparison as a test -/
def fB (f : S → R AV) (s : S) : R Bool := (f s).bind fun x s1 =>
  match x with
  | .d (.bool k) => .ok k s1
  | _ => .no
theorem pf_tcmp {op : CmpOp} {r : R2} {g : AV → AV → S → R AV} (ho : OpR X (compareOp op) r) (hs : Op2 X.K r g) (ha : PE X a (rE X.K B fa)) (hb : PE X b (rE X.K B fb)) (hm : behindInMarks op b = false) : PT X (.Compare a [op] [b] pos) (rT X.K B (fB (f2 g fa fb))) := pt_imp (pt_cmpR ho ha hb hm) fun σ H Q h => by
  obtain ⟨R, s, e, q⟩ := h
  refine q_op hs σ H _ ⟨R, s, e, post_bind q fun x s1 R1 v H1 _ e1 st r q1 => ?_⟩
  try dsimp only at q1
  split at q1
  · cases r
    exact ⟨_, rfl, q1 R1 _ H1 e1 St.refl rfl⟩
  · exact q1.elim
def fAnd (a b : S → R Bool) (s : S) : R Bool := (a s).bind fun c s1 => if c then b s1 else .ok false s1
def fOr (a b : S → R Bool) (s : S) : R Bool := (a s).bind fun c s1 => if c then .ok true s1 else b s1
def fNot (a : S → R Bool) (s : S) : R Bool := (a s).bind fun c s1 => .ok (!c) s1
theorem pf_and1 (ha : PT X a (rT X.K B ta)) : PW X (.BoolOp .And [a] pos) (rT X.K B ta) := pw_and1 ha
theorem pf_or1 (ha : PT X a (rT X.K B ta)) : PW X (.BoolOp .Or [a] pos) (rT X.K B ta) := pw_or1 ha
theorem pf_and (ha : PT X a (rT X.K B ta)) (hb : PW X (.BoolOp .And (b :: rest) pos) (rT X.K B tb)) : PW X (.BoolOp .And (a :: b :: rest) pos) (rT X.K B (fAnd ta tb)) := pw_imp (pw_and ha hb) fun σ H Q ⟨R, s, e, q⟩ => ⟨R, s, e, post_bind q fun c s1 R1 d H1 _ e1 st r q1 => by
  subst r
  cases d with
  | true => exact ⟨R1, s1, e1, q1⟩
  | false => exact q1 R1 _ H1 e1 St.refl rfl⟩
theorem pf_or (ha : PT X a (rT X.K B ta)) (hb : PW X (.BoolOp .Or (b :: rest) pos) (rT X.K B tb)) : PW X (.BoolOp .Or (a :: b :: rest) pos) (rT X.K B (fOr ta tb)) := pw_imp (pw_or ha hb) fun σ H Q ⟨R, s, e, q⟩ => ⟨R, s, e, post_bind q fun c s1 R1 d H1 _ e1 st r q1 => by
  subst r
  cases d with
  | true => exact q1 R1 _ H1 e1 St.refl rfl
  | false => exact ⟨R1, s1, e1, q1⟩⟩
theorem pf_not (ha : PT X a (rT X.K B ta)) : PT X (.UnaryOp .Not a pos) (rT X.K B (fNot ta)) := pt_imp (pt_not ha) fun σ H Q ⟨R, s, e, q⟩ => ⟨R, s, e, post_bind q fun c s1 R1 d H1 _ e1 st r q1 => by
  subst r
  exact q1 R1 _ H1 e1 St.refl rfl⟩
/-! .. as values -/
def fAndV (a b : S → R AV) (s : S) : R AV := (a s).bind fun x s1 =>
  match tru s1 x with
  | some true => b s1
  | some false => .ok x s1
  | none => .no
def fOrV (a b : S → R AV) (s : S) : R AV := (a s).bind fun x s1 =>
  match tru s1 x with
  | some true => .ok x s1
  | some false => b s1
  | none => .no
def fNotV (a : S → R AV) (s : S) : R AV := (a s).bind fun x s1 =>
  match tru s1 x with
  | some k => .ok (.d (.bool (!k))) s1
  | none => .no
theorem pf_one {op} (h : PE X a (rE X.K B fa)) : PE X (.BoolOp op [a] pos) (rE X.K B fa) := pe_one h
theorem pf_andV (ha : PE X a (rE X.K B fa)) (hb : PE X (.BoolOp .And (b :: rest) pos) (rE X.K B fb)) : PE X (.BoolOp .And (a :: b :: rest) pos) (rE X.K B (fAndV fa fb)) := pe_imp (pe_andT ha hb) fun σ H Q ⟨R, s, e, q⟩ => ⟨R, s, e, post_bind q fun x s1 R1 v H1 _ e1 st r q1 => by
  try dsimp only at q1
  cases h : tru s1 x with
  | none => rw [h] at q1; exact q1.elim
  | some k =>
    rw [h] at q1
    refine ⟨k, tru_v e1 r h, ?_⟩
    cases k with
    | true => exact ⟨R1, s1, e1, q1⟩
    | false => exact q1 R1 _ H1 e1 St.refl r⟩
theorem pf_orV (ha : PE X a (rE X.K B fa)) (hb : PE X (.BoolOp .Or (b :: rest) pos) (rE X.K B fb)) : PE X (.BoolOp .Or (a :: b :: rest) pos) (rE X.K B (fOrV fa fb)) := pe_imp (pe_orT ha hb) fun σ H Q ⟨R, s, e, q⟩ => ⟨R, s, e, post_bind q fun x s1 R1 v H1 _ e1 st r q1 => by
  try dsimp only at q1
  cases h : tru s1 x with
  | none => rw [h] at q1; exact q1.elim
  | some k =>
    rw [h] at q1
    refine ⟨k, tru_v e1 r h, ?_⟩
    cases k with
    | true => exact q1 R1 _ H1 e1 St.refl r
    | false => exact ⟨R1, s1, e1, q1⟩⟩
theorem pf_notV (ha : PE X a (rE X.K B fa)) : PE X (.UnaryOp .Not a pos) (rE X.K B (fNotV fa)) := pe_imp (pe_notT ha) fun σ H Q ⟨R, s, e, q⟩ => ⟨R, s, e, post_bind q fun x s1 R1 v H1 _ e1 st r q1 => by
  try dsimp only at q1
  cases h : tru s1 x with
  | none => rw [h] at q1; exact q1.elim
  | some k => rw [h] at q1; exact ⟨k, tru_v e1 r h, q1.bool e1⟩⟩
def fIf (t : S → R Bool) (a b : S → R AV) (s : S) : R AV := (t s).bind fun c s1 => if c then a s1 else b s1
theorem pf_if (hc : PT X c (rT X.K B tc)) (ha : PE X a (rE X.K B fa)) (hb : PE X b (rE X.K B fb)) : PE X (.IfExp c a b pos) (rE X.K B (fIf tc fa fb)) := pe_imp (pe_ifExp hc ha hb) fun σ H Q ⟨R, s, e, q⟩ => ⟨R, s, e, post_bind q fun c s1 R1 d H1 _ e1 st r q1 => by
  subst r
  cases d with
  | true => exact ⟨R1, s1, e1, q1⟩
  | false => exact ⟨R1, s1, e1, q1⟩⟩
/-- a < b < c -/
def fChain (g g' : AV → AV → S → R AV) (fa fb fc : S → R AV) (s : S) : R AV := (fa s).bind fun x s1 => (fb s1).bind fun y s2 => (g x y s2).bind fun z s3 =>
  match z with
  | .d (.bool true) => (fc s3).bind fun w s4 => g' y w s4
  | .d (.bool false) => .ok (.d (.bool false)) s3
  | _ => .no
theorem q_chain {K : PySem.W.Frag} {r r' : R2} {g g' : AV → AV → S → R AV} (hs : Op2 K r g) (hs' : Op2 K r' g') (σ : L2.St) (H : Hp) (Q : VK) (h : rE K B (fChain g g' fa fb fc) σ H Q) : tChain r r' (rE K B fa) (rE K B fb) (rE K B fc) σ H Q := by
  obtain ⟨R, s, e, q⟩ := h
  refine ⟨R, s, e, post_bind q fun x s1 R1 v H1 _ e1 st1 r1 q1 => ⟨R1, s1, e1, post_bind q1 fun y s2 R2 w H2 _ e2 st2 r2 q2 => ?_⟩⟩
  refine hs B R2 s2 σ H2 v w x y _ e2 (VR.st st2 r1) r2 (post_bind q2 fun z s3 R3 u H3 _ e3 st3 r3 q3 => ?_)
  try dsimp only at q3
  split at q3
  · cases r3
    refine ⟨true, rfl, ?_⟩
    exact ⟨R3, s3, e3, post_bind q3 fun w' s4 R4 u H4 _ e4 st4 r4 q4 => hs' B R4 s4 σ H4 _ _ y w' Q e4 (VR.st (st3.trans st4) r2) r4 q4⟩
  · cases r3
    exact ⟨false, rfl, q3.bool e3⟩
  · exact q3.elim
theorem pf_chain {op op' : CmpOp} {r r' : R2} {g g' : AV → AV → S → R AV} (ho : OpR X (compareOp op) r) (hs : Op2 X.K r g) (ho' : OpR X (compareOp op') r') (hs' : Op2 X.K r' g') (ha : PE X a (rE X.K B fa)) (hb : PE X b (rE X.K B fb)) (hc : PE X c (rE X.K B fc))
    (hm : lastMarks [op, op'] [b, c] = false := by with_unfolding_all rfl) : PE X (.Compare a [op, op'] [b, c] pos) (rE X.K B (fChain g g' fa fb fc)) := pe_imp (pe_chain ho ho' ha hb hc hm) (q_chain hs hs')
theorem pf_tchain {op op' : CmpOp} {r r' : R2} {g g' : AV → AV → S → R AV} (ho : OpR X (compareOp op) r) (hs : Op2 X.K r g) (ho' : OpR X (compareOp op') r') (hs' : Op2 X.K r' g') (ha : PE X a (rE X.K B fa)) (hb : PE X b (rE X.K B fb)) (hc : PE X c (rE X.K B fc))
    (hm : lastMarks [op, op'] [b, c] = false := by with_unfolding_all rfl) : PT X (.Compare a [op, op'] [b, c] pos) (rT X.K B (fB (fChain g g' fa fb fc))) := pt_imp (pt_chain ho ho' ha hb hc hm) fun σ H Q h => by
  obtain ⟨R, s, e, q⟩ := h
  refine q_chain hs hs' σ H _ ⟨R, s, e, post_bind q fun x s1 R1 v H1 _ e1 st r q1 => ?_⟩
  try dsimp only at q1
  split at q1
  · cases r
    exact ⟨_, rfl, q1 R1 _ H1 e1 St.refl rfl⟩
  · exact q1.elim
end
end Fx

namespace Bk
open PySem PySem.Spec PyProof.Rows L2
open Evl (Ex Ev EvT EvL EvU EvA)
/-! ### sorted of a list of data (tuples of ints, of texts, of such ..) -/
def rSortD (K : PySem.W.Frag) : List V → Hp → VK → Prop := fun vs H Q => ∃ (v : V) (ds : List PyData), vs = [v] ∧ Dp K H v (.list ds) ∧ PySem.W.AllAlike ds ∧ PySem.W.Sortable ds ∧ (∀ d ∈ ds, d.depth ≤ 61) ∧
  ∀ (us : List V) (p : Addr), DpAll K H us (ds.mergeSort (PySem.W.dataLe false id)) → H p = none → Q (.ref p) (upd H p (.lst us))
theorem dpAll_zip {K : PySem.W.Frag} {H : Hp} : ∀ {xs : List V} {ds : List PyData}, DpAll K H xs ds → ((xs.zip ds).map (·.1) = xs ∧ (xs.zip ds).map (·.2) = ds ∧ ∀ z ∈ xs.zip ds, Dp K H z.1 z.2)
  | _, _, .nil => ⟨rfl, rfl, by simp⟩
  | _, _, .cons h t => by
    obtain ⟨a, b, c⟩ := dpAll_zip t
    refine ⟨by simp [a], by simp [b], ?_⟩
    intro z hz
    simp only [List.zip_cons_cons, List.mem_cons] at hz
    rcases hz with rfl | hz
    · exact h
    · exact c z hz
theorem dpAll_of {K : PySem.W.Frag} {H : Hp} : ∀ (l : List (V × PyData)), (∀ z ∈ l, Dp K H z.1 z.2) → DpAll K H (l.map (·.1)) (l.map (·.2))
  | [], _ => .nil
  | z :: l, h => .cons (h z List.mem_cons_self) (dpAll_of l fun y hy => h y (List.mem_cons_of_mem _ hy))
theorem each_zip {xs : List V} {us : List Value} (h : Vals xs us) : ∀ {ds : List PyData}, ds.length = xs.length → PySem.W.EachIs (fun v (b : V × PyData) => RelV b.1 v) us (xs.zip ds) := by
  induction h with
  | nil => intro ds _; simp; exact .nil
  | cons h1 h2 ih =>
    intro ds hl
    cases ds with
    | nil => simp at hl
    | cons d ds => exact .cons h1 (ih (by simpa using hl))
theorem each_vals : ∀ {us : List Value} {l : List (V × PyData)}, PySem.W.EachIs (fun v (b : V × PyData) => RelV b.1 v) us l → Vals (l.map (·.1)) us
  | _, _, .nil => .nil
  | _, _, .cons h t => .cons h (each_vals t)
theorem cr_sortD {X : Cx} (hu : X.A.units + 64 < cLine) : CallR X (.builtin "sorted") (rSortD X.K) := by
  intro pins s σ H vs us Q I r h
  obtain ⟨v, ds, rfl, hv, hal, hk, hdp, q⟩ := h
  obtain ⟨u, rfl, ru⟩ := r.one
  obtain ⟨a, xs, rfl, hs, hA⟩ := dp_lst hv
  obtain rfl : u = Value.ref a := ru
  obtain ⟨its, rv, hl, hz⟩ := I.list hs
  have hlen : ds.length = xs.length := (DpAll.len hA).symm
  obtain ⟨z1, z2, z3⟩ := dpAll_zip hA
  have hE := each_zip rv hlen
  have hR : PySem.W.EachIs (fun v (b : V × PyData) => ∃ as, Reads s.heap v b.2 as) its (xs.zip ds) := by
    have : ∀ {us : List Value} {l : List (V × PyData)}, PySem.W.EachIs (fun v (b : V × PyData) => RelV b.1 v) us l → (∀ z ∈ l, Dp X.K H z.1 z.2) → PySem.W.EachIs (fun v (b : V × PyData) => ∃ as, Reads s.heap v b.2 as) us l := by
      intro us l h
      induction h with
      | nil => intro _; exact .nil
      | cons h1 h2 ih => intro hz; exact .cons (Dp.reads I _ _ _ (hz _ List.mem_cons_self) h1) (ih fun y hy => hz y (List.mem_cons_of_mem _ hy))
    exact this hE z3
  have hm : (xs.zip ds).map (·.2) = ds := z2
  refine PySem.W.sorted_data (enc := fun b : V × PyData => b.2) (R := fun v (b : V × PyData) => RelV b.1 v) hl.isList hE hR (by rw [hm]; exact hal) (by rw [hm]; exact hk) (by rw [List.length_zip, hlen, Nat.min_self]; exact hz) (fun b hb => ?_) fun out ho hout => ?_
  · have : b.2 ∈ ds := by rw [← hm]; exact List.mem_map.mpr ⟨b, hb, rfl⟩
    have := hdp _ this
    omega
  · obtain ⟨e, he⟩ := sortedAll_at s.heap its out.toArray
    have hz' := dpAll_of ((xs.zip ds).mergeSort (PySem.W.dataLe false fun b : V × PyData => b.2)) (fun z hz => z3 z (List.mem_mergeSort.mp hz))
    have hmap : ((xs.zip ds).mergeSort (PySem.W.dataLe false fun b : V × PyData => b.2)).map (·.2) = ds.mergeSort (PySem.W.dataLe false id) := by
      rw [List.map_mergeSort (r := PySem.W.dataLe false fun b : V × PyData => b.2) (s := PySem.W.dataLe false id) (f := fun b : V × PyData => b.2) (fun a _ b _ => rfl), hm]
    rw [hmap] at hz'
    refine ⟨.ref (s.heap.objs.size + 1), upd H (s.heap.objs.size + 1) (.lst _), I.laid (t' := s.toks) (fun b o e => sortedAll_old e) (Nat.le_succ _) ⟨?_, out, e, each_vals hout, by simpa using he⟩, rfl, q _ _ hz' (I.hok.fresh (Nat.le_succ _))⟩
    rw [List.length_map, List.length_mergeSort, List.length_zip, hlen, Nat.min_self]
    exact hz
/-! ### min of a list of data -/
def rMinD (K : PySem.W.Frag) : List V → Hp → VK → Prop := fun vs H Q => ∃ (v : V) (d : PyData) (ds : List PyData), vs = [v] ∧ Dp K H v (.list (d :: ds)) ∧ PySem.W.AlikeAll (d :: ds) ∧ PyData.depthAll (d :: ds) ≤ 61 ∧ ∀ x : V, Dp K H x (PySem.W.minD d ds) → Q x H
theorem minD_mem : ∀ (ds : List PyData) (d : PyData), PySem.W.minD d ds ∈ d :: ds
  | [], d => by simp [PySem.W.minD]
  | e :: ds, d => by
    have h := minD_mem ds (if PySem.W.dataLt e d then e else d)
    have e1 : PySem.W.minD d (e :: ds) = PySem.W.minD (if PySem.W.dataLt e d then e else d) ds := rfl
    rw [e1]
    rcases List.mem_cons.mp h with h | h
    · rw [h]; split <;> simp
    · simp [h]
theorem cr_minD {X : Cx} (hc : X.calm = true) (hu : X.A.units + 64 < cLine) : CallR X (.builtin "min") (rMinD X.K) := by
  intro pins s σ H vs us Q I r h
  obtain ⟨v, d, ds, rfl, hv, hal, hdp, q⟩ := h
  obtain ⟨u, rfl, ru⟩ := r.one
  obtain ⟨a, xs, rfl, hs, hA⟩ := dp_lst hv
  obtain rfl : u = Value.ref a := ru
  obtain ⟨its, rv, hl, hz⟩ := I.list hs
  obtain ⟨as, hr⟩ := Dp.readsAll I _ _ _ hA rv
  refine PySem.W.min_list_data (I.ok.hd hc) hl.isList (by simpa using hr) hal (by omega) fun i v h' tk bs hi hR hk => ?_
  have hi' : its[i]? = some v := by simpa using hi
  have hil : i < xs.length := by have := (List.getElem?_eq_some_iff.mp hi').1; rw [rv.length]; exact this
  obtain ⟨v2, e2, rx⟩ := rv.get (List.getElem?_eq_getElem hil)
  rw [hi'] at e2
  obtain rfl := Option.some.inj e2
  obtain ⟨di, hdi, hdx⟩ := DpAll.get hA (List.getElem?_eq_getElem hil)
  obtain ⟨as2, hr2⟩ := Dp.reads I _ _ _ hdx rx
  have hm := minD_mem ds d
  have he : di = PySem.W.minD d ds := PySem.W.alike_unique _ _ _ _ _ (hal.1 _ (List.mem_of_getElem? hdi) _ hm) (PySem.W.reads_keeps hk hr2) hR
  rw [he] at hdx
  exact ⟨_, H, I.kept (t' := tk) hk, rx, q _ hdx⟩
end Bk

/-! ### subscripts, slices, built-ins -/
namespace Fx
open PySem PySem.Spec PyProof.Rows L2
open Bk (Dp.ex DpAll.ex DpAll.len DpAll.get DpAll.get' DpAll.app DpAll.take DpAll.drop DpAll.snoc dp_tup dp_lst dp_int dp_str dp_bl ex_new)
open Evl (Ex)
section
variable {K : PySem.W.Frag} {B : Fr} {R : List Addr} {s : S} {σ : L2.St} {H Hh : Hp}
def ixD : PyData → PyData → Rs
  | .tuple xs, .int i => match atI xs i with | some d => .d d | none => .no
  | .list xs, .int i => match atI xs i with | some d => .d d | none => .no
  | .str z, .int i => if z.length ≤ sizeLine then match atI z.cps.toList i with | some c => .d (.str ⟨#[c]⟩) | none => .no else .no
  | _, _ => .no
theorem atI_dp {xs : List V} {ds : List PyData} {i : Int} {d : PyData} (h : DpAll K Hh xs ds) (e : atI ds i = some d) : ∃ v, atI xs i = some v ∧ Dp K Hh v d := by
  unfold atI at e ⊢
  rw [DpAll.len h]
  cases q : ixN ds.length i with
  | none => rw [q] at e; cases e
  | some j => rw [q] at e; exact DpAll.get' h e
theorem s_ix : Op2 K (rIx K) (p2 ixD) := op_p2 fun B R s σ H v w a b Q e r1 r2 h => by
  unfold ixD at h
  split at h
  · rename_i ds i
    obtain ⟨p, xs, rfl, h1, h2⟩ := r1.tup
    rw [r2.int]
    cases q : atI ds i with
    | none => rw [q] at h; exact (post_no h).elim
    | some d =>
      rw [q] at h
      obtain ⟨u, h3, h4⟩ := atI_dp h2 q
      exact .inr (.inl ⟨p, xs, i, u, rfl, rfl, Evl.ex_t hd_sub h1, h3, h.dat e h4⟩)
  · rename_i ds i
    obtain ⟨p, xs, rfl, h1, h2⟩ := r1.lst hd_sub
    rw [r2.int]
    cases q : atI ds i with
    | none => rw [q] at h; exact (post_no h).elim
    | some d =>
      rw [q] at h
      obtain ⟨u, h3, h4⟩ := atI_dp h2 q
      exact .inl ⟨p, xs, i, u, rfl, rfl, h1, h3, h.dat e h4⟩
  · rename_i z i
    rw [r1.str, r2.int]
    obtain ⟨hz, h⟩ := post_if h
    cases q : atI z.cps.toList i with
    | none => rw [q] at h; exact (post_no h).elim
    | some c =>
      rw [q] at h
      exact .inr (.inr ⟨z, i, c, rfl, rfl, hz, q, h.str e⟩)
  · exact (post_no h).elim
end
section
variable {X : Cx} {B : Fr} {a b c : Expr} {es rest : List Expr} {fa fb fc : S → R AV} {fs : S → R (List AV)} {pos : Pos}
/-- an optional bound -/
def fNoP (s : S) : R (Option Int) := .ok none s
def fP (f : S → R AV) (s : S) : R (Option Int) := (f s).bind fun x s1 =>
  match x with
  | .d (.int i) => .ok (some i) s1
  | _ => .no
abbrev vP : VRel (Option Int) (Option Int) := fun _ _ _ v x => v = x
abbrev rP (K : PySem.W.Frag) (B : Fr) (f : S → R (Option Int)) : TO := rX K B vP f
theorem po_imp {o : Option Expr} {t t' : TO} (h : PO X o t) (hi : ∀ σ H Q, t' σ H Q → t σ H Q) : PO X o t' := ⟨fun pins s σ H Q I q => h.run pins s σ H Q I (hi σ H Q q)⟩
theorem pf_noP : PO X none (rP X.K B fNoP) := po_imp po_none fun σ H Q ⟨R, s, e, q⟩ => q R none H e St.refl rfl
theorem pf_P (ha : PE X a (rE X.K B fa)) : PO X (some a) (rP X.K B (fP fa)) := po_imp (po_some ha) fun σ H Q ⟨R, s, e, q⟩ => ⟨R, s, e, post_bind q fun x s1 R1 v H1 _ e1 st r q1 => by
  try dsimp only at q1
  split at q1
  · rw [dp_int r]; exact ⟨_, rfl, q1 R1 _ H1 e1 St.refl rfl⟩
  · exact q1.elim⟩
def cutL {α : Type} (xs : List α) (lo hi : Option Int) : List α := (xs.drop (HT.sIx xs.length 0 lo)).take (HT.sIx xs.length xs.length hi - HT.sIx xs.length 0 lo)
def slD (lo hi : Option Int) : PyData → Rs
  | .tuple xs => .d (.tuple (cutL xs lo hi))
  | .list xs => .c (.lst (cutL xs lo hi))
  | .str z => if z.length ≤ sizeLine then .d (.str (cutS z lo hi)) else .no
  | _ => .no
def fSl (f : S → R AV) (lo hi : S → R (Option Int)) (s : S) : R AV := (f s).bind fun x s1 => (lo s1).bind fun l s2 => (hi s2).bind fun u s3 => p1 (slD l u) x s3
def rSl (K : PySem.W.Frag) : V → Option Int → Option Int → Hp → VK → Prop := fun x lo hi H Q => rSlL K x lo hi H Q ∨ rSlA K x lo hi H Q ∨ rSlS x lo hi H Q
theorem sl_any : SlR X (rSl X.K) := SlR.or sl_list (SlR.or sl_tupA sl_str)
theorem dpAll_cut {K : PySem.W.Frag} {Hh : Hp} {xs : List V} {ds : List PyData} (h : DpAll K Hh xs ds) (lo hi : Option Int) : DpAll K Hh (cutV xs lo hi) (cutL ds lo hi) := by
  unfold cutV cutL
  rw [DpAll.len h]
  exact DpAll.take _ (DpAll.drop _ h)
theorem s_sl {K : PySem.W.Frag} (l u : Option Int) : Op1 K (fun x H Q => rSl K x l u H Q) (p1 (slD l u)) := op_p1 fun B R s σ H v a Q e r1 h => by
  unfold slD at h
  split at h
  · rename_i ds
    obtain ⟨p, xs, rfl, h1, h2⟩ := r1.tup
    refine .inr (.inl ⟨p, xs, rfl, Evl.ex_t hd_sub h1, fun ⟨z1, z2⟩ => ?_, fun _ q hq => h.tup e (dpAll_cut h2 l u) hq⟩)
    refine h.dat e ?_
    have hl := DpAll.len h2
    rw [hl] at z1 z2
    have : cutL ds l u = ds := by
      unfold cutL
      rw [z1, z2, List.drop_zero, Nat.sub_zero, List.take_length]
    rw [this]
    exact .tup h1 h2
  · obtain ⟨p, xs, rfl, h1, h2⟩ := r1.lst hd_sub
    exact .inl ⟨p, xs, rfl, h1, fun q hq => h.lst e (dpAll_cut h2 l u) hq⟩
  · obtain ⟨hz, h⟩ := post_if h
    rw [r1.str]
    exact .inr (.inr ⟨_, rfl, hz, h.str e⟩)
  · exact (post_no h).elim
theorem pf_slice {lo hi : Option Expr} {fl fh : S → R (Option Int)} {p2 : Pos} (ha : PE X a (rE X.K B fa)) (hl : PO X lo (rP X.K B fl)) (hh : PO X hi (rP X.K B fh)) : PE X (.Subscript a (.Slice lo hi none p2) pos) (rE X.K B (fSl fa fl fh)) := pe_imp (pe_slice sl_any ha hl hh) fun σ H Q ⟨R, s, e, q⟩ =>
  ⟨R, s, e, post_bind q fun x s1 R1 v H1 _ e1 st1 r1 q1 => ⟨R1, s1, e1, post_bind q1 fun l s2 R2 v2 H2 _ e2 st2 r2 q2 => ⟨R2, s2, e2, post_bind q2 fun u s3 R3 v3 H3 _ e3 st3 r3 q3 => by
    subst r2
    subst r3
    exact s_sl _ _ B R3 s3 σ H3 v x Q e3 (VR.st (st2.trans st3) r1) q3⟩⟩⟩
theorem pf_ix (ha : PE X a (rE X.K B fa)) (hb : PE X b (rE X.K B fb)) (hs : PlainIx b) : PE X (.Subscript a b pos) (rE X.K B (f2 (p2 ixD) fa fb)) := pe_imp (pe_ix ix_seq ha hb hs) (q_op s_ix)
/-! from behind -/
def revD : PyData → Rs
  | .tuple xs => .d (.tuple xs.reverse)
  | .list xs => .c (.lst xs.reverse)
  | _ => .no
def rev1D : PyData → Rs
  | .tuple xs => .d (.tuple (xs.drop 1).reverse)
  | _ => .no
theorem pe_orE {t t' : TE} (h : PE X a t) (h' : PE X a t') : PE X a (fun σ H Q => t σ H Q ∨ t' σ H Q) := ⟨fun pins s σ H Q I q => q.elim (h.run pins s σ H Q I) (h'.run pins s σ H Q I)⟩
theorem DpAll.rev {K : PySem.W.Frag} {Hh : Hp} {vs : List V} {ds : List PyData} (h : DpAll K Hh vs ds) : DpAll K Hh vs.reverse ds.reverse := by
  induction ds generalizing vs with
  | nil => cases h; exact .nil
  | cons d l ih =>
    cases h with
    | cons h1 h2 => rw [List.reverse_cons, List.reverse_cons]; exact DpAll.snoc (ih h2) h1
theorem pf_rev {k : Nat} {p1 p2 p3 pos : Pos} (ha : PE X a (rE X.K B fa)) : PE X (.Subscript a (.Slice none none (some (.UnaryOp .USub (.Constant (.int 1) k p1) p2)) p3) pos) (rE X.K B (f1 (Fx.p1 revD) fa)) :=
  pe_imp (pe_orE (Bk.pe_revT ha) (pe_revL ha)) fun σ H Q ⟨R, s, e, q⟩ => by
    have tp : (∃ x s1 ds, fa s = .ok x s1 ∧ rd s1 x = some (.tuple ds)) ∨ ¬ (∃ x s1 ds, fa s = .ok x s1 ∧ rd s1 x = some (.tuple ds)) := Classical.em _
    rcases tp with ⟨x, s1, ds, t1, t2⟩ | tp
    · refine .inl ⟨R, s, e, post_bind q fun x' s1' R1 v H1 t3 e1 st1 r1 q1 => ?_⟩
      rw [t1] at t3
      cases t3
      unfold Fx.p1 at q1
      rw [t2] at q1
      obtain ⟨p, xs, rfl, h1, h2⟩ := (e1.rd r1 t2).tup
      exact ⟨p, xs, rfl, Evl.ex_t hd_sub h1, fun p hp => by rw [show Bk.backV xs none = xs.reverse from rfl]; exact Post.tup e1 q1 (DpAll.rev h2) hp⟩
    · refine .inr ⟨R, s, e, post_bind q fun x s1 R1 v H1 t3 e1 st1 r1 q1 => ?_⟩
      unfold Fx.p1 at q1
      cases h1 : rd s1 x with
      | none => rw [h1] at q1; exact q1.elim
      | some d =>
        rw [h1] at q1
        unfold revD at q1
        dsimp only at q1
        split at q1
        · exact absurd ⟨x, s1, _, t3, h1⟩ tp
        · obtain ⟨p, xs, rfl, h2, h3⟩ := (e1.rd r1 h1).lst hd_sub
          exact ⟨p, xs, rfl, h2, fun p hp => Post.lst e1 q1 (DpAll.rev h3) hp⟩
        · exact (post_no q1).elim
theorem pf_rev1 {k j : Nat} {p1 p2 p3 p4 pos : Pos} (ha : PE X a (rE X.K B fa)) : PE X (.Subscript a (.Slice none (some (.Constant (.int 0) j p4)) (some (.UnaryOp .USub (.Constant (.int 1) k p1) p2)) p3) pos) (rE X.K B (f1 (Fx.p1 rev1D) fa)) :=
  pe_imp (Bk.pe_rev1T ha) fun σ H Q ⟨R, s, e, q⟩ => ⟨R, s, e, post_bind q fun x s1 R1 v H1 t3 e1 st1 r1 q1 => by
    unfold Fx.p1 at q1
    cases h1 : rd s1 x with
    | none => rw [h1] at q1; exact q1.elim
    | some d =>
      rw [h1] at q1
      unfold rev1D at q1
      dsimp only at q1
      split at q1
      · obtain ⟨p, xs, rfl, h2, h3⟩ := (e1.rd r1 h1).tup
        exact ⟨p, xs, rfl, Evl.ex_t hd_sub h2, fun p hp => by rw [show Bk.backV xs (some 0) = (xs.drop 1).reverse from rfl]; exact Post.tup e1 q1 (DpAll.rev (DpAll.drop 1 h3)) hp⟩
      · exact (post_no q1).elim⟩
/-! ### built-ins -/
def fN (g : List AV → S → R AV) (f : S → R (List AV)) (s : S) : R AV := (f s).bind fun xs s1 => g xs s1
def OpN (K : PySem.W.Frag) (r : List V → Hp → VK → Prop) (g : List AV → S → R AV) : Prop := ∀ (B : Fr) (R : List Addr) (s : S) (σ : L2.St) (H : Hp) (vs : List V) (xs : List AV) (Q : VK), Env K B R s σ H → vA K B R s H vs xs → Post K B (vE K B) σ R s H (g xs s) Q → r vs H Q
theorem q_n {K : PySem.W.Frag} {r : List V → Hp → VK → Prop} {g : List AV → S → R AV} (ho : OpN K r g) (σ : L2.St) (H : Hp) (Q : VK) (h : rE K B (fN g fs) σ H Q) : tCB r (rA K B fs) σ H Q := by
  obtain ⟨R, s, e, q⟩ := h
  exact ⟨R, s, e, post_bind q fun xs s1 R1 vs H1 _ e1 st r q1 => ho B R1 s1 σ H1 vs xs Q e1 r q1⟩
theorem pf_callB {id : String} {x : Str} {p : Pos} {r : List V → Hp → VK → Prop} {g : List AV → S → R AV} (hc : CallR X (.builtin id) r) (ho : OpN X.K r g) (hg : Gl X x) (hm : X.mg x = none) (hv : bootBuiltins x = some (.builtin id)) (ha : PA X (a :: es) (rA X.K B fs)) (hn : x ≠ "__name__" := by decide) (hdb : (x == ("__debug__" : Str)) = false := by decide)
    (he : starEach (a :: es) X.env = (false, eval a X.env) :: starEach es X.env := by rfl) (hpl : (backTo pos (starEach es X.env)).any (·.1) = false := by rfl) : PE X (.Call (.Name x p) (a :: es) [] pos) (rE X.K B (fN g fs)) := pe_imp (pe_callB hc hg hm hv ha hn hdb he hpl) (q_n ho)
theorem pf_callTy {id : String} {x : Str} {p : Pos} {r : List V → Hp → VK → Prop} {g : List AV → S → R AV} (hc : CallR X (.type id) r) (ho : OpN X.K r g) (hg : Gl X x) (hm : X.mg x = none) (hv : bootBuiltins x = some (.type id)) (ha : PA X (a :: es) (rA X.K B fs)) (hn : x ≠ "__name__" := by decide) (hdb : (x == ("__debug__" : Str)) = false := by decide)
    (he : starEach (a :: es) X.env = (false, eval a X.env) :: starEach es X.env := by rfl) (hpl : (backTo pos (starEach es X.env)).any (·.1) = false := by rfl) : PE X (.Call (.Name x p) (a :: es) [] pos) (rE X.K B (fN g fs)) := pe_imp (pe_callTy hc hg hm hv ha hn hdb he hpl) (q_n ho)
section
variable {K : PySem.W.Frag} {R : List Addr} {s : S} {σ : L2.St} {H Hh : Hp}
/-- of one value -/
def n1 (f : PyData → Rs) (xs : List AV) (s : S) : Fx.R AV :=
  match xs with
  | [x] => p1 f x s
  | _ => .no
theorem op_n1 {r : List V → Hp → VK → Prop} {f : PyData → Rs} (h : ∀ (B : Fr) (R : List Addr) (s : S) (σ : L2.St) (H : Hp) (v : V) (a : PyData) (Q : VK), Env K B R s σ H → Dq K (hdS B R s H) H v a → Post K B (vE K B) σ R s H (gv (f a) s) Q → r [v] H Q) : OpN K r (n1 f) := fun B R s σ H vs xs Q e ra q => by
  match xs, ra, q with
  | [], .nil, q => exact q.elim
  | [x], .cons r1 .nil, q =>
    have q : Post K B (vE K B) σ R s H (p1 f x s) Q := q
    unfold p1 at q
    cases h1 : Fx.rd s x with
    | none => rw [h1] at q; exact q.elim
    | some a =>
      rw [h1] at q
      exact h B R s σ H _ a Q e (e.rd r1 h1) q
  | _ :: _ :: _, .cons r1 (.cons r2 r3), q => exact q.elim
def n2 (f : PyData → PyData → Rs) (xs : List AV) (s : S) : Fx.R AV :=
  match xs with
  | [x, y] => p2 f x y s
  | _ => .no
theorem op_n2 {r : List V → Hp → VK → Prop} {f : PyData → PyData → Rs} (h : ∀ (B : Fr) (R : List Addr) (s : S) (σ : L2.St) (H : Hp) (v w : V) (a b : PyData) (Q : VK), Env K B R s σ H → Dq K (hdS B R s H) H v a → Dq K (hdS B R s H) H w b → Post K B (vE K B) σ R s H (gv (f a b) s) Q → r [v, w] H Q) : OpN K r (n2 f) := fun B R s σ H vs xs Q e ra q => by
  match xs, ra, q with
  | [], .nil, q => exact q.elim
  | [x], .cons r1 .nil, q => exact q.elim
  | [x, y], .cons r1 (.cons r2 .nil), q => exact op_p2 (K := K) (r := fun v w H Q => r [v, w] H Q) h B R s σ H _ _ x y Q e r1 r2 q
  | _ :: _ :: _ :: _, .cons r1 (.cons r2 (.cons r3 r4)), q => exact q.elim
theorem OpN.or {r r' : List V → Hp → VK → Prop} {g : List AV → S → Fx.R AV} (h : OpN K r g) : OpN K (fun xs H Q => r xs H Q ∨ r' xs H Q) g := fun B R s σ H vs xs Q e ra q => .inl (h B R s σ H vs xs Q e ra q)
def lenD : PyData → Rs
  | .tuple xs => .d (.int xs.length)
  | .list xs => .d (.int xs.length)
  | .str z => if z.length ≤ sizeLine then .d (.int z.length) else .no
  | _ => .no
def rLen (K : PySem.W.Frag) : List V → Hp → VK → Prop := fun xs H Q => (∃ p ys, xs = [.ref p] ∧ (SqL K H p ys ∨ SqT K H p ys) ∧ Q (.int ys.length) H) ∨ ∃ z, xs = [.str z] ∧ z.length ≤ sizeLine ∧ Q (.int z.length) H
theorem call_lenA : CallR X (.builtin "len") (rLen X.K) := CallR.or call_len_seq call_len_str
theorem s_len : OpN K (rLen K) (n1 lenD) := op_n1 fun B R s σ H v a Q e r1 h => by
  unfold lenD at h
  split at h
  · obtain ⟨p, xs, rfl, h1, h2⟩ := r1.tup
    exact .inl ⟨p, xs, rfl, .inr (Evl.ex_t hd_sub h1), by rw [DpAll.len h2]; exact h.int e⟩
  · obtain ⟨p, xs, rfl, h1, h2⟩ := r1.lst hd_sub
    exact .inl ⟨p, xs, rfl, .inl h1, by rw [DpAll.len h2]; exact h.int e⟩
  · obtain ⟨hz, h⟩ := post_if h
    rw [r1.str]
    exact .inr ⟨_, rfl, hz, h.int e⟩
  · exact (post_no h).elim
def absD : PyData → Rs
  | .int i => .d (.int (if i < 0 then -i else i))
  | _ => .no
theorem s_abs : OpN K (fun xs H Q => ∃ i, xs = [.int i] ∧ Q (.int (if i < 0 then -i else i)) H) (n1 absD) := op_n1 fun B R s σ H v a Q e r1 h => by
  unfold absD at h
  split at h
  · rw [r1.int]; exact ⟨_, rfl, h.int e⟩
  · exact (post_no h).elim
def int1D : PyData → Rs
  | .int i => .d (.int i)
  | .bool k => .d (.int (if k then 1 else 0))
  | _ => .no
theorem s_int1 : OpN K (fun xs H Q => (∃ i, xs = [.int i] ∧ Q (.int i) H) ∨ ∃ k, xs = [.bl k] ∧ Q (.int (if k then 1 else 0)) H) (n1 int1D) := op_n1 fun B R s σ H v a Q e r1 h => by
  unfold int1D at h
  split at h
  · rw [r1.int]; exact .inl ⟨_, rfl, h.int e⟩
  · rw [r1.bool]; exact .inr ⟨_, rfl, h.int e⟩
  · exact (post_no h).elim
def tupD : PyData → Rs
  | .tuple xs => .d (.tuple xs)
  | .list xs => .d (.tuple xs)
  | _ => .no
theorem s_tuple : OpN K (fun xs H Q => ∃ p ys, xs = [.ref p] ∧ ((SqL K H p ys ∧ ∀ l, H l = none → Q (.ref l) (upd H l (.tup ys))) ∨ (SqT K H p ys ∧ Q (.ref p) H))) (n1 tupD) := op_n1 fun B R s σ H v a Q e r1 h => by
  unfold tupD at h
  split at h
  · obtain ⟨p, xs, rfl, h1, h2⟩ := r1.tup
    exact ⟨p, xs, rfl, .inr ⟨Evl.ex_t hd_sub h1, h.dat e (.tup h1 h2)⟩⟩
  · obtain ⟨p, xs, rfl, h1, h2⟩ := r1.lst hd_sub
    exact ⟨p, xs, rfl, .inl ⟨h1, fun l hl => h.tup e h2 hl⟩⟩
  · exact (post_no h).elim
def lstD : PyData → Rs
  | .tuple xs => .c (.lst xs)
  | .list xs => .c (.lst xs)
  | _ => .no
theorem s_list : OpN K (fun xs H Q => ∃ p ys, xs = [.ref p] ∧ (SqL K H p ys ∨ SqT K H p ys) ∧ ∀ l, H l = none → Q (.ref l) (upd H l (.lst ys))) (n1 lstD) := op_n1 fun B R s σ H v a Q e r1 h => by
  unfold lstD at h
  split at h
  · obtain ⟨p, xs, rfl, h1, h2⟩ := r1.tup
    exact ⟨p, xs, rfl, .inr (Evl.ex_t hd_sub h1), fun l hl => h.lst e h2 hl⟩
  · obtain ⟨p, xs, rfl, h1, h2⟩ := r1.lst hd_sub
    exact ⟨p, xs, rfl, .inl h1, fun l hl => h.lst e h2 hl⟩
  · exact (post_no h).elim
/-- all ints -/
def intsOf : List PyData → Option (List Int)
  | [] => some []
  | .int i :: l => (intsOf l).map (i :: ·)
  | _ :: _ => none
theorem intsOf_eq : ∀ {ds : List PyData} {ns : List Int}, intsOf ds = some ns → ds = ns.map .int
  | [], ns, h => by cases h; rfl
  | d :: l, ns, h => by
    cases d with
    | int i =>
      cases q : intsOf l with
      | none => simp [intsOf, q] at h
      | some ms =>
        have e : ns = i :: ms := by simp [intsOf, q] at h; exact h.symm
        rw [e, intsOf_eq q]; rfl
    | _ => cases h
theorem intsOf_map (ns : List Int) : intsOf (ns.map .int) = some ns := by
  induction ns with
  | nil => rfl
  | cons n l ih => rw [List.map_cons, intsOf, ih]; rfl
theorem dp_ints : ∀ {ns : List Int} {xs : List V}, DpAll K Hh xs (ns.map .int) → xs = ns.map V.int
  | [], xs, h => by cases h; rfl
  | n :: l, xs, h => by
    cases h with
    | cons h1 h2 => rw [dp_int h1, dp_ints h2]; rfl
def sumD : PyData → Rs
  | .tuple xs => match intsOf xs with | some ns => .d (.int ns.sum) | none => .no
  | .list xs => match intsOf xs with | some ns => .d (.int ns.sum) | none => .no
  | _ => .no
def rSumA (K : PySem.W.Frag) : List V → Hp → VK → Prop := fun vs H Q => rSum K vs H Q ∨ Bk.rSumT K vs H Q
theorem cr_sumA (hc : X.calm = true) : CallR X (.builtin "sum") (rSumA X.K) := CallR.or (cr_sum hc) (Bk.cr_sumT hc)
theorem s_sum : OpN K (rSumA K) (n1 sumD) := op_n1 fun B R s σ H v a Q e r1 h => by
  unfold sumD at h
  split at h
  · rename_i ds
    obtain ⟨p, xs, rfl, h1, h2⟩ := r1.tup
    cases q : intsOf ds with
    | none => rw [q] at h; exact (post_no h).elim
    | some ns =>
      rw [q] at h
      rw [intsOf_eq q] at h2
      have := dp_ints h2
      subst this
      exact .inr ⟨p, ns, rfl, Evl.ex_t hd_sub h1, h.int e⟩
  · rename_i ds
    obtain ⟨p, xs, rfl, h1, h2⟩ := r1.lst hd_sub
    cases q : intsOf ds with
    | none => rw [q] at h; exact (post_no h).elim
    | some ns =>
      rw [q] at h
      rw [intsOf_eq q] at h2
      have := dp_ints h2
      subst this
      exact .inl ⟨p, ns, rfl, h1, h.int e⟩
  · exact (post_no h).elim
/-- the greatest, the least of ints -/
def maxI (n : Int) (l : List Int) : Int := l.foldl (fun m i => if i > m then i else m) n
def minI (n : Int) (l : List Int) : Int := l.foldl (fun m i => if i < m then i else m) n
theorem maxI_mem : ∀ (l : List Int) (n : Int), maxI n l ∈ n :: l
  | [], n => by simp [maxI]
  | i :: l, n => by
    have h := maxI_mem l (if i > n then i else n)
    show maxI (if i > n then i else n) l ∈ n :: i :: l
    rcases List.mem_cons.mp h with h | h
    · rw [h]; split <;> simp
    · simp [h]
theorem maxI_ge : ∀ (l : List Int) (n : Int), ∀ y ∈ n :: l, y ≤ maxI n l
  | [], n, y, h => by simp at h; subst h; exact Int.le_refl _
  | i :: l, n, y, h => by
    have h0 := maxI_ge l (if i > n then i else n)
    show y ≤ maxI (if i > n then i else n) l
    rcases List.mem_cons.mp h with h | h
    · refine Int.le_trans ?_ (h0 _ List.mem_cons_self)
      subst h; split <;> omega
    · rcases List.mem_cons.mp h with h | h
      · refine Int.le_trans ?_ (h0 _ List.mem_cons_self)
        subst h; split <;> omega
      · exact h0 y (List.mem_cons_of_mem _ h)
theorem minI_mem : ∀ (l : List Int) (n : Int), minI n l ∈ n :: l
  | [], n => by simp [minI]
  | i :: l, n => by
    have h := minI_mem l (if i < n then i else n)
    show minI (if i < n then i else n) l ∈ n :: i :: l
    rcases List.mem_cons.mp h with h | h
    · rw [h]; split <;> simp
    · simp [h]
theorem minI_le : ∀ (l : List Int) (n : Int), ∀ y ∈ n :: l, minI n l ≤ y
  | [], n, y, h => by simp at h; subst h; exact Int.le_refl _
  | i :: l, n, y, h => by
    have h0 := minI_le l (if i < n then i else n)
    show minI (if i < n then i else n) l ≤ y
    rcases List.mem_cons.mp h with h | h
    · refine Int.le_trans (h0 _ List.mem_cons_self) ?_
      subst h; split <;> omega
    · rcases List.mem_cons.mp h with h | h
      · refine Int.le_trans (h0 _ List.mem_cons_self) ?_
        subst h; split <;> omega
      · exact h0 y (List.mem_cons_of_mem _ h)
theorem mem_max {m : Int} {n : Int} {l : List Int} (h1 : m ∈ n :: l) (h2 : ∀ y ∈ n :: l, y ≤ m) : m = maxI n l := Int.le_antisymm (maxI_ge l n m h1) (h2 _ (maxI_mem l n))
theorem mem_min {m : Int} {n : Int} {l : List Int} (h1 : m ∈ n :: l) (h2 : ∀ y ∈ n :: l, m ≤ y) : m = minI n l := Int.le_antisymm (h2 _ (minI_mem l n)) (minI_le l n m h1)
def maxD : PyData → Rs
  | .list xs => match intsOf xs with | some (n :: l) => .d (.int (maxI n l)) | _ => .no
  | _ => .no
theorem s_max : OpN K (rMax K) (n1 maxD) := op_n1 fun B R s σ H v a Q e r1 h => by
  unfold maxD at h
  split at h
  · rename_i ds
    obtain ⟨p, xs, rfl, h1, h2⟩ := r1.lst hd_sub
    split at h
    · rename_i n l q
      rw [intsOf_eq q] at h2
      have := dp_ints h2
      subst this
      exact ⟨p, n :: l, rfl, h1, by simp, fun m m1 m2 => by rw [mem_max m1 m2]; exact h.int e⟩
    · exact (post_no h).elim
  · exact (post_no h).elim
def minD : PyData → Rs
  | .list xs => match intsOf xs with | some (n :: l) => .d (.int (minI n l)) | _ => .no
  | _ => .no
theorem s_min : OpN K (rMin K) (n1 minD) := op_n1 fun B R s σ H v a Q e r1 h => by
  unfold minD at h
  split at h
  · rename_i ds
    obtain ⟨p, xs, rfl, h1, h2⟩ := r1.lst hd_sub
    split at h
    · rename_i n l q
      rw [intsOf_eq q] at h2
      have := dp_ints h2
      subst this
      exact ⟨p, n :: l, rfl, h1, by simp, fun m m1 m2 => by rw [mem_min m1 m2]; exact h.int e⟩
    · exact (post_no h).elim
  · exact (post_no h).elim
def max2D : PyData → PyData → Rs
  | .int i, .int j => .d (.int (if j > i then j else i))
  | _, _ => .no
theorem s_max2 : OpN K (fun xs H Q => ∃ i j, xs = [.int i, .int j] ∧ Q (.int (if j > i then j else i)) H) (n2 max2D) := op_n2 fun B R s σ H v w a b Q e r1 r2 h => by
  unfold max2D at h
  split at h
  · rw [r1.int, r2.int]; exact ⟨_, _, rfl, h.int e⟩
  · exact (post_no h).elim
def min2D : PyData → PyData → Rs
  | .int i, .int j => .d (.int (if j < i then j else i))
  | _, _ => .no
theorem s_min2 : OpN K (fun xs H Q => ∃ i j, xs = [.int i, .int j] ∧ Q (.int (if j < i then j else i)) H) (n2 min2D) := op_n2 fun B R s σ H v w a b Q e r1 r2 h => by
  unfold min2D at h
  split at h
  · rw [r1.int, r2.int]; exact ⟨_, _, rfl, h.int e⟩
  · exact (post_no h).elim
/-- all bools -/
def boolsOf : List PyData → Option (List Bool)
  | [] => some []
  | .bool i :: l => (boolsOf l).map (i :: ·)
  | _ :: _ => none
theorem dp_bools : ∀ {ds : List PyData} {bs : List Bool} {xs : List V}, boolsOf ds = some bs → DpAll K Hh xs ds → xs = bs.map V.bl
  | [], bs, xs, q, h => by cases h; cases q; rfl
  | d :: l, bs, xs, q, h => by
    cases d with
    | bool i =>
      cases z : boolsOf l with
      | none => simp [boolsOf, z] at q
      | some ms =>
        have e : bs = i :: ms := by simp [boolsOf, z] at q; exact q.symm
        cases h with
        | cons h1 h2 => rw [e, dp_bl h1, dp_bools z h2]; rfl
    | _ => cases q
def allD : PyData → Rs
  | .list xs => match boolsOf xs with | some bs => .d (.bool (bs.all id)) | _ => .no
  | _ => .no
theorem s_all : OpN K (rAll K) (n1 allD) := op_n1 fun B R s σ H v a Q e r1 h => by
  unfold allD at h
  split at h
  · rename_i ds
    obtain ⟨p, xs, rfl, h1, h2⟩ := r1.lst hd_sub
    split at h
    · rename_i bs q
      rw [dp_bools q h2] at h1
      exact ⟨p, bs, rfl, h1, h.bool e⟩
    · exact (post_no h).elim
  · exact (post_no h).elim
def anyD : PyData → Rs
  | .list xs => match boolsOf xs with | some bs => .d (.bool (bs.any id)) | _ => .no
  | _ => .no
theorem s_any : OpN K (rAny K) (n1 anyD) := op_n1 fun B R s σ H v a Q e r1 h => by
  unfold anyD at h
  split at h
  · rename_i ds
    obtain ⟨p, xs, rfl, h1, h2⟩ := r1.lst hd_sub
    split at h
    · rename_i bs q
      rw [dp_bools q h2] at h1
      exact ⟨p, bs, rfl, h1, h.bool e⟩
    · exact (post_no h).elim
  · exact (post_no h).elim
end
end
end Fx

/-! ### statements -/
namespace Fx
open PySem PySem.Spec PyProof.Rows L2
open Bk (Dp.ex DpAll.ex DpAll.len DpAll.get DpAll.get' DpAll.app DpAll.take DpAll.drop DpAll.snoc dp_tup dp_lst dp_int dp_str dp_bl ex_new)
open Evl (Ex)
inductive Fl where
  | nx
  | rt (x : AV)
  | bk
  | ct
section
variable {K : PySem.W.Frag} {B : Fr} {R R1 : List Addr} {s s1 : S} {σ : L2.St} {H H1 : Hp} {D : Ends}
def PostS (K : PySem.W.Frag) (B : Fr) (R : List Addr) (s : S) (H : Hp) (r : Fx.R Fl) (D : Ends) : Prop :=
  match r with
  | .ok .nx s' => ∀ R' σ' H', Env K B R' s' σ' H' → Kp B R s H R' s' H' → D.nx σ' H'
  | .ok (.rt x) s' => ∀ R' σ' v H', Env K B R' s' σ' H' → Kp B R s H R' s' H' → VR K B R' s' H' v x → D.rt v H'
  | .ok .bk s' => ∀ R' σ' H', Env K B R' s' σ' H' → Kp B R s H R' s' H' → D.bk σ' H'
  | .ok .ct s' => ∀ R' σ' H', Env K B R' s' σ' H' → Kp B R s H R' s' H' → D.ct σ' H'
  | .xc x s' => ∀ R' σ' H' cls d, Env K B R' s' σ' H' → Kp B R s H R' s' H' → B.xr x cls d H' → B.xw cls d σ' H'
  | .no => False
theorem PostS.kp {r : Fx.R Fl} (a : Kp B R s H R1 s1 H1) (h : PostS K B R s H r D) : PostS K B R1 s1 H1 r D := by
  cases r with
  | ok x s' =>
    cases x with
    | nx => exact fun R' σ' H' e k => h R' σ' H' e (a.trans k)
    | rt x => exact fun R' σ' v H' e k => h R' σ' v H' e (a.trans k)
    | bk => exact fun R' σ' H' e k => h R' σ' H' e (a.trans k)
    | ct => exact fun R' σ' H' e k => h R' σ' H' e (a.trans k)
  | xc x s' => exact fun R' σ' H' cls d e k => h R' σ' H' cls d e (a.trans k)
  | no => exact h
def rS (K : PySem.W.Frag) (B : Fr) (f : S → Fx.R Fl) : TS := fun D σ H => ∃ R s, Env K B R s σ H ∧ PostS K B R s H (f s) D
theorem post_bindS {α β : Type} {V : VRel α β} {r : Fx.R α} {k : α → S → Fx.R Fl} {Q' : β → Hp → Prop} (h : PostS K B R s H (r.bind k) D)
    (hk : ∀ x s1 R1 v H1, r = .ok x s1 → Env K B R1 s1 σ H1 → St B R s H R1 s1 H1 → V R1 s1 H1 v x → PostS K B R1 s1 H1 (k x s1) D → Q' v H1) : Post K B V σ R s H r Q' := by
  cases r with
  | ok x s' => exact fun R' v H' e st q => hk x s' R' v H' rfl e st q (PostS.kp st.kp h)
  | xc x s' => exact fun R' H' cls d e st q => h R' σ H' cls d e st.kp q
  | no => exact h
theorem Env.klt (e : Env K B R s σ H) {i k : Nat} (h : s.sl[i]? = some (some (.l k))) : k < s.lo.length := by
  obtain ⟨v, _, a, h2, _⟩ := e.sl i _ h
  rw [e.ll]
  exact (List.getElem?_eq_some_iff.mp h2).1
/-- what an expression leaves behind is cut -/
theorem Env.cutSt (e : Env K B R s σ H) (e1 : Env K B R1 s1 σ H1) (st : St B R s H R1 s1 H1) : ∃ R2, Env K B R2 (s1.cut s.lo.length) σ H1 ∧ Kp B R s H R2 (s1.cut s.lo.length) H1 := by
  obtain ⟨a, b⟩ := e1.cut (n := s.lo.length) fun i k h => e.klt (st.slm i k h)
  exact ⟨_, a, st.kp.trans b⟩
/-! only the cells that some slot holds, in their order -/
def uses (j : Nat) : Option AV → Bool
  | some (.l k) => k == j
  | _ => false
def keeps (s : S) : List Nat := (List.range s.lo.length).filter fun k => s.sl.any (uses k)
def ren (ks : List Nat) : Option AV → Option AV
  | some (.l k) => some (.l (ks.idxOf k))
  | y => y
def S.pack (s : S) : S := { s with lo := (keeps s).map (fun k => s.lo.getD k none), sl := s.sl.map (ren (keeps s)) }
def S.tidy (s : S) : S :=
  match s.lo with
  | [] => s
  | _ => s.pack
theorem getD_some {α : Type} {l : List α} {k : Nat} {x d : α} (h : l[k]? = some x) : l.getD k d = x := by rw [List.getD_eq_getElem?_getD, h]; rfl
theorem Env.pack (e : Env K B R s σ H) : ∃ R1, Env K B R1 s.pack σ H ∧ Kp B R s H R1 s.pack H := by
  have hR : R.Nodup := (List.nodup_append.mp e.cells.nd).2.1
  have hk : ∀ k ∈ keeps s, k < s.lo.length := fun k h => by simpa using (List.mem_filter.mp h).1
  have hks : (keeps s).Nodup := (List.nodup_range).sublist List.filter_sublist
  have get : ∀ {j k : Nat}, (keeps s)[j]? = some k → k < R.length := fun h => by rw [← e.ll]; exact hk _ (List.mem_of_getElem? h)
  have hR1 : ∀ (j : Nat) (a : Addr), ((keeps s).map (fun k => R.getD k 0))[j]? = some a → ∃ k, (keeps s)[j]? = some k ∧ R[k]? = some a := fun j a h => by
    rw [List.getElem?_map] at h
    cases q : (keeps s)[j]? with
    | none => rw [q] at h; cases h
    | some k =>
      rw [q] at h
      have hlt := get q
      have : R[k]? = some R[k] := List.getElem?_eq_getElem hlt
      have h : R.getD k 0 = a := Option.some.inj h
      rw [getD_some this] at h
      exact ⟨k, rfl, by rw [this, h]⟩
  refine ⟨(keeps s).map (fun k => R.getD k 0), e.sub rfl (by show _ = ((keeps s).map _).length; rw [List.length_map, List.length_map]) ?_ (fun a m => ?_) (fun j c a h1 h2 => ?_) (by show σ.length = (s.sl.map _).length; rw [List.length_map]; exact e.len) (fun hx i x q => ?_)⟩
  · rw [List.Nodup, List.pairwise_map]
    refine List.Pairwise.imp_of_mem (fun {i j} hi hj hne heq => hne ?_) hks
    have a1 : i < R.length := by rw [← e.ll]; exact hk i hi
    have a2 : j < R.length := by rw [← e.ll]; exact hk j hj
    rw [getD_some (List.getElem?_eq_getElem a1), getD_some (List.getElem?_eq_getElem a2)] at heq
    exact (List.getElem_inj hR).mp heq
  · obtain ⟨k, hk1, rfl⟩ := List.mem_map.mp m
    have : k < R.length := by rw [← e.ll]; exact hk k hk1
    rw [getD_some (List.getElem?_eq_getElem this)]
    exact List.getElem_mem _
  · obtain ⟨k, k1, k2⟩ := hR1 j a h2
    have h1 : ((keeps s).map (fun k => s.lo.getD k none))[j]? = some (some c) := h1
    rw [List.getElem?_map, k1] at h1
    have h1 : s.lo.getD k none = some c := Option.some.inj h1
    have hlt : k < s.lo.length := hk k (List.mem_of_getElem? k1)
    rw [getD_some (List.getElem?_eq_getElem hlt)] at h1
    exact ⟨k, by rw [List.getElem?_eq_getElem hlt, h1], k2⟩
  · have q : (s.sl.map (ren (keeps s)))[i]? = some (some x) := q
    rw [List.getElem?_map] at q
    cases w : s.sl[i]? with
    | none => rw [w] at q; cases q
    | some y =>
      rw [w] at q
      have q : ren (keeps s) y = some x := Option.some.inj q
      cases y with
      | none => cases q
      | some y =>
        obtain ⟨v, h1, h2⟩ := e.sl i y w
        refine ⟨v, h1, ?_⟩
        cases y with
        | d y => cases q; exact Dp.ex hx _ _ h2
        | g k => cases q; exact h2
        | l k =>
          cases q
          obtain ⟨a, h3, h4⟩ := h2
          have hm : k ∈ keeps s := List.mem_filter.mpr ⟨List.mem_range.mpr (e.klt w), List.any_eq_true.mpr ⟨_, List.mem_of_getElem? w, by simp [uses]⟩⟩
          have hix : (keeps s)[(keeps s).idxOf k]? = some k := by
            have hlt := List.idxOf_lt_length_of_mem hm
            rw [List.getElem?_eq_getElem hlt, List.getElem_idxOf]
          refine ⟨a, ?_, h4⟩
          rw [List.getElem?_map, hix]
          show some (R.getD k 0) = some a
          rw [getD_some h3]
theorem Env.tidy (e : Env K B R s σ H) : ∃ R1, Env K B R1 s.tidy σ H ∧ Kp B R s H R1 s.tidy H := by
  unfold S.tidy
  split
  · exact ⟨R, e, Kp.refl⟩
  · exact e.pack
end
section
variable {X : Cx} {B : Fr} {a b c e tg it : Expr} {st : Stmt} {es rest body : List Stmt} {fa fb fc fe : S → R AV} {fs : S → R (List AV)} {ft : S → R Bool} {f g : S → R Fl} {pos : Pos}
/-! blocks -/
def fNx (s : S) : R Fl := .ok .nx s
def fSeq (f g : S → R Fl) (s : S) : R Fl := (f s).bind fun fl s1 =>
  match fl with
  | .nx => g s1
  | fl => .ok fl s1
theorem pf_sNil : PSs X [] (rS X.K B fNx) := pss_imp pss_nil fun D σ H ⟨R, s, e, q⟩ => q R σ H e Kp.refl
theorem pf_sOne (h : PS X st (rS X.K B f)) : PSs X [st] (rS X.K B f) := pss_one h
theorem q_seq {K : PySem.W.Frag} (D : Ends) (σ : L2.St) (H : Hp) (h : rS K B (fSeq f g) D σ H) : tSeq (rS K B f) (rS K B g) D σ H := by
  obtain ⟨R, s, e, q⟩ := h
  refine ⟨R, s, e, ?_⟩
  unfold fSeq at q
  cases z : f s with
  | no => rw [z] at q; exact q.elim
  | xc x s1 => rw [z] at q; exact q
  | ok fl s1 =>
    rw [z] at q
    cases fl with
    | nx => exact fun R' σ' H' e' k => ⟨R', s1, e', PostS.kp k q⟩
    | rt x => exact q
    | bk => exact q
    | ct => exact q
theorem pf_sCons (h1 : PS X st (rS X.K B f)) (h2 : PSs X es (rS X.K B g)) : PSs X (st :: es) (rS X.K B (fSeq f g)) := pss_imp (pss_cons h1 h2) q_seq
theorem pf_pass : PS X (.Pass pos) (rS X.K B fNx) := ps_imp ps_pass fun D σ H ⟨R, s, e, q⟩ => q R σ H e Kp.refl
def fBk (s : S) : R Fl := .ok .bk s
def fCt (s : S) : R Fl := .ok .ct s
theorem pf_break : PS X (.Break pos) (rS X.K B fBk) := ps_imp ps_break fun D σ H ⟨R, s, e, q⟩ => q R σ H e Kp.refl
theorem pf_cont : PS X (.Continue pos) (rS X.K B fCt) := ps_imp ps_continue fun D σ H ⟨R, s, e, q⟩ => q R σ H e Kp.refl
theorem pf_doc {x j pos'} : PS X (.Expr (.Constant (.str x) j pos) pos') (rS X.K B fNx) := ps_imp ps_doc fun D σ H ⟨R, s, e, q⟩ => q R σ H e Kp.refl
def fRet (f : S → R AV) (s : S) : R Fl := (f s).bind fun x s1 => .ok (.rt x) s1
theorem pf_ret (h : PE X e (rE X.K B fe)) : PS X (.Return (some e) pos) (rS X.K B (fRet fe)) := ps_imp (ps_ret h) fun D σ H ⟨R, s, e, q⟩ => ⟨R, s, e, post_bindS q fun x s1 R1 v H1 _ e1 st r q1 => q1 R1 σ v H1 e1 Kp.refl r⟩
def fRetN (s : S) : R Fl := .ok (.rt (.d .none)) s
theorem pf_retN : PS X (.Return none pos) (rS X.K B fRetN) := ps_imp ps_retN fun D σ H ⟨R, s, e, q⟩ => q R σ .non H e Kp.refl .non
/-- an expression alone -/
def fExpr (f : S → R AV) (s : S) : R Fl := (f s).bind fun _ s1 => .ok .nx (s1.cut s.lo.length)
theorem pf_expr (h : PE X e (rE X.K B fe)) (hs : swapsWith e none pos.line X.env = pure false := by rfl) : PS X (.Expr e pos) (rS X.K B (fExpr fe)) := ps_imp (ps_expr h hs) fun D σ H ⟨R, s, e, q⟩ => ⟨R, s, e, post_bindS q fun x s1 R1 v H1 _ e1 st r q1 => by
  obtain ⟨a, b⟩ := e1.cut (n := s.lo.length) fun i k h => e.klt (st.slm i k h)
  exact q1 _ σ H1 a b⟩
/-- if -/
def fIfS (t : S → R Bool) (f g : S → R Fl) (s : S) : R Fl := (t s).bind fun c s1 => if c then f (s1.cut s.lo.length) else g (s1.cut s.lo.length)
theorem pf_ifS (hc : PT X c (rT X.K B ft)) (ha : PSs X es (rS X.K B f)) (hb : PSs X rest (rS X.K B g)) : PS X (.If c es rest pos) (rS X.K B (fIfS ft f g)) := ps_imp (ps_if hc ha hb) fun D σ H ⟨R, s, e, q⟩ => ⟨R, s, e, post_bindS q fun c s1 R1 d H1 _ e1 st r q1 => by
  obtain ⟨a, b⟩ := e1.cut (n := s.lo.length) fun i k h => e.klt (st.slm i k h)
  subst r
  cases d with
  | true => exact ⟨_, _, a, PostS.kp b q1⟩
  | false => exact ⟨_, _, a, PostS.kp b q1⟩⟩
/-- name = e -/
def fSet (i : Nat) (f : S → R AV) (s : S) : R Fl := (f s).bind fun x s1 => .ok .nx ({ s1 with sl := s1.sl.set i (some x) } : S).tidy
theorem q_set {K : PySem.W.Frag} {i : Nat} (D : Ends) (σ : L2.St) (H : Hp) (h : rS K B (fSet i fe) D σ H) : tAsg (rE K B fe) (gName i) D σ H := by
  obtain ⟨R, s, e, q⟩ := h
  exact ⟨R, s, e, post_bindS q fun x s1 R1 v H1 _ e1 st r q1 => by
    obtain ⟨R2, e2, k2⟩ := (e1.set (i := i) r).tidy
    exact q1 R2 _ H1 e2 ⟨k2.hx, k2.dom⟩⟩
theorem pf_set {i : Nat} {x : Str} {pos' : Pos} (hN : X.N.Nodup) (hi : X.N[i]? = some x) (hx : Loc X.env.scope x) (he : PE X e (rE X.K B fe)) (hs : swapsWith e (some (.Name x pos')) pos.line X.env = pure false := by rfl) (hf : X.fn x = true ∨ X.env.scope.names.lookup x = some .local := by first | exact .inl rfl | exact .inr rfl | assumption) :
    PS X (.Assign [.Name x pos'] e pos) (rS X.K B (fSet i fe)) := ps_imp (ps_set hN hi hx he hs hf) q_set
/-- a, b = e1, e2 -/
def fPar (i j : Nat) (f : S → R (List AV)) (s : S) : R Fl := (f s).bind fun xs s1 =>
  match xs with
  | [x, y] => .ok .nx ({ s1 with sl := (s1.sl.set i (some x)).set j (some y) } : S).tidy
  | _ => .no
theorem pf_par {i j : Nat} {x y : Str} {px py pt : Pos} {kt k2 pt2} (hc : X.calm = true) (hN : X.N.Nodup) (hi : X.N[i]? = some x) (hj : X.N[j]? = some y) (hij : i ≠ j)
    (hx : X.env.scope.names.lookup x = some .local) (hy : X.env.scope.names.lookup y = some .local) (ha : PA X [a, b] (rA X.K B fs))
    (hw : swappedStores [.Tuple [.Name x px, .Name y py] kt pt] (.Tuple [a, b] k2 pt2) X.env = pure (some [x, y]))
    (hs : swapsWithSole [.Tuple [.Name x px, .Name y py] kt pt] (.Tuple [a, b] k2 pt2) pos.line X.env = pure false := by rfl) :
    PS X (.Assign [.Tuple [.Name x px, .Name y py] kt pt] (.Tuple [a, b] k2 pt2) pos) (rS X.K B (fPar i j fs)) := ps_imp (ps_par hc hN hi hj hij hx hy ha hw hs) fun D σ H ⟨R, s, e, q⟩ => ⟨R, s, e, post_bindS q fun xs s1 R1 vs H1 _ e1 st r q1 => by
  match xs, r, q1 with
  | [], .nil, q1 => exact q1.elim
  | [_], .cons r1 .nil, q1 => exact q1.elim
  | [x, y], .cons r1 (.cons r2 .nil), q1 =>
    obtain ⟨R2, e2, k2⟩ := ((e1.set (i := i) r1).set (i := j) r2).tidy
    exact ⟨_, _, rfl, q1 R2 _ H1 e2 ⟨k2.hx, k2.dom⟩⟩
  | _ :: _ :: _ :: _, .cons _ (.cons _ (.cons _ _)), q1 => exact q1.elim⟩
/-- name op= e -/
def fAug (i : Nat) (g : AV → AV → S → R AV) (f : S → R AV) (s : S) : R Fl :=
  match s.sl[i]? with
  | some (some (.d x)) => (f s).bind fun y s1 => (g (.d x) y s1).bind fun z s2 => .ok .nx ({ s2 with sl := s2.sl.set i (some z) } : S).tidy
  | _ => .no
theorem pf_aug {i : Nat} {x : Str} {op : Operator} {r : R2} {g : AV → AV → S → R AV} {pos' : Pos} (ho : OpR X (inplaceOp op) r) (hg : Op2 X.K r g) (hN : X.N.Nodup) (hi : X.N[i]? = some x) (hx : Loc X.env.scope x) (he : PE X e (rE X.K B fe)) (hf : X.fn x = true ∨ X.env.scope.names.lookup x = some .local := by first | exact .inl rfl | exact .inr rfl | assumption) :
    PS X (.AugAssign (.Name x pos') op e pos) (rS X.K B (fAug i g fe)) := ps_imp (ps_aug hN hi hx he (show PIp X op r from ho) hf) fun D σ H ⟨R, s, e, q⟩ => by
  unfold fAug at q
  split at q
  · rename_i x' hx'
    obtain ⟨v, h1, h2⟩ := e.sl i _ hx'
    refine ⟨v, h1, R, s, e, post_bindS q fun y s1 R1 w H1 _ e1 st r1 q1 => ?_⟩
    refine hg B R1 s1 σ H1 v w (.d x') y _ e1 (VR.st st h2) r1 (post_bindS q1 fun z s2 R2 u H2 _ e2 st2 r2 q2 => ?_)
    obtain ⟨R3, e3, k3⟩ := (e2.set (i := i) r2).tidy
    exact q2 R3 _ H2 e3 ⟨k3.hx, k3.dom⟩
  · exact q.elim
/-! targets -/
def GtF (K : PySem.W.Frag) (g : TG) (is : List Nat) (t : PyData → S → Option S) : Prop := ∀ (B : Fr) (R : List Addr) (s : S) (σ : L2.St) (H : Hp) (v : V) (d : PyData) (s1 : S) (Q : L2.St → Hp → Prop), Env K B R s σ H → Dp K (hdS B R s H) v d → t d s = some s1 → (∀ σ', Env K B R s1 σ' H → s1.gl = s.gl → s1.lo = s.lo → (∀ ws : List Nat, (∀ i ∈ is, i ∈ ws) → wipe σ' ws = wipe σ ws) → Q σ' H) → g v σ H Q
def GtsF (K : PySem.W.Frag) (g : TGs) (is : List Nat) (t : List PyData → S → Option S) : Prop := ∀ (B : Fr) (R : List Addr) (s : S) (σ : L2.St) (H : Hp) (vs : List V) (ds : List PyData) (s1 : S) (Q : L2.St → Hp → Prop), Env K B R s σ H → DpAll K (hdS B R s H) vs ds → t ds s = some s1 → (∀ σ', Env K B R s1 σ' H → s1.gl = s.gl → s1.lo = s.lo → (∀ ws : List Nat, (∀ i ∈ is, i ∈ ws) → wipe σ' ws = wipe σ ws) → Q σ' H) → g vs σ H Q
def tgName (i : Nat) (d : PyData) (s : S) : Option S := some { s with sl := s.sl.set i (some (.d d)) }
def tgNil (ds : List PyData) (s : S) : Option S := match ds with | [] => some s | _ => none
def tgCons (t : PyData → S → Option S) (u : List PyData → S → Option S) (ds : List PyData) (s : S) : Option S := match ds with | d :: ds => (t d s).bind (u ds) | [] => none
def tgTup (n : Nat) (u : List PyData → S → Option S) (d : PyData) (s : S) : Option S := match d with | .tuple ds => if ds.length = n then u ds s else none | _ => none
theorem wipe_set {σ : L2.St} {i : Nat} {x : Option V} : ∀ {ws : List Nat}, wipe (σ.set i x) ws = if i ∈ ws then wipe σ ws else (wipe σ ws).set i x
  | [] => by simp [wipe]
  | w :: ws => by
    unfold wipe
    rw [wipe_set (ws := ws)]
    by_cases h1 : i = w
    · subst h1
      rw [if_pos List.mem_cons_self]
      split
      · rfl
      · rw [List.set_set]
    · by_cases h2 : i ∈ ws
      · rw [if_pos h2, if_pos (List.mem_cons_of_mem _ h2)]
      · rw [if_neg h2, if_neg (by simp [h1, h2]), List.set_comm _ _ h1]
theorem g_name {K : PySem.W.Frag} {i : Nat} : GtF K (gName i) [i] (tgName i) := fun B R s σ H v d s1 Q e r h k => by
  cases h
  exact k _ (e.set (x := .d d) r) rfl rfl fun ws h => by rw [wipe_set, if_pos (h i (by simp))]
theorem g_nil {K : PySem.W.Frag} : GtsF K gNil [] tgNil := fun B R s σ H vs ds s1 Q e r h k => by
  cases ds with
  | nil => cases r; cases h; exact ⟨rfl, k σ e rfl rfl fun _ _ => rfl⟩
  | cons _ _ => cases h
theorem g_cons {K : PySem.W.Frag} {g : TG} {gs : TGs} {is js : List Nat} {t : PyData → S → Option S} {u : List PyData → S → Option S} (h1 : GtF K g is t) (h2 : GtsF K gs js u) : GtsF K (gCons g gs) (is ++ js) (tgCons t u) := fun B R s σ H vs ds s1 Q e r h k => by
  cases r with
  | nil => cases h
  | cons r1 r2 =>
    rename_i v vs d ds
    have h : (t d s).bind (u ds) = some s1 := h
    cases q : t d s with
    | none => rw [q] at h; cases h
    | some s2 =>
      rw [q] at h
      exact ⟨v, vs, rfl, h1 B R s σ H v d s2 _ e r1 q fun σ2 e2 l1 l2 w1 => h2 B R s2 σ2 H vs ds s1 Q e2 (by rw [show hdS B R s2 H = hdS B R s H by unfold hdS; rw [l1, l2]]; exact r2) h fun σ3 e3 l3 l4 w2 => k σ3 e3 (l3.trans l1) (l4.trans l2) fun ws hw => (w2 ws fun i hi => hw i (List.mem_append_right _ hi)).trans (w1 ws fun i hi => hw i (List.mem_append_left _ hi))⟩
theorem g_tup {K : PySem.W.Frag} {gs : TGs} {n : Nat} {is : List Nat} {u : List PyData → S → Option S} (h1 : GtsF K gs is u) : GtF K (gTup K n gs) is (tgTup n u) := fun B R s σ H v d s1 Q e r h k => by
  cases d with
  | tuple ds =>
    have h : (if ds.length = n then u ds s else none) = some s1 := h
    by_cases z : ds.length = n
    · rw [if_pos z] at h
      obtain ⟨a, xs, rfl, q1, q2⟩ := dp_tup r
      exact ⟨a, xs, rfl, Evl.ex_t hd_sub q1, (DpAll.len q2).trans z, h1 B R s σ H xs ds s1 Q e q2 h k⟩
    · rw [if_neg z] at h; cases h
  | _ => cases h
/-- a, b = e -/
def fUn (t : PyData → S → Option S) (f : S → R AV) (s : S) : R Fl := (f s).bind fun x s1 =>
  match x with
  | .d y => match t y s1 with | some s2 => .ok .nx s2.tidy | none => .no
  | _ => .no
theorem pf_un' {g : TG} {t : PyData → S → Option S} {is : List Nat} (hg : GtF X.K g is t) (h : PS X st (tAsg (rE X.K B fe) g)) : PS X st (rS X.K B (fUn t fe)) := ps_imp h fun D σ H ⟨R, s, e, q⟩ => ⟨R, s, e, post_bindS q fun x s1 R1 v H1 _ e1 st r q1 => by
  try dsimp only at q1
  cases x with
  | d y =>
    cases z : t y s1 with
    | none => simp only [z] at q1; exact q1.elim
    | some s2 =>
      simp only [z] at q1
      refine hg B R1 s1 σ H1 v y s2 _ e1 r z fun σ2 e2 l1 l2 _ => ?_
      obtain ⟨R3, e3, k3⟩ := e2.tidy
      refine q1 R3 _ H1 e3 ?_
      have : Kp B R1 s1 H1 R1 s2 H1 := ⟨by rw [l1, l2]; exact fun _ _ q => q, fun _ q => q⟩
      exact this.trans k3
  | g k => exact q1.elim
  | l k => exact q1.elim⟩
theorem pf_unpack {g : TG} {t : PyData → S → Option S} {is : List Nat} (hg : GtF X.K g is t) (he : PE X e (rE X.K B fe)) (hp : PG X tg g) (hs : swapsWithSole [tg] e pos.line X.env = pure false := by rfl) (hw : swappedStores [tg] e X.env = pure none := by rfl)
    (h1 : (assignEach [tg] X.env).map (·.2) = [assign tg X.env] := by rfl) : PS X (.Assign [tg] e pos) (rS X.K B (fUn t fe)) := pf_un' hg (ps_asg he hp hs hw h1)
end
end Fx

/-! ### loops -/
namespace Fx
open PySem PySem.Spec PyProof.Rows L2
open Bk (Dp.ex DpAll.ex DpAll.len DpAll.get DpAll.get' DpAll.app DpAll.take DpAll.drop DpAll.snoc dp_tup dp_lst dp_int dp_str dp_bl ex_new)
open Evl (Ex)
/-- what is walked: an item, the end, or neither is known -/
abbrev Src := Nat → S → Option (Option PyData)
def srcD (ds : List PyData) : Src := fun i _ => some ds[i]?
def srcC (x : AV) : Src := fun i s => match cellOf s x with | some (.lst ds) => some ds[i]? | _ => none
/-- the iterator yields what the source says -/
structure SrcOk (K : PySem.W.Frag) (B : Fr) (R : List Addr) (s : S) (H : Hp) (J : It) (src : Src) : Prop where
  go : ∀ (R' : List Addr) (s' : S) (σ' : L2.St) (H' : Hp), Env K B R' s' σ' H' → Kp B R s H R' s' H' → ∀ (i : Nat) (d : PyData), src i s' = some (some d) → J.go i H' ∧ ∀ x H2, J.yld i H' x H2 → Ex H' H2 ∧ Dp K (hdS B R' s' H2) x d
  stop : ∀ (R' : List Addr) (s' : S) (σ' : L2.St) (H' : Hp), Env K B R' s' σ' H' → Kp B R s H R' s' H' → ∀ i, src i s' = some none → J.stop i H'
section
variable {K : PySem.W.Frag} {B : Fr} {R R1 : List Addr} {s s1 : S} {σ : L2.St} {H H1 : Hp} {J : It} {src : Src}
theorem SrcOk.kp (k : Kp B R s H R1 s1 H1) (h : SrcOk K B R s H J src) : SrcOk K B R1 s1 H1 J src :=
  ⟨fun R' s' σ' H' e k' => h.go R' s' σ' H' e (k.trans k'), fun R' s' σ' H' e k' => h.stop R' s' σ' H' e (k.trans k')⟩
/-- a list that does not change -/
theorem src_list {a : Addr} {xs : List V} {ds : List PyData} (h1 : SqL K (hdS B R s H) a xs) (h2 : DpAll K (hdS B R s H) xs ds) : SrcOk K B R s H (Itl K a) (srcD ds) where
  go := fun R' s' σ' H' e k i d hi => by
    have hi : ds[i]? = some d := Option.some.inj hi
    obtain ⟨v, e1, e2⟩ := DpAll.get' h2 hi
    have q := Evl.ex_l (k.hx.trans hd_sub) h1
    refine ⟨⟨xs, v, q, e1⟩, fun x H2 ⟨z1, z2⟩ => ?_⟩
    subst z1
    have := z2 xs q
    rw [e1] at this
    cases this
    exact ⟨Ex.refl _, Dp.ex k.hx _ _ e2⟩
  stop := fun R' s' σ' H' e k i hi => by
    have hi : ds[i]? = none := Option.some.inj hi
    exact ⟨xs, Evl.ex_l (k.hx.trans hd_sub) h1, by rw [DpAll.len h2]; exact List.getElem?_eq_none_iff.mp hi⟩
theorem src_tup {a : Addr} {xs : List V} {ds : List PyData} (h1 : SqT K (hdS B R s H) a xs) (h2 : DpAll K (hdS B R s H) xs ds) : SrcOk K B R s H (Itt K a) (srcD ds) where
  go := fun R' s' σ' H' e k i d hi => by
    have hi : ds[i]? = some d := Option.some.inj hi
    obtain ⟨v, e1, e2⟩ := DpAll.get' h2 hi
    have q := Evl.ex_t (k.hx.trans hd_sub) h1
    refine ⟨⟨xs, v, q, e1⟩, fun x H2 ⟨z1, z2⟩ => ?_⟩
    subst z1
    have := z2 xs q
    rw [e1] at this
    cases this
    exact ⟨Ex.refl _, Dp.ex k.hx _ _ e2⟩
  stop := fun R' s' σ' H' e k i hi => by
    have hi : ds[i]? = none := Option.some.inj hi
    exact ⟨xs, Evl.ex_t (k.hx.trans hd_sub) h1, by rw [DpAll.len h2]; exact List.getElem?_eq_none_iff.mp hi⟩
theorem src_rng {lo : Int} {n : Nat} : SrcOk K B R s H (Itr lo n) (srcD ((List.range n).map fun i => .int (lo + (i : Nat)))) where
  go := fun R' s' σ' H' e k i d hi => by
    have hi : ((List.range n).map fun i => PyData.int (lo + (i : Nat)))[i]? = some d := Option.some.inj hi
    rw [List.getElem?_map] at hi
    cases q : (List.range n)[i]? with
    | none => rw [q] at hi; cases hi
    | some j =>
      rw [q] at hi
      have hlt := (List.getElem?_eq_some_iff.mp q).1
      rw [List.length_range] at hlt
      rw [List.getElem?_range hlt] at q
      cases q
      cases hi
      refine ⟨hlt, fun x H2 ⟨z1, z2⟩ => ?_⟩
      subst z1
      subst z2
      exact ⟨Ex.refl _, .int _⟩
  stop := fun R' s' σ' H' e k i hi => by
    have hi : ((List.range n).map fun i => PyData.int (lo + (i : Nat)))[i]? = none := Option.some.inj hi
    have := List.getElem?_eq_none_iff.mp hi
    rw [List.length_map, List.length_range] at this
    exact this
theorem src_cel {k : Nat} {a : Addr} (h1 : B.G[k]? = some a) : SrcOk K B R s H (Itl K a) (srcC (.g k)) where
  go := fun R' s' σ' H' e kp i d hi => by
    unfold srcC at hi
    cases q : cellOf s' (.g k) with
    | none => rw [q] at hi; cases hi
    | some c =>
      rw [q] at hi
      cases c with
      | lst ds =>
        have hi : ds[i]? = some d := Option.some.inj hi
        obtain ⟨b, hb, _, _, us, u1, u2⟩ := e.cell (x := .g k) (v := .ref a) ⟨a, h1, rfl⟩ q
        cases hb
        obtain ⟨v, e1, e2⟩ := DpAll.get' u2 hi
        refine ⟨⟨us, v, SqL.of u1, e1⟩, fun x H2 ⟨z1, z2⟩ => ?_⟩
        subst z1
        have := z2 us (SqL.of u1)
        rw [e1] at this
        cases this
        exact ⟨Ex.refl _, e2⟩
      | dic _ => cases hi
      | dit _ => cases hi
  stop := fun R' s' σ' H' e kp i hi => by
    unfold srcC at hi
    cases q : cellOf s' (.g k) with
    | none => rw [q] at hi; cases hi
    | some c =>
      rw [q] at hi
      cases c with
      | lst ds =>
        have hi : ds[i]? = none := Option.some.inj hi
        obtain ⟨b, hb, _, _, us, u1, u2⟩ := e.cell (x := .g k) (v := .ref a) ⟨a, h1, rfl⟩ q
        cases hb
        exact ⟨us, SqL.of u1, by rw [DpAll.len u2]; exact List.getElem?_eq_none_iff.mp hi⟩
      | dic _ => cases hi
      | dit _ => cases hi
end
/-- walked, turn by turn -/
def forG (src : Src) (t : PyData → S → Option S) (b : S → R Fl) : Nat → Nat → S → R Fl
  | 0, _, _ => .no
  | n + 1, i, s =>
    match src i s with
    | none => .no
    | some none => .ok .nx s
    | some (some d) => match t d s with
      | none => .no
      | some s1 => (b s1).bind fun fl s2 =>
        match fl with
        | .nx => forG src t b n (i + 1) s2
        | .ct => forG src t b n (i + 1) s2
        | .bk => .ok .nx s2
        | .rt x => .ok (.rt x) s2
def forD (t : PyData → S → Option S) (b : S → R Fl) : List PyData → S → R Fl
  | [], s => .ok .nx s
  | d :: ds, s => match t d s with
    | none => .no
    | some s1 => (b s1).bind fun fl s2 =>
      match fl with
      | .nx => forD t b ds s2
      | .ct => forD t b ds s2
      | .bk => .ok .nx s2
      | .rt x => .ok (.rt x) s2
theorem forD_eq (t : PyData → S → Option S) (b : S → R Fl) : ∀ (ds pre : List PyData) (n : Nat) (s : S), ds.length < n → forG (srcD (pre ++ ds)) t b n pre.length s = forD t b ds s
  | [], pre, n + 1, s, _ => by
    rw [forG, forD]
    have : srcD (pre ++ []) pre.length s = some none := by unfold srcD; rw [List.append_nil, List.getElem?_eq_none_iff.mpr (Nat.le_refl _)]
    rw [this]
  | d :: ds, pre, n + 1, s, h => by
    rw [forG, forD]
    have : srcD (pre ++ d :: ds) pre.length s = some (some d) := by unfold srcD; rw [List.getElem?_append_right (Nat.le_refl _), Nat.sub_self]; rfl
    rw [this]
    dsimp only
    cases t d s with
    | none => rfl
    | some s1 =>
      dsimp only
      have ih : ∀ s2, forG (srcD (pre ++ d :: ds)) t b n (pre.length + 1) s2 = forD t b ds s2 := fun s2 => by
        have := forD_eq t b ds (pre ++ [d]) n s2 (by simp only [List.length_cons] at h; omega)
        rw [List.append_assoc, List.length_append] at this
        exact this
      congr 1
      funext fl s2
      cases fl <;> simp only [ih]
  | [], _, 0, _, h => by simp at h
  | _ :: _, _, 0, _, h => by simp at h
inductive Iv where
  | ds (l : List PyData)
  | cel (x : AV)
def Iv.src : Iv → Src
  | .ds l => srcD l
  | .cel x => srcC x
def goFuel : Nat := 2 ^ 24 + 2
def runFor (v : Iv) (t : PyData → S → Option S) (b : S → R Fl) (s : S) : R Fl :=
  match v with
  | .ds l => forD t b l s
  | .cel x => forG (srcC x) t b goFuel 0 s
/-! what is walked -/
def PostI (K : PySem.W.Frag) (B : Fr) (σ : L2.St) (R : List Addr) (s : S) (H : Hp) (r : Fx.R Iv) (Q : It → Hp → Prop) : Prop :=
  match r with
  | .ok v s' => ∀ R' H' J, Env K B R' s' σ H' → St B R s H R' s' H' → SrcOk K B R' s' H' J v.src → Q J H'
  | .xc x s' => ∀ R' H' cls d, Env K B R' s' σ H' → St B R s H R' s' H' → B.xr x cls d H' → B.xw cls d σ H'
  | .no => False
def RI (K : PySem.W.Frag) (B : Fr) (f : S → R Iv) : TI := fun σ H Q => ∃ R s, Env K B R s σ H ∧ PostI K B σ R s H (f s) Q
def fFor (it : S → R Iv) (t : PyData → S → Option S) (b : S → R Fl) (s : S) : R Fl := (it s).bind fun v s1 => runFor v t b (s1.cut s.lo.length)
section
variable {K : PySem.W.Frag} {B : Fr}
theorem q_forG {src : Src} {t : PyData → S → Option S} {b : S → R Fl} {g : TG} {J : It} {D : Ends} {R : List Addr} {s : S} {σ : L2.St} {H : Hp} {n : Nat} {is : List Nat} (hg : GtF K g is t) (e : Env K B R s σ H) (ok : SrcOk K B R s H J src) (h : PostS K B R s H (forG src t b n 0 s) D) :
    ∃ W : Nat → Nat → L2.St → Hp → Prop, (∃ m, W 0 m σ H) ∧ ∀ i m σ H, W i m σ H → (J.stop i H ∧ D.nx σ H) ∨ (J.go i H ∧ ∃ N : L2.St → Hp → Prop, (∀ σ' H', N σ' H' → ∃ m', m' < m ∧ W (i + 1) m' σ' H') ∧ ∀ x H', J.yld i H x H' → g x σ H' fun σ2 H2 => rS K B b { D with nx := N, ct := N, bk := D.nx } σ2 H2) := by
  refine ⟨fun i m σ' H' => ∃ R' s', Env K B R' s' σ' H' ∧ Kp B R s H R' s' H' ∧ PostS K B R' s' H' (forG src t b m i s') D, ⟨n, R, s, e, Kp.refl, h⟩, ?_⟩
  rintro i m σ1 H1 ⟨R1, s1, e1, k1, h1⟩
  cases m with
  | zero => exact h1.elim
  | succ m =>
    rw [forG] at h1
    cases q : src i s1 with
    | none => rw [q] at h1; exact h1.elim
    | some o =>
      rw [q] at h1
      cases o with
      | none => exact .inl ⟨ok.stop R1 s1 σ1 H1 e1 k1 i q, h1 R1 σ1 H1 e1 Kp.refl⟩
      | some d =>
        dsimp only at h1
        obtain ⟨g1, g2⟩ := ok.go R1 s1 σ1 H1 e1 k1 i d q
        cases z : t d s1 with
        | none => rw [z] at h1; exact h1.elim
        | some s2 =>
          rw [z] at h1
          dsimp only at h1
          refine .inr ⟨g1, fun σ' H' => ∃ R' s', Env K B R' s' σ' H' ∧ Kp B R s H R' s' H' ∧ PostS K B R' s' H' (forG src t b m (i + 1) s') D, fun σ' H' ⟨R', s', a, b, c⟩ => ⟨m, Nat.lt_succ_self m, R', s', a, b, c⟩, fun x H2 y => ?_⟩
          obtain ⟨x1, x2⟩ := g2 x H2 y
          have e2 := e1.grow x1
          have k2 := (e1.growSt x1).kp
          refine hg B R1 s1 σ1 H2 x d s2 _ e2 x2 z fun σ3 e3 l1 l2 _ => ?_
          have k3 : Kp B R1 s1 H2 R1 s2 H2 := ⟨by rw [l1, l2]; exact fun _ _ q => q, fun _ q => q⟩
          have k4 : Kp B R s H R1 s2 H2 := (k1.trans k2).trans k3
          refine ⟨R1, s2, e3, ?_⟩
          have h1 := PostS.kp (k2.trans k3) h1
          cases w : b s2 with
          | no => rw [w] at h1; exact h1.elim
          | xc x s3 => rw [w] at h1; exact h1
          | ok fl s3 =>
            rw [w] at h1
            cases fl with
            | nx => exact fun R' σ' H' e' k' => ⟨R', s3, e', k4.trans k', PostS.kp k' h1⟩
            | ct => exact fun R' σ' H' e' k' => ⟨R', s3, e', k4.trans k', PostS.kp k' h1⟩
            | bk => exact h1
            | rt x => exact h1
theorem runFor_eq (v : Iv) (t : PyData → S → Option S) (b : S → R Fl) (s : S) : ∃ n, runFor v t b s = forG v.src t b n 0 s := by
  cases v with
  | ds l => exact ⟨l.length + 1, (forD_eq t b l [] (l.length + 1) s (Nat.lt_succ_self _)).symm⟩
  | cel x => exact ⟨goFuel, rfl⟩
theorem q_for {it : S → R Iv} {t : PyData → S → Option S} {b : S → R Fl} {g : TG} {is : List Nat} (hg : GtF K g is t) (D : Ends) (σ : L2.St) (H : Hp) (h : rS K B (fFor it t b) D σ H) : tFor (RI K B it) g (rS K B b) D σ H := by
  obtain ⟨R, s, e, q⟩ := h
  refine ⟨R, s, e, ?_⟩
  unfold fFor at q
  cases z : it s with
  | no => rw [z] at q; exact q.elim
  | xc x s1 => rw [z] at q; exact fun R' H' cls d e' st => q R' σ H' cls d e' st.kp
  | ok v s1 =>
    rw [z] at q
    show PostI K B σ R s H (.ok v s1) _
    intro R1 H1 J e1 st ok
    obtain ⟨a, b'⟩ := e1.cut (n := s.lo.length) fun i k h => e.klt (st.slm i k h)
    have q : PostS K B R s H (runFor v t b (s1.cut s.lo.length)) D := q
    obtain ⟨n, hn⟩ := runFor_eq v t b (s1.cut s.lo.length)
    rw [hn] at q
    exact q_forG hg a (ok.kp b') (PostS.kp (st.kp.trans b') q)
end
section
variable {X : Cx} {B : Fr} {a b c e tg it : Expr} {st : Stmt} {es rest body : List Stmt} {fa fb fc fe : S → R AV} {fs : S → R (List AV)} {ft : S → R Bool} {f g : S → R Fl} {fi : S → R Iv} {pos : Pos}
theorem pf_for {g : TG} {t : PyData → S → Option S} (hp : PassesOwn (model X.prog X.w) X.A X.env X.xe) (hc : X.calm = true) (hi : PI X tg it (RI X.K B fi)) {is : List Nat} (hg : GtF X.K g is t) (hgp : PG X tg g) (hb : PSs X body (rS X.K B f))
    (hs : ∀ x, foldedSetIterable it X.env x = pure x := by intro _; rfl) : PS X (.For tg it body [] pos) (rS X.K B (fFor fi t f)) := ps_imp (ps_for hp hc hi hgp hb hs) (q_for hg)
/-! range -/
def intsA : List AV → Option (List Int)
  | [] => some []
  | .d (.int i) :: l => (intsA l).map (i :: ·)
  | _ :: _ => none
def rngL (lo : Int) (n : Nat) : List PyData := (List.range n).map fun i => .int (lo + (i : Nat))
def fRng1 (f : S → R (List AV)) (s : S) : R Iv := (f s).bind fun xs s1 =>
  match intsA xs with
  | some [j] => if -(2 ^ 62) ≤ j ∧ j < 2 ^ 62 then .ok (.ds (rngL 0 j.toNat)) s1 else .no
  | _ => .no
def fRng2 (f : S → R (List AV)) (s : S) : R Iv := (f s).bind fun xs s1 =>
  match intsA xs with
  | some [i, j] => if -(2 ^ 62) ≤ i ∧ i < 2 ^ 62 ∧ -(2 ^ 62) ≤ j ∧ j < 2 ^ 62 then .ok (.ds (rngL i (j - i).toNat)) s1 else .no
  | _ => .no
theorem vA_ints {K : PySem.W.Frag} {R : List Addr} {s : S} {H : Hp} : ∀ {xs : List AV} {vs : List V} {ns : List Int}, vA K B R s H vs xs → intsA xs = some ns → vs = ns.map V.int
  | [], vs, ns, r, h => by cases r; cases h; rfl
  | x :: xs, vs, ns, r, h => by
    cases r with
    | cons r1 r2 =>
      cases x with
      | d y =>
        cases y with
        | int i =>
          cases z : intsA xs with
          | none => simp [intsA, z] at h
          | some ms =>
            have e : ns = i :: ms := by simp [intsA, z] at h; exact h.symm
            rw [dp_int r1, vA_ints r2 z, e]; rfl
        | _ => cases h
      | g k => cases h
      | l k => cases h
theorem PostI.stp {K : PySem.W.Frag} {B : Fr} {R R1 : List Addr} {s s1 : S} {σ : L2.St} {H H1 : Hp} {r : Fx.R Iv} {Q : It → Hp → Prop} (a : St B R s H R1 s1 H1) (h : PostI K B σ R s H r Q) : PostI K B σ R1 s1 H1 r Q := by
  cases r with
  | ok x s' => exact fun R' H' J e st q => h R' H' J e (a.trans st) q
  | xc x s' => exact fun R' H' cls d e st q => h R' H' cls d e (a.trans st) q
  | no => exact h
theorem postI {K : PySem.W.Frag} {B : Fr} {α β : Type} {V : VRel α β} {R : List Addr} {s : S} {σ : L2.St} {H : Hp} {r : Fx.R α} {k : α → S → Fx.R Iv} {Q : It → Hp → Prop} {Q' : β → Hp → Prop} (h : PostI K B σ R s H (r.bind k) Q)
    (hk : ∀ x s1 R1 v H1, r = .ok x s1 → Env K B R1 s1 σ H1 → St B R s H R1 s1 H1 → V R1 s1 H1 v x → PostI K B σ R1 s1 H1 (k x s1) Q → Q' v H1) : Post K B V σ R s H r Q' := by
  cases r with
  | ok x s' => exact fun R' v H' e st q => hk x s' R' v H' rfl e st q (PostI.stp st h)
  | xc x s' => exact fun R' H' cls d e st q => h R' H' cls d e st q
  | no => exact h
theorem pf_rng1 {p pos : Pos} (hg : Gl X "range") (hm : X.mg "range" = none) (ha : PA X [a] (rA X.K B fs)) (hs : starEach [a] X.env = [(false, eval a X.env)] := by rfl) : PI X tg (.Call (.Name "range" p) [a] [] pos) (RI X.K B (fRng1 fs)) := pi_imp (pi_range1 hg hm ha hs) fun σ H Q ⟨R, s, e, q⟩ => ⟨R, s, e, postI q fun xs s1 R1 vs H1 _ e1 st r q1 => by
  try dsimp only at q1
  split at q1
  · rename_i j hq
    have hv := vA_ints r hq
    by_cases z : -(2 ^ 62) ≤ j ∧ j < 2 ^ 62
    · rw [if_pos z] at q1
      exact ⟨j, hv, z.1, z.2, q1 R1 H1 _ e1 St.refl src_rng⟩
    · rw [if_neg z] at q1; exact q1.elim
  · exact q1.elim⟩
theorem pf_rng2 {p pos : Pos} (hg : Gl X "range") (hm : X.mg "range" = none) (ha : PA X [a, b] (rA X.K B fs)) (hs : starEach [a, b] X.env = [(false, eval a X.env), (false, eval b X.env)] := by rfl) (hs2 : starEach [b] X.env = [(false, eval b X.env)] := by rfl) : PI X tg (.Call (.Name "range" p) [a, b] [] pos) (RI X.K B (fRng2 fs)) := pi_imp (pi_range2 hg hm ha hs hs2) fun σ H Q ⟨R, s, e, q⟩ => ⟨R, s, e, postI q fun xs s1 R1 vs H1 _ e1 st r q1 => by
  try dsimp only at q1
  split at q1
  · rename_i i j hq
    have hv := vA_ints r hq
    by_cases z : -(2 ^ 62) ≤ i ∧ i < 2 ^ 62 ∧ -(2 ^ 62) ≤ j ∧ j < 2 ^ 62
    · rw [if_pos z] at q1
      exact ⟨i, j, hv, z, q1 R1 H1 _ e1 St.refl src_rng⟩
    · rw [if_neg z] at q1; exact q1.elim
  · exact q1.elim⟩
end
end Fx

/-! ### defs: their promise by their function; calls -/
namespace Fx
open PySem PySem.Spec PyProof.Rows L2
open Bk (Dp.ex DpAll.ex DpAll.len DpAll.get DpAll.get' DpAll.app DpAll.take DpAll.drop DpAll.snoc dp_tup dp_lst dp_int dp_str dp_bl ex_new FnG)
open Evl (Ex)
/-- what stays, whatever comes -/
structure Stay (G : List Addr) (gl : Glo) (H : Hp) (gl' : Glo) (H' : Hp) : Prop where
  shp : gl'.map Option.isSome = gl.map Option.isSome
  old : ∀ a o, ¬ hid G gl a → H a = some o → H' a = some o
def Fin (K : PySem.W.Frag) (G : List Addr) (gl : Glo) (H : Hp) (v : V) (H' : Hp) (rv : RV) (gl' : Glo) : Prop := Stay G gl H gl' H' ∧
  match rv with
  | .d x => Cells K G gl' H' ∧ Dp K (hd G gl' H') v x
  | .g k => Cells K G gl' H' ∧ ∃ a, G[k]? = some a ∧ v = .ref a
  | .f c => ∃ p, v = .ref p ∧ H p = none ∧ Cells K (G ++ [p]) (gl' ++ [some c]) H'
/-- the promise -/
def spF (K : PySem.W.Frag) (xr : XRep) (n : Nat) (f : List AV → Glo → RR) : Sp := fun vs H Q E => vs.length = n ∧ ∃ (G : List Addr) (gl : Glo) (xs : List AV), Cells K G gl H ∧ Paired (fun v x => AvR K G [] (hd G gl H) v x) vs xs ∧
  match f xs gl with
  | .ok rv gl' => ∀ v H', Fin K G gl H v H' rv gl' → Q v H'
  | .xc x gl' => ∀ cls d H', Stay G gl H gl' H' → Cells K G gl' H' → xr x cls d H' → E cls d H'
  | .no => False
/-- a body, from its arguments on: n slots -/
def run (n : Nat) (b : S → R Fl) (xs : List AV) (gl : Glo) : RR :=
  match b ⟨xs.map some ++ List.replicate (n - xs.length) none, gl, []⟩ with
  | .ok (.rt (.d y)) s => .ok (.d y) s.gl
  | .ok (.rt (.g k)) s => .ok (.g k) s.gl
  | .ok (.rt (.l k)) s => match (s.lo[k]?).join with
    | some c => .ok (.f c) s.gl
    | none => .no
  | .ok .nx s => .ok (.d .none) s.gl
  | .ok _ _ => .no
  | .xc x s => .xc x s.gl
  | .no => .no
section
variable {K : PySem.W.Frag} {B : Fr} {R : List Addr} {s : S} {σ : L2.St} {H : Hp}
theorem Env.stay (e : Env K B R s σ H) : Stay B.G B.g0 B.H0 s.gl H := ⟨e.shp, e.old⟩
theorem Env.cellsG (e : Env K B R s σ H) : Cells K B.G s.gl H ∧ Ex (hd (B.G ++ R) (s.gl ++ s.lo) H) (hd B.G s.gl H) := by
  have hs : ∀ (k : Nat) (c : Cel) (a : Addr), s.gl[k]? = some (some c) → B.G[k]? = some a → ∃ j : Nat, (s.gl ++ s.lo)[j]? = some (some c) ∧ (B.G ++ R)[j]? = some a := fun k c a h1 h2 =>
    ⟨k, by rw [List.getElem?_append_left (List.getElem?_eq_some_iff.mp h1).1]; exact h1, by rw [List.getElem?_append_left (List.getElem?_eq_some_iff.mp h2).1]; exact h2⟩
  exact ⟨e.cells.sub e.lg.symm (List.nodup_append.mp e.cells.nd).1 (fun a m => List.mem_append_left _ m) hs, hd_more fun b z => hid_sub hs z⟩
theorem Env.cellsF (e : Env K B R s σ H) {k : Nat} {c : Cel} {p : Addr} (h1 : s.lo[k]? = some (some c)) (h2 : R[k]? = some p) : Cells K (B.G ++ [p]) (s.gl ++ [some c]) H := by
  obtain ⟨n1, n2, n3⟩ := List.nodup_append.mp e.cells.nd
  refine e.cells.sub (by simp [e.lg]) (List.nodup_append.mpr ⟨n1, by simp, fun a ha b hb => ?_⟩) (fun a m => ?_) (fun j d a q1 q2 => ?_)
  · have : b = p := by simpa using hb
    subst this
    exact n3 a ha b (List.mem_of_getElem? h2)
  · rcases List.mem_append.mp m with m | m
    · exact List.mem_append_left _ m
    · have : a = p := by simpa using m
      subst this
      exact List.mem_append_right _ (List.mem_of_getElem? h2)
  · by_cases z : j < s.gl.length
    · rw [List.getElem?_append_left z] at q1
      rw [List.getElem?_append_left (by rw [← e.lg]; exact z)] at q2
      exact ⟨j, by rw [List.getElem?_append_left z]; exact q1, by rw [List.getElem?_append_left (by rw [← e.lg]; exact z)]; exact q2⟩
    · have hj := (List.getElem?_eq_some_iff.mp q1).1
      rw [List.length_append, List.length_singleton] at hj
      have hj : j = s.gl.length := by omega
      subst hj
      rw [List.getElem?_append_right (Nat.le_refl _), Nat.sub_self] at q1
      rw [e.lg, List.getElem?_append_right (Nat.le_refl _), Nat.sub_self] at q2
      have e1 : c = d := by simpa using q1
      have e2 : p = a := by simpa using q2
      subst e1
      subst e2
      exact ⟨s.gl.length + k, by rw [List.getElem?_append_right (Nat.le_add_right _ _), Nat.add_sub_cancel_left]; exact h1, by rw [e.lg, List.getElem?_append_right (Nat.le_add_right _ _), Nat.add_sub_cancel_left]; exact h2⟩
theorem env_start {G : List Addr} {gl : Glo} {xs : List AV} {vs : List V} {xr : XRep} {xw : Value → Option Addr → L2.St → Hp → Prop} {N : List Str} (hc : Cells K G gl H) (ha : Paired (fun v x => AvR K G [] (hd G gl H) v x) vs xs) :
    Env K ⟨G, gl, H, xr, xw⟩ [] ⟨xs.map some ++ List.replicate (N.length - xs.length) none, gl, []⟩ (L2.start N vs) H where
  cells := by simpa using hc
  lg := hc.len.symm
  shp := rfl
  new := fun a m => by cases m
  old := fun a o _ h => h
  len := by simp [L2.start, ha.length]
  sl := fun i x h => by
    have h : (xs.map some ++ List.replicate (N.length - xs.length) none)[i]? = some (some x) := h
    by_cases z : i < xs.length
    · rw [List.getElem?_append_left (by simpa using z), List.getElem?_map] at h
      have hi : xs[i]? = some x := by
        cases q : xs[i]? with
        | none => rw [q] at h; cases h
        | some y => rw [q] at h; cases h; rfl
      have key : ∀ {vs : List V} {xs : List AV} {i : Nat}, Paired (fun v x => AvR K G [] (hd G gl H) v x) vs xs → xs[i]? = some x → ∃ v, vs[i]? = some v ∧ AvR K G [] (hd G gl H) v x := by
        intro vs xs i h
        induction h generalizing i with
        | nil => intro h; simp at h
        | cons r t ih =>
          intro h
          cases i with
          | zero => simp at h; subst h; exact ⟨_, rfl, r⟩
          | succ i => exact ih (by simpa using h)
      obtain ⟨v, h1, h2⟩ := key ha hi
      refine ⟨v, ?_, by simpa using h2⟩
      have hv : i < vs.length := (List.getElem?_eq_some_iff.mp h1).1
      unfold L2.start
      rw [List.getElem?_append_left (by simpa using hv), List.getElem?_map, h1]
      rfl
    · rw [List.getElem?_append_right (by simpa using z), List.getElem?_replicate] at h
      split at h <;> cases h
end
section
variable {P : Program} {w : World} {K : PySem.W.Frag} {mg : Str → Option Value} {base : Heap}
/-- a def keeps the promise of its body's function -/
theorem okF {xr : XRep} {n k : Nat} {b : S → R Fl} {x qual : Str} {st : Stmt} {f : Addr} {fd : FuncData} {N ps : List Str} (F : Fun K x qual st f fd) (Sc : FnScope N ps (defScope st)) (hn : ps.length = n)
    (hbody : ∀ (cdv : Value) (A : Around) (outer : List PySem.Env) (s : Shared) (H : Hp) (E : XK), (A.deeper (envOfC qual (defScope st) s.heap.objs.size f cdv)).guards = some [] → Room k (A.deeper (envOfC qual (defScope st) s.heap.objs.size f cdv)) → ∀ B : Fr, B.xr = xr → B.xw = (fun cls d _ H => E cls d H) →
      PSs (cxOf (L2.CX P w) P w K mg base N qual (defScope st) f cdv A outer s H E) (defBody st) (rS K B b)) :
    FnG P w K mg base (L2.CX P w) (k + 1) f fd ps (spF K xr n (run N.length b)) := by
  obtain ⟨oc, od, kV, doc, pm, an, cdv, ct, osl, rfl, lk, hcd⟩ := F.ex
  refine Bk.fnG_of lk hcd Sc (fun vs H Q E h => h.1.trans hn.symm) fun A outer s H vs Q E hg hr hsp => ?_
  obtain ⟨hl, G, gl, xs, hc, ha, hq⟩ := hsp
  refine ⟨_, hbody cdv A outer s H E hg hr ⟨G, gl, H, xr, fun cls d _ H => E cls d H⟩ rfl rfl, [], _, env_start (N := N) hc ha, ?_⟩
  have hxl : xs.length = vs.length := ha.length.symm
  unfold run at hq
  cases z : b ⟨xs.map some ++ List.replicate (N.length - xs.length) none, gl, []⟩ with
  | no => rw [z] at hq; exact hq.elim
  | xc x s' =>
    rw [z] at hq
    exact fun R' σ' H' cls d e kp hx => hq cls d H' e.stay e.cellsG.1 hx
  | ok fl s' =>
    rw [z] at hq
    cases fl with
    | bk => exact hq.elim
    | ct => exact hq.elim
    | nx => exact fun R' σ' H' e kp => hq .non H' ⟨e.stay, e.cellsG.1, .non⟩
    | rt x =>
      intro R' σ' v H' e kp r
      cases x with
      | d y => exact hq v H' ⟨e.stay, e.cellsG.1, Dp.ex e.cellsG.2 _ _ r⟩
      | g k => exact hq v H' ⟨e.stay, e.cellsG.1, r⟩
      | l k =>
        dsimp only at hq
        cases q : (s'.lo[k]?).join with
        | none => rw [q] at hq; exact hq.elim
        | some c =>
          rw [q] at hq
          obtain ⟨p, h1, h2⟩ := r
          exact hq v H' ⟨e.stay, p, h2, e.new p (List.mem_of_getElem? h1), e.cellsF (join_some q) h1⟩
theorem ok_no {xr : XRep} {n k : Nat} {x qual : Str} {st : Stmt} {f : Addr} {fd : FuncData} {ps : List Str} (F : Fun K x qual st f fd) : FnG P w K mg base (L2.CX P w) k f fd ps (spF K xr n (fun _ _ => .no)) :=
  ⟨fun vs H Q E h => by obtain ⟨_, _, _, _, _, _, h⟩ := h; exact h.elim, fun A outer s H args us vs Q E hg hr he hb hv h => by obtain ⟨_, _, _, _, _, _, h⟩ := h; exact h.elim⟩
end
/-! ### calls -/
def globA (n : Nat) : AV → AV
  | .l k => .g (n + k)
  | x => x
def fCall (n : Nat) (f : List AV → Glo → RR) (args : S → R (List AV)) (s : S) : R AV := (args s).bind fun xs s1 =>
  if xs.length = n then
    match f (xs.map (globA s1.gl.length)) (s1.gl ++ s1.lo) with
    | .ok rv gl' =>
      let s2 : S := { s1 with gl := gl'.take s1.gl.length, lo := gl'.drop s1.gl.length }
      match rv with
      | .d x => .ok (.d x) s2
      | .g k => .ok (if k < s1.gl.length then .g k else .l (k - s1.gl.length)) s2
      | .f c => .ok (.l s2.lo.length) (s2.push c)
    | .xc x gl' => .xc x { s1 with gl := gl'.take s1.gl.length, lo := gl'.drop s1.gl.length }
    | .no => .no
  else .no
section
variable {K : PySem.W.Frag} {B : Fr} {R : List Addr} {s : S} {σ : L2.St} {H H' : Hp} {gl' : Glo}
theorem args_glob {xs : List AV} {vs : List V} (e : Env K B R s σ H) (r : vA K B R s H vs xs) : Paired (fun v x => AvR K (B.G ++ R) [] (hd (B.G ++ R) (s.gl ++ s.lo) H) v x) vs (xs.map (globA s.gl.length)) := by
  induction r with
  | nil => exact .nil
  | cons r t ih =>
    refine .cons ?_ ih
    rename_i v x vs xs
    cases x with
    | d y => exact r
    | g k =>
      obtain ⟨a, h1, h2⟩ := r
      exact ⟨a, by rw [List.getElem?_append_left (List.getElem?_eq_some_iff.mp h1).1]; exact h1, h2⟩
    | l k =>
      obtain ⟨a, h1, h2⟩ := r
      exact ⟨a, by rw [e.lg, List.getElem?_append_right (Nat.le_add_right _ _), Nat.add_sub_cancel_left]; exact h1, h2⟩
/-- behind a call: the cells as they are now -/
theorem Env.after (e : Env K B R s σ H) (st : Stay (B.G ++ R) (s.gl ++ s.lo) H gl' H') (hc : Cells K (B.G ++ R) gl' H') : Env K B R { s with gl := gl'.take s.gl.length, lo := gl'.drop s.gl.length } σ H' ∧ Fx.St B R s H R { s with gl := gl'.take s.gl.length, lo := gl'.drop s.gl.length } H' := by
  have e0 : gl'.take s.gl.length ++ gl'.drop s.gl.length = gl' := List.take_append_drop _ _
  have hlen : gl'.length = s.gl.length + s.lo.length := by have := congrArg List.length st.shp; simpa using this
  have hsh : (gl'.take s.gl.length).map Option.isSome = s.gl.map Option.isSome := by
    rw [List.map_take, st.shp, List.map_append, List.take_left' (by simp)]
  have hh : ∀ H, hd (B.G ++ R) gl' H = hd (B.G ++ R) (s.gl ++ s.lo) H := fun H => hd_shape st.shp
  have hx : Ex (hd (B.G ++ R) (s.gl ++ s.lo) H) (hd (B.G ++ R) (gl'.take s.gl.length ++ gl'.drop s.gl.length) H') := by
    rw [e0, hh]
    exact hd_ex st.old
  refine ⟨⟨by rw [e0]; exact hc, by rw [List.length_take, hlen, Nat.min_eq_left (Nat.le_add_right _ _)]; exact e.lg, hsh.trans e.shp, e.new, fun a o n h => ?_, e.len, fun i x q => ?_⟩, ⟨hx, fun a h => ?_, ⟨[], by simp, by simp⟩, rfl, fun _ _ q => q⟩⟩
  · refine st.old a o (fun z => ?_) (e.old a o n h)
    obtain ⟨k, c, z1, z2⟩ := z
    by_cases q : k < s.gl.length
    · rw [List.getElem?_append_left q] at z1
      rw [List.getElem?_append_left (by rw [← e.lg]; exact q)] at z2
      exact n ((hid_shape e.shp).mp ⟨k, c, z1, z2⟩)
    · rw [List.getElem?_append_right (by rw [← e.lg]; omega)] at z2
      rw [e.new a (List.mem_of_getElem? z2)] at h
      cases h
  · obtain ⟨v, h1, h2⟩ := e.sl i x q
    have := AvR.ex (T := []) hx h2
    rw [List.append_nil] at this
    exact ⟨v, h1, this⟩
  · by_cases z : hid (B.G ++ R) (s.gl ++ s.lo) a
    · exact hc.ex a (hid_mem z)
    · cases q : H a with
      | none => exact absurd q h
      | some o => rw [st.old a o z q]; exact fun z => by cases z
theorem q_call {n : Nat} {f : List AV → Glo → RR} {fs : S → Fx.R (List AV)} {E : XK} (hE : ∀ cls d σ H, B.xw cls d σ H → E cls d H) (σ : L2.St) (H : Hp) (Q : VK) (h : rE K B (fCall n f fs) σ H Q) : tCall (spF K B.xr n f) [] E (rA K B fs) σ H Q := by
  obtain ⟨R, s, e, q⟩ := h
  refine ⟨R, s, e, post_bind q fun xs s1 R1 vs H1 _ e1 st r q1 => ?_⟩
  rw [List.append_nil]
  by_cases hl : xs.length = n
  · rw [if_pos hl] at q1
    refine ⟨r.length.trans hl, B.G ++ R1, s1.gl ++ s1.lo, xs.map (globA s1.gl.length), e1.cells, args_glob e1 r, ?_⟩
    cases z : f (xs.map (globA s1.gl.length)) (s1.gl ++ s1.lo) with
    | no => rw [z] at q1; exact q1.elim
    | xc x gl' =>
      rw [z] at q1
      intro cls d H' sy hc hx
      obtain ⟨a, b⟩ := e1.after sy hc
      exact hE cls d σ H' (q1 R1 H' cls d a b hx)
    | ok rv gl' =>
      rw [z] at q1
      intro v H' ⟨sy, hf⟩
      cases rv with
      | d x =>
        obtain ⟨hc, hv⟩ := hf
        obtain ⟨a, b⟩ := e1.after sy hc
        refine q1 R1 v H' a b ?_
        show Dp K (hd (B.G ++ R1) (gl'.take s1.gl.length ++ gl'.drop s1.gl.length) H') v x
        rw [List.take_append_drop]
        exact hv
      | g k =>
        obtain ⟨hc, p, h1, h2⟩ := hf
        obtain ⟨a, b⟩ := e1.after sy hc
        by_cases hk : k < s1.gl.length
        · dsimp only at q1
          rw [if_pos hk] at q1
          exact q1 R1 v H' a b ⟨p, by rw [List.getElem?_append_left (by rw [← e1.lg]; exact hk)] at h1; exact h1, h2⟩
        · dsimp only at q1
          rw [if_neg hk] at q1
          exact q1 R1 v H' a b ⟨p, by rw [List.getElem?_append_right (by rw [← e1.lg]; omega), ← e1.lg] at h1; exact h1, h2⟩
      | f c =>
        obtain ⟨p, hv, hp, hc⟩ := hf
        have hlen : gl'.length = s1.gl.length + s1.lo.length := by have := congrArg List.length sy.shp; simpa using this
        have hA : (B.G ++ R1).length = gl'.length := by rw [List.length_append, ← e1.lg, ← e1.ll, hlen]
        -- the cells but for the new one
        have hc0 : Cells K (B.G ++ R1) gl' H' := by
          refine hc.sub hA e1.cells.nd (fun a m => List.mem_append_left _ m) fun j c' a' q1 q2 => ?_
          exact ⟨j, by rw [List.getElem?_append_left (List.getElem?_eq_some_iff.mp q1).1]; exact q1, by rw [List.getElem?_append_left (List.getElem?_eq_some_iff.mp q2).1]; exact q2⟩
        obtain ⟨a, b⟩ := e1.after sy hc0
        have e0 : gl'.take s1.gl.length ++ (gl'.drop s1.gl.length ++ [some c]) = gl' ++ [some c] := by rw [← List.append_assoc, List.take_append_drop]
        have eA : B.G ++ (R1 ++ [p]) = (B.G ++ R1) ++ [p] := (List.append_assoc ..).symm
        -- what is not hidden there now, was there ahead of the call, or is not p
        have hx : Ex (hd (B.G ++ R1) (s1.gl ++ s1.lo) H1) (hd (B.G ++ (R1 ++ [p])) (gl'.take s1.gl.length ++ (gl'.drop s1.gl.length ++ [some c])) H') := fun b' o ho => by
          obtain ⟨n1, n2⟩ := hd_some ho
          have hbp : b' ≠ p := fun z => by rw [z, hp] at n2; cases n2
          rw [e0, eA, hd_get fun z => ((hid_snoc hA).mp z).elim hbp fun z => n1 ((hid_shape sy.shp).mp z)]
          exact sy.old b' o n1 n2
        refine q1 (R1 ++ [p]) v H' ⟨?_, a.lg, a.shp, fun b' m => ?_, a.old, a.len, fun i x q => ?_⟩ ⟨hx, b.dom, ⟨[p], rfl, by simpa using hp⟩, rfl, fun _ _ q => q⟩ ⟨p, ?_, hv⟩
        · show Cells K (B.G ++ (R1 ++ [p])) (gl'.take s1.gl.length ++ (gl'.drop s1.gl.length ++ [some c])) H'
          rw [e0, eA]; exact hc
        · rcases List.mem_append.mp m with m | m
          · exact a.new b' m
          · have : b' = p := by simpa using m
            subst this
            exact e1.fresh hp
        · obtain ⟨v, h1, h2⟩ := e1.sl i x q
          exact ⟨v, h1, AvR.ex hx h2⟩
        · show (R1 ++ [p])[(gl'.drop s1.gl.length).length]? = some p
          rw [List.length_drop, hlen, Nat.add_sub_cancel_left, e1.ll, List.getElem?_append_right (Nat.le_refl _), Nat.sub_self]
          rfl
  · rw [if_neg hl] at q1; exact q1.elim
end
section
variable {X : Cx} {B : Fr} {a : Expr} {es : List Expr} {fs : S → R (List AV)} {pos p : Pos} {k n : Nat} {f : Addr} {fd : FuncData} {ps : List Str} {x : Str} {E : XK} {F : List AV → Glo → RR}
theorem pf_call (Fk : FnG X.prog X.w X.K X.mg X.base (L2.CX X.prog X.w) k f fd ps (spF X.K B.xr n F)) (hgd : X.A.guards = some []) (hr : Room k X.A) (hg : Gl X x) (hm : X.mg x = some (.ref f)) (hk : PySem.W.keepIn X.K (.ref f) = true) (hb : Binds X.K fd ps []) (hx : Passes (L2.CX X.prog X.w) X E) (hE : ∀ cls d σ H, B.xw cls d σ H → E cls d H)
    (ha : PA X (a :: es) (rA X.K B fs)) (hdb : (x == ("__debug__" : Str)) = false := by decide) (he : starEach (a :: es) X.env = (false, eval a X.env) :: starEach es X.env := by rfl) (hpl : (backTo pos (starEach es X.env)).any (·.1) = false := by rfl) :
    PE X (.Call (.Name x p) (a :: es) [] pos) (rE X.K B (fCall n F fs)) := pe_imp (Bk.pe_callG Fk hgd hr hg hm hk hb .nil hx ha hdb he hpl) (q_call hE)
end
/-! ### the law -/
def spLaw (K : PySem.W.Frag) : Sp := fun vs H Q _ => ∃ (a : Addr) (ns : List Int), vs = [.ref a] ∧ SqL K H a (ns.map V.int) ∧ ns.length ≤ 63 ∧ (∀ z ∈ ns, Builtin.Int.intBits z ≤ 1048576) ∧ ∀ H', Q (.bl true) H'
theorem law_of {P : Program} {w : World} {K : PySem.W.Frag} {mg : Str → Option Value} {base : Heap} {k : Nat} {f : Addr} {fd : FuncData} {ps : List Str} {xr : XRep} {F : List AV → Glo → RR} (h : FnG P w K mg base (L2.CX P w) k f fd ps (spF K xr 1 F))
    (hF : ∀ ns : List Int, ns.length ≤ 63 → (∀ z ∈ ns, Builtin.Int.intBits z ≤ 1048576) → F [.d (.list (ns.map .int))] [] = .ok (.d (.bool true)) []) : FnG P w K mg base CX0 k f fd ps (spLaw K) := by
  have key : ∀ vs H Q E, spLaw K vs H Q E → spF K xr 1 F vs H Q E0 := fun vs H Q E ⟨a, ns, hv, hs, hl, hb, hq⟩ => by
    subst hv
    have dpi : DpAll K (hd [] [] H) (ns.map V.int) (ns.map .int) := by
      clear hs hl hb
      induction ns with
      | nil => exact .nil
      | cons n l ih => exact .cons (.int n) ih
    have hh : hd [] [] H = H := by
      funext b
      exact hd_get fun ⟨k, c, h1, _⟩ => by simp at h1
    refine ⟨rfl, [], [], [.d (.list (ns.map .int))], ⟨rfl, by simp, (fun _ m => by cases m), (fun k c a h1 _ => by simp at h1)⟩, .cons (.lst (by rw [hh]; exact hs) dpi) .nil, ?_⟩
    rw [hF ns hl hb]
    intro v H' hf
    obtain ⟨_, _, hv⟩ := hf
    rw [dp_bl hv]
    exact hq H'
  refine ⟨fun vs H Q E q => h.len vs H Q E0 (key vs H Q E q), fun A outer s H args us vs Q E hg hr he hb hv q => ?_⟩
  refine codeAny_mono (h.run A outer s H args us vs Q E0 hg hr he hb hv (key vs H Q E q)) fun r s' hr => ?_
  cases r with
  | error e =>
    obtain ⟨_, _, _, _, _, _, _, _, _, _, _, _, z⟩ := hr
    exact z.elim
  | ok fl => cases fl <;> exact hr
end Fx

/-! ### what is walked; list comprehensions -/
namespace Fx
open PySem PySem.Spec PyProof.Rows L2
open Bk (Dp.ex DpAll.ex DpAll.len DpAll.get DpAll.get' DpAll.app DpAll.take DpAll.drop DpAll.snoc dp_tup dp_lst dp_int dp_str dp_bl ex_new FnG)
open Evl (Ex)
section
variable {X : Cx} {B : Fr} {a b c e tg it : Expr} {fa fb fc fe : S → R AV} {fs : S → R (List AV)} {ft : S → R Bool} {fi : S → R Iv} {pos : Pos}
theorem pi_or {t t' : TI} (h : PI X tg it t) (h' : PI X tg it t') : PI X tg it (fun σ H R => t σ H R ∨ t' σ H R) := ⟨fun pins s σ H R I q => q.elim (h.run pins s σ H R I) (h'.run pins s σ H R I)⟩
def chrs (z : Str) : List PyData := z.cps.toList.map fun c => .str ⟨#[c]⟩
/-- the items of a value; a list of the def's own becomes data -/
def ivOf (x : AV) (s : S) : R Iv :=
  match x with
  | .d (.list ds) => .ok (.ds ds) s
  | .d (.tuple ds) => .ok (.ds ds) s
  | .d (.str z) => .ok (.ds (chrs z)) s
  | .d _ => .no
  | .g k => match cellOf s (.g k) with
    | some (.lst _) => .ok (.cel (.g k)) s
    | _ => .no
  | .l k => (toD1 (.l k) s).bind fun y s1 => match y with
    | .list ds => .ok (.ds ds) s1
    | _ => .no
def fIt (f : S → R AV) (s : S) : R Iv := (f s).bind ivOf
theorem src_str {K : PySem.W.Frag} {R : List Addr} {s : S} {H : Hp} {z : Str} : SrcOk K B R s H (Its z) (srcD (chrs z)) where
  go := fun R' s' σ' H' e k i d hi => by
    have hi : (chrs z)[i]? = some d := Option.some.inj hi
    unfold chrs at hi
    rw [List.getElem?_map] at hi
    cases q : z.cps.toList[i]? with
    | none => rw [q] at hi; cases hi
    | some c =>
      rw [q] at hi
      cases hi
      have q2 : z.cps[i]? = some c := by rw [← q]; simp
      refine ⟨(Array.getElem?_eq_some_iff.mp q2).1, fun x H2 ⟨z1, c', z2, z3⟩ => ?_⟩
      subst z1
      rw [q2] at z2
      cases z2
      subst z3
      exact ⟨Ex.refl _, .str _⟩
  stop := fun R' s' σ' H' e k i hi => by
    have hi : (chrs z)[i]? = none := Option.some.inj hi
    have := List.getElem?_eq_none_iff.mp hi
    unfold chrs at this
    rw [List.length_map, Array.length_toList] at this
    exact this
theorem post_bindI {α β : Type} {K : PySem.W.Frag} {V : VRel α β} {R : List Addr} {s : S} {σ : L2.St} {H : Hp} {r : Fx.R α} {k : α → S → Fx.R Iv} {Q : It → Hp → Prop} (x : α) (s1 : S) (hr : r = .ok x s1) (h : PostI K B σ R s H (r.bind k) Q) : PostI K B σ R s H (k x s1) Q := by
  subst hr; exact h
/-- over any expression -/
theorem pf_it (he : PE X e (rE X.K B fe)) : PI X tg e (RI X.K B (fIt fe)) := pi_imp (pi_or (pi_list he) (pi_or (pi_tup he) (pi_str he))) fun σ H Q ⟨R, s, en, q⟩ => by
  unfold fIt at q
  cases z : fe s with
  | no => rw [z] at q; exact q.elim
  | xc x s1 => rw [z] at q; exact .inl ⟨R, s, en, by rw [z]; exact q⟩
  | ok x s1 =>
    rw [z] at q
    have q : PostI X.K B σ R s H (ivOf x s1) Q := q
    cases x with
    | d y =>
      cases y with
      | list ds => exact .inl ⟨R, s, en, by
          rw [z]
          intro R1 v H1 e1 st r
          obtain ⟨p, xs, rfl, h1, h2⟩ := dp_lst r
          exact ⟨p, rfl, ⟨xs, Evl.ex_l hd_sub h1⟩, q R1 H1 _ e1 st (src_list h1 h2)⟩⟩
      | tuple ds => exact .inr (.inl ⟨R, s, en, by
          rw [z]
          intro R1 v H1 e1 st r
          obtain ⟨p, xs, rfl, h1, h2⟩ := dp_tup r
          exact ⟨p, rfl, ⟨xs, Evl.ex_t hd_sub h1⟩, q R1 H1 _ e1 st (src_tup h1 h2)⟩⟩)
      | str w => exact .inr (.inr ⟨R, s, en, by
          rw [z]
          intro R1 v H1 e1 st r
          exact ⟨w, dp_str r, q R1 H1 _ e1 st src_str⟩⟩)
      | none => exact q.elim
      | bool _ => exact q.elim
      | int _ => exact q.elim
      | dict _ => exact q.elim
    | g k =>
      have q : PostI X.K B σ R s H (match cellOf s1 (.g k) with | some (.lst _) => .ok (.cel (.g k)) s1 | _ => .no) Q := q
      cases w : cellOf s1 (.g k) with
      | none => rw [w] at q; exact q.elim
      | some c =>
        rw [w] at q
        cases c with
        | lst ds => exact .inl ⟨R, s, en, by
            rw [z]
            intro R1 v H1 e1 st r
            obtain ⟨p, h1, rfl⟩ := r
            obtain ⟨p', hp, _, _, us, u1, _⟩ := e1.cell (x := .g k) (v := .ref p) ⟨p, h1, rfl⟩ w
            cases hp
            exact ⟨p, rfl, ⟨us, SqL.of u1⟩, q R1 H1 _ e1 st (src_cel h1)⟩⟩
        | dic _ => exact q.elim
        | dit _ => exact q.elim
    | l k => exact .inl ⟨R, s, en, by
        rw [z]
        intro R1 v H1 e1 st r
        obtain ⟨y, s2, _, e2, st2, d2, q2⟩ : ∃ y s2, toD1 (.l k) s1 = .ok y s2 ∧ Env X.K B R1 s2 σ H1 ∧ St B R1 s1 H1 R1 s2 H1 ∧ Dp X.K (hdS B R1 s2 H1) v y ∧ PostI X.K B σ R s H (match y with | .list ds => .ok (.ds ds) s2 | _ => .no) Q := by
          have q : PostI X.K B σ R s H ((toD1 (.l k) s1).bind fun y s1 => match y with | .list ds => .ok (.ds ds) s1 | _ => .no) Q := q
          cases w : toD1 (.l k) s1 with
          | no => rw [w] at q; exact q.elim
          | xc _ _ => exact (toD1_noxc w).elim
          | ok y s2 =>
            rw [w] at q
            obtain ⟨a1, a2, a3⟩ := toD1_ok e1 r w
            exact ⟨y, s2, rfl, a1, a2, a3, q⟩
        cases y with
        | list ds =>
          obtain ⟨p, xs, rfl, h1, h2⟩ := dp_lst d2
          exact ⟨p, rfl, ⟨xs, Evl.ex_l hd_sub h1⟩, q2 R1 H1 _ e2 (st.trans st2) (src_list h1 h2)⟩
        | _ => exact q2.elim⟩
/-! list comprehensions -/
def wipeS (sl : List (Option AV)) : List Nat → List (Option AV)
  | [] => sl
  | v :: vs => (wipeS sl vs).set v none
theorem Env.wipe {K : PySem.W.Frag} {R : List Addr} {s : S} {σ : L2.St} {H : Hp} (e : Env K B R s σ H) : ∀ vs : List Nat, Env K B R { s with sl := wipeS s.sl vs } (L2.wipe σ vs) H
  | [] => e
  | v :: vs => (e.wipe vs).forget
def noX {α : Type} (r : R α) : R α :=
  match r with
  | .xc _ _ => .no
  | r => r
/-- one item goes onto the list at k; slots as they were -/
def snocAt (k : Nat) (sl : List (Option AV)) (d : PyData) (s : S) : R Unit :=
  match (s.lo[k]?).join with
  | some (.lst acc) => if acc.length < sizeLine then .ok () { sl := sl, gl := s.gl, lo := (s.lo.set k (some (.lst (acc ++ [d])))).take (k + 1) } else .no
  | _ => .no
def backTo' (k : Nat) (sl : List (Option AV)) (s : S) : S := { sl := sl, gl := s.gl, lo := s.lo.take (k + 1) }
/-- a turn: target, test, item -/
def lcTurn (k : Nat) (t : PyData → S → Option S) (tt : S → R Bool) (te : S → R AV) (vs : List Nat) (d : PyData) (s : S) : R Unit :=
  match t d { s with sl := wipeS s.sl vs } with
  | none => .no
  | some s1 => noX ((tt s1).bind fun b s2 => if b then (te s2).bind fun y s3 => (toD1 y s3).bind fun z s4 => snocAt k s.sl z s4 else .ok () (backTo' k s.sl s2))
def lcG (src : Src) (turn : PyData → S → R Unit) : Nat → Nat → S → R Unit
  | 0, _, _ => .no
  | n + 1, i, s =>
    match src i s with
    | none => .no
    | some none => .ok () s
    | some (some d) => (turn d s).bind fun _ s1 => lcG src turn n (i + 1) s1
def lcD (turn : PyData → S → R Unit) : List PyData → S → R Unit
  | [], s => .ok () s
  | d :: ds, s => (turn d s).bind fun _ s1 => lcD turn ds s1
theorem lcD_eq (turn : PyData → S → R Unit) : ∀ (ds pre : List PyData) (n : Nat) (s : S), ds.length < n → lcG (srcD (pre ++ ds)) turn n pre.length s = lcD turn ds s
  | [], pre, n + 1, s, _ => by
    rw [lcG, lcD]
    have : srcD (pre ++ []) pre.length s = some none := by unfold srcD; rw [List.append_nil, List.getElem?_eq_none_iff.mpr (Nat.le_refl _)]
    rw [this]
  | d :: ds, pre, n + 1, s, h => by
    rw [lcG, lcD]
    have : srcD (pre ++ d :: ds) pre.length s = some (some d) := by unfold srcD; rw [List.getElem?_append_right (Nat.le_refl _), Nat.sub_self]; rfl
    rw [this]
    dsimp only
    have ih : ∀ s2, lcG (srcD (pre ++ d :: ds)) turn n (pre.length + 1) s2 = lcD turn ds s2 := fun s2 => by
      have := lcD_eq turn ds (pre ++ [d]) n s2 (by simp only [List.length_cons] at h; omega)
      rw [List.append_assoc, List.length_append] at this
      exact this
    congr 1
    funext fl s2
    exact ih s2
  | [], _, 0, _, h => by simp at h
  | _ :: _, _, 0, _, h => by simp at h
def runLc (v : Iv) (turn : PyData → S → R Unit) (s : S) : R Unit :=
  match v with
  | .ds l => lcD turn l s
  | .cel x => lcG (srcC x) turn goFuel 0 s
theorem runLc_eq (v : Iv) (turn : PyData → S → R Unit) (s : S) : ∃ n, runLc v turn s = lcG v.src turn n 0 s := by
  cases v with
  | ds l => exact ⟨l.length + 1, (lcD_eq turn l [] (l.length + 1) s (Nat.lt_succ_self _)).symm⟩
  | cel x => exact ⟨goFuel, rfl⟩
def tYesF (s : S) : R Bool := .ok true s
def fLc (it : S → R Iv) (t : PyData → S → Option S) (tt : S → R Bool) (te : S → R AV) (vs : List Nat) (s : S) : R AV := (it s).bind fun v s1 =>
  (runLc v (lcTurn s1.lo.length t tt te vs) (s1.push (.lst []))).bind fun _ s2 => .ok (.l s1.lo.length) s2
/-- nothing is let out of a comprehension -/
def Fr.nox (B : Fr) : Fr := { B with xw := fun _ _ _ _ => False }
section
variable {K : PySem.W.Frag} {R R1 : List Addr} {s s1 : S} {σ : L2.St} {H H1 : Hp}
theorem Env.nox (e : Env K B R s σ H) : Env K B.nox R s σ H := ⟨e.cells, e.lg, e.shp, e.new, e.old, e.len, e.sl⟩
theorem Env.ofNox (e : Env K B.nox R s σ H) : Env K B R s σ H := ⟨e.cells, e.lg, e.shp, e.new, e.old, e.len, e.sl⟩
theorem St.ofNox (a : St B.nox R s H R1 s1 H1) : St B R s H R1 s1 H1 := ⟨a.hx, a.dom, a.pre, a.lsl, a.slm⟩
theorem SrcOk.wipe {J : It} {src : Src} (h : SrcOk K B R s H J src) {sl : List (Option AV)} : SrcOk K B R { s with sl := sl } H J src :=
  ⟨fun R' s' σ' H' e k => h.go R' s' σ' H' e ⟨k.hx, k.dom⟩, fun R' s' σ' H' e k => h.stop R' s' σ' H' e ⟨k.hx, k.dom⟩⟩
end
/-- a turn's wish: behind it, the slots of s, cells cut behind k -/
def TurnOk (K : PySem.W.Frag) (B : Fr) (σ : L2.St) (k : Nat) (R : List Addr) (s : S) (H : Hp) (r : Fx.R Unit) (Nx : Hp → Prop) : Prop :=
  match r with
  | .ok _ s' => ∀ R' H', Env K B R' s' σ H' → St B R s H R' s' H' → R'[k]? = R[k]? → Nx H'
  | _ => False
section
variable {K : PySem.W.Frag} {R : List Addr} {s : S} {σ : L2.St} {H : Hp}
/-- behind a turn: cut, slots as they were -/
theorem Env.back {R1 : List Addr} {s1 : S} {σ1 : L2.St} {H1 : Hp} {k : Nat} (e : Env K B R s σ H) (hk : s.lo.length = k + 1) (e1 : Env K B R1 s1 σ1 H1) (hp : ∃ T, R1 = R ++ T) (hx : Ex (hdS B R s H) (hdS B R1 s1 H1)) (dom : ∀ a, H a ≠ none → H1 a ≠ none) :
    Env K B R (backTo' k s.sl s1) σ H1 ∧ St B R s H R (backTo' k s.sl s1) H1 := by
  obtain ⟨T, rfl⟩ := hp
  have hl : R.length = k + 1 := by rw [← e.ll, hk]
  have hR : (R ++ T).Nodup := (List.nodup_append.mp e1.cells.nd).2.1
  have hlo : k + 1 ≤ s1.lo.length := by rw [e1.ll, List.length_append, hl]; exact Nat.le_add_right _ _
  obtain ⟨a, b⟩ := e1.sub (s1 := backTo' k s.sl s1) (R1 := R) (σ' := σ) rfl (by show R.length = (s1.lo.take (k + 1)).length; rw [hl, List.length_take, Nat.min_eq_left hlo]) (List.nodup_append.mp hR).1 (fun a m => List.mem_append_left _ m) (fun j c a h1 h2 => by
    have h1 : (s1.lo.take (k + 1))[j]? = some (some c) := h1
    rw [List.getElem?_take] at h1
    split at h1
    · exact ⟨j, h1, by rw [List.getElem?_append_left (List.getElem?_eq_some_iff.mp h2).1]; exact h2⟩
    · cases h1) e.len (fun hx2 i x q => by
    obtain ⟨v, h1, h2⟩ := e.sl i x q
    have := AvR.ex (T := []) (hx.trans hx2) h2
    rw [List.append_nil] at this
    exact ⟨v, h1, this⟩)
  exact ⟨a, ⟨hx.trans b.hx, dom, ⟨[], by simp, by simp⟩, rfl, fun _ _ q => q⟩⟩
theorem q_turn {t : PyData → S → Option S} {tt : S → Fx.R Bool} {te : S → Fx.R AV} {vs is : List Nat} {g : TG} {k : Nat} {d : PyData} {x : V} {Nx : Hp → Prop} {D : Addr} (hg : GtF K g is t) (hv : ∀ i ∈ is, i ∈ vs) (e : Env K B R s σ H) (hk : s.lo.length = k + 1) (hD : R[k]? = some D) (hd : Dp K (hdS B R s H) x d)
    (h : TurnOk K B σ k R s H (lcTurn k t tt te vs d s) Nx) : g x (L2.wipe σ vs) H fun σ2 H2 => L2.wipe σ2 vs = L2.wipe σ vs ∧ rT K B.nox tt σ2 H2 fun b H3 => if b = true then rE K B.nox te σ2 H3 fun y H4 => ∃ acc, H4 D = some (.lst acc) ∧ acc.length < sizeLine ∧ Nx (upd H4 D (.lst (acc ++ [y]))) else Nx H3 := by
  unfold lcTurn at h
  cases z : t d { s with sl := wipeS s.sl vs } with
  | none => rw [z] at h; exact h.elim
  | some s1 =>
    rw [z] at h
    dsimp only at h
    have ew := e.wipe vs
    refine hg B R { s with sl := wipeS s.sl vs } (L2.wipe σ vs) H x d s1 _ ew hd z fun σ2 e2 l1 l2 w2 => ⟨?_, R, s1, e2.nox, ?_⟩
    · rw [w2 vs hv]
      have idem : ∀ ws : List Nat, (∀ i ∈ ws, i ∈ vs) → L2.wipe (L2.wipe σ vs) ws = L2.wipe σ vs := fun ws => by
        induction ws with
        | nil => intro _; rfl
        | cons w ws ih =>
          intro hw
          show (L2.wipe (L2.wipe σ vs) ws).set w none = L2.wipe σ vs
          rw [show L2.wipe (L2.wipe σ vs) ws = L2.wipe σ vs from ih fun i hi => hw i (List.mem_cons_of_mem _ hi)]
          have key : ∀ us : List Nat, w ∈ us → (L2.wipe σ us).set w none = L2.wipe σ us := fun us => by
            induction us with
            | nil => intro h; cases h
            | cons u us ih2 =>
              intro h
              show ((L2.wipe σ us).set u none).set w none = (L2.wipe σ us).set u none
              by_cases q : w = u
              · subst q; rw [List.set_set]
              · rcases List.mem_cons.mp h with h | h
                · exact absurd h q
                · rw [List.set_comm _ _ (Ne.symm q), ih2 h]
          exact key vs (hw w List.mem_cons_self)
      exact idem vs fun _ h => h
    · have hx1 : Ex (hdS B R s H) (hdS B R s1 H) := by unfold hdS; rw [l1, l2]; exact fun _ _ q => q
      have k1 : s1.lo.length = k + 1 := by rw [l2]; exact hk
      cases h2 : tt s1 with
      | no => rw [h2] at h; exact h.elim
      | xc _ _ => rw [h2] at h; exact h.elim
      | ok b s2 =>
        rw [h2] at h
        intro R2 v2 H2 e3 st3 hb
        subst hb
        have st3 := st3.ofNox
        cases v2 with
        | false =>
          obtain ⟨T, hT, _⟩ := st3.pre
          obtain ⟨a, b⟩ := Env.back e hk e3.ofNox ⟨T, hT⟩ (hx1.trans st3.hx) st3.dom
          exact h R H2 a b rfl
        | true =>
          rw [if_pos rfl]
          refine ⟨R2, s2, e3, ?_⟩
          have h : TurnOk K B σ k R s H (noX ((te s2).bind fun y s3 => (toD1 y s3).bind fun z s4 => snocAt k s.sl z s4)) Nx := h
          cases h3 : te s2 with
          | no => rw [h3] at h; exact h.elim
          | xc _ _ => rw [h3] at h; exact h.elim
          | ok y s3 =>
            rw [h3] at h
            intro R3 v3 H3 e4 st4 r4
            have st4 := st4.ofNox
            have h : TurnOk K B σ k R s H (noX ((toD1 y s3).bind fun z s4 => snocAt k s.sl z s4)) Nx := h
            cases h4 : toD1 y s3 with
            | no => rw [h4] at h; exact h.elim
            | xc _ _ => exact (toD1_noxc h4).elim
            | ok z s4 =>
              rw [h4] at h
              obtain ⟨e5, st5, d5⟩ := toD1_ok e4.ofNox r4 h4
              have h : TurnOk K B σ k R s H (noX (snocAt k s.sl z s4)) Nx := h
              unfold snocAt at h
              cases h5 : (s4.lo[k]?).join with
              | none => rw [h5] at h; exact h.elim
              | some c =>
                rw [h5] at h
                cases c with
                | lst acc =>
                  obtain ⟨T1, hT1, _⟩ := st3.pre
                  obtain ⟨T2, hT2, _⟩ := st4.pre
                  have hD3 : R3[k]? = some D := by
                    rw [hT2, hT1, List.append_assoc, List.getElem?_append_left (List.getElem?_eq_some_iff.mp hD).1]; exact hD
                  have hcell : cellOf s4 (.l k) = some (.lst acc) := h5
                  obtain ⟨D', hD', c1, c2, us, u1, u2⟩ := e5.cell (x := .l k) (v := .ref D) ⟨D, hD3, rfl⟩ hcell
                  cases hD'
                  dsimp only at h
                  by_cases hz : acc.length < sizeLine
                  · rw [if_pos hz] at h
                    refine ⟨us, u1, by rw [DpAll.len u2]; exact hz, ?_⟩
                    obtain ⟨e6, st6⟩ := e5.put (x := .l k) (c := .lst (acc ++ [z])) (o := .lst (us ++ [v3])) hcell c2 ⟨_, upd_same, DpAll.snoc u2 d5⟩
                    have st7 := ((st3.trans st4).trans st5).trans st6
                    obtain ⟨T, hT, _⟩ := st7.pre
                    obtain ⟨a, b⟩ := Env.back e hk e6 ⟨T, hT⟩ (hx1.trans st7.hx) st7.dom
                    exact h R _ a b rfl
                  · rw [if_neg hz] at h; exact h.elim
                | dic _ => exact h.elim
                | dit _ => exact h.elim
end
theorem q_lc {K : PySem.W.Frag} {t : PyData → S → Option S} {tt : S → Fx.R Bool} {te : S → Fx.R AV} {vs is : List Nat} {g : TG} (hg : GtF K g is t) (hv : ∀ i ∈ is, i ∈ vs) (σ : L2.St) (H : Hp) (Q : VK) (h : rE K B (fLc fi t tt te vs) σ H Q) : tLc (RI K B fi) g (rT K B.nox tt) (rE K B.nox te) vs σ H Q := by
  obtain ⟨R, s, e, q⟩ := h
  refine ⟨R, s, e, ?_⟩
  unfold fLc at q
  cases z : fi s with
  | no => rw [z] at q; exact q.elim
  | xc x s1 => rw [z] at q; exact fun R' H' cls d e' st hx => q R' H' cls d e' st hx
  | ok v s1 =>
    rw [z] at q
    intro R1 H1 J e1 st1 ok D hD
    have q : Post K B (vE K B) σ R s H ((runLc v (lcTurn s1.lo.length t tt te vs) (s1.push (.lst []))).bind fun _ s2 => .ok (.l s1.lo.length) s2) Q := q
    obtain ⟨n, hn⟩ := runLc_eq v (lcTurn s1.lo.length t tt te vs) (s1.push (.lst []))
    rw [hn] at q
    obtain ⟨e2, st2, r2⟩ := e1.push (c := .lst []) hD (ex_new hD) ⟨[], upd_same, .nil⟩
    have hlen : (s1.push (.lst [])).lo.length = s1.lo.length + 1 := by show (s1.lo ++ [some (Cel.lst [])]).length = _; rw [List.length_append]; rfl
    have hDk : (R1 ++ [D])[s1.lo.length]? = some D := by rw [e1.ll, List.getElem?_append_right (Nat.le_refl _), Nat.sub_self]; rfl
    have ok2 := ok.kp st2.kp
    refine ⟨fun i m H' => ∃ R' s', Env K B R' s' σ H' ∧ St B (R1 ++ [D]) (s1.push (.lst [])) (upd H1 D (.lst [])) R' s' H' ∧ R'[s1.lo.length]? = some D ∧ s'.lo.length = s1.lo.length + 1 ∧
      Post K B (vE K B) σ R' s' H' ((lcG v.src (lcTurn s1.lo.length t tt te vs) m i s').bind fun _ s2 => .ok (.l s1.lo.length) s2) Q, ⟨n, R1 ++ [D], _, e2, St.refl, hDk, hlen, Post.st (st1.trans st2) q⟩, ?_⟩
    rintro i m H3 ⟨R3, s3, e3, st3, hR3, hl3, h3⟩
    cases m with
    | zero => exact h3.elim
    | succ m =>
      rw [lcG] at h3
      cases w : v.src i s3 with
      | none => rw [w] at h3; exact h3.elim
      | some o =>
        rw [w] at h3
        cases o with
        | none => exact .inl ⟨ok2.stop R3 s3 σ H3 e3 st3.kp i w, h3 R3 _ H3 e3 St.refl ⟨D, hR3, rfl⟩⟩
        | some d =>
          obtain ⟨g1, g2⟩ := ok2.go R3 s3 σ H3 e3 st3.kp i d w
          refine .inr ⟨g1, fun H' => ∃ R' s', Env K B R' s' σ H' ∧ St B (R1 ++ [D]) (s1.push (.lst [])) (upd H1 D (.lst [])) R' s' H' ∧ R'[s1.lo.length]? = some D ∧ s'.lo.length = s1.lo.length + 1 ∧
            Post K B (vE K B) σ R' s' H' ((lcG v.src (lcTurn s1.lo.length t tt te vs) m (i + 1) s').bind fun _ s2 => .ok (.l s1.lo.length) s2) Q, fun H' h => ⟨m, Nat.lt_succ_self m, h⟩, fun x H4 y => ?_⟩
          obtain ⟨x1, x2⟩ := g2 x H4 y
          have e4 := e3.grow x1
          have st4 := e3.growSt x1
          refine q_turn hg hv e4 hl3 hR3 x2 ?_
          have h3 : Post K B (vE K B) σ R3 s3 H3 (((lcTurn s1.lo.length t tt te vs d s3).bind fun _ s1' => lcG v.src (lcTurn s1.lo.length t tt te vs) m (i + 1) s1').bind fun _ s2 => .ok (.l s1.lo.length) s2) Q := h3
          cases u : lcTurn s1.lo.length t tt te vs d s3 with
          | no => rw [u] at h3; exact h3.elim
          | xc x s' =>
            exfalso
            unfold lcTurn at u
            split at u
            · cases u
            · rename_i sx _
              cases hh : ((tt sx).bind fun b s2 => if b then (te s2).bind fun y s3' => (toD1 y s3').bind fun z s4 => snocAt s1.lo.length s3.sl z s4 else Fx.R.ok () (backTo' s1.lo.length s3.sl s2)) with
              | ok _ _ => rw [hh] at u; cases u
              | xc _ _ => rw [hh] at u; cases u
              | no => rw [hh] at u; cases u
          | ok _ s' =>
            rw [u] at h3
            intro R' H' e' st' hk'
            have hll : R'.length = R3.length + 0 ∨ True := .inr trivial
            refine ⟨R', s', e', (st3.trans st4).trans st', hk'.trans hR3, ?_, Post.st (st4.trans st') h3⟩
            -- the cells are cut behind k
            have cut : s'.lo.length = s1.lo.length + 1 := by
              have hle : s1.lo.length + 1 ≤ s'.lo.length := by
                have := (List.getElem?_eq_some_iff.mp (hk'.trans hR3)).1
                rw [e'.ll]; exact this
              have hge : s'.lo.length ≤ s1.lo.length + 1 := by
                unfold lcTurn at u
                split at u
                · cases u
                · rename_i sx _
                  cases a1 : tt sx with
                  | no => rw [a1] at u; cases u
                  | xc _ _ => rw [a1] at u; cases u
                  | ok b s2 =>
                    rw [a1] at u
                    cases b with
                    | false =>
                      have u : noX (Fx.R.ok () (backTo' s1.lo.length s3.sl s2)) = .ok _ s' := u
                      cases u
                      show (s2.lo.take (s1.lo.length + 1)).length ≤ _
                      rw [List.length_take]; exact Nat.min_le_left _ _
                    | true =>
                      have u : noX ((te s2).bind fun y s3' => (toD1 y s3').bind fun z s4 => snocAt s1.lo.length s3.sl z s4) = .ok _ s' := u
                      cases a2 : te s2 with
                      | no => rw [a2] at u; cases u
                      | xc _ _ => rw [a2] at u; cases u
                      | ok y s3' =>
                        rw [a2] at u
                        have u : noX ((toD1 y s3').bind fun z s4 => snocAt s1.lo.length s3.sl z s4) = .ok _ s' := u
                        cases a3 : toD1 y s3' with
                        | no => rw [a3] at u; cases u
                        | xc _ _ => rw [a3] at u; cases u
                        | ok z s4 =>
                          rw [a3] at u
                          have u : noX (snocAt s1.lo.length s3.sl z s4) = .ok _ s' := u
                          unfold snocAt at u
                          split at u
                          · split at u
                            · cases u
                              show ((s4.lo.set _ _).take (s1.lo.length + 1)).length ≤ _
                              rw [List.length_take]; exact Nat.min_le_left _ _
                            · cases u
                          · cases u
              omega
            exact cut
end
end Fx

/-! ### list comprehensions: as expressions, with two fors -/
namespace Fx
open PySem PySem.Spec PyProof.Rows L2
open Bk (Dp.ex DpAll.ex DpAll.len DpAll.get DpAll.get' DpAll.app DpAll.take DpAll.drop DpAll.snoc dp_tup dp_lst dp_int dp_str dp_bl ex_new FnG)
open Evl (Ex)
/-- a turn that leaves the cells cut behind k -/
def Cuts (k : Nat) (turn : PyData → S → R Unit) : Prop := ∀ d s s' u, turn d s = .ok u s' → s'.lo.length ≤ k + 1
theorem cuts1 {k : Nat} {t : PyData → S → Option S} {tt : S → R Bool} {te : S → R AV} {vs : List Nat} : Cuts k (lcTurn k t tt te vs) := fun d s s' u h => by
  unfold lcTurn at h
  split at h
  · cases h
  · rename_i sx _
    cases a1 : tt sx with
    | no => rw [a1] at h; cases h
    | xc _ _ => rw [a1] at h; cases h
    | ok b s2 =>
      rw [a1] at h
      cases b with
      | false =>
        have h : noX (Fx.R.ok () (backTo' k s.sl s2)) = .ok _ s' := h
        cases h
        show (s2.lo.take (k + 1)).length ≤ _
        rw [List.length_take]; exact Nat.min_le_left _ _
      | true =>
        have h : noX ((te s2).bind fun y s3' => (toD1 y s3').bind fun z s4 => snocAt k s.sl z s4) = .ok _ s' := h
        cases a2 : te s2 with
        | no => rw [a2] at h; cases h
        | xc _ _ => rw [a2] at h; cases h
        | ok y s3' =>
          rw [a2] at h
          have h : noX ((toD1 y s3').bind fun z s4 => snocAt k s.sl z s4) = .ok _ s' := h
          cases a3 : toD1 y s3' with
          | no => rw [a3] at h; cases h
          | xc _ _ => rw [a3] at h; cases h
          | ok z s4 =>
            rw [a3] at h
            have h : noX (snocAt k s.sl z s4) = .ok _ s' := h
            unfold snocAt at h
            split at h
            · split at h
              · cases h
                show ((s4.lo.set _ _).take (k + 1)).length ≤ _
                rw [List.length_take]; exact Nat.min_le_left _ _
              · cases h
            · cases h
section
variable {K : PySem.W.Frag} {B : Fr} {R : List Addr} {s : S} {σ : L2.St} {H : Hp} {J : It} {src : Src}
theorem TurnOk.st {k : Nat} {R1 : List Addr} {s1 : S} {H1 : Hp} {r : Fx.R Unit} {Nx : Hp → Prop} (a : St B R s H R1 s1 H1) (b : R1[k]? = R[k]?) (h : TurnOk K B σ k R s H r Nx) : TurnOk K B σ k R1 s1 H1 r Nx := by
  cases r with
  | ok u s' => exact fun R' H' e st hk => h R' H' e (a.trans st) (hk.trans b)
  | xc _ _ => exact h
  | no => exact h
/-- a walk, by its turns: what the turn is to do is told by G -/
theorem q_walk {k n : Nat} {D : Addr} {turn : PyData → S → Fx.R Unit} {Qd : Hp → Prop} {G : V → Hp → (Hp → Prop) → Prop} (ct : Cuts k turn)
    (hG : ∀ (R' : List Addr) (s' : S) (H' : Hp) (x : V) (d : PyData) (Nx : Hp → Prop), Env K B R' s' σ H' → St B R s H R' s' H' → s'.lo.length = k + 1 → R'[k]? = some D → Dp K (hdS B R' s' H') x d → TurnOk K B σ k R' s' H' (turn d s') Nx → G x H' Nx)
    (e : Env K B R s σ H) (hk : s.lo.length = k + 1) (hD : R[k]? = some D) (ok : SrcOk K B R s H J src) (h : TurnOk K B σ k R s H (lcG src turn n 0 s) Qd) :
    ∃ W : Nat → Nat → Hp → Prop, (∃ m, W 0 m H) ∧ ∀ i m H, W i m H → (J.stop i H ∧ Qd H) ∨ (J.go i H ∧ ∃ Nx : Hp → Prop, (∀ H', Nx H' → ∃ m', m' < m ∧ W (i + 1) m' H') ∧ ∀ x H', J.yld i H x H' → G x H' Nx) := by
  refine ⟨fun i m H' => ∃ R' s', Env K B R' s' σ H' ∧ St B R s H R' s' H' ∧ R'[k]? = some D ∧ s'.lo.length = k + 1 ∧ TurnOk K B σ k R' s' H' (lcG src turn m i s') Qd, ⟨n, R, s, e, St.refl, hD, hk, h⟩, ?_⟩
  rintro i m H3 ⟨R3, s3, e3, st3, hR3, hl3, h3⟩
  cases m with
  | zero => exact h3.elim
  | succ m =>
    rw [lcG] at h3
    cases w : src i s3 with
    | none => rw [w] at h3; exact h3.elim
    | some o =>
      rw [w] at h3
      cases o with
      | none => exact .inl ⟨ok.stop R3 s3 σ H3 e3 st3.kp i w, h3 R3 H3 e3 St.refl rfl⟩
      | some d =>
        obtain ⟨g1, g2⟩ := ok.go R3 s3 σ H3 e3 st3.kp i d w
        refine .inr ⟨g1, fun H' => ∃ R' s', Env K B R' s' σ H' ∧ St B R s H R' s' H' ∧ R'[k]? = some D ∧ s'.lo.length = k + 1 ∧ TurnOk K B σ k R' s' H' (lcG src turn m (i + 1) s') Qd, fun H' h => ⟨m, Nat.lt_succ_self m, h⟩, fun x H4 y => ?_⟩
        obtain ⟨x1, x2⟩ := g2 x H4 y
        have e4 := e3.grow x1
        have st4 := e3.growSt x1
        refine hG R3 s3 H4 x d _ e4 (st3.trans st4) hl3 hR3 x2 ?_
        have h3 : TurnOk K B σ k R3 s3 H3 ((turn d s3).bind fun _ s1' => lcG src turn m (i + 1) s1') Qd := h3
        cases u : turn d s3 with
        | no => rw [u] at h3; exact h3.elim
        | xc x s' => rw [u] at h3; exact h3.elim
        | ok uu s' =>
          rw [u] at h3
          intro R' H' e' st' hk'
          refine ⟨R', s', e', (st3.trans st4).trans st', hk'.trans hR3, ?_, TurnOk.st (st4.trans st') hk' h3⟩
          have hle : k + 1 ≤ s'.lo.length := by
            have := (List.getElem?_eq_some_iff.mp (hk'.trans hR3)).1
            rw [e'.ll]; exact this
          have hge := ct d s3 s' uu u
          omega
end
/-- a turn of the outer for -/
def lcTurn2 (k : Nat) (t : PyData → S → Option S) (tt : S → R Bool) (fi1 : S → R Iv) (t1 : PyData → S → Option S) (tt1 : S → R Bool) (te : S → R AV) (vs vs1 : List Nat) (d : PyData) (s : S) : R Unit :=
  match t d { s with sl := wipeS s.sl vs } with
  | none => .no
  | some s1 => noX ((tt s1).bind fun b s2 => if b then (fi1 s2).bind fun v s3 => (runLc v (lcTurn k t1 tt1 te vs1) (backTo' k s1.sl s3)).bind fun _ s4 => .ok () (backTo' k s.sl s4) else .ok () (backTo' k s.sl s2))
theorem cuts2 {k : Nat} {t t1 : PyData → S → Option S} {tt tt1 : S → R Bool} {fi1 : S → R Iv} {te : S → R AV} {vs vs1 : List Nat} : Cuts k (lcTurn2 k t tt fi1 t1 tt1 te vs vs1) := fun d s s' u h => by
  unfold lcTurn2 at h
  split at h
  · cases h
  · rename_i sx _
    cases a1 : tt sx with
    | no => rw [a1] at h; cases h
    | xc _ _ => rw [a1] at h; cases h
    | ok b s2 =>
      rw [a1] at h
      cases b with
      | false =>
        have h : noX (Fx.R.ok () (backTo' k s.sl s2)) = .ok _ s' := h
        cases h
        show (s2.lo.take (k + 1)).length ≤ _
        rw [List.length_take]; exact Nat.min_le_left _ _
      | true =>
        have h : noX ((fi1 s2).bind fun v s3 => (runLc v (lcTurn k t1 tt1 te vs1) (backTo' k sx.sl s3)).bind fun _ s4 => .ok () (backTo' k s.sl s4)) = .ok _ s' := h
        cases a2 : fi1 s2 with
        | no => rw [a2] at h; cases h
        | xc _ _ => rw [a2] at h; cases h
        | ok v s3 =>
          rw [a2] at h
          have h : noX ((runLc v (lcTurn k t1 tt1 te vs1) (backTo' k sx.sl s3)).bind fun _ s4 => .ok () (backTo' k s.sl s4)) = .ok _ s' := h
          cases a3 : runLc v (lcTurn k t1 tt1 te vs1) (backTo' k sx.sl s3) with
          | no => rw [a3] at h; cases h
          | xc _ _ => rw [a3] at h; cases h
          | ok z s4 =>
            rw [a3] at h
            have h : noX (Fx.R.ok () (backTo' k s.sl s4)) = .ok _ s' := h
            cases h
            show (s4.lo.take (k + 1)).length ≤ _
            rw [List.length_take]; exact Nat.min_le_left _ _
def fLc2 (it : S → R Iv) (t : PyData → S → Option S) (tt : S → R Bool) (fi1 : S → R Iv) (t1 : PyData → S → Option S) (tt1 : S → R Bool) (te : S → R AV) (vs vs1 : List Nat) (s : S) : R AV := (it s).bind fun v s1 =>
  (runLc v (lcTurn2 s1.lo.length t tt fi1 t1 tt1 te vs vs1) (s1.push (.lst []))).bind fun _ s2 => .ok (.l s1.lo.length) s2
section
variable {X : Cx} {B : Fr} {fi fi1 : S → R Iv}
theorem wipe_idem {σ : L2.St} {vs : List Nat} : L2.wipe (L2.wipe σ vs) vs = L2.wipe σ vs := by
  have idem : ∀ ws : List Nat, (∀ i ∈ ws, i ∈ vs) → L2.wipe (L2.wipe σ vs) ws = L2.wipe σ vs := fun ws => by
    induction ws with
    | nil => intro _; rfl
    | cons w ws ih =>
      intro hw
      show (L2.wipe (L2.wipe σ vs) ws).set w none = L2.wipe σ vs
      rw [show L2.wipe (L2.wipe σ vs) ws = L2.wipe σ vs from ih fun i hi => hw i (List.mem_cons_of_mem _ hi)]
      have key : ∀ us : List Nat, w ∈ us → (L2.wipe σ us).set w none = L2.wipe σ us := fun us => by
        induction us with
        | nil => intro h; cases h
        | cons u us ih2 =>
          intro h
          show ((L2.wipe σ us).set u none).set w none = (L2.wipe σ us).set u none
          by_cases q : w = u
          · subst q; rw [List.set_set]
          · rcases List.mem_cons.mp h with h | h
            · exact absurd h q
            · rw [List.set_comm _ _ (Ne.symm q), ih2 h]
      exact key vs (hw w List.mem_cons_self)
  exact idem vs fun _ h => h
theorem q_turn2 {K : PySem.W.Frag} {R : List Addr} {s : S} {σ : L2.St} {H : Hp} {t t1 : PyData → S → Option S} {tt tt1 : S → Fx.R Bool} {te : S → Fx.R AV} {vs vs1 is is1 : List Nat} {g g1 : TG} {k : Nat} {d : PyData} {x : V} {Nx : Hp → Prop} {D : Addr} (hg : GtF K g is t) (hv : ∀ i ∈ is, i ∈ vs) (hg1 : GtF K g1 is1 t1) (hv1 : ∀ i ∈ is1, i ∈ vs1) (e : Env K B R s σ H) (hk : s.lo.length = k + 1) (hD : R[k]? = some D) (hd : Dp K (hdS B R s H) x d)
    (h : TurnOk K B σ k R s H (lcTurn2 k t tt fi1 t1 tt1 te vs vs1 d s) Nx) : g x (L2.wipe σ vs) H fun σ2 H2 => L2.wipe σ2 vs = L2.wipe σ vs ∧ rT K B.nox tt σ2 H2 fun b H3 => if b = true then RI K B.nox fi1 σ2 H3 fun J1 H4 => ∃ W1 : Nat → Nat → Hp → Prop, (∃ m, W1 0 m H4) ∧ ∀ j k H, W1 j k H →
      (J1.stop j H ∧ Nx H) ∨ (J1.go j H ∧ ∃ Nx1 : Hp → Prop, (∀ H', Nx1 H' → ∃ k', k' < k ∧ W1 (j + 1) k' H') ∧ ∀ x H', J1.yld j H x H' → g1 x (L2.wipe σ2 vs1) H' fun σ3 H5 => L2.wipe σ3 vs1 = L2.wipe σ2 vs1 ∧ rT K B.nox tt1 σ3 H5 fun b H6 =>
        if b = true then rE K B.nox te σ3 H6 fun y H7 => ∃ acc, H7 D = some (.lst acc) ∧ acc.length < sizeLine ∧ Nx1 (upd H7 D (.lst (acc ++ [y]))) else Nx1 H6) else Nx H3 := by
  unfold lcTurn2 at h
  cases z : t d { s with sl := wipeS s.sl vs } with
  | none => rw [z] at h; exact h.elim
  | some s1 =>
    rw [z] at h
    dsimp only at h
    have ew := e.wipe vs
    refine hg B R { s with sl := wipeS s.sl vs } (L2.wipe σ vs) H x d s1 _ ew hd z fun σ2 e2 l1 l2 w2 => ⟨(w2 vs hv).trans wipe_idem, R, s1, e2.nox, ?_⟩
    have hx1 : Ex (hdS B R s H) (hdS B R s1 H) := by unfold hdS; rw [l1, l2]; exact fun _ _ q => q
    have k1 : s1.lo.length = k + 1 := by rw [l2]; exact hk
    cases h2 : tt s1 with
    | no => rw [h2] at h; exact h.elim
    | xc _ _ => rw [h2] at h; exact h.elim
    | ok b s2 =>
      rw [h2] at h
      intro R2 v2 H2 e3 st3 hb
      subst hb
      have st3 := st3.ofNox
      cases v2 with
      | false =>
        obtain ⟨T, hT, _⟩ := st3.pre
        obtain ⟨a, b⟩ := Env.back e hk e3.ofNox ⟨T, hT⟩ (hx1.trans st3.hx) st3.dom
        exact h R H2 a b rfl
      | true =>
        rw [if_pos rfl]
        refine ⟨R2, s2, e3, ?_⟩
        have h : TurnOk K B σ k R s H (noX ((fi1 s2).bind fun v s3 => (runLc v (lcTurn k t1 tt1 te vs1) (backTo' k s1.sl s3)).bind fun _ s4 => .ok () (backTo' k s.sl s4))) Nx := h
        cases h3 : fi1 s2 with
        | no => rw [h3] at h; exact h.elim
        | xc _ _ => rw [h3] at h; exact h.elim
        | ok v s3 =>
          rw [h3] at h
          intro R3 H3 J1 e4 st4 ok4
          have st4 := st4.ofNox
          have h : TurnOk K B σ k R s H (noX ((runLc v (lcTurn k t1 tt1 te vs1) (backTo' k s1.sl s3)).bind fun _ s4 => .ok () (backTo' k s.sl s4))) Nx := h
          obtain ⟨n, hn⟩ := runLc_eq v (lcTurn k t1 tt1 te vs1) (backTo' k s1.sl s3)
          rw [hn] at h
          have st34 := st3.trans st4
          obtain ⟨T, hT, _⟩ := st34.pre
          obtain ⟨a, b⟩ := Env.back e2 k1 e4.ofNox ⟨T, hT⟩ st34.hx st34.dom
          have kp5 : Kp B R3 s3 H3 R (backTo' k s1.sl s3) H3 := by
            refine ⟨?_, fun _ h => h⟩
            show Ex (Fx.hd (B.G ++ R3) (s3.gl ++ s3.lo) H3) (Fx.hd (B.G ++ R) (s3.gl ++ s3.lo.take (k + 1)) H3)
            refine hd_more fun b' z => hid_sub (fun j c a' h1 h2 => ?_) z
            by_cases q : j < s3.gl.length
            · rw [List.getElem?_append_left q] at h1
              rw [List.getElem?_append_left (by rw [← show s3.gl.length = B.G.length from e4.lg]; exact q)] at h2
              exact ⟨j, by rw [List.getElem?_append_left q]; exact h1, by rw [List.getElem?_append_left (by rw [← show s3.gl.length = B.G.length from e4.lg]; exact q)]; exact h2⟩
            · rw [List.getElem?_append_right (by omega), List.getElem?_take] at h1
              rw [List.getElem?_append_right (by rw [← show s3.gl.length = B.G.length from e4.lg]; omega)] at h2
              split at h1
              · refine ⟨j, by rw [List.getElem?_append_right (by omega)]; exact h1, ?_⟩
                rw [hT, List.getElem?_append_right (by rw [← show s3.gl.length = B.G.length from e4.lg]; omega), List.getElem?_append_left (List.getElem?_eq_some_iff.mp h2).1]
                exact h2
              · cases h1
          have ok5 : SrcOk K B R (backTo' k s1.sl s3) H3 J1 v.src := by
            have ok4' : SrcOk K B R3 s3 H3 J1 v.src := ⟨fun R' s' σ' H' e k => ok4.go R' s' σ' H' e.nox ⟨k.hx, k.dom⟩, fun R' s' σ' H' e k => ok4.stop R' s' σ' H' e.nox ⟨k.hx, k.dom⟩⟩
            exact ok4'.kp kp5
          have hl5 : (backTo' k s1.sl s3).lo.length = k + 1 := by rw [a.ll, ← e.ll, hk]
          refine q_walk (D := D) (Qd := Nx) (n := n) (turn := lcTurn k t1 tt1 te vs1) (σ := σ2) cuts1 (fun R' s' H' x d Nx1 e' st' hl' hD' hd' ht' => q_turn hg1 hv1 e' hl' hD' hd' ht') a hl5 hD ok5 ?_
          cases u : lcG v.src (lcTurn k t1 tt1 te vs1) n 0 (backTo' k s1.sl s3) with
          | no => rw [u] at h; exact h.elim
          | xc _ _ => rw [u] at h; exact h.elim
          | ok uu s4 =>
            rw [u] at h
            intro R' H' e' st' hk'
            have h : TurnOk K B σ k R s H (Fx.R.ok () (backTo' k s.sl s4)) Nx := h
            obtain ⟨T', hT', _⟩ := st'.pre
            obtain ⟨a2, b2⟩ := Env.back e hk e' ⟨T', hT'⟩ ((hx1.trans b.hx).trans st'.hx) (fun a h => st'.dom a (b.dom a h))
            exact h R H' a2 b2 rfl
theorem q_lc2 {K : PySem.W.Frag} {t t1 : PyData → S → Option S} {tt tt1 : S → Fx.R Bool} {te : S → Fx.R AV} {vs vs1 is is1 : List Nat} {g g1 : TG} (hg : GtF K g is t) (hv : ∀ i ∈ is, i ∈ vs) (hg1 : GtF K g1 is1 t1) (hv1 : ∀ i ∈ is1, i ∈ vs1) (σ : L2.St) (H : Hp) (Q : VK) (h : rE K B (fLc2 fi t tt fi1 t1 tt1 te vs vs1) σ H Q) : tLc2 (RI K B fi) g (rT K B.nox tt) (RI K B.nox fi1) g1 (rT K B.nox tt1) (rE K B.nox te) vs vs1 σ H Q := by
  obtain ⟨R, s, e, q⟩ := h
  refine ⟨R, s, e, ?_⟩
  unfold fLc2 at q
  cases z : fi s with
  | no => rw [z] at q; exact q.elim
  | xc x s1 => rw [z] at q; exact fun R' H' cls d e' st hx => q R' H' cls d e' st hx
  | ok v s1 =>
    rw [z] at q
    intro R1 H1 J e1 st1 ok D hD
    have q : Post K B (vE K B) σ R s H ((runLc v (lcTurn2 s1.lo.length t tt fi1 t1 tt1 te vs vs1) (s1.push (.lst []))).bind fun _ s2 => .ok (.l s1.lo.length) s2) Q := q
    obtain ⟨n, hn⟩ := runLc_eq v (lcTurn2 s1.lo.length t tt fi1 t1 tt1 te vs vs1) (s1.push (.lst []))
    rw [hn] at q
    obtain ⟨e2, st2, r2⟩ := e1.push (c := .lst []) hD (ex_new hD) ⟨[], upd_same, .nil⟩
    have hlen : (s1.push (.lst [])).lo.length = s1.lo.length + 1 := by show (s1.lo ++ [some (Cel.lst [])]).length = _; rw [List.length_append]; rfl
    have hDk : (R1 ++ [D])[s1.lo.length]? = some D := by rw [e1.ll, List.getElem?_append_right (Nat.le_refl _), Nat.sub_self]; rfl
    refine q_walk (D := D) (Qd := fun H => Q (.ref D) H) (n := n) (turn := lcTurn2 s1.lo.length t tt fi1 t1 tt1 te vs vs1) cuts2 (fun R' s' H' x d Nx e' st' hl' hD' hd' ht' => q_turn2 hg hv hg1 hv1 e' hl' hD' hd' ht') e2 hlen hDk (ok.kp st2.kp) ?_
    have q := Post.st (st1.trans st2) q
    cases u : lcG v.src (lcTurn2 s1.lo.length t tt fi1 t1 tt1 te vs vs1) n 0 (s1.push (.lst [])) with
    | no => rw [u] at q; exact q.elim
    | xc x s' =>
      exfalso
      have nox : ∀ (n i : Nat) (s : S) (x : Xc) (s' : S), lcG v.src (lcTurn2 s1.lo.length t tt fi1 t1 tt1 te vs vs1) n i s ≠ .xc x s' := fun n => by
        induction n with
        | zero => intro i s x s' h; cases h
        | succ n ih =>
          intro i s x s' h
          rw [lcG] at h
          split at h
          · cases h
          · cases h
          · rename_i d _
            cases w : lcTurn2 s1.lo.length t tt fi1 t1 tt1 te vs vs1 d s with
            | no => rw [w] at h; cases h
            | ok _ s2 => rw [w] at h; exact ih _ _ _ _ h
            | xc x2 s2 =>
              unfold lcTurn2 at w
              split at w
              · cases w
              · rename_i sx _
                revert w
                generalize ((tt sx).bind fun b s2 => if b = true then (fi1 s2).bind fun v s3 => (runLc v (lcTurn s1.lo.length t1 tt1 te vs1) (backTo' s1.lo.length sx.sl s3)).bind fun _ s4 => Fx.R.ok () (backTo' s1.lo.length s.sl s4) else Fx.R.ok () (backTo' s1.lo.length s.sl s2)) = rr
                intro w
                cases rr <;> cases w
      exact nox _ _ _ _ _ u
    | ok uu s' =>
      rw [u] at q
      exact fun R' H' e' st' hk' => q R' _ H' e' st' ⟨D, hk'.trans hDk, rfl⟩
end
section
variable {X : Cx} {B : Fr} {a elt tg it tg1 it1 : Expr} {ifs ifs1 : List Expr} {fe : S → R AV} {ft ft1 : S → R Bool} {fi fi1 : S → R Iv} {pos spos py : Pos} {scope : Scope} {own : List (Str × Nat)} {vs1 is is1 : List Nat} {g g1 : TG} {t t1 : PyData → S → Option S}
theorem pts_nilF : PTs X [] (rT X.K B tYesF) := ⟨fun pins s σ H Q I ⟨R, s', e, q⟩ => pts_nil.run pins s σ H Q I (q R true H e St.refl rfl)⟩
theorem pts_oneF (h : PT X a (rT X.K B ft)) : PTs X [a] (rT X.K B ft) := pts_one h
theorem pf_lc (hc : X.calm = true) (hN : X.N.Nodup) (hi : PI X tg it (RI X.K B fi)) (ok : BlkOk X.N X.env.scope scope own) (hgt : GtF X.K g is t) (hv : ∀ i ∈ is, i ∈ own.map (·.2))
    (hg : ∀ (s : Shared) (H : Hp) (C : Addr) (cl : List (Str × Addr)) (fp : List Addr), PG (X.blk s H scope (compEnvC scope cl C X.env) fp) tg g) (ht : ∀ (s : Shared) (H : Hp) (C : Addr) (cl : List (Str × Addr)) (fp : List Addr), PTs (X.blk s H scope (compEnvC scope cl C X.env) fp) ifs (rT X.K B.nox ft))
    (he : ∀ (s : Shared) (H : Hp) (C : Addr) (cl : List (Str × Addr)) (fp : List Addr), PE (X.blk s H scope (compEnvC scope cl C X.env) fp) elt (rE X.K B.nox fe)) (hs : ∀ x, foldedSetIterable it X.env x = pure x := by intro _; rfl) :
    PE X (.ListComp elt [⟨tg, it, ifs, 0⟩] scope pos) (rE X.K B (fLc fi t ft fe (own.map (·.2)))) := pe_imp (pe_lc hc hN hi ok hg ht he hs) (q_lc hgt hv)
theorem pf_lc2 (hc : X.calm = true) (hN : X.N.Nodup) (hi : PI X tg it (RI X.K B fi)) (ok : BlkOk X.N X.env.scope scope own) (hgt : GtF X.K g is t) (hv : ∀ i ∈ is, i ∈ own.map (·.2)) (hgt1 : GtF X.K g1 is1 t1) (hv1 : ∀ i ∈ is1, i ∈ vs1) (hvs : ∀ i ∈ vs1, i ∈ own.map (·.2))
    (hg : ∀ (s : Shared) (H : Hp) (C : Addr) (cl : List (Str × Addr)) (fp : List Addr), PG (X.blk s H scope (compEnvC scope cl C X.env) fp) tg g) (ht : ∀ (s : Shared) (H : Hp) (C : Addr) (cl : List (Str × Addr)) (fp : List Addr), PTs (X.blk s H scope (compEnvC scope cl C X.env) fp) ifs (rT X.K B.nox ft))
    (hi1 : ∀ (s : Shared) (H : Hp) (C : Addr) (cl : List (Str × Addr)) (fp : List Addr), PI (X.blk s H scope (compEnvC scope cl C X.env) fp) tg1 it1 (RI X.K B.nox fi1))
    (hg1 : ∀ (s : Shared) (H : Hp) (C : Addr) (cl : List (Str × Addr)) (fp : List Addr), PG (X.blk s H scope (compEnvC scope cl C X.env) fp) tg1 g1) (ht1 : ∀ (s : Shared) (H : Hp) (C : Addr) (cl : List (Str × Addr)) (fp : List Addr), PTs (X.blk s H scope (compEnvC scope cl C X.env) fp) ifs1 (rT X.K B.nox ft1))
    (he : ∀ (s : Shared) (H : Hp) (C : Addr) (cl : List (Str × Addr)) (fp : List Addr), PE (X.blk s H scope (compEnvC scope cl C X.env) fp) elt (rE X.K B.nox fe)) (hs : ∀ x, foldedSetIterable it X.env x = pure x := by intro _; rfl) (hs1 : ∀ env x, foldedSetIterable it1 env x = pure x := by intro _ _; rfl) :
    PE X (.ListComp elt [⟨tg, it, ifs, 0⟩, ⟨tg1, it1, ifs1, 0⟩] scope pos) (rE X.K B (fLc2 fi t ft fi1 t1 ft1 fe (own.map (·.2)) vs1)) := pe_imp (pe_lc2 hc hN hi ok hvs hg ht hi1 hg1 ht1 he hs hs1) (q_lc2 hgt hv hgt1 hv1)
/-! stored at once -/
theorem asg_imp {i : Nat} {tx : TE} {fx : S → R AV} {K : PySem.W.Frag} (h : ∀ σ H Q, rE K B fx σ H Q → tx σ H Q) (D : Ends) (σ : L2.St) (H : Hp) (q : rS K B (fSet i fx) D σ H) : tAsg tx (gName i) D σ H := h σ H _ (q_set D σ H q)
theorem pf_setLc {i : Nat} {y : Str} (hc : X.calm = true) (hN : X.N.Nodup) (hy : X.N[i]? = some y) (hyl : X.env.scope.names.lookup y = some .local)
    (hsw : swapsWith (.ListComp elt [⟨tg, it, ifs, 0⟩] scope pos) (some (.Name y py)) spos.line X.env = pure true) (hi : PI X tg it (RI X.K B fi)) (ok : BlkOk X.N X.env.scope scope own) (hgt : GtF X.K g is t) (hv : ∀ i ∈ is, i ∈ own.map (·.2))
    (hg : ∀ (s : Shared) (H : Hp) (C : Addr) (cl : List (Str × Addr)) (fp : List Addr), PG (X.blk s H scope (compEnvC scope cl C X.env) fp) tg g) (ht : ∀ (s : Shared) (H : Hp) (C : Addr) (cl : List (Str × Addr)) (fp : List Addr), PTs (X.blk s H scope (compEnvC scope cl C X.env) fp) ifs (rT X.K B.nox ft))
    (he : ∀ (s : Shared) (H : Hp) (C : Addr) (cl : List (Str × Addr)) (fp : List Addr), PE (X.blk s H scope (compEnvC scope cl C X.env) fp) elt (rE X.K B.nox fe)) (hs : ∀ x, foldedSetIterable it X.env x = pure x := by intro _; rfl) :
    PS X (.Assign [.Name y py] (.ListComp elt [⟨tg, it, ifs, 0⟩] scope pos) spos) (rS X.K B (fSet i (fLc fi t ft fe (own.map (·.2))))) := ps_imp (ps_setLc hc hN hy hyl hsw hi ok hg ht he hs) (asg_imp (q_lc hgt hv))
theorem pf_setLc2 {i : Nat} {y : Str} (hc : X.calm = true) (hN : X.N.Nodup) (hy : X.N[i]? = some y) (hyl : X.env.scope.names.lookup y = some .local)
    (hsw : swapsWith (.ListComp elt [⟨tg, it, ifs, 0⟩, ⟨tg1, it1, ifs1, 0⟩] scope pos) (some (.Name y py)) spos.line X.env = pure true) (hi : PI X tg it (RI X.K B fi)) (ok : BlkOk X.N X.env.scope scope own) (hgt : GtF X.K g is t) (hv : ∀ i ∈ is, i ∈ own.map (·.2)) (hgt1 : GtF X.K g1 is1 t1) (hv1 : ∀ i ∈ is1, i ∈ vs1) (hvs : ∀ i ∈ vs1, i ∈ own.map (·.2))
    (hg : ∀ (s : Shared) (H : Hp) (C : Addr) (cl : List (Str × Addr)) (fp : List Addr), PG (X.blk s H scope (compEnvC scope cl C X.env) fp) tg g) (ht : ∀ (s : Shared) (H : Hp) (C : Addr) (cl : List (Str × Addr)) (fp : List Addr), PTs (X.blk s H scope (compEnvC scope cl C X.env) fp) ifs (rT X.K B.nox ft))
    (hi1 : ∀ (s : Shared) (H : Hp) (C : Addr) (cl : List (Str × Addr)) (fp : List Addr), PI (X.blk s H scope (compEnvC scope cl C X.env) fp) tg1 it1 (RI X.K B.nox fi1))
    (hg1 : ∀ (s : Shared) (H : Hp) (C : Addr) (cl : List (Str × Addr)) (fp : List Addr), PG (X.blk s H scope (compEnvC scope cl C X.env) fp) tg1 g1) (ht1 : ∀ (s : Shared) (H : Hp) (C : Addr) (cl : List (Str × Addr)) (fp : List Addr), PTs (X.blk s H scope (compEnvC scope cl C X.env) fp) ifs1 (rT X.K B.nox ft1))
    (he : ∀ (s : Shared) (H : Hp) (C : Addr) (cl : List (Str × Addr)) (fp : List Addr), PE (X.blk s H scope (compEnvC scope cl C X.env) fp) elt (rE X.K B.nox fe)) (hs : ∀ x, foldedSetIterable it X.env x = pure x := by intro _; rfl) (hs1 : ∀ env x, foldedSetIterable it1 env x = pure x := by intro _ _; rfl) :
    PS X (.Assign [.Name y py] (.ListComp elt [⟨tg, it, ifs, 0⟩, ⟨tg1, it1, ifs1, 0⟩] scope pos) spos) (rS X.K B (fSet i (fLc2 fi t ft fi1 t1 ft1 fe (own.map (·.2)) vs1))) := ps_imp (ps_setLc2 hc hN hy hyl hsw hi ok hvs hg ht hi1 hg1 ht1 he hs hs1) (asg_imp (q_lc2 hgt hv hgt1 hv1))
end
end Fx

/-! ### methods of lists, stores of items -/
namespace Fx
open PySem PySem.Spec PyProof.Rows L2
open Bk (Dp.ex DpAll.ex DpAll.len DpAll.get DpAll.get' DpAll.app DpAll.take DpAll.drop DpAll.snoc dp_tup dp_lst dp_int dp_str dp_bl ex_new FnG)
open Evl (Ex)
/-- the type of a value, as far as its methods are told -/
def tyOf (s : S) (x : AV) : String :=
  match x with
  | .d (.str _) => "str"
  | .d (.list _) => "list"
  | .d _ => ""
  | x => match cellOf s x with
    | some (.lst _) => "list"
    | some _ => "dict"
    | none => ""
def fMt (T : String) (g : AV → List AV → S → R AV) (fo : S → R AV) (fa : S → R (List AV)) (s : S) : R AV := (fo s).bind fun x s1 => if tyOf s1 x = T ∧ T ≠ "" then (fa s1).bind fun xs s2 => g x xs s2 else .no
def MtF (K : PySem.W.Frag) (r : V → List V → Hp → VK → Prop) (g : AV → List AV → S → R AV) : Prop := ∀ (B : Fr) (R : List Addr) (s : S) (σ : L2.St) (H : Hp) (v : V) (vs : List V) (x : AV) (xs : List AV) (Q : VK), Env K B R s σ H → VR K B R s H v x → vA K B R s H vs xs → Post K B (vE K B) σ R s H (g x xs s) Q → r v vs H Q
section
variable {K : PySem.W.Frag} {B : Fr} {R : List Addr} {s : S} {σ : L2.St} {H : Hp}
theorem ty_v {v : V} {x : AV} (e : Env K B R s σ H) (r : VR K B R s H v x) (h : tyOf s x ≠ "") : tyV K (tyOf s x) v H := by
  have cell : ∀ {x : AV}, VR K B R s H v x → (match cellOf s x with | some (.lst _) => "list" | some _ => "dict" | none => "") ≠ "" → tyV K (match cellOf s x with | some (.lst _) => "list" | some _ => "dict" | none => "") v H := fun {x} r h => by
    cases q : cellOf s x with
    | none => rw [q] at h; exact absurd rfl h
    | some c =>
      obtain ⟨a, rfl, _, _, hc⟩ := e.cell r q
      cases c with
      | lst ds => obtain ⟨us, h1, _⟩ := hc; exact .inl ⟨rfl, us, SqL.of h1⟩
      | dic kvs => obtain ⟨us, h1, _⟩ := hc; exact .inr (.inr (.inl ⟨rfl, .inl ⟨us, h1⟩⟩))
      | dit kvs => obtain ⟨us, h1, _⟩ := hc; exact .inr (.inr (.inl ⟨rfl, .inr ⟨us, h1⟩⟩))
  cases x with
  | d y =>
    cases y with
    | str z => cases r; exact rfl
    | list ds => obtain ⟨a, xs, rfl, h1, _⟩ := dp_lst r; exact .inl ⟨rfl, xs, Evl.ex_l hd_sub h1⟩
    | none => exact absurd rfl h
    | bool _ => exact absurd rfl h
    | int _ => exact absurd rfl h
    | tuple _ => exact absurd rfl h
    | dict _ => exact absurd rfl h
  | g k => exact cell (x := .g k) r h
  | l k => exact cell (x := .l k) r h
theorem q_mt {T : String} {r : V → List V → Hp → VK → Prop} {g : AV → List AV → S → Fx.R AV} {fo : S → Fx.R AV} {fa : S → Fx.R (List AV)} (ho : MtF K r g) (σ : L2.St) (H : Hp) (Q : VK) (h : rE K B (fMt T g fo fa) σ H Q) : tBM K T r (rE K B fo) (rA K B fa) σ H Q := by
  obtain ⟨R, s, e, q⟩ := h
  refine ⟨R, s, e, post_bind q fun x s1 R1 v H1 _ e1 st1 r1 q1 => ?_⟩
  by_cases hT : tyOf s1 x = T ∧ T ≠ ""
  · rw [if_pos hT] at q1
    refine ⟨by rw [← hT.1]; exact ty_v e1 r1 (by rw [hT.1]; exact hT.2), R1, s1, e1, post_bind q1 fun xs s2 R2 vs H2 _ e2 st2 r2 q2 => ?_⟩
    exact ho B R2 s2 σ H2 v vs x xs Q e2 (VR.st st2 r1) r2 q2
  · rw [if_neg hT] at q1; exact q1.elim
theorem q_mt0 {T : String} {r : V → List V → Hp → VK → Prop} {g : AV → List AV → S → Fx.R AV} {fo : S → Fx.R AV} (ho : MtF K r g) (σ : L2.St) (H : Hp) (Q : VK) (h : rE K B (fMt T g fo fNil) σ H Q) : tBM0 K T r (rE K B fo) σ H Q := by
  obtain ⟨R, s, e, q⟩ := h
  refine ⟨R, s, e, post_bind q fun x s1 R1 v H1 _ e1 st1 r1 q1 => ?_⟩
  by_cases hT : tyOf s1 x = T ∧ T ≠ ""
  · rw [if_pos hT] at q1
    exact ⟨by rw [← hT.1]; exact ty_v e1 r1 (by rw [hT.1]; exact hT.2), ho B R1 s1 σ H1 v [] x [] Q e1 r1 .nil q1⟩
  · rw [if_neg hT] at q1; exact q1.elim
def gAppend (x : AV) (xs : List AV) (s : S) : Fx.R AV :=
  match xs with
  | [y] => (toD1 y s).bind fun d s1 => match cellOf s1 x with
    | some (.lst ds) => if ds.length < sizeLine then .ok (.d .none) (s1.put x (.lst (ds ++ [d]))) else .no
    | _ => .no
  | _ => .no
theorem s_append : MtF K rAppend gAppend := fun B R s σ H v vs x xs Q e r ra q => by
  match xs, ra, q with
  | [], .nil, q => exact q.elim
  | [y], .cons r1 .nil, q =>
    have q : Post K B (vE K B) σ R s H ((toD1 y s).bind fun d s1 => match cellOf s1 x with
      | some (.lst ds) => if ds.length < sizeLine then .ok (.d .none) (s1.put x (.lst (ds ++ [d]))) else .no
      | _ => .no) Q := q
    obtain ⟨d, s1, _, e1, st1, d1, q⟩ := post_toD1 e r1 q
    cases z : cellOf s1 x with
    | none => rw [z] at q; exact q.elim
    | some c =>
      rw [z] at q
      cases c with
      | lst ds =>
        dsimp only at q
        by_cases hz : ds.length < sizeLine
        · rw [if_pos hz] at q
          obtain ⟨a, rfl, c1, c2, us, u1, u2⟩ := e1.cell (VR.st st1 r) z
          refine ⟨a, us, _, rfl, rfl, u1, by rw [DpAll.len u2]; exact hz, ?_⟩
          obtain ⟨e2, st2⟩ := e1.put (c := .lst (ds ++ [d])) (o := .lst (us ++ [_])) z c2 ⟨_, upd_same, DpAll.snoc u2 d1⟩
          exact q R .non _ e2 st2 .non
        · rw [if_neg hz] at q; exact q.elim
      | dic _ => exact q.elim
      | dit _ => exact q.elim
  | _ :: _ :: _, .cons _ (.cons _ _), q => exact q.elim
def gExtend (x : AV) (xs : List AV) (s : S) : Fx.R AV :=
  match xs with
  | [y] => match cellOf s x, cellOf s y with
    | some (.lst ds), some (.lst es) => if ds.length + es.length ≤ sizeLine then .ok (.d .none) (s.put x (.lst (ds ++ es))) else .no
    | _, _ => .no
  | _ => .no
theorem s_extend : MtF K rExtend gExtend := fun B R s σ H v vs x xs Q e r ra q => by
  match xs, ra, q with
  | [], .nil, q => exact q.elim
  | [y], .cons r1 .nil, q =>
    have q : Post K B (vE K B) σ R s H (match cellOf s x, cellOf s y with
      | some (.lst ds), some (.lst es) => if ds.length + es.length ≤ sizeLine then .ok (.d .none) (s.put x (.lst (ds ++ es))) else .no
      | _, _ => .no) Q := q
    split at q
    · rename_i ds es z1 z2
      by_cases hz : ds.length + es.length ≤ sizeLine
      · rw [if_pos hz] at q
        obtain ⟨a, rfl, c1, c2, us, u1, u2⟩ := e.cell r z1
        obtain ⟨b, hb, _, _, ws, w1, w2⟩ := e.cell r1 z2
        subst hb
        refine ⟨a, b, us, ws, rfl, rfl, u1, w1, by rw [DpAll.len u2, DpAll.len w2]; exact hz, ?_⟩
        obtain ⟨e2, st2⟩ := e.put (c := .lst (ds ++ es)) (o := .lst (us ++ ws)) z1 c2 ⟨_, upd_same, DpAll.app u2 w2⟩
        exact q R .non _ e2 st2 .non
      · rw [if_neg hz] at q; exact q.elim
    · exact q.elim
  | _ :: _ :: _, .cons _ (.cons _ _), q => exact q.elim
theorem dpAll_dropLast {Hh : Hp} {vs : List V} {ds : List PyData} (h : DpAll K Hh vs ds) : DpAll K Hh vs.dropLast ds.dropLast := by
  rw [List.dropLast_eq_take, List.dropLast_eq_take, DpAll.len h]
  exact DpAll.take _ h
def gPop (x : AV) (xs : List AV) (s : S) : Fx.R AV :=
  match xs with
  | [] => match cellOf s x with
    | some (.lst ds) => match ds[ds.length - 1]? with
      | some d => .ok (.d d) (s.put x (.lst ds.dropLast))
      | none => .no
    | _ => .no
  | _ => .no
theorem s_pop : MtF K rPop gPop := fun B R s σ H v vs x xs Q e r ra q => by
  match xs, ra, q with
  | [], .nil, q =>
    have q : Post K B (vE K B) σ R s H (match cellOf s x with
      | some (.lst ds) => match ds[ds.length - 1]? with
        | some d => .ok (.d d) (s.put x (.lst ds.dropLast))
        | none => .no
      | _ => .no) Q := q
    cases z : cellOf s x with
    | none => rw [z] at q; exact q.elim
    | some c =>
      rw [z] at q
      cases c with
      | lst ds =>
        dsimp only at q
        cases z2 : ds[ds.length - 1]? with
        | none => rw [z2] at q; exact q.elim
        | some d =>
          rw [z2] at q
          obtain ⟨a, rfl, c1, c2, us, u1, u2⟩ := e.cell r z
          obtain ⟨y, y1, y2⟩ := DpAll.get' u2 z2
          refine ⟨a, us, y, rfl, rfl, u1, by rw [DpAll.len u2]; exact y1, ?_⟩
          obtain ⟨e2, st2⟩ := e.put (c := .lst ds.dropLast) (o := .lst us.dropLast) z c2 ⟨_, upd_same, dpAll_dropLast u2⟩
          exact q R y _ e2 st2 (Dp.ex st2.hx _ _ y2)
      | dic _ => exact q.elim
      | dit _ => exact q.elim
  | _ :: _, .cons _ _, q => exact q.elim
theorem dpAll_erase {Hh : Hp} : ∀ {vs : List V} {ds : List PyData} (k : Nat), DpAll K Hh vs ds → DpAll K Hh (vs.eraseIdx k) (ds.eraseIdx k)
  | _, _, _, .nil => by simp; exact .nil
  | _, _, 0, .cons h t => t
  | _, _, k + 1, .cons h t => .cons h (dpAll_erase k t)
def gPopAt (x : AV) (xs : List AV) (s : S) : Fx.R AV :=
  match xs with
  | [.d (.int i)] => if -(2 ^ 63) ≤ i ∧ i < 2 ^ 63 then match cellOf s x with
    | some (.lst ds) => match seqIndex? i ds.length with
      | some k => match ds[k]? with
        | some d => .ok (.d d) (s.put x (.lst (ds.eraseIdx k)))
        | none => .no
      | none => .no
    | _ => .no else .no
  | _ => .no
theorem s_popAt : MtF K rPopAt gPopAt := fun B R s σ H v vs x xs Q e r ra q => by
  unfold gPopAt at q
  split at q
  · rename_i i
    match vs, ra with
    | [w], .cons r1 .nil =>
      cases dp_int r1
      by_cases hi : -(2 ^ 63) ≤ i ∧ i < 2 ^ 63
      · rw [if_pos hi] at q
        cases z : cellOf s x with
        | none => rw [z] at q; exact q.elim
        | some c =>
          rw [z] at q
          cases c with
          | lst ds =>
            dsimp only at q
            cases z1 : seqIndex? i ds.length with
            | none => rw [z1] at q; exact q.elim
            | some k =>
              rw [z1] at q
              dsimp only at q
              cases z2 : ds[k]? with
              | none => rw [z2] at q; exact q.elim
              | some d =>
                rw [z2] at q
                obtain ⟨a, rfl, c1, c2, us, u1, u2⟩ := e.cell r z
                obtain ⟨y, y1, y2⟩ := DpAll.get' u2 z2
                refine ⟨a, us, i, k, y, rfl, rfl, u1, hi.1, hi.2, by rw [DpAll.len u2]; exact z1, y1, ?_⟩
                obtain ⟨e2, st2⟩ := e.put (c := .lst (ds.eraseIdx k)) (o := .lst (us.eraseIdx k)) z c2 ⟨_, upd_same, dpAll_erase k u2⟩
                exact q R y _ e2 st2 (Dp.ex st2.hx _ _ y2)
          | dic _ => exact q.elim
          | dit _ => exact q.elim
      · rw [if_neg hi] at q; exact q.elim
  · exact q.elim
/-- the place of an item, how often it stands there -/
def idxOfD (d : PyData) : List PyData → Option Nat
  | [] => none
  | z :: l => if PyData.eqv z d then some 0 else (idxOfD d l).map (· + 1)
theorem idxOfD_some {d : PyData} : ∀ {ds : List PyData} {j : Nat}, idxOfD d ds = some j → ∃ z, ds[j]? = some z ∧ PyData.eqv z d = true ∧ ∀ (m : Nat) (z' : PyData), m < j → ds[m]? = some z' → PyData.eqv z' d = false
  | z :: l, j, h => by
    unfold idxOfD at h
    by_cases q : PyData.eqv z d = true
    · rw [if_pos q] at h
      cases h
      exact ⟨z, rfl, q, fun m _ hm => by omega⟩
    · rw [if_neg q] at h
      cases w : idxOfD d l with
      | none => rw [w] at h; cases h
      | some i =>
        rw [w] at h
        cases h
        obtain ⟨z2, h1, h2, h3⟩ := idxOfD_some w
        refine ⟨z2, h1, h2, fun m z' hm hz => ?_⟩
        cases m with
        | zero => cases hz; simpa using q
        | succ m => exact h3 m z' (Nat.lt_of_succ_lt_succ hm) hz
def gIndex (x : AV) (xs : List AV) (s : S) : Fx.R AV :=
  match xs with
  | [y] => match rd s x, rd s y with
    | some (.list ds), some d => if SeqAt.shaped (.list ds) && SeqAt.shaped d then match idxOfD d ds with
      | some j => .ok (.d (.int (j : Nat))) s
      | none => .no else .no
    | _, _ => .no
  | _ => .no
theorem s_index : MtF K (rIndexD K) gIndex := fun B R s σ H v vs x xs Q e r ra q => by
  match xs, ra, q with
  | [], .nil, q => exact q.elim
  | [y], .cons r1 .nil, q =>
    have q : Post K B (vE K B) σ R s H (match rd s x, rd s y with
      | some (.list ds), some d => if SeqAt.shaped (.list ds) && SeqAt.shaped d then match idxOfD d ds with
        | some j => .ok (.d (.int (j : Nat))) s
        | none => .no else .no
      | _, _ => .no) Q := q
    split at q
    · rename_i ds d z1 z2
      by_cases hs : (SeqAt.shaped (.list ds) && SeqAt.shaped d) = true
      · rw [if_pos hs] at q
        rw [Bool.and_eq_true] at hs
        cases z : idxOfD d ds with
        | none => rw [z] at q; exact q.elim
        | some j =>
          rw [z] at q
          obtain ⟨zz, h1, h2, h3⟩ := idxOfD_some z
          obtain ⟨a, us, rfl, u1, u2⟩ := (e.rd r z1).lst hd_sub
          exact ⟨a, _, d, ds, j, zz, rfl, rfl, .lst u1 (DpAll.ex hd_sub _ _ u2), (e.rd r1 z2).dp hd_sub, hs.1, hs.2, h1, h2, h3, q.int e⟩
      · rw [if_neg hs] at q; exact q.elim
    · exact q.elim
  | _ :: _ :: _, .cons _ (.cons _ _), q => exact q.elim
end
section
variable {X : Cx} {B : Fr} {o e : Expr} {es : List Expr} {fo fe : S → R AV} {fa : S → R (List AV)} {g : AV → List AV → S → R AV} {T id name : String} {r : V → List V → Hp → VK → Prop} {apos cpos : Pos}
theorem pf_bm (pa : PlainAttrs T) (slot : Slot T name id) (hty : typeOf (.builtin id) = pure (.type "method_descriptor")) (hm : MtR X id r) (hg : MtF X.K r g) (ho : PE X o (rE X.K B fo)) (ha : PA X (e :: es) (rA X.K B fa))
    (hbase : attributeBase o name X.env (eval o X.env) = eval o X.env := by rfl)
    (hfew : ((backTo cpos (starEach (e :: es) X.env)).all (fun x => !x.1) && (backToKw cpos (keywordEach [] X.env)).all (fun x => x.1.isSome)
      && decide ((e :: es).length + ([] : List Keyword).length + (if ([] : List Keyword).isEmpty then 0 else 1) < 30)) = true := by rfl)
    (hline : (apos.endLine == cpos.line) = true := by rfl) (hs : starEach (e :: es) X.env = (false, eval e X.env) :: starEach es X.env := by rfl) (hplain : (backTo cpos (starEach es X.env)).any (·.1) = false := by rfl) :
    PE X (.Call (.Attribute o name apos) (e :: es) [] cpos) (rE X.K B (fMt T g fo fa)) := pe_imp (pe_bm pa slot hty hm ho ha hbase hfew hline hs hplain) (q_mt hg)
theorem pf_bm0 (pa : PlainAttrs T) (slot : Slot T name id) (hty : typeOf (.builtin id) = pure (.type "method_descriptor")) (hm : MtR X id r) (hg : MtF X.K r g) (ho : PE X o (rE X.K B fo))
    (hbase : attributeBase o name X.env (eval o X.env) = eval o X.env := by rfl) (hline : (apos.endLine == cpos.line) = true := by rfl) : PE X (.Call (.Attribute o name apos) [] [] cpos) (rE X.K B (fMt T g fo fNil)) := pe_imp (pe_bm0 pa slot hty hm ho hbase hline) (q_mt0 hg)
/-! xs[i] = e -/
def putI (x i : AV) (d : PyData) (s : S) : R Unit :=
  match i with
  | .d (.int k) => match cellOf s x with
    | some (.lst ds) => match ixN ds.length k with
      | some j => .ok () (s.put x (.lst (ds.set j d)))
      | none => .no
    | _ => .no
  | _ => .no
/-- o[i] = e -/
def fPut (p : AV → AV → PyData → S → R Unit) (fo fi fe : S → R AV) (s : S) : R Fl := (fe s).bind fun y s1 => (toD1 y s1).bind fun d s2 => (fo s2).bind fun x s3 => (fi s3).bind fun i s4 => (p x i d s4).bind fun _ s5 => .ok .nx (s5.cut s.lo.length)
theorem dpAll_set {K : PySem.W.Frag} {Hh : Hp} {v : V} {d : PyData} : ∀ {vs : List V} {ds : List PyData} (k : Nat), DpAll K Hh vs ds → Dp K Hh v d → DpAll K Hh (vs.set k v) (ds.set k d)
  | _, _, _, .nil, _ => .nil
  | _, _, 0, .cons h t, r => .cons r t
  | _, _, k + 1, .cons h t, r => .cons h (dpAll_set k t r)
def PutF (K : PySem.W.Frag) (t : TSet) (p : AV → AV → PyData → S → R Unit) : Prop := ∀ (B : Fr) (R : List Addr) (s : S) (σ : L2.St) (H : Hp) (o i v : V) (x y : AV) (d : PyData) (s1 : S) (Q : Hp → Prop), Env K B R s σ H → VR K B R s H o x → VR K B R s H i y → Dp K (hdS B R s H) v d → p x y d s = .ok () s1 → (∀ H', Env K B R s1 σ H' → St B R s H R s1 H' → Q H') → t o i v H Q
theorem s_putI {K : PySem.W.Frag} : PutF K rSetL putI := fun B R s σ H o i v x y d s1 Q e ro ri rv h q => by
  unfold putI at h
  split at h
  · rename_i k
    cases z : cellOf s x with
    | none => rw [z] at h; cases h
    | some c =>
      rw [z] at h
      cases c with
      | lst ds =>
        dsimp only at h
        cases z2 : ixN ds.length k with
        | none => rw [z2] at h; cases h
        | some j =>
          rw [z2] at h
          cases h
          obtain ⟨a, rfl, c1, c2, us, u1, u2⟩ := e.cell ro z
          obtain ⟨e2, st2⟩ := e.put (c := .lst (ds.set j d)) (o := .lst (us.set j v)) z c2 ⟨_, upd_same, dpAll_set j u2 rv⟩
          exact ⟨a, us, k, j, rfl, dp_int ri, u1, by rw [DpAll.len u2]; exact z2, q _ e2 st2⟩
      | dic _ => cases h
      | dit _ => cases h
  · cases h
theorem pf_put {i : Expr} {fi : S → R AV} {pos tpos : Pos} {t : TSet} {p : AV → AV → PyData → S → R Unit} (hp : PutF X.K t p) (hnx : ∀ x i d s c s', p x i d s ≠ .xc c s') (ht : PSet X t) (ho : PE X o (rE X.K B fo)) (hi : PE X i (rE X.K B fi)) (he : PE X e (rE X.K B fe)) (hs : swapsWithSole [.Subscript o i tpos] e pos.line X.env = pure false := by rfl) (hw : swappedStores [.Subscript o i tpos] e X.env = pure none := by rfl)
    (h1 : (assignEach [.Subscript o i tpos] X.env).map (·.2) = [assign (.Subscript o i tpos) X.env] := by rfl)
    (ha : ∀ v, assign (.Subscript o i tpos) X.env v = (do
      let ov ← holding [v] (eval o X.env)
      let iv ← holding [v, ov] (eval i X.env)
      standAt tpos
      holding [v, ov, iv] (setItem ov iv v)
      release [v, ov, iv] []) := by intro _; rfl) : PS X (.Assign [.Subscript o i tpos] e pos) (rS X.K B (fPut p fo fi fe)) := ps_imp (ps_asg he (pg_sub ho hi ht ha) hs hw h1) fun D σ H ⟨R, s, en, q⟩ => ⟨R, s, en, post_bindS q fun y s1 R1 v H1 _ e1 st1 r1 q1 => by
  cases h1 : toD1 y s1 with
  | no => rw [h1] at q1; exact q1.elim
  | xc _ _ => exact (toD1_noxc h1).elim
  | ok d s2 =>
    rw [h1] at q1
    obtain ⟨e2, st2, d2⟩ := toD1_ok e1 r1 h1
    have q1 := PostS.kp st2.kp q1
    refine ⟨R1, s2, e2, post_bindS q1 fun x s3 R3 ov H3 _ e3 st3 r3 q3 => ⟨R3, s3, e3, post_bindS q3 fun j s4 R4 iv H4 _ e4 st4 r4 q4 => ?_⟩⟩
    have dd := Dp.ex (st3.trans st4).hx _ _ d2
    cases h2 : p x j d s4 with
    | no => rw [h2] at q4; exact q4.elim
    | xc c s5 => exact absurd h2 (hnx _ _ _ _ _ _)
    | ok _ s5 =>
      rw [h2] at q4
      refine hp B R4 s4 σ H4 ov iv v x j d s5 _ e4 (VR.st st4 r3) r4 dd h2 fun H5 e5 st5 => ?_
      obtain ⟨a, b⟩ := e5.cut (n := s.lo.length) fun i k h => en.klt (((((st1.trans st2).trans st3).trans st4).trans st5).slm i k h)
      have q4 := PostS.kp st5.kp q4
      exact q4 _ σ H5 a b⟩
theorem putI_nx {x i : AV} {d : PyData} {s s' : S} {c : Xc} : putI x i d s ≠ .xc c s' := fun h => by
  unfold putI at h
  split at h
  · split at h
    · split at h <;> cases h
    · cases h
  · cases h
end
end Fx

/-! ### while; enumerate, zip, reversed, range with a step -/
namespace Fx
open PySem PySem.Spec PyProof.Rows L2
open Bk (Dp.ex DpAll.ex DpAll.len DpAll.get DpAll.get' DpAll.app DpAll.take DpAll.drop DpAll.snoc dp_tup dp_lst dp_int dp_str dp_bl ex_new FnG)
open Evl (Ex)
def whileG (t : S → R Bool) (b : S → R Fl) : Nat → S → R Fl
  | 0, _ => .no
  | n + 1, s => (t s).bind fun c s1 => if c then (b (s1.cut s.lo.length)).bind fun fl s2 =>
      match fl with
      | .nx => whileG t b n s2
      | .ct => whileG t b n s2
      | .bk => .ok .nx s2
      | .rt x => .ok (.rt x) s2
    else .ok .nx (s1.cut s.lo.length)
def goWhile : Nat := 2 ^ 40
def fWhile (t : S → R Bool) (b : S → R Fl) (s : S) : R Fl := whileG t b goWhile s
theorem q_while {K : PySem.W.Frag} {B : Fr} {t : S → R Bool} {b : S → R Fl} (D : Ends) (σ : L2.St) (H : Hp) (h : rS K B (fWhile t b) D σ H) : tWhile (rT K B t) (rS K B b) D σ H := by
  obtain ⟨R, s, e, q⟩ := h
  refine ⟨fun m σ' H' => ∃ R' s', Env K B R' s' σ' H' ∧ PostS K B R' s' H' (whileG t b m s') D, ⟨goWhile, R, s, e, q⟩, ?_⟩
  rintro m σ1 H1 ⟨R1, s1, e1, h1⟩
  cases m with
  | zero => exact h1.elim
  | succ m =>
    rw [whileG] at h1
    refine ⟨R1, s1, e1, post_bindS h1 fun c s2 R2 d H2 _ e2 st r q => ?_⟩
    subst r
    obtain ⟨a, b'⟩ := e2.cut (n := s1.lo.length) fun i k h => e1.klt (st.slm i k h)
    cases d with
    | false => exact q _ σ1 H2 a b'
    | true =>
      rw [if_pos rfl] at q ⊢
      refine ⟨fun σ' H' => ∃ R' s', Env K B R' s' σ' H' ∧ PostS K B R' s' H' (whileG t b m s') D, fun σ' H' ⟨R', s', x, y⟩ => ⟨m, Nat.lt_succ_self m, R', s', x, y⟩, _, _, a, ?_⟩
      have q := PostS.kp b' q
      cases w : b (s2.cut s1.lo.length) with
      | no => rw [w] at q; exact q.elim
      | xc x s3 => rw [w] at q; exact q
      | ok fl s3 =>
        rw [w] at q
        cases fl with
        | nx => exact fun R' σ' H' e' k' => ⟨R', s3, e', PostS.kp k' q⟩
        | ct => exact fun R' σ' H' e' k' => ⟨R', s3, e', PostS.kp k' q⟩
        | bk => exact q
        | rt x => exact q
/-! sources -/
def prs : Nat → List PyData → List PyData
  | _, [] => []
  | i, d :: ds => .tuple [.int (i : Nat), d] :: prs (i + 1) ds
theorem prs_get : ∀ (ds : List PyData) (j i : Nat), (prs j ds)[i]? = (ds[i]?).map fun d => .tuple [.int ((j + i : Nat)), d]
  | [], j, i => by simp [prs]
  | d :: ds, j, 0 => rfl
  | d :: ds, j, i + 1 => by
    show (prs (j + 1) ds)[i]? = (ds[i]?).map _
    rw [prs_get ds (j + 1) i, show j + 1 + i = j + (i + 1) by omega]
section
variable {K : PySem.W.Frag} {B : Fr} {R R1 : List Addr} {s s1 : S} {σ : L2.St} {H H1 : Hp}
theorem dp_pair {H' H2 : Hp} {R' : List Addr} {s' : S} {σ' : L2.St} {T : Addr} {x y : V} {d1 d2 : PyData} (e : Env K B R' s' σ' H') (hT : H' T = none) (h2 : H2 = upd H' T (.tup [x, y])) (r1 : Dp K (hdS B R' s' H') x d1) (r2 : Dp K (hdS B R' s' H') y d2) : Ex H' H2 ∧ Dp K (hdS B R' s' H2) (.ref T) (.tuple [d1, d2]) := by
  subst h2
  have x1 : Ex H' (upd H' T (.tup [x, y])) := ex_new hT
  have x2 : Ex (hdS B R' s' H') (hdS B R' s' (upd H' T (.tup [x, y]))) := hd_ex fun a o _ q => x1 a o q
  refine ⟨x1, .tup ?_ (.cons (Dp.ex x2 _ _ r1) (.cons (Dp.ex x2 _ _ r2) .nil))⟩
  refine SqT.of ?_
  unfold hdS
  rw [hd_get (e.cells.nhid hT)]
  exact upd_same
theorem src_enumL {a : Addr} {xs : List V} {ds : List PyData} (h1 : SqL K (hdS B R s H) a xs) (h2 : DpAll K (hdS B R s H) xs ds) : SrcOk K B R s H (Ite K a) (srcD (prs 0 ds)) where
  go := fun R' s' σ' H' e k i d hi => by
    have hi : (prs 0 ds)[i]? = some d := Option.some.inj hi
    rw [prs_get, Nat.zero_add] at hi
    cases z : ds[i]? with
    | none => rw [z] at hi; cases hi
    | some d0 =>
      rw [z] at hi
      cases hi
      obtain ⟨v, e1, e2⟩ := DpAll.get' h2 z
      have q := Evl.ex_l (k.hx.trans hd_sub) h1
      refine ⟨⟨xs, v, q, e1⟩, fun x H2 ⟨T, y, z1, z2, z3, z4⟩ => ?_⟩
      subst z1
      have := z4 xs q
      rw [e1] at this
      cases this
      exact dp_pair e z2 z3 (.int _) (Dp.ex k.hx _ _ e2)
  stop := fun R' s' σ' H' e k i hi => by
    have hi : (prs 0 ds)[i]? = none := Option.some.inj hi
    rw [prs_get] at hi
    have : ds[i]? = none := by cases z : ds[i]? with | none => rfl | some _ => rw [z] at hi; cases hi
    exact ⟨xs, Evl.ex_l (k.hx.trans hd_sub) h1, by rw [DpAll.len h2]; exact List.getElem?_eq_none_iff.mp this⟩
theorem src_enumT {a : Addr} {xs : List V} {ds : List PyData} (h1 : SqT K (hdS B R s H) a xs) (h2 : DpAll K (hdS B R s H) xs ds) : SrcOk K B R s H (Bk.IteT K a) (srcD (prs 0 ds)) where
  go := fun R' s' σ' H' e k i d hi => by
    have hi : (prs 0 ds)[i]? = some d := Option.some.inj hi
    rw [prs_get, Nat.zero_add] at hi
    cases z : ds[i]? with
    | none => rw [z] at hi; cases hi
    | some d0 =>
      rw [z] at hi
      cases hi
      obtain ⟨v, e1, e2⟩ := DpAll.get' h2 z
      have q := Evl.ex_t (k.hx.trans hd_sub) h1
      refine ⟨⟨xs, v, q, e1⟩, fun x H2 ⟨T, y, z1, z2, z3, z4⟩ => ?_⟩
      subst z1
      have := z4 xs q
      rw [e1] at this
      cases this
      exact dp_pair e z2 z3 (.int _) (Dp.ex k.hx _ _ e2)
  stop := fun R' s' σ' H' e k i hi => by
    have hi : (prs 0 ds)[i]? = none := Option.some.inj hi
    rw [prs_get] at hi
    have : ds[i]? = none := by cases z : ds[i]? with | none => rfl | some _ => rw [z] at hi; cases hi
    exact ⟨xs, Evl.ex_t (k.hx.trans hd_sub) h1, by rw [DpAll.len h2]; exact List.getElem?_eq_none_iff.mp this⟩
def zipP : List PyData → List PyData → List PyData
  | x :: xs, y :: ys => .tuple [x, y] :: zipP xs ys
  | _, _ => []
theorem zipP_get : ∀ (xs ys : List PyData) (i : Nat), (zipP xs ys)[i]? = (match xs[i]?, ys[i]? with | some x, some y => some (.tuple [x, y]) | _, _ => none)
  | [], ys, i => by simp [zipP]
  | x :: xs, [], i => by
    simp only [zipP, List.getElem?_nil]
    split <;> simp_all
  | x :: xs, y :: ys, 0 => rfl
  | x :: xs, y :: ys, i + 1 => by
    show (zipP xs ys)[i]? = _
    rw [zipP_get xs ys i]; rfl
theorem src_zipL {a b : Addr} {xs ys : List V} {ds es : List PyData} (h1 : SqL K (hdS B R s H) a xs) (h2 : DpAll K (hdS B R s H) xs ds) (h3 : SqL K (hdS B R s H) b ys) (h4 : DpAll K (hdS B R s H) ys es) : SrcOk K B R s H (Itz K a b) (srcD (zipP ds es)) where
  go := fun R' s' σ' H' e k i d hi => by
    have hi : (zipP ds es)[i]? = some d := Option.some.inj hi
    rw [zipP_get] at hi
    split at hi
    · rename_i d1 d2 z1 z2
      cases hi
      obtain ⟨v, e1, e2⟩ := DpAll.get' h2 z1
      obtain ⟨w, e3, e4⟩ := DpAll.get' h4 z2
      have q := Evl.ex_l (k.hx.trans hd_sub) h1
      have q' := Evl.ex_l (k.hx.trans hd_sub) h3
      refine ⟨⟨xs, ys, v, w, q, q', e1, e3⟩, fun x H2 ⟨T, y, y', z1, z2, z3, z4, z5⟩ => ?_⟩
      subst z1
      have := z4 xs q
      rw [e1] at this
      cases this
      have := z5 ys q'
      rw [e3] at this
      cases this
      exact dp_pair e z2 z3 (Dp.ex k.hx _ _ e2) (Dp.ex k.hx _ _ e4)
    · cases hi
  stop := fun R' s' σ' H' e k i hi => by
    have hi : (zipP ds es)[i]? = none := Option.some.inj hi
    rw [zipP_get] at hi
    refine ⟨xs, ys, Evl.ex_l (k.hx.trans hd_sub) h1, Evl.ex_l (k.hx.trans hd_sub) h3, ?_⟩
    rw [DpAll.len h2, DpAll.len h4]
    split at hi
    · cases hi
    · rename_i z
      by_cases c : ds.length ≤ i
      · exact .inl c
      · by_cases c2 : es.length ≤ i
        · exact .inr c2
        · exact absurd (List.getElem?_eq_getElem (Nat.lt_of_not_le c2)) (z _ _ (List.getElem?_eq_getElem (Nat.lt_of_not_le c)))
theorem src_zipT {a b : Addr} {xs ys : List V} {ds es : List PyData} (h1 : SqT K (hdS B R s H) a xs) (h2 : DpAll K (hdS B R s H) xs ds) (h3 : SqT K (hdS B R s H) b ys) (h4 : DpAll K (hdS B R s H) ys es) : SrcOk K B R s H (RZ.ItzT K a b) (srcD (zipP ds es)) where
  go := fun R' s' σ' H' e k i d hi => by
    have hi : (zipP ds es)[i]? = some d := Option.some.inj hi
    rw [zipP_get] at hi
    split at hi
    · rename_i d1 d2 z1 z2
      cases hi
      obtain ⟨v, e1, e2⟩ := DpAll.get' h2 z1
      obtain ⟨w, e3, e4⟩ := DpAll.get' h4 z2
      have q := Evl.ex_t (k.hx.trans hd_sub) h1
      have q' := Evl.ex_t (k.hx.trans hd_sub) h3
      refine ⟨⟨xs, ys, v, w, q, q', e1, e3⟩, fun x H2 ⟨T, y, y', z1, z2, z3, z4, z5⟩ => ?_⟩
      subst z1
      have := z4 xs q
      rw [e1] at this
      cases this
      have := z5 ys q'
      rw [e3] at this
      cases this
      exact dp_pair e z2 z3 (Dp.ex k.hx _ _ e2) (Dp.ex k.hx _ _ e4)
    · cases hi
  stop := fun R' s' σ' H' e k i hi => by
    have hi : (zipP ds es)[i]? = none := Option.some.inj hi
    rw [zipP_get] at hi
    refine ⟨xs, ys, Evl.ex_t (k.hx.trans hd_sub) h1, Evl.ex_t (k.hx.trans hd_sub) h3, ?_⟩
    rw [DpAll.len h2, DpAll.len h4]
    split at hi
    · cases hi
    · rename_i z
      by_cases c : ds.length ≤ i
      · exact .inl c
      · by_cases c2 : es.length ≤ i
        · exact .inr c2
        · exact absurd (List.getElem?_eq_getElem (Nat.lt_of_not_le c2)) (z _ _ (List.getElem?_eq_getElem (Nat.lt_of_not_le c)))
theorem rev_get {ds : List PyData} {i : Nat} {d : PyData} (h : ds.reverse[i]? = some d) : i < ds.length ∧ ds[ds.length - 1 - i]? = some d := by
  have hl := (List.getElem?_eq_some_iff.mp h).1
  rw [List.length_reverse] at hl
  exact ⟨hl, by rw [List.getElem?_reverse hl] at h; exact h⟩
theorem src_revL {a : Addr} {xs : List V} {ds : List PyData} (h1 : SqL K (hdS B R s H) a xs) (h2 : DpAll K (hdS B R s H) xs ds) : SrcOk K B R s H (Itv K a xs.length) (srcD ds.reverse) where
  go := fun R' s' σ' H' e k i d hi => by
    obtain ⟨hl, hi⟩ := rev_get (Option.some.inj hi)
    obtain ⟨v, e1, e2⟩ := DpAll.get' h2 hi
    rw [← DpAll.len h2] at hl e1
    have q := Evl.ex_l (k.hx.trans hd_sub) h1
    refine ⟨⟨hl, xs, v, q, e1⟩, fun x H2 ⟨z1, z2⟩ => ?_⟩
    subst z1
    have := z2 xs q
    rw [e1] at this
    cases this
    exact ⟨Ex.refl _, Dp.ex k.hx _ _ e2⟩
  stop := fun R' s' σ' H' e k i hi => by
    have hi : ds.reverse[i]? = none := Option.some.inj hi
    have := List.getElem?_eq_none_iff.mp hi
    rw [List.length_reverse, ← DpAll.len h2] at this
    exact this
theorem src_revT {a : Addr} {xs : List V} {ds : List PyData} (h1 : SqT K (hdS B R s H) a xs) (h2 : DpAll K (hdS B R s H) xs ds) : SrcOk K B R s H (RT.ItvT K a xs.length) (srcD ds.reverse) where
  go := fun R' s' σ' H' e k i d hi => by
    obtain ⟨hl, hi⟩ := rev_get (Option.some.inj hi)
    obtain ⟨v, e1, e2⟩ := DpAll.get' h2 hi
    rw [← DpAll.len h2] at hl e1
    have q := Evl.ex_t (k.hx.trans hd_sub) h1
    refine ⟨⟨hl, xs, v, q, e1⟩, fun x H2 ⟨z1, z2⟩ => ?_⟩
    subst z1
    have := z2 xs q
    rw [e1] at this
    cases this
    exact ⟨Ex.refl _, Dp.ex k.hx _ _ e2⟩
  stop := fun R' s' σ' H' e k i hi => by
    have hi : ds.reverse[i]? = none := Option.some.inj hi
    have := List.getElem?_eq_none_iff.mp hi
    rw [List.length_reverse, ← DpAll.len h2] at this
    exact this
def stepL (lo c : Int) (n : Nat) : List PyData := (List.range n).map fun i => .int (lo + (i : Nat) * c)
theorem src_step {lo c : Int} {n : Nat} : SrcOk K B R s H (Itc lo c n) (srcD (stepL lo c n)) where
  go := fun R' s' σ' H' e k i d hi => by
    have hi : ((List.range n).map fun i => PyData.int (lo + (i : Nat) * c))[i]? = some d := Option.some.inj hi
    rw [List.getElem?_map] at hi
    cases q : (List.range n)[i]? with
    | none => rw [q] at hi; cases hi
    | some j =>
      rw [q] at hi
      have hlt := (List.getElem?_eq_some_iff.mp q).1
      rw [List.length_range] at hlt
      rw [List.getElem?_range hlt] at q
      cases q
      cases hi
      refine ⟨hlt, fun x H2 ⟨z1, z2⟩ => ?_⟩
      subst z1
      subst z2
      exact ⟨Ex.refl _, .int _⟩
  stop := fun R' s' σ' H' e k i hi => by
    have hi : ((List.range n).map fun i => PyData.int (lo + (i : Nat) * c))[i]? = none := Option.some.inj hi
    have := List.getElem?_eq_none_iff.mp hi
    rw [List.length_map, List.length_range] at this
    exact this
end
/-! what is walked, of one value, of two -/
def fEnum (f : S → R (List AV)) (s : S) : R Iv := (f s).bind fun xs s1 =>
  match xs with
  | [x] => (toD1 x s1).bind fun y s2 => match y with
    | .list ds => .ok (.ds (prs 0 ds)) s2
    | .tuple ds => .ok (.ds (prs 0 ds)) s2
    | _ => .no
  | _ => .no
def fZip (f : S → R (List AV)) (s : S) : R Iv := (f s).bind fun xs s1 =>
  match xs with
  | [_, _] => (toDs xs s1).bind fun ys s2 => match ys with
    | [.list ds, .list es] => .ok (.ds (zipP ds es)) s2
    | [.tuple ds, .tuple es] => .ok (.ds (zipP ds es)) s2
    | _ => .no
  | _ => .no
def fRev (f : S → R AV) (s : S) : R Iv := (f s).bind fun x s1 => (toD1 x s1).bind fun y s2 =>
  match y with
  | .list ds => .ok (.ds ds.reverse) s2
  | .tuple ds => .ok (.ds ds.reverse) s2
  | _ => .no
def fRng3 (f : S → R (List AV)) (s : S) : R Iv := (f s).bind fun xs s1 =>
  match intsA xs with
  | some [i, j, c] =>
    if c = -1 then (if -(2 ^ 62) ≤ i ∧ i < 2 ^ 62 ∧ -(2 ^ 62) ≤ j ∧ j < 2 ^ 62 then .ok (.ds (stepL i (-1) (i - j).toNat)) s1 else .no)
    else if c ≠ 0 ∧ c.natAbs < 1073741824 ∧ Builtin.Range.small i j c = true ∧ 0 ≤ Builtin.Range.rangeSize i j c then .ok (.ds (stepL i c (Builtin.Range.rangeSize i j c).toNat)) s1 else .no
  | _ => .no
def fRevR1 (f : S → R AV) (s : S) : R Iv := (f s).bind fun x s1 =>
  match x with
  | .d (.int b) => if -(2 ^ 62) ≤ b ∧ b < 2 ^ 62 then .ok (.ds (stepL (b.toNat - 1 : Int) (-1) b.toNat)) s1 else .no
  | _ => .no
section
variable {K : PySem.W.Frag} {B : Fr} {R : List Addr} {s : S} {σ : L2.St} {H : Hp}
theorem postI_toD1 {x : AV} {v : V} {k : PyData → S → Fx.R Iv} {Q : It → Hp → Prop} (e : Env K B R s σ H) (r : VR K B R s H v x) (h : PostI K B σ R s H ((toD1 x s).bind k) Q) :
    ∃ y s1, Env K B R s1 σ H ∧ St B R s H R s1 H ∧ Dp K (hdS B R s1 H) v y ∧ PostI K B σ R s1 H (k y s1) Q := by
  cases h1 : toD1 x s with
  | no => rw [h1] at h; exact h.elim
  | xc _ _ => exact (toD1_noxc h1).elim
  | ok ds s1 =>
    rw [h1] at h
    obtain ⟨e1, st, d⟩ := toD1_ok e r h1
    exact ⟨ds, s1, e1, st, d, PostI.stp st h⟩
theorem postI_toDs {xs : List AV} {vs : List V} {k : List PyData → S → Fx.R Iv} {Q : It → Hp → Prop} (e : Env K B R s σ H) (r : vA K B R s H vs xs) (h : PostI K B σ R s H ((toDs xs s).bind k) Q) :
    ∃ ds s1, Env K B R s1 σ H ∧ St B R s H R s1 H ∧ DpAll K (hdS B R s1 H) vs ds ∧ PostI K B σ R s1 H (k ds s1) Q := by
  cases h1 : toDs xs s with
  | no => rw [h1] at h; exact h.elim
  | xc _ _ => exact (toDs_noxc h1).elim
  | ok ds s1 =>
    rw [h1] at h
    obtain ⟨e1, st, d⟩ := toDs_ok e r h1
    exact ⟨ds, s1, e1, st, d, PostI.stp st h⟩
end
section
variable {X : Cx} {B : Fr} {a b c e e2 tg it : Expr} {fe : S → R AV} {fs : S → R (List AV)} {ft : S → R Bool} {f : S → R Fl} {body : List Stmt} {p pos tpos : Pos} {elts : List Expr} {kk : Nat}
theorem pf_while (hp : PassesOwn (model X.prog X.w) X.A X.env X.xe) (hc : PT X c (rT X.K B ft)) (hb : PSs X body (rS X.K B f)) : PS X (.While c body [] pos) (rS X.K B (fWhile ft f)) := ps_imp (ps_while hp hc hb) q_while
theorem pf_enum (hg : Gl X "enumerate") (hm : X.mg "enumerate" = none) (ha : PA X [e] (rA X.K B fs)) (hs : starEach [e] X.env = [(false, eval e X.env)] := by rfl) : PI X (.Tuple elts kk tpos) (.Call (.Name "enumerate" p) [e] [] pos) (RI X.K B (fEnum fs)) := pi_imp (pi_or (pi_enum hg hm ha hs) (Bk.pi_enumT hg hm ha hs)) fun σ H Q ⟨R, s, en, q⟩ => by
  unfold fEnum at q
  by_cases tp : ∃ x s1 s2 ds, fs s = .ok [x] s1 ∧ toD1 x s1 = .ok (.tuple ds) s2
  · obtain ⟨x, s1, s2, ds, w1, w2⟩ := tp
    refine .inr ⟨R, s, en, ?_⟩
    rw [w1] at q ⊢
    intro R1 vs H1 e1 st r
    match vs, r with
    | [v], .cons r1 .nil =>
      have q : PostI X.K B σ R s H ((toD1 x s1).bind _) Q := q
      obtain ⟨y, s3, e3, st3, d3, q3⟩ := postI_toD1 e1 r1 (PostI.stp st q)
      obtain ⟨e3, st3, d3⟩ := toD1_ok e1 r1 w2
      obtain ⟨a, us, rfl, u1, u2⟩ := dp_tup d3
      rw [w2] at q
      exact ⟨a, us, rfl, Evl.ex_t hd_sub u1, q R1 H1 _ e3 (st.trans st3) (src_enumT u1 u2)⟩
  · refine .inl ⟨R, s, en, postI q fun xs s1 R1 vs H1 hf e1 st r q1 => ?_⟩
    match xs, r, q1 with
    | [], .nil, q1 => exact q1.elim
    | _ :: _ :: _, .cons _ (.cons _ _), q1 => exact q1.elim
    | [x], .cons r1 .nil, q1 =>
      have q1 : PostI X.K B σ R1 s1 H1 ((toD1 x s1).bind _) Q := q1
      cases w : toD1 x s1 with
      | no => rw [w] at q1; exact q1.elim
      | xc _ _ => exact (toD1_noxc w).elim
      | ok y s2 =>
        obtain ⟨e3, st3, d3⟩ := toD1_ok e1 r1 w
        rw [w] at q1
        cases y with
        | list ds =>
          obtain ⟨a, us, rfl, u1, u2⟩ := dp_lst d3
          exact ⟨a, us, rfl, Evl.ex_l hd_sub u1, q1 R1 H1 _ e3 st3 (src_enumL u1 u2)⟩
        | tuple ds => exact absurd ⟨x, s1, s2, ds, hf, w⟩ tp
        | _ => exact q1.elim
theorem pf_zip (hg : Gl X "zip") (hm : X.mg "zip" = none) (ha : PA X [e, e2] (rA X.K B fs)) (hs : starEach [e, e2] X.env = (false, eval e X.env) :: starEach [e2] X.env := by rfl) (hpl : (backTo pos (starEach [e2] X.env)).any (·.1) = false := by rfl) : PI X (.Tuple elts kk tpos) (.Call (.Name "zip" p) [e, e2] [] pos) (RI X.K B (fZip fs)) := pi_imp (RZ.pi_zipA hg hm ha hs hpl) fun σ H Q ⟨R, s, en, q⟩ => ⟨R, s, en, postI q fun xs s1 R1 vs H1 hf e1 st r q1 => by
  match xs, r, q1 with
  | [], .nil, q1 => exact q1.elim
  | [_], .cons _ .nil, q1 => exact q1.elim
  | _ :: _ :: _ :: _, .cons _ (.cons _ (.cons _ _)), q1 => exact q1.elim
  | [x, y], .cons r1 (.cons r2 .nil), q1 =>
    have q1 : PostI X.K B σ R1 s1 H1 ((toDs [x, y] s1).bind _) Q := q1
    obtain ⟨ds, s2, e2, st2, d2, q2⟩ := postI_toDs e1 (.cons r1 (.cons r2 .nil)) q1
    try dsimp only at q2
    split at q2
    · obtain _ | ⟨d1, _ | ⟨d2, _⟩⟩ := d2
      obtain ⟨a, us, rfl, u1, u2⟩ := dp_lst d1
      obtain ⟨b, ws, rfl, w1, w2⟩ := dp_lst d2
      exact ⟨a, b, us, ws, rfl, .inl ⟨Evl.ex_l hd_sub u1, Evl.ex_l hd_sub w1, q2 R1 H1 _ e2 St.refl (src_zipL u1 u2 w1 w2)⟩⟩
    · obtain _ | ⟨d1, _ | ⟨d2, _⟩⟩ := d2
      obtain ⟨a, us, rfl, u1, u2⟩ := dp_tup d1
      obtain ⟨b, ws, rfl, w1, w2⟩ := dp_tup d2
      exact ⟨a, b, us, ws, rfl, .inr ⟨Evl.ex_t hd_sub u1, Evl.ex_t hd_sub w1, q2 R1 H1 _ e2 St.refl (src_zipT u1 u2 w1 w2)⟩⟩
    · exact q2.elim⟩
theorem pf_revd (hg : Gl X "reversed") (hm : X.mg "reversed" = none) (ha : PE X e (rE X.K B fe)) (hs : starEach [e] X.env = (false, eval e X.env) :: starEach [] X.env := by rfl) : PI X tg (.Call (.Name "reversed" p) [e] [] pos) (RI X.K B (fRev fe)) := pi_imp (RT.pi_revA hg hm ha hs) fun σ H Q ⟨R, s, en, q⟩ => ⟨R, s, en, postI q fun x s1 R1 v H1 hf e1 st r q1 => by
  obtain ⟨y, s2, e2, st2, d2, q2⟩ := postI_toD1 e1 r q1
  try dsimp only at q2
  split at q2
  · obtain ⟨a, us, rfl, u1, u2⟩ := dp_lst d2
    exact ⟨a, us, rfl, .inl ⟨Evl.ex_l hd_sub u1, q2 R1 H1 _ e2 St.refl (src_revL u1 u2)⟩⟩
  · obtain ⟨a, us, rfl, u1, u2⟩ := dp_tup d2
    exact ⟨a, us, rfl, .inr ⟨Evl.ex_t hd_sub u1, q2 R1 H1 _ e2 St.refl (src_revT u1 u2)⟩⟩
  · exact q2.elim⟩
theorem pf_rng3 (hg : Gl X "range") (hm : X.mg "range" = none) (ha : PA X [a, b, c] (rA X.K B fs)) (hs : starEach [a, b, c] X.env = (false, eval a X.env) :: starEach [b, c] X.env := by rfl) (hpl : (backTo pos (starEach [b, c] X.env)).any (·.1) = false := by rfl) : PI X tg (.Call (.Name "range" p) [a, b, c] [] pos) (RI X.K B (fRng3 fs)) := pi_imp (pi_range3 hg hm ha hs hpl) fun σ H Q ⟨R, s, e, q⟩ => ⟨R, s, e, postI q fun xs s1 R1 vs H1 _ e1 st r q1 => by
  try dsimp only at q1
  split at q1
  · rename_i i j c hq
    have hv := vA_ints r hq
    by_cases hc : c = -1
    · rw [if_pos hc] at q1
      subst hc
      by_cases z : -(2 ^ 62) ≤ i ∧ i < 2 ^ 62 ∧ -(2 ^ 62) ≤ j ∧ j < 2 ^ 62
      · rw [if_pos z] at q1
        exact ⟨i, j, -1, _, hv, RgC.neg z.1 z.2.1 z.2.2.1 z.2.2.2, q1 R1 H1 _ e1 St.refl src_step⟩
      · rw [if_neg z] at q1; exact q1.elim
    · rw [if_neg hc] at q1
      by_cases z : c ≠ 0 ∧ c.natAbs < 1073741824 ∧ Builtin.Range.small i j c = true ∧ 0 ≤ Builtin.Range.rangeSize i j c
      · rw [if_pos z] at q1
        exact ⟨i, j, c, _, hv, ⟨z.1, z.2.1, z.2.2.1, by omega⟩, q1 R1 H1 _ e1 St.refl src_step⟩
      · rw [if_neg z] at q1; exact q1.elim
  · exact q1.elim⟩
end
end Fx

namespace Bk
open PySem PySem.Spec PyProof.Rows L2
open Evl (Ex Ev EvT EvL EvU EvA)
/-! ### list(zip(t, u)) of two tuples -/
section
variable {prog : Program} {w : World} {A : Around} {E : Value → Shared → Prop} {s : Shared}
theorem zt_item_held {z TI TO T i1 i2 l1 l2 : Addr} {f : Bool} {oT : Obj} {k1 k2 : Nat} {xs ys : Array Value} {x y : Value} {Q : Option Value → Shared → Prop} (D : ZipApart z TI TO i1 i2 l1 l2)
    (hz : IsZipHeld s.heap z TI TO T f) (hT : s.heap.get? T = some oT) (hTI : IsPair s.heap TI (.ref i1) (.ref i2))
    (h1 : s.heap.IsTupleIter i1 l1 k1) (h2 : s.heap.IsTupleIter i2 l2 k2) (hl1 : s.heap.IsTuple l1 xs) (hl2 : s.heap.IsTuple l2 ys) (hx : xs[k1]? = some x) (hy : ys[k2]? = some y)
    (hQ : ∀ h', IsZipHeld h' z TI TO T true → h'.IsTupleIter i1 l1 (k1 + 1) → h'.IsTupleIter i2 l2 (k2 + 1) → IsPair h' s.heap.objs.size x y → h'.objs.size = s.heap.objs.size + 1 →
      (∀ c o, c ≠ z → c ≠ i1 → c ≠ i2 → s.heap.get? c = some o → h'.get? c = some o) → Q (some (.ref s.heap.objs.size)) { s with heap := h' }) : wpAny (model prog w) A (pyNext (.ref z)) Q E s := by
  have hTy : s.TypeIs (.ref z) "zip" := ⟨_, hz, rfl⟩
  unfold pyNext
  refine wpAny_bind (wpAny_attempt (wpAny_callSpecial?_slot (name := Str.ofString "__next__") hTy PySem.F.slot_zip_next (wpAny_call_entry PySem.F.slot_zip_next hTy PySem.F.entry_zip_next ?_ (PySem.F.args_zip_next_1 _))))
  show wpAny _ _ (field (.ref z) 2 >>= _) _ _ _
  refine wpAny_bind (wpAny_field hz rfl (x := .bool false) rfl ?_)
  show wpAny _ _ (field (.ref z) 3 >>= _) _ _ _
  refine wpAny_bind (wpAny_field hz rfl (x := .ref TI) rfl ?_)
  refine wpAny_bind (wpAny_seqItems hTI rfl ?_)
  show wpAny _ _ (Builtin.SmallTypes.ownedTupleIsFree (.ref z) >>= _) _ _ _
  refine wpAny_bind (wpAny_tupleHeld_zip hz hT fun g₁ hz₁ hs₁ => ?_)
  simp only [Bool.false_eq_true, if_false]
  refine wpAny_bind ?_
  rw [← Array.forIn_toList]
  simp only [List.forIn_cons, List.forIn_nil]
  refine wpAny_bind (wpAny_bind (wpAny_holding ?_))
  show wpAny _ _ (Builtin.SmallTypes.nextOf (.ref i1) >>= _) _ _ _
  refine wpAny_bind (RZ.nextOf_tuple_item (s := { s with heap := g₁ }) (h1.extBut hs₁.extBut D.i1z) (hl1.extBut hs₁.extBut D.l1z) hx fun g₂ n1 hs₂ => wpAny_pure ?_)
  refine wpAny_pure ?_
  refine wpAny_bind (wpAny_bind (wpAny_holding ?_))
  show wpAny _ _ (Builtin.SmallTypes.nextOf (.ref i2) >>= _) _ _ _
  refine wpAny_bind (RZ.nextOf_tuple_item (s := { s with heap := g₂ }) ((h2.extBut hs₁.extBut D.i2z).extBut hs₂.extBut D.i12.symm) ((hl2.extBut hs₁.extBut D.l2z).extBut hs₂.extBut D.l2i1) hy fun g₃ n2 hs₃ => wpAny_pure ?_)
  refine wpAny_pure (wpAny_pure ?_)
  show wpAny _ _ (newTuple [x, y] >>= _) _ _ _
  refine wpAny_bind (wpAny_newTuple ?_)
  have hsz : g₃.objs.size = s.heap.objs.size := by rw [hs₃.1, hs₂.1, hs₁.1]
  have kz : IsZipHeld g₃ z TI TO T true := hs₃.extBut _ _ D.i2z.symm (hs₂.extBut _ _ D.i1z.symm hz₁)
  have k1' := n1.extBut hs₃.extBut D.i12
  refine wpAny_pure ⟨_, rfl, ?_⟩
  show wpAny _ _ (pure _) _ _ _
  refine wpAny_pure ?_
  show Q (some (.ref g₃.objs.size)) _
  have hp : IsPair (g₃.push { cls := .type "tuple", data := .seq #[x, y] }) g₃.objs.size x y := Heap.get?_push_size _ rfl
  have hz4 : (g₃.push { cls := .type "tuple", data := .seq #[x, y] }).objs.size = g₃.objs.size + 1 := Heap.size_push ..
  rw [hsz] at hp hz4 ⊢
  exact hQ _ (Heap.get?_push_of_some _ kz) (k1'.at fun o e => Heap.get?_push_of_some _ e) (n2.at fun o e => Heap.get?_push_of_some _ e) hp hz4 fun c o c1 c2 c3 e => Heap.get?_push_of_some _ (hs₃.extBut _ _ c3 (hs₂.extBut _ _ c2 (hs₁.extBut _ _ c1 e)))
theorem zt_end_held {z TI TO T i1 i2 l1 l2 : Addr} {f : Bool} {oT : Obj} {k1 k2 : Nat} {xs ys : Array Value} {Q : Option Value → Shared → Prop} (hh : A.handled = none) (D : ZipApart z TI TO i1 i2 l1 l2)
    (hz : IsZipHeld s.heap z TI TO T f) (hT : s.heap.get? T = some oT) (hTI : IsPair s.heap TI (.ref i1) (.ref i2))
    (h1 : s.heap.IsTupleIter i1 l1 k1) (h2 : s.heap.IsTupleIter i2 l2 k2) (hl1 : s.heap.IsTuple l1 xs) (hl2 : s.heap.IsTuple l2 ys) (hend : xs[k1]? = none ∨ ys[k2]? = none)
    (hQ : ∀ h', (∀ c o, c ≠ z → c ≠ i1 → c ≠ i2 → s.heap.get? c = some o → h'.get? c = some o) → Q none { s with heap := h' }) : wpAny (model prog w) A (pyNext (.ref z)) Q E s := by
  have hTy : s.TypeIs (.ref z) "zip" := ⟨_, hz, rfl⟩
  have fin : ∀ (h' : Heap) (e : Addr), (∀ c o, c ≠ z → c ≠ i1 → c ≠ i2 → s.heap.get? c = some o → h'.get? c = some o) → (∃ o, h'.get? e = some o ∧ o.cls = .type "StopIteration") → True := fun _ _ _ _ => trivial
  unfold pyNext
  refine wpAny_bind (wpAny_attempt (wpAny_callSpecial?_slot (name := Str.ofString "__next__") hTy PySem.F.slot_zip_next (wpAny_call_entry PySem.F.slot_zip_next hTy PySem.F.entry_zip_next ?_ (PySem.F.args_zip_next_1 _))))
  show wpAny _ _ (field (.ref z) 2 >>= _) _ _ _
  refine wpAny_bind (wpAny_field hz rfl (x := .bool false) rfl ?_)
  show wpAny _ _ (field (.ref z) 3 >>= _) _ _ _
  refine wpAny_bind (wpAny_field hz rfl (x := .ref TI) rfl ?_)
  refine wpAny_bind (wpAny_seqItems hTI rfl ?_)
  show wpAny _ _ (Builtin.SmallTypes.ownedTupleIsFree (.ref z) >>= _) _ _ _
  refine wpAny_bind (wpAny_tupleHeld_zip hz hT fun g₁ hz₁ hs₁ => ?_)
  simp only [Bool.false_eq_true, if_false]
  refine wpAny_bind ?_
  rw [← Array.forIn_toList]
  simp only [List.forIn_cons, List.forIn_nil]
  refine wpAny_bind (wpAny_bind (wpAny_holding ?_))
  show wpAny _ _ (Builtin.SmallTypes.nextOf (.ref i1) >>= _) _ _ _
  cases hx : xs[k1]? with
  | none =>
    refine wpAny_bind (RZ.nextOf_tuple_end (s := { s with heap := g₁ }) hh (h1.extBut hs₁.extBut D.i1z) (hl1.extBut hs₁.extBut D.l1z) hx fun g₂ e hs₂ he => ?_)
    obtain ⟨o, ho, hc⟩ := he
    refine wpAny_bind (wpAny_isInstance (T := "StopIteration") (b := true) ⟨o, ho, hc⟩ isSubtype_stop ?_)
    exact wpAny_pure (hQ _ fun c o c1 c2 _ x => hs₂ _ _ c2 (hs₁.extBut _ _ c1 x))
  | some x =>
    have hy : ys[k2]? = none := by rcases hend with h | h; rw [hx] at h; cases h; exact h
    refine wpAny_bind (RZ.nextOf_tuple_item (s := { s with heap := g₁ }) (h1.extBut hs₁.extBut D.i1z) (hl1.extBut hs₁.extBut D.l1z) hx fun g₂ n1 hs₂ => wpAny_pure ?_)
    refine wpAny_pure ?_
    refine wpAny_bind (wpAny_bind (wpAny_holding ?_))
    show wpAny _ _ (Builtin.SmallTypes.nextOf (.ref i2) >>= _) _ _ _
    refine wpAny_bind (RZ.nextOf_tuple_end (s := { s with heap := g₂ }) hh ((h2.extBut hs₁.extBut D.i2z).extBut hs₂.extBut D.i12.symm) ((hl2.extBut hs₁.extBut D.l2z).extBut hs₂.extBut D.l2i1) hy fun g₃ e hs₃ he => ?_)
    obtain ⟨o, ho, hc⟩ := he
    refine wpAny_bind (wpAny_isInstance (T := "StopIteration") (b := true) ⟨o, ho, hc⟩ isSubtype_stop ?_)
    exact wpAny_pure (hQ _ fun c o c1 c2 c3 x => hs₃ _ _ c3 (hs₂.extBut _ _ c2 (hs₁.extBut _ _ c1 x)))
/-- where a zip of two tuples stands at turn k; S: the list that is filled -/
structure Zt (h : Heap) (z TI TO i1 i2 l1 l2 S : Addr) (k : Nat) : Prop where
  ti : IsPair h TI (.ref i1) (.ref i2)
  a : h.IsTupleIter i1 l1 k
  b : h.IsTupleIter i2 l2 k
  st : (IsZip h z TI TO .none ∧ ∃ x y, IsPair h TO x y) ∨ ∃ T f oT, IsZipHeld h z TI TO T f ∧ h.get? T = some oT ∧ T ≠ z ∧ T ≠ i1 ∧ T ≠ i2 ∧ T ≠ S
theorem Zt.keep {h h' : Heap} {z TI TO i1 i2 l1 l2 S : Addr} {k : Nat} (t : Zt h z TI TO i1 i2 l1 l2 S k) (hk : ∀ b o, b ≠ S → h.get? b = some o → h'.get? b = some o) (n1 : TI ≠ S) (n2 : TO ≠ S) (n3 : i1 ≠ S) (n4 : i2 ≠ S) (n5 : z ≠ S) : Zt h' z TI TO i1 i2 l1 l2 S k := by
  refine ⟨hk _ _ n1 t.ti, t.a.at fun o e => hk _ _ n3 e, t.b.at fun o e => hk _ _ n4 e, ?_⟩
  rcases t.st with ⟨hz, x, y, hp⟩ | ⟨T, f, oT, hz, hT, m1, m2, m3, m4⟩
  · exact .inl ⟨hk _ _ n5 hz, x, y, hk _ _ n2 hp⟩
  · exact .inr ⟨T, f, oT, hk _ _ n5 hz, hk _ _ m4 hT, m1, m2, m3, m4⟩
theorem zt_item {z TI TO i1 i2 l1 l2 S : Addr} {k : Nat} {xs ys : Array Value} {x y : Value} {Q : Option Value → Shared → Prop} (D : ZipApart z TI TO i1 i2 l1 l2) (t : Zt s.heap z TI TO i1 i2 l1 l2 S k) (hS : S < s.heap.objs.size)
    (hl1 : s.heap.IsTuple l1 xs) (hl2 : s.heap.IsTuple l2 ys) (hx : xs[k]? = some x) (hy : ys[k]? = some y)
    (hQ : ∀ h', Zt h' z TI TO i1 i2 l1 l2 S (k + 1) → IsPair h' s.heap.objs.size x y → h'.objs.size = s.heap.objs.size + 1 → (∀ c o, c ≠ z → c ≠ TO → c ≠ i1 → c ≠ i2 → s.heap.get? c = some o → h'.get? c = some o) → Q (some (.ref s.heap.objs.size)) { s with heap := h' }) :
    wpAny (model prog w) A (pyNext (.ref z)) Q E s := by
  rcases t.st with ⟨hz, u, v, hp⟩ | ⟨T, f, oT, hz, hT, m1, m2, m3, m4⟩
  · refine RZ.pyNext_zipT_item D hz t.ti hp t.a t.b hl1 hl2 hx hy fun h' a1 a2 a3 a4 a5 a6 a7 => ?_
    have l1' : z < s.heap.objs.size := Heap.lt_size hz
    have l2' : i1 < s.heap.objs.size := by obtain ⟨_, e, _⟩ := t.a; exact Heap.lt_size e
    have l3' : i2 < s.heap.objs.size := by obtain ⟨_, e, _⟩ := t.b; exact Heap.lt_size e
    exact hQ h' ⟨a7 _ _ D.TIz D.TITO D.TIi1 D.TIi2 t.ti, a3, a4, .inr ⟨s.heap.objs.size, false, _, a1, a5, Nat.ne_of_gt l1', Nat.ne_of_gt l2', Nat.ne_of_gt l3', Nat.ne_of_gt hS⟩⟩ a5 a6 a7
  · refine zt_item_held D hz hT t.ti t.a t.b hl1 hl2 hx hy fun h' a1 a3 a4 a5 a6 a7 => ?_
    exact hQ h' ⟨a7 _ _ D.TIz D.TIi1 D.TIi2 t.ti, a3, a4, .inr ⟨T, true, _, a1, a7 _ _ m1 m2 m3 hT, m1, m2, m3, m4⟩⟩ a5 a6 fun c o c1 _ c3 c4 e => a7 c o c1 c3 c4 e
theorem zt_end {z TI TO i1 i2 l1 l2 S : Addr} {k : Nat} {xs ys : Array Value} {Q : Option Value → Shared → Prop} (hh : A.handled = none) (D : ZipApart z TI TO i1 i2 l1 l2) (t : Zt s.heap z TI TO i1 i2 l1 l2 S k)
    (hl1 : s.heap.IsTuple l1 xs) (hl2 : s.heap.IsTuple l2 ys) (hend : xs[k]? = none ∨ ys[k]? = none)
    (hQ : ∀ h', (∀ c o, c ≠ z → c ≠ TO → c ≠ i1 → c ≠ i2 → s.heap.get? c = some o → h'.get? c = some o) → Q none { s with heap := h' }) : wpAny (model prog w) A (pyNext (.ref z)) Q E s := by
  rcases t.st with ⟨hz, u, v, hp⟩ | ⟨T, f, oT, hz, hT, _, _, _, _⟩
  · exact RZ.pyNext_zipT_end hh D hz t.ti hp t.a t.b hl1 hl2 hend hQ
  · exact zt_end_held hh D hz hT t.ti t.a t.b hl1 hl2 hend fun h' hk => hQ h' fun c o c1 _ c3 c4 e => hk c o c1 c3 c4 e
end
end Bk

namespace Bk
open PySem PySem.Calls PySem.Spec PyProof.Rows L2
open Evl (Ex Ev EvT EvL EvU EvA)
/-! ### list(zip(t, u)): the list that is filled -/
theorem zip_no_len : typeLookup (.type "zip") "__len__" = pure none := by rw [typeLookup_type, builtinLookup_eq_fast]; kernel_rfl
theorem zip_no_hint : typeLookup (.type "zip") "__length_hint__" = pure none := by rw [typeLookup_type, builtinLookup_eq_fast]; kernel_rfl
/-- all stands but what the zip writes -/
def ZKp (S z TO i1 i2 : Addr) (h h' : Heap) : Prop := ∀ b o, b ≠ S → b ≠ z → b ≠ TO → b ≠ i1 → b ≠ i2 → h.get? b = some o → h'.get? b = some o
structure ZPr (xs ys : Array Value) (lo : Nat) (h : Heap) (as : List Addr) : Prop where
  rise : as.Pairwise (· < ·)
  low : ∀ a ∈ as, lo ≤ a
  pair : ∀ (j : Nat) (a : Addr), as[j]? = some a → ∃ x y, xs[j]? = some x ∧ ys[j]? = some y ∧ IsPair h a x y
section
variable {prog : Program} {w : World} {A : Around} {E : Value → Shared → Prop} {s : Shared} {R : Result → Shared → Prop}
theorem zl_loop {S z TI TO i1 i2 l1 l2 : Addr} {xs ys : Array Value} {n lo : Nat} (hh : A.handled = none) (D : ZipApart z TI TO i1 i2 l1 l2) (q1 : z ≠ S) (q2 : TI ≠ S) (q3 : TO ≠ S) (q4 : i1 ≠ S) (q5 : i2 ≠ S) (q6 : l1 ≠ S) (q7 : l2 ≠ S)
    (hn : n = min xs.size ys.size) (hz : n ≤ sizeLine) (hlo : S < lo ∧ z < lo ∧ TO < lo ∧ i1 < lo ∧ i2 < lo) (res : Value) {h₁ : Heap} (hl1 : h₁.IsTuple l1 xs) (hl2 : h₁.IsTuple l2 ys)
    (hR : ∀ h' acc c as, ZKp S z TO i1 i2 h₁ h' → h'.get? S = some { cls := .type "list", dict := none, data := .seq acc c, slots := #[] } → as.length = n → ZPr xs ys lo h' as → acc.toList = as.map Value.ref → R (.ok (.ret res)) { s with heap := h' }) :
    ∀ (k i : Nat) (h : Heap) (c : Nat) (acc : Array Value) (as : List Addr), n - i = k → i ≤ n → Zt h z TI TO i1 i2 l1 l2 S i → ZKp S z TO i1 i2 h₁ h →
      h.get? S = some { cls := .type "list", dict := none, data := .seq acc c, slots := #[] } → acc.toList = as.map Value.ref → as.length = i → ZPr xs ys lo h as → lo ≤ h.objs.size →
      codeAny (model prog w) A (.builtin "list.extend.loop" ⟨[.ref S, .ref z, res], []⟩) R { s with heap := h } := by
  have tup : ∀ {h : Heap}, ZKp S z TO i1 i2 h₁ h → h.IsTuple l1 xs ∧ h.IsTuple l2 ys := fun {h} K => by
    obtain ⟨o, ho, r⟩ := hl1
    obtain ⟨o2, ho2, r2⟩ := hl2
    exact ⟨⟨o, K l1 o q6 D.l1z D.l1TO D.l1i1 D.l1i2 ho, r⟩, ⟨o2, K l2 o2 q7 D.l2z D.l2TO D.l2i1 D.l2i2 ho2, r2⟩⟩
  intro k
  induction k with
  | zero =>
    intro i h c acc as hk hi t K hS hacc hal P hsz
    have hin : i = n := by omega
    obtain ⟨t1, t2⟩ := tup K
    refine codeAny_builtin PySem.F.entry_extend_loop ?_
    rw [Around.under_plainId PySem.F.plain_extend_loop _]
    show wpAny _ A.in1 (pyNext (.ref z) >>= _) _ _ _
    refine wpAny_bind (zt_end (s := { s with heap := h }) (A := A.in1) hh D t t1 t2 ?_ fun h' hk' => ?_)
    · rw [hin, hn]
      by_cases hc : xs.size ≤ ys.size
      · left; exact Array.getElem?_eq_none (by omega)
      · right; exact Array.getElem?_eq_none (by omega)
    · have lt : ∀ a ∈ as, a ≠ z ∧ a ≠ TO ∧ a ≠ i1 ∧ a ≠ i2 := fun a ha => by
        have := P.low a ha
        obtain ⟨_, b2, b3, b4, b5⟩ := hlo
        exact ⟨Nat.ne_of_gt (Nat.lt_of_lt_of_le b2 this), Nat.ne_of_gt (Nat.lt_of_lt_of_le b3 this), Nat.ne_of_gt (Nat.lt_of_lt_of_le b4 this), Nat.ne_of_gt (Nat.lt_of_lt_of_le b5 this)⟩
      refine wpAny_pure (hR h' acc c as (fun b o n1 n2 n3 n4 n5 e => hk' b o n2 n3 n4 n5 (K b o n1 n2 n3 n4 n5 e)) (hk' S _ (Ne.symm q1) (Ne.symm q3) (Ne.symm q4) (Ne.symm q5) hS) (by omega) ⟨P.rise, P.low, fun j a hj => ?_⟩ hacc)
      obtain ⟨x, y, e1, e2, e3⟩ := P.pair j a hj
      obtain ⟨m1, m2, m3, m4⟩ := lt a (List.mem_of_getElem? hj)
      exact ⟨x, y, e1, e2, hk' _ _ m1 m2 m3 m4 e3⟩
  | succ k ih =>
    intro i h c acc as hk hi t K hS hacc hal P hsz
    have hlt : i < n := by omega
    have hx : i < xs.size := by omega
    have hy : i < ys.size := by omega
    obtain ⟨t1, t2⟩ := tup K
    have hacs : acc.size = i := by rw [← Array.length_toList, hacc, List.length_map, hal]
    have hSl : S < h.objs.size := Heap.lt_size hS
    refine codeAny_builtin PySem.F.entry_extend_loop ?_
    rw [Around.under_plainId PySem.F.plain_extend_loop _]
    show wpAny _ A.in1 (pyNext (.ref z) >>= _) _ _ _
    refine wpAny_bind (zt_item (s := { s with heap := h }) (S := S) D t hSl t1 t2 (Array.getElem?_eq_getElem hx) (Array.getElem?_eq_getElem hy) fun h' t' hp hz' hk' => ?_)
    dsimp only at hp hz' hk' ⊢
    have hS' := hk' S _ (Ne.symm q1) (Ne.symm q3) (Ne.symm q4) (Ne.symm q5) hS
    have up : ∀ b o, b ≠ S → h'.get? b = some o → (h'.update S (Obj.mapSeq (·.push (Value.ref h.objs.size)))).get? b = some o := fun b o hb e => (Heap.get?_update_other _ _ (Ne.symm hb)).trans e
    show wpAny _ A.in1 (updateSeq S (·.push (Value.ref h.objs.size)) >>= _) _ _ _
    refine wpAny_bind ?_
    refine wpAny_updateSeq hS' rfl (wpAny_pure ⟨plainId_quiet PySem.F.plain_extend_loop _, ih (i + 1) _ _ (acc.push (Value.ref h.objs.size)) (as ++ [h.objs.size]) (by omega) hlt (t'.keep up q2 q3 q4 q5 q1)
      (fun b o n1 n2 n3 n4 n5 e => up b o n1 (hk' b o n2 n3 n4 n5 (K b o n1 n2 n3 n4 n5 e))) (Heap.get?_update_self _ hS' rfl) (by rw [Array.toList_push, hacc, List.map_append]; rfl) (by rw [List.length_append, hal]; rfl) ⟨?_, ?_, ?_⟩ ?_⟩) (by rw [hacs]; omega) (by show (acc.push (Value.ref h.objs.size)).size ≤ sizeLine + 1; rw [Array.size_push, hacs]; omega)
    · refine List.pairwise_append.mpr ⟨P.rise, List.pairwise_singleton _ _, fun a ha b hb => ?_⟩
      rw [List.mem_singleton.mp hb]
      obtain ⟨j, hj⟩ := List.mem_iff_getElem?.mp ha
      obtain ⟨_, _, _, _, e⟩ := P.pair j a hj
      exact Heap.lt_size e
    · intro a ha
      rcases List.mem_append.mp ha with ha | ha
      · exact P.low a ha
      · rw [List.mem_singleton.mp ha]; exact hsz
    · intro j b hj
      have lt : ∀ a, lo ≤ a → a ≠ S ∧ a ≠ z ∧ a ≠ TO ∧ a ≠ i1 ∧ a ≠ i2 := fun a this => by
        obtain ⟨b1, b2, b3, b4, b5⟩ := hlo
        exact ⟨Nat.ne_of_gt (Nat.lt_of_lt_of_le b1 this), Nat.ne_of_gt (Nat.lt_of_lt_of_le b2 this), Nat.ne_of_gt (Nat.lt_of_lt_of_le b3 this), Nat.ne_of_gt (Nat.lt_of_lt_of_le b4 this), Nat.ne_of_gt (Nat.lt_of_lt_of_le b5 this)⟩
      rcases Nat.lt_trichotomy j as.length with g1 | g1 | g1
      · rw [List.getElem?_append_left g1] at hj
        obtain ⟨x, y, e1, e2, e3⟩ := P.pair j b hj
        obtain ⟨m1, m2, m3, m4, m5⟩ := lt b (P.low b (List.mem_of_getElem? hj))
        exact ⟨x, y, e1, e2, up _ _ m1 (hk' _ _ m2 m3 m4 m5 e3)⟩
      · subst g1
        have hb : h.objs.size = b := by simpa using hj
        subst hb
        rw [hal]
        exact ⟨_, _, Array.getElem?_eq_getElem hx, Array.getElem?_eq_getElem hy, up _ _ (Nat.ne_of_gt hSl) hp⟩
      · have hnone : (as ++ [h.objs.size])[j]? = none := List.getElem?_eq_none (by rw [List.length_append, List.length_singleton]; omega)
        rw [hnone] at hj; cases hj
    · have e : (h'.update S (Obj.mapSeq (·.push (Value.ref h.objs.size)))).get? h.objs.size = _ := up _ _ (Nat.ne_of_gt hSl) hp
      exact Nat.le_trans hsz (Nat.le_of_lt (Heap.lt_size e))
theorem zl_hint {z : Addr} (hT : s.TypeIs (.ref z) "zip") {Q : Bool → Shared → Prop} (h : Q true s) : wpAny (model prog w) A (Builtin.List.listLengthHint (.ref z)) Q E s := by
  unfold Builtin.List.listLengthHint
  refine wpAny_bind (wpAny_specialOf hT zip_no_len ?_)
  show wpAny _ A (specialOf (Value.ref z) (Str.ofString "__length_hint__") >>= _) _ _ _
  refine wpAny_bind (wpAny_specialOf hT zip_no_hint ?_)
  exact wpAny_pure h
/-- a zip that was just made -/
structure Zn (h : Heap) (z TI TO i1 i2 l1 l2 : Addr) (xs ys : Array Value) : Prop where
  D : ZipApart z TI TO i1 i2 l1 l2
  z : IsZip h z TI TO .none
  ti : IsPair h TI (.ref i1) (.ref i2)
  to_ : IsPair h TO .none .none
  a : h.IsTupleIter i1 l1 0
  b : h.IsTupleIter i2 l2 0
  l1 : h.IsTuple l1 xs
  l2 : h.IsTuple l2 ys
theorem Zn.keep {h h' : Heap} {z TI TO i1 i2 l1 l2 : Addr} {xs ys : Array Value} (t : Zn h z TI TO i1 i2 l1 l2 xs ys) (S : Addr) (n1 : TI ≠ S) (n2 : TO ≠ S) (n3 : i1 ≠ S) (n4 : i2 ≠ S) (n5 : z ≠ S) (n6 : l1 ≠ S) (n7 : l2 ≠ S) (hk : ∀ b o, b ≠ S → h.get? b = some o → h'.get? b = some o) : Zn h' z TI TO i1 i2 l1 l2 xs ys := by
  obtain ⟨o, ho, r⟩ := t.l1
  obtain ⟨o2, ho2, r2⟩ := t.l2
  exact ⟨t.D, hk _ _ n5 t.z, hk _ _ n1 t.ti, hk _ _ n2 t.to_, t.a.at fun o e => hk _ _ n3 e, t.b.at fun o e => hk _ _ n4 e, ⟨o, hk _ _ n6 ho, r⟩, ⟨o2, hk _ _ n7 ho2, r2⟩⟩
theorem zl_extend {S z TI TO i1 i2 l1 l2 : Addr} {xs ys : Array Value} {n : Nat} (hh : A.handled = none) (t : Zn s.heap z TI TO i1 i2 l1 l2 xs ys) (q1 : z ≠ S) (q2 : TI ≠ S) (q3 : TO ≠ S) (q4 : i1 ≠ S) (q5 : i2 ≠ S) (q6 : l1 ≠ S) (q7 : l2 ≠ S)
    (hn : n = min xs.size ys.size) (hz : n ≤ sizeLine) (res : Value) (c₀ : Nat) (hS : s.heap.get? S = some { cls := .type "list", data := .seq #[] c₀ })
    (hR : ∀ h' acc c as, ZKp S z TO i1 i2 s.heap h' → h'.get? S = some { cls := .type "list", dict := none, data := .seq acc c, slots := #[] } → as.length = n → ZPr xs ys s.heap.objs.size h' as → acc.toList = as.map Value.ref → R (.ok (.ret res)) { s with heap := h' }) :
    wpAny (model prog w) A.in1 (Builtin.List.listExtendWith (.ref S) (.ref z) res)
      (fun fin s' => match fin with | .done f => R (.ok f) s' | .again c' => c'.quiet = true ∧ codeAny (model prog w) A c' R s') (fun e s' => R (.error e) s') s := by
  have hT : s.TypeIs (.ref z) "zip" := ⟨_, t.z, rfl⟩
  have lo : S < s.heap.objs.size ∧ z < s.heap.objs.size ∧ TO < s.heap.objs.size ∧ i1 < s.heap.objs.size ∧ i2 < s.heap.objs.size := by
    obtain ⟨_, e1, _⟩ := t.a
    obtain ⟨_, e2, _⟩ := t.b
    exact ⟨Heap.lt_size hS, Heap.lt_size t.z, Heap.lt_size t.to_, Heap.lt_size e1, Heap.lt_size e2⟩
  have key : ∀ (h : Heap) (c₁ : Nat), h.objs.size = s.heap.objs.size → (∀ b o, b ≠ S → s.heap.get? b = some o → h.get? b = some o) → h.get? S = some { cls := .type "list", data := .seq #[] c₁ } → codeAny (model prog w) A (.builtin "list.extend.loop" ⟨[.ref S, .ref z, res], []⟩) R { s with heap := h } := by
    intro h c₁ hsz hk hS₁
    have t' := t.keep S q2 q3 q4 q5 q1 q6 q7 hk
    exact zl_loop (n := n) (lo := s.heap.objs.size) hh t.D q1 q2 q3 q4 q5 q6 q7 hn hz lo res t.l1 t.l2 hR n 0 h c₁ #[] [] (Nat.sub_zero _) (Nat.zero_le _) ⟨t'.ti, t'.a, t'.b, .inl ⟨t'.z, _, _, t'.to_⟩⟩ (fun b o n1 _ _ _ _ e => hk b o n1 e) hS₁ rfl rfl ⟨List.Pairwise.nil, (fun _ ha => nomatch ha), (fun j a hj => by simp at hj)⟩ (Nat.le_of_eq hsz.symm)
  unfold Builtin.List.listExtendWith
  refine wpAny_bind (wpAny_typeOf (T := "zip") hT ?_)
  have h1 : Builtin.List.listSameRef (.ref S) (.ref z) = false := by simp [Builtin.List.listSameRef, Ne.symm q1]
  have h2 : (Value.type "zip" == Value.type "list") = false := by decide
  have h3 : (Value.type "zip" == Value.type "tuple") = false := by decide
  simp only [h1, h2, h3, Bool.or_false, Bool.false_eq_true, if_false]
  refine wpAny_bind (wpAny_pyIter_zip t.z ?_)
  refine wpAny_bind (wpAny_holding (zl_hint hT ?_))
  refine wpAny_ite_split (fun _ => ?_) (fun _ => wpAny_pure ⟨plainId_quiet PySem.F.plain_extend_loop _, key _ c₀ rfl (fun b o _ e => e) hS⟩)
  refine wpAny_bind (wpAny_rule ?_)
  refine wpAny_bind ?_
  show wpAny _ _ (updateSeq S (·.push .none) >>= fun _ => updateSeq S (·.pop)) _ _ _
  refine wpAny_bind (wpAny_updateSeq hS rfl ?_)
  have hS₂ := Heap.get?_update_self (Obj.mapSeq (·.push Value.none)) hS rfl
  refine wpAny_updateSeq (hz := by seq_fits) hS₂ rfl ?_
  have hS₃ := Heap.get?_update_self (Obj.mapSeq (·.pop)) hS₂ rfl
  refine wpAny_pure ⟨plainId_quiet PySem.F.plain_extend_loop _, key _ _ (by rw [Heap.size_update, Heap.size_update]) (fun b o hb e => ?_) hS₃⟩
  exact (Heap.get?_update_other _ _ (Ne.symm hb)).trans ((Heap.get?_update_other _ _ (Ne.symm hb)).trans e)
theorem zl_call {z TI TO i1 i2 l1 l2 : Addr} {xs ys : Array Value} {n : Nat} {Q : Value → Shared → Prop} (hh : A.handled = none) (t : Zn s.heap z TI TO i1 i2 l1 l2 xs ys) (hn : n = min xs.size ys.size) (hz : n ≤ sizeLine)
    (hQ : ∀ h' acc c as, ZKp s.heap.objs.size z TO i1 i2 s.heap h' → h'.get? s.heap.objs.size = some { cls := .type "list", dict := none, data := .seq acc c, slots := #[] } → as.length = n → ZPr xs ys s.heap.objs.size h' as → (∀ a ∈ as, a ≠ s.heap.objs.size) → acc.toList = as.map Value.ref → Q (.ref s.heap.objs.size) { s with heap := h' }) :
    wpAny (model prog w) A (call (.type "list") [.ref z]) Q E s := by
  refine callType_codes (Q₁ := fun obj s₁ => obj = .ref s.heap.objs.size ∧ s₁ = { s with heap := s.heap.push { cls := .type "list", data := .seq #[] } }) PySem.F.called_list (PySem.F.typeCall_list_1 _) PySem.F.entry_list_init
    (code_list_new _ ⟨rfl, rfl⟩) fun obj s₁ h₁ => ?_
  obtain ⟨rfl, rfl⟩ := h₁
  have hS : (s.heap.push { cls := .type "list", data := .seq #[] }).get? s.heap.objs.size = some { cls := .type "list", data := .seq #[] } := Heap.get?_push_size _ rfl
  have ne : ∀ {b : Addr} {o : Obj}, s.heap.get? b = some o → b ≠ s.heap.objs.size := fun e => Nat.ne_of_lt (Heap.lt_size e)
  have nz := ne t.z
  have nti := ne t.ti
  have nto := ne t.to_
  have na : i1 ≠ s.heap.objs.size := let ⟨_, e, _⟩ := t.a; ne e
  have nb : i2 ≠ s.heap.objs.size := let ⟨_, e, _⟩ := t.b; ne e
  have n1 : l1 ≠ s.heap.objs.size := let ⟨_, e, _⟩ := t.l1; ne e
  have n2 : l2 ≠ s.heap.objs.size := let ⟨_, e, _⟩ := t.l2; ne e
  refine ⟨⟨_, hS, rfl⟩, PySem.F.args_list_init_2 _ _, ?_⟩
  show wpAny _ _ (do let old ← Builtin.List.listItems (.ref s.heap.objs.size); Builtin.List.listUpdate (.ref s.heap.objs.size) (fun _ => #[]); letGo old.toList.reverse; Builtin.List.listExtendWith (.ref s.heap.objs.size) (.ref z) .none) _ _ _
  refine wpAny_bind ?_
  unfold Builtin.List.listItems
  refine wpAny_bind (wpAny_seqItems hS rfl (wpAny_pure ?_))
  show wpAny _ _ (updateSeq s.heap.objs.size (fun _ => #[]) >>= fun _ => letGo (#[] : Array Value).toList.reverse >>= fun _ => Builtin.List.listExtendWith (.ref s.heap.objs.size) (.ref z) .none) _ _ _
  refine wpAny_bind (wpAny_updateSeq hS rfl ?_)
  have hS₂ := Heap.get?_update_self (Obj.mapSeq (fun _ => (#[] : Array Value))) hS rfl
  have oth : ∀ b o, b ≠ s.heap.objs.size → s.heap.get? b = some o → ((s.heap.push { cls := .type "list", data := .seq #[] }).update s.heap.objs.size (Obj.mapSeq (fun _ => (#[] : Array Value)))).get? b = some o :=
    fun b o hb e => (Heap.get?_update_other _ _ (Ne.symm hb)).trans (Heap.get?_push_of_some _ e)
  refine wpAny_bind (wpAny_letGo ?_)
  have hsz : ((s.heap.push { cls := .type "list", data := .seq #[] }).update s.heap.objs.size (Obj.mapSeq (fun _ => (#[] : Array Value)))).objs.size = s.heap.objs.size + 1 := by rw [Heap.size_update, Heap.size_push]
  refine zl_extend (A := A.in1) (n := n) hh (t.keep s.heap.objs.size nti nto na nb nz n1 n2 oth) nz nti nto na nb n1 n2 hn hz .none _ hS₂ (fun h' acc c as hk hS' hl P hacc => ?_)
  dsimp only at P
  rw [hsz] at P
  exact ⟨rfl, hQ h' acc c as (fun b o m1 m2 m3 m4 m5 e => hk b o m1 m2 m3 m4 m5 (oth b o m1 e)) hS' hl ⟨P.rise, fun a ha => Nat.le_of_lt (Nat.lt_of_succ_le (P.low a ha)), P.pair⟩ (fun a ha => Nat.ne_of_gt (Nat.lt_of_succ_le (P.low a ha))) hacc⟩
end
end Bk

namespace Bk
open PySem PySem.Calls PySem.Spec PyProof.Rows L2
open Evl (Ex Ev EvT EvL EvU EvA)
/-! ### list(zip(t, u)) as an expression -/
def tListZip (K : PySem.W.Frag) (ta : TA) : TE := fun σ H Q => ta σ H fun vs H1 => ∃ (a b : Addr) (xs ys : List V), vs = [.ref a, .ref b] ∧ SqT K H1 a xs ∧ SqT K H1 b ys ∧
  ∀ (l : Addr) (ps : List Addr) (H2 : Hp), H1 l = none → (∀ c o, H1 c = some o → H2 c = some o) → H2 l = some (.lst (ps.map V.ref)) → ps.length = min xs.length ys.length → (∀ (j : Nat) (p : Addr), ps[j]? = some p → ∃ x y, xs[j]? = some x ∧ ys[j]? = some y ∧ H2 p = some (.tup [x, y])) → Q (.ref l) H2
theorem pe_listzip {X : Cx} {e e2 : Expr} {ta : TA} {p p2 q pos : Pos} (hgl : Gl X "list") (hml : X.mg "list" = none) (hg : Gl X "zip") (hm : X.mg "zip" = none) (ha : PA X [e, e2] ta) (hc : X.calm = true := by rfl)
    (hs : starEach [e, e2] X.env = (false, eval e X.env) :: starEach [e2] X.env := by rfl) (hpl : (backTo q (starEach [e2] X.env)).any (·.1) = false := by rfl) :
    PE X (.Call (.Name "list" p) [.Call (.Name "zip" p2) [e, e2] [] q] [] pos) (tListZip X.K ta) := by
  refine ⟨fun pins s σ H Q I h => ?_⟩
  refine Call_ (ld_blt I hgl hml PyProof.Rows.boot_list ?_)
  refine PyProof.Rows.callWith_type1 (PyProof.Rows.args_cons ?_ rfl) rfl rfl
  refine Call_ (ld_blt I hg hm PyProof.Rows.boot_zip (PyProof.Rows.callWith_type1 (thn (ha.run q pins s σ H _ I h) fun us s1 ⟨vs, H1, I1, r1, q1⟩ => ?_) hs hpl))
  obtain ⟨a, b, xs, ys, ex, hqx, hqy, q1⟩ := q1
  subst ex
  cases r1 with
  | cons r rr =>
    cases rr with
    | cons r' rr =>
      cases rr
      cases r
      cases r'
      obtain ⟨its, rv, p1, z1⟩ := I1.tuple hqx
      obtain ⟨its2, rv2, p2', z2⟩ := I1.tuple hqy
      obtain ⟨o1, ho1, _⟩ := id p1
      obtain ⟨o2, ho2, _⟩ := id p2'
      refine RZ.call_zipT (show s1.heap.IsTuple a its.toArray from p1) (show s1.heap.IsTuple b its2.toArray from p2') fun h' hz hTI hTO h1 h2 hsz hk => ?_
      refine PyProof.Rows.args_nil ?_
      have D := PySem.W.ktu_apart s1.heap.objs.size a b (Heap.lt_size ho1) (Heap.lt_size ho2)
      have lx := rv.length
      have ly := rv2.length
      have t : Zn h' (s1.heap.objs.size + 4) (s1.heap.objs.size + 2) (s1.heap.objs.size + 3) s1.heap.objs.size (s1.heap.objs.size + 1) a b its.toArray its2.toArray := ⟨D, hz, hTI, hTO, h1, h2, let ⟨o, e, r⟩ := p1; ⟨o, hk _ _ e, r⟩, let ⟨o, e, r⟩ := p2'; ⟨o, hk _ _ e, r⟩⟩
      refine zl_call (s := { s1 with heap := h' }) (I1.ok.hd hc) t rfl (by simp only [List.size_toArray]; omega) fun h2' acc c as hkp hS hl P hne hacc => ?_
      dsimp only at hkp hS P hne ⊢
      rw [hsz] at hkp hS P hne ⊢
      have kF : ∀ bb o, s1.heap.get? bb = some o → h2'.get? bb = some o := fun bb o e => by
        have lt := Heap.lt_size e
        have nn : ∀ k : Nat, bb ≠ s1.heap.objs.size + k := fun k => Nat.ne_of_lt (Nat.lt_of_lt_of_le lt (Nat.le_add_right _ k))
        exact hkp bb o (nn 5) (nn 4) (nn 3) (nn 0) (nn 1) (hk _ _ e)
      have I2 : Inv X pins σ H1 { s1 with heap := h2' } := I1.kept (t' := s1.toks) kF
      have nd : as.Nodup := List.Pairwise.imp (fun h => Nat.ne_of_lt h) P.rise
      have fr : ∀ {x : Addr}, s1.heap.objs.size ≤ x → H1 x = none := fun h => I1.hok.fresh h
      have hSn : H1 (s1.heap.objs.size + 5) = none := fr (Nat.le_add_right _ 5)
      have rvL : Vals (as.map V.ref) acc.toList := by
        rw [hacc]
        exact vals_maps (fun z : Addr => V.ref z) (fun z => Value.ref z) as fun _ _ => rfl
      have I2b : Inv X pins σ (upd H1 (s1.heap.objs.size + 5) (.lst (as.map V.ref))) { s1 with heap := h2' } :=
        I2.take (h' := h2') (t' := s1.toks) (fun b ob _ e => e) (I1.fpOk (Nat.le_add_right _ 5) hSn) ⟨by rw [List.length_map, hl]; simp only [List.size_toArray]; omega, acc.toList, c, rvL, by simpa using hS⟩
      obtain ⟨H2, I3, g, qt⟩ := L2.DX.takeT (P := fun p vs => ∃ (j : Nat) (x y : V), as[j]? = some p ∧ xs[j]? = some x ∧ ys[j]? = some y ∧ vs = [x, y]) I1 as _ I2b nd fun p hp => by
        obtain ⟨j, hj⟩ := List.mem_iff_getElem?.mp hp
        obtain ⟨u, v, e1, e2', e3⟩ := P.pair j p hj
        have e1' : its[j]? = some u := by simpa using e1
        have e2'' : its2[j]? = some v := by simpa using e2'
        have j1 : j < xs.length := by have := (List.getElem?_eq_some_iff.mp e1').1; omega
        have j2 : j < ys.length := by have := (List.getElem?_eq_some_iff.mp e2'').1; omega
        obtain ⟨u', f1, ru⟩ := rv.get (List.getElem?_eq_getElem j1)
        obtain ⟨v', f2, rv'⟩ := rv2.get (List.getElem?_eq_getElem j2)
        rw [e1'] at f1
        rw [e2''] at f2
        obtain rfl := Option.some.inj f1
        obtain rfl := Option.some.inj f2
        have hle := P.low p hp
        refine ⟨Nat.le_trans (Nat.le_add_right _ 5) hle, ?_, [xs[j], ys[j]], ⟨j, _, _, hj, List.getElem?_eq_getElem j1, List.getElem?_eq_getElem j2, rfl⟩, fun H3 => ⟨(by rw [sizeLine_eq]; show 2 ≤ 16777216; omega), [u, v], .cons ru (.cons rv' .nil), ⟨_, e3, rfl, 0, rfl⟩⟩⟩
        rw [upd_ne (hne p hp)]
        exact fr (Nat.le_trans (Nat.le_add_right _ 5) hle)
      refine ⟨.ref (s1.heap.objs.size + 5), H2, I3, rfl, q1 _ as H2 hSn (fun c o e => g c o (by rw [upd_ne (fun z => by rw [z, hSn] at e; cases e)]; exact e)) (g _ _ upd_same) (by rw [hl]; simp only [List.size_toArray]; omega) fun j p hj => ?_⟩
      obtain ⟨vs, ⟨j', x, y, g1, g2, g3, rfl⟩, hH⟩ := qt p (List.mem_of_getElem? hj)
      have eij : j = j' := (List.getElem?_inj (List.getElem?_eq_some_iff.mp hj).1 nd).mp (hj.trans g1.symm)
      subst eij
      exact ⟨x, y, g2, g3, hH⟩
end Bk

/-! ### isinstance, in, count, dicts -/
namespace Fx
open PySem PySem.Spec PyProof.Rows L2
open Bk (Dp.ex DpAll.ex DpAll.len DpAll.get DpAll.get' DpAll.app DpAll.take DpAll.drop DpAll.snoc dp_tup dp_lst dp_int dp_str dp_bl ex_new FnG)
open Evl (Ex)
/-! isinstance(x, T), T a built-in type -/
def tyN (s : S) (x : AV) : String :=
  match x with
  | .d .none => "NoneType"
  | .d (.bool _) => "bool"
  | .d (.int _) => "int"
  | .d (.str _) => "str"
  | .d (.list _) => "list"
  | .d (.tuple _) => "tuple"
  | .d (.dict _) => ""
  | x => match cellOf s x with
    | some (.lst _) => "list"
    | some _ => "dict"
    | none => ""
def subTy (t u : String) : Bool := t == u || (t == "bool" && u == "int")
def knownTy (u : String) : Bool := u == "int" || u == "bool" || u == "str" || u == "tuple" || u == "list" || u == "dict"
def gIsi (u : String) (x : AV) (s : S) : R AV := if tyN s x ≠ "" then .ok (.d (.bool (subTy (tyN s x) u))) s else .no
section
variable {K : PySem.W.Frag} {B : Fr} {R : List Addr} {s : S} {σ : L2.St} {H : Hp}
theorem tyx_l {a : Addr} {xs : List V} (h : SqL K H a xs) : TyX K H (.ref a) (.type "list") := by
  rcases h with h | ⟨o, its, n, hk, hc, _⟩
  · rcases h with h | ⟨o, h⟩
    · exact .base (.lst h)
    · exact .base (.frz h)
  · exact .kList hk hc
theorem tyx_t {a : Addr} {xs : List V} (h : SqT K H a xs) : TyX K H (.ref a) (.type "tuple") := by
  rcases h with h | ⟨o, its, n, hk, hc, _⟩
  · rcases h with h | ⟨o, h⟩
    · exact .base (.tup h)
    · exact .fTuple h
  · exact .kTuple hk hc
theorem tyx_v {v : V} {x : AV} (e : Env K B R s σ H) (r : VR K B R s H v x) (h : tyN s x ≠ "") : TyX K H v (.type (tyN s x)) := by
  have cell : ∀ {x : AV}, VR K B R s H v x → (match cellOf s x with | some (.lst _) => "list" | some _ => "dict" | none => "") ≠ "" → TyX K H v (.type (match cellOf s x with | some (.lst _) => "list" | some _ => "dict" | none => "")) := fun {x} r h => by
    cases q : cellOf s x with
    | none => rw [q] at h; exact absurd rfl h
    | some c =>
      obtain ⟨a, rfl, _, _, hc⟩ := e.cell r q
      cases c with
      | lst ds => obtain ⟨us, h1, _⟩ := hc; exact .base (.lst h1)
      | dic kvs => obtain ⟨us, h1, _⟩ := hc; exact .base (.dK h1)
      | dit kvs => obtain ⟨us, h1, _⟩ := hc; exact .base (.dT h1)
  cases x with
  | d y =>
    cases y with
    | none => cases r; exact .base .non
    | bool b => cases r; exact .base (.bl b)
    | int i => cases r; exact .base (.int i)
    | str z => cases r; exact .base (.str z)
    | list ds => obtain ⟨a, xs, rfl, h1, _⟩ := dp_lst r; exact tyx_l (Evl.ex_l hd_sub h1)
    | tuple ds => obtain ⟨a, xs, rfl, h1, _⟩ := dp_tup r; exact tyx_t (Evl.ex_t hd_sub h1)
    | dict _ => exact absurd rfl h
  | g k => exact cell (x := .g k) r h
  | l k => exact cell (x := .l k) r h
theorem kit_ty {t u : String} (ht : t = "NoneType" ∨ t = "bool" ∨ t = "int" ∨ t = "str" ∨ t = "list" ∨ t = "tuple" ∨ t = "dict") (hu : u = "int" ∨ u = "bool" ∨ u = "str" ∨ u = "tuple" ∨ u = "list" ∨ u = "dict") : PySem.W.kitOne K (.type t) (.type u) = some (subTy t u) := by
  rcases ht with rfl | rfl | rfl | rfl | rfl | rfl | rfl <;> rcases hu with rfl | rfl | rfl | rfl | rfl | rfl <;> rfl
theorem tyN_in {x : AV} (h : tyN s x ≠ "") : tyN s x = "NoneType" ∨ tyN s x = "bool" ∨ tyN s x = "int" ∨ tyN s x = "str" ∨ tyN s x = "list" ∨ tyN s x = "tuple" ∨ tyN s x = "dict" := by
  unfold tyN at h ⊢
  repeat' split
  all_goals first | (simp; done) | (simp_all; done)
end
section
variable {X : Cx} {B : Fr} {a b c e : Expr} {fa fb fe : S → R AV} {fs : S → R (List AV)} {p pos : Pos}
theorem pf_isi {u : String} (hg : Gl X "isinstance") (hm : X.mg "isinstance" = none) (ha : PE X a (rE X.K B fa)) (hb : PE X b (tC (.ty u))) (hu : u = "int" ∨ u = "bool" ∨ u = "str" ∨ u = "tuple" ∨ u = "list" ∨ u = "dict" := by decide)
    (h1 : starEach [a, b] X.env = (false, eval a X.env) :: starEach [b] X.env := by rfl) (h2 : starEach [b] X.env = (false, eval b X.env) :: starEach [] X.env := by rfl) (hpl : (backTo pos (starEach [b] X.env)).any (·.1) = false := by rfl) :
    PE X (.Call (.Name "isinstance" p) [a, b] [] pos) (rE X.K B (f1 (gIsi u) fa)) := pe_imp (pe_callB call_isi hg hm (by decide +kernel) (pa_cons ha (pa_cons hb pa_nil h2) h1) (by decide) (by decide) h1 hpl) fun σ H Q ⟨R, s, en, q⟩ => ⟨R, s, en, post_bind q fun x s1 R1 v H1 _ e1 st r q1 => by
  unfold gIsi at q1
  by_cases h : tyN s1 x ≠ ""
  · rw [if_pos h] at q1
    exact ⟨v, .ty u, _, _, _, rfl, .ty u, tyx_v e1 r h, kit_ty (tyN_in h) hu, q1.bool e1⟩
  · rw [if_neg h] at q1; exact q1.elim⟩
end
/-! keys -/
def keyOf : PyData → Option Key
  | .int i => some (.inl i)
  | .str x => some (.inr x)
  | _ => none
def keysOf : List PyData → Option (List Key)
  | [] => some []
  | d :: ds => match keyOf d, keysOf ds with | some k, some ks => some (k :: ks) | _, _ => none
theorem keyOf_d {d : PyData} {k : Key} (h : keyOf d = some k) : d = keyD k := by
  cases d <;> simp [keyOf] at h <;> subst h <;> rfl
theorem keysOf_d : ∀ {ds : List PyData} {ks : List Key}, keysOf ds = some ks → ds = ks.map keyD
  | [], ks, h => by cases h; rfl
  | d :: ds, ks, h => by
    unfold keysOf at h
    cases h1 : keyOf d with
    | none => rw [h1] at h; cases h
    | some k =>
      cases h2 : keysOf ds with
      | none => rw [h1, h2] at h; cases h
      | some l =>
        rw [h1, h2] at h
        cases h
        rw [keyOf_d h1, keysOf_d h2]; rfl
theorem keyD_inj {a b : Key} (h : keyD a = keyD b) : a = b := by
  cases a <;> cases b <;> simp [keyD] at h <;> simp [h]
theorem dpKey {K : PySem.W.Frag} {H : Hp} {v : V} {k : Key} (h : Dp K H v (keyD k)) : v = kV k := by
  cases k with
  | inl i => exact dp_int h
  | inr x => exact dp_str h
theorem dpKeys {K : PySem.W.Frag} {H : Hp} : ∀ {vs : List V} {ks : List Key}, DpAll K H vs (ks.map keyD) → vs = ks.map kV
  | _, [], h => by cases h; rfl
  | _, k :: ks, h => by
    cases h with
    | cons h1 h2 => rw [dpKey h1, dpKeys h2]; rfl
def sameK (a b : PyData) : Bool :=
  match keyOf a, keyOf b with
  | some x, some y => decide (x = y)
  | _, _ => false
/-- what a dict holds at a key -/
def getD' {κ : Type} [DecidableEq κ] (ks : List κ) (vs : List PyData) (k : κ) : Option PyData := ((ks.zip vs).find? fun kv => decide (kv.1 = k)).map (·.2)
theorem getD_v {κ : Type} [DecidableEq κ] {K : PySem.W.Frag} {Hh : Hp} : ∀ {us : List (κ × V)} {ds : List PyData} (k : κ), DpAll K Hh (us.map (·.2)) ds → match valV us k, getD' (us.map (·.1)) ds k with | some v, some d => Dp K Hh v d | none, none => True | _, _ => False
  | [], _, k, h => by cases h; exact True.intro
  | p :: us, ds, k, h => by
    cases h with
    | cons h1 h2 =>
      unfold valV getD'
      simp only [List.map_cons, List.zip_cons_cons, List.find?_cons]
      by_cases q : p.1 = k
      · simp only [q, decide_true]; exact h1
      · simp only [q, decide_false]; exact getD_v k h2
def OV (K : PySem.W.Frag) (Hh : Hp) : Option V → Option PyData → Prop
  | some v, some d => Dp K Hh v d
  | none, none => True
  | _, _ => False
/-! the keys of a cell, told back from data -/
def unkeys : List PyData → List Key
  | [] => []
  | d :: ds => match keyOf d with | some k => k :: unkeys ds | none => unkeys ds
theorem unkeys_map : ∀ (ks : List Key), unkeys (ks.map keyD) = ks
  | [] => rfl
  | .inl i :: ks => by simp [unkeys, keyD, keyOf, unkeys_map ks]
  | .inr x :: ks => by simp [unkeys, keyD, keyOf, unkeys_map ks]
theorem keysOf_map : ∀ (ks : List Key), keysOf (ks.map keyD) = some ks
  | [] => rfl
  | .inl i :: ks => by simp [keysOf, keyD, keyOf, keysOf_map ks]
  | .inr x :: ks => by simp [keysOf, keyD, keyOf, keysOf_map ks]
/-- a dict at a key -/
def findD (kvs : List (PyData × PyData)) (k : PyData) : Option PyData := (kvs.find? fun kv => match kv.1, k with
  | .int i, .int j => decide (i = j)
  | .str x, .str y => decide (x = y)
  | .tuple xs, .tuple ys => match keysOf xs, keysOf ys with | some a, some b => decide (a = b) | _, _ => false
  | _, _ => false).map (·.2)
theorem findD_k {K : PySem.W.Frag} {Hh : Hp} {k : Key} : ∀ {us : List (Key × V)} {kvs : List (PyData × PyData)}, kvs.map (·.1) = us.map (fun p => keyD p.1) → DpAll K Hh (us.map (·.2)) (kvs.map (·.2)) → OV K Hh (valV us k) (findD kvs (keyD k))
  | [], [], _, _ => True.intro
  | [], _ :: _, h, _ => by cases h
  | _ :: _, [], h, _ => by cases h
  | p :: us, q :: kvs, h, r => by
    simp only [List.map_cons, List.cons.injEq] at h r
    cases r with
    | cons r1 r2 =>
      obtain ⟨h1, h2⟩ := h
      have ih := findD_k (k := k) h2 r2
      have key : (match q.1, keyD k with | .int i, .int j => decide (i = j) | .str x, .str y => decide (x = y) | .tuple xs, .tuple ys => (match keysOf xs, keysOf ys with | some a, some b => decide (a = b) | _, _ => false) | _, _ => false) = decide (p.1 = k) := by
        rw [h1]
        obtain ⟨pk, pv⟩ := p
        cases pk <;> cases k <;> simp [keyD]
      unfold valV findD at ih ⊢
      simp only [List.find?_cons, key]
      by_cases c : p.1 = k
      · simp only [c, decide_true]; exact r1
      · simp only [c, decide_false]; exact ih
theorem findD_t {K : PySem.W.Frag} {Hh : Hp} {k : List Key} : ∀ {us : List (List Key × V)} {kvs : List (PyData × PyData)}, kvs.map (·.1) = us.map (fun p => PyData.tuple (p.1.map keyD)) → DpAll K Hh (us.map (·.2)) (kvs.map (·.2)) → OV K Hh (valV us k) (findD kvs (.tuple (k.map keyD)))
  | [], [], _, _ => True.intro
  | [], _ :: _, h, _ => by cases h
  | _ :: _, [], h, _ => by cases h
  | p :: us, q :: kvs, h, r => by
    simp only [List.map_cons, List.cons.injEq] at h r
    cases r with
    | cons r1 r2 =>
      obtain ⟨h1, h2⟩ := h
      have ih := findD_t (k := k) h2 r2
      have key : (match q.1, PyData.tuple (k.map keyD) with | .int i, .int j => decide (i = j) | .str x, .str y => decide (x = y) | .tuple xs, .tuple ys => (match keysOf xs, keysOf ys with | some a, some b => decide (a = b) | _, _ => false) | _, _ => false) = decide (p.1 = k) := by
        rw [h1]; simp [keysOf_map]
      unfold valV findD at ih ⊢
      simp only [List.find?_cons, key]
      by_cases c : p.1 = k
      · simp only [c, decide_true]; exact r1
      · simp only [c, decide_false]; exact ih
/-! what a dict is asked -/
/-- the key as the dict's kind wants it: K: an int or a text; T: a tuple of these -/
def ask (c : Cel) (k : PyData) : Option (Option PyData) :=
  match c with
  | .dic kvs => match keyOf k with | some _ => some (findD kvs k) | none => none
  | .dit kvs => match k with | .tuple xs => (match keysOf xs with | some _ => some (findD kvs k) | none => none) | _ => none
  | .lst _ => none
/-- d[k], of a dict -/
def rGetA (K : PySem.W.Frag) : R2 := fun x y H Q => ∃ a v, x = .ref a ∧ (DGet H a y (some v) ∨ Bk.RGet K H a y (some v)) ∧ Q v H
def rInA (K : PySem.W.Frag) (neg : Bool) : R2 := fun y x H Q => ∃ a o, x = .ref a ∧ (DGet H a y o ∨ Bk.RGet K H a y o) ∧ Q (.bl (if neg then !o.isSome else o.isSome)) H
section
variable {X : Cx}
theorem ix_dict (hu : X.A.units + 1 < cLine) : IxR X (rGetA X.K) := by
  intro value slice pins s σ H x y v u Q I rx ry h hs
  obtain ⟨a, w', rfl, g, q⟩ := h
  obtain rfl : v = Value.ref a := rx
  have hT : s.TypeIs (.ref a) "dict" := by
    rcases g with g | ⟨kvs, k, b, e, ey, eb, l⟩
    · exact dict_typeIs I g
    · obtain ⟨_, _, xs, _, dd⟩ := dt_rd I.hok (.inl e)
      exact dd.typeIs
  have h2 : wpAny (model X.prog X.w) X.A (getItem (.ref a) u) (EP X pins σ Q) X.xe s := by
    rcases g with g | ⟨kvs, k, b, e, ey, eb, l⟩
    · exact d_getItem hu I g ry fun w' s3 I3 rw' => ⟨_, H, I3, rw', q⟩
    · subst ey
      cases (show u = Value.ref b from ry)
      obtain ⟨z, hd, xs, rel, dd⟩ := dt_rd I.hok (.inl e)
      obtain ⟨w', hw, rw'⟩ := RelO.some_of (v := w') (o := (atKey xs k).map (·.2)) (by rw [l]; exact rel.val k)
      obtain ⟨p, hp, hp2⟩ := Option.map_eq_some_iff.mp hw
      refine wpAny_getItem_heap (tupleKind_room_in1 hu) (Bk.key_ofS I eb) dd hp ?_
      rw [hp2]
      exact ⟨_, H, I.tok _, rw', q⟩
  unfold subscriptTail
  refine wpAny_bind ?_
  rw [getitemInPython_of_ne hT.not_modules]
  refine wpAny_bind (wpAny_specialOf hT PySem.F.slot_dict_getitem.lookup ?_)
  have fin : wpAny (model X.prog X.w) X.A (subscripted slice false (.ref a) u) (fun r s₃ => wpAny (model X.prog X.w) X.A (letTemporaryGo value (.ref a) r >>= fun _ => pure r) (EP X pins σ Q) X.xe s₃) X.xe s := by
    rw [hs]
    exact wpAny_operating (wpAny_mono h2 (fun r s₃ h₃ => wpAny_bind (wpAny_letTemporaryGo (wpAny_pure h₃))) fun _ _ x => x)
  first
    | exact wpAny_pure (wpAny_bind fin)
    | exact wpAny_bind (wpAny_pure (wpAny_bind fin))
    | exact wpAny_bind fin
end
section
variable {X : Cx} {K : PySem.W.Frag} {B : Fr} {R : List Addr} {s : S} {σ : L2.St} {H : Hp}
/-- what a cell says of a key -/
theorem ask_v {x : AV} {c : Cel} {v w : V} {k : PyData} {o : Option PyData} (e : Env K B R s σ H) (r : VR K B R s H v x) (hc : cellOf s x = some c) (rk : Dp K (hdS B R s H) w k) (h : ask c k = some o) :
    ∃ a ov, v = .ref a ∧ (DGet H a w ov ∨ Bk.RGet K H a w ov) ∧ OV K (hdS B R s H) ov o := by
  obtain ⟨a, rfl, _, _, hcel⟩ := e.cell r hc
  cases c with
  | lst _ => cases h
  | dic kvs =>
    obtain ⟨us, h1, h2, h3⟩ := hcel
    unfold ask at h
    dsimp only at h
    cases q : keyOf k with
    | none => rw [q] at h; cases h
    | some kk =>
      rw [q] at h
      cases h
      rw [keyOf_d q] at rk ⊢
      have := findD_k (k := kk) h2 h3
      exact ⟨a, valV us kk, rfl, .inl (.inl ⟨us, kk, .inl h1, dpKey rk, rfl⟩), this⟩
  | dit kvs =>
    obtain ⟨us, h1, h2, h3⟩ := hcel
    unfold ask at h
    dsimp only at h
    cases k with
    | tuple xs =>
      dsimp only at h
      cases q : keysOf xs with
      | none => rw [q] at h; cases h
      | some ks =>
        rw [q] at h
        cases h
        rw [keysOf_d q] at rk ⊢
        obtain ⟨b, ws, rfl, w1, w2⟩ := dp_tup rk
        rw [dpKeys w2] at w1
        have := findD_t (k := ks) h2 h3
        exact ⟨a, valV us ks, rfl, .inr ⟨us, ks, b, h1, rfl, Evl.ex_t hd_sub w1, rfl⟩, this⟩
    | _ => cases h
end
def isDic (s : S) (x : AV) : Bool :=
  match cellOf s x with
  | some (.dic _) => true
  | some (.dit _) => true
  | _ => false
/-- d[k] of a dict -/
def gGet (x y : AV) (s : S) : R AV :=
  match cellOf s x, y with
  | some c, .d k => match ask c k with
    | some (some d) => .ok (.d d) s
    | _ => .no
  | _, _ => .no
def gIx (x y : AV) (s : S) : R AV := if isDic s x then gGet x y s else p2 ixD x y s
def rIxA (K : PySem.W.Frag) : R2 := fun x y H Q => rGetA K x y H Q ∨ rIx K x y H Q
theorem s_ixA {K : PySem.W.Frag} : Op2 K (rIxA K) gIx := fun B R s σ H v w x y Q e r1 r2 q => by
  unfold gIx at q
  by_cases hd : isDic s x = true
  · rw [if_pos hd] at q
    unfold gGet at q
    split at q
    · rename_i c k hc
      cases h : ask c k with
      | none => rw [h] at q; exact q.elim
      | some o =>
        cases o with
        | none => rw [h] at q; exact q.elim
        | some d =>
          rw [h] at q
          obtain ⟨a, ov, rfl, g, m⟩ := ask_v e r1 hc r2 h
          cases ov with
          | none => exact m.elim
          | some u => exact .inl ⟨a, u, rfl, g, q.dat e m⟩
    · exact q.elim
  · rw [if_neg hd] at q
    exact .inr (s_ix B R s σ H v w x y Q e r1 r2 q)
section
variable {X : Cx} {B : Fr} {a b c e e2 : Expr} {fa fb fe fo fi : S → R AV} {fs : S → R (List AV)} {p pos : Pos}
theorem pf_ixA (hu : X.A.units + 1 < cLine) (ha : PE X a (rE X.K B fa)) (hb : PE X b (rE X.K B fb)) (hs : PlainIx b) : PE X (.Subscript a b pos) (rE X.K B (f2 gIx fa fb)) := pe_imp (pe_ix (IxR.or (ix_dict hu) ix_seq) ha hb hs) (q_op s_ixA)
end
/-! in, not in -/
def rInT (K : PySem.W.Frag) (neg : Bool) : R2 := fun x y H Q => ∃ d ds, Dp K H x d ∧ (Dp K H y (.list ds) ∨ Dp K H y (.tuple ds)) ∧ SeqAt.shaped d = true ∧ PyData.canLayAll0 ds = true ∧ Q (.bl (if neg then !(ds.any fun z => PyData.eqv z d) else ds.any fun z => PyData.eqv z d)) H
def rInX (K : PySem.W.Frag) (neg : Bool) : R2 := fun x y H Q => rInA K neg x y H Q ∨ rInT K neg x y H Q ∨ (∃ i j, x = .str i ∧ y = .str j ∧ Q (.bl (if neg then !(!(Builtin.Str.occurrences j i 0 j.length 1).isEmpty) else !(Builtin.Str.occurrences j i 0 j.length 1).isEmpty)) H)
section
variable {X : Cx}
theorem op_inA (hu : X.A.units + 64 < cLine) (hu1 : X.A.units + 1 < cLine) (hu2 : X.A.units + 65 < cLine) : OpR X (compareOp .In) (rInX X.K false) := by
  intro pins s σ H y x v u Q I ry rx h
  rcases h with ⟨a, ov, rfl, g, q⟩ | ⟨d, ds, hd, he, sd, se, q⟩ | h
  · obtain rfl : u = Value.ref a := rx
    rcases g with g | ⟨kvs, k, b, e, ey, eb, l⟩
    · exact d_in hu1 I g ry fun s3 I3 => ⟨.bl ov.isSome, H, I3, rfl, q⟩
    · subst ey
      cases (show v = Value.ref b from ry)
      obtain ⟨z, hd, xs, rel, dd⟩ := dt_rd I.hok (.inl e)
      refine wpAny_in_heap (tupleKind_room_in1 hu1) (Bk.key_ofS I eb) hd dd ?_
      have q2 := (rel.val k).isSome_eq
      rw [Option.isSome_map, ← l] at q2
      rw [← q2]
      exact ⟨.bl ov.isSome, H, I.tok _, rfl, q⟩
  · obtain ⟨as, r1⟩ := Dp.reads I d y v hd ry
    rcases he with he | he
    · obtain ⟨bs, r2⟩ := Dp.reads I (.list ds) x u he rx
      exact SeqAt.in_list_reads r2 r1 se (SeqAt.canLay_of_shaped sd) (room_in_shaped sd hu2) ⟨.bl _, H, I, rfl, q⟩
    · obtain ⟨bs, r2⟩ := Dp.reads I (.tuple ds) x u he rx
      exact SeqAt.in_tuple_reads r2 r1 se (SeqAt.canLay_of_shaped sd) (room_in_shaped sd hu2) ⟨.bl _, H, I, rfl, q⟩
  · exact op_in_str pins s σ H y x v u Q I ry rx h
theorem op_ninA (hu : X.A.units + 64 < cLine) (hu1 : X.A.units + 1 < cLine) (hu2 : X.A.units + 65 < cLine) : OpR X (compareOp .NotIn) (rInX X.K true) := by
  intro pins s σ H y x v u Q I ry rx h
  rcases h with ⟨a, ov, rfl, g, q⟩ | ⟨d, ds, hd, he, sd, se, q⟩ | h
  · obtain rfl : u = Value.ref a := rx
    rcases g with g | ⟨kvs, k, b, e, ey, eb, l⟩
    · exact d_notIn hu1 I g ry fun s3 I3 => ⟨.bl (!ov.isSome), H, I3, rfl, q⟩
    · subst ey
      cases (show v = Value.ref b from ry)
      obtain ⟨z, hd, xs, rel, dd⟩ := dt_rd I.hok (.inl e)
      refine wpAny_notIn_heap (tupleKind_room_in1 hu1) (Bk.key_ofS I eb) hd dd ?_
      have q2 := (rel.val k).isSome_eq
      rw [Option.isSome_map, ← l] at q2
      rw [← q2]
      exact ⟨.bl (!ov.isSome), H, I.tok _, rfl, q⟩
  · obtain ⟨as, r1⟩ := Dp.reads I d y v hd ry
    rcases he with he | he
    · obtain ⟨bs, r2⟩ := Dp.reads I (.list ds) x u he rx
      exact SeqAt.notIn_list_reads r2 r1 se (SeqAt.canLay_of_shaped sd) (room_in_shaped sd hu2) ⟨.bl _, H, I, rfl, q⟩
    · obtain ⟨bs, r2⟩ := Dp.reads I (.tuple ds) x u he rx
      exact SeqAt.notIn_tuple_reads r2 r1 se (SeqAt.canLay_of_shaped sd) (room_in_shaped sd hu2) ⟨.bl _, H, I, rfl, q⟩
  · exact op_notin_str pins s σ H y x v u Q I ry rx h
end
def inD (neg : Bool) : PyData → PyData → Rs
  | d, .list ds => if SeqAt.shaped d && PyData.canLayAll0 ds then .d (.bool (if neg then !(ds.any fun z => PyData.eqv z d) else ds.any fun z => PyData.eqv z d)) else .no
  | d, .tuple ds => if SeqAt.shaped d && PyData.canLayAll0 ds then .d (.bool (if neg then !(ds.any fun z => PyData.eqv z d) else ds.any fun z => PyData.eqv z d)) else .no
  | .str i, .str j => .d (.bool (if neg then !(!(Builtin.Str.occurrences j i 0 j.length 1).isEmpty) else !(Builtin.Str.occurrences j i 0 j.length 1).isEmpty))
  | _, _ => .no
def gIn (neg : Bool) (y x : AV) (s : S) : R AV :=
  if isDic s x then (match cellOf s x, y with
    | some c, .d k => match ask c k with
      | some o => .ok (.d (.bool (if neg then !o.isSome else o.isSome))) s
      | none => .no
    | _, _ => .no)
  else p2 (inD neg) y x s
theorem isSome_m {K : PySem.W.Frag} {Hh : Hp} {ov : Option V} {o : Option PyData} (h : OV K Hh ov o) : ov.isSome = o.isSome := by
  cases ov <;> cases o <;> first | rfl | exact h.elim
theorem s_inA {K : PySem.W.Frag} {neg : Bool} : Op2 K (rInX K neg) (gIn neg) := fun B R s σ H v w y x Q e r1 r2 q => by
  unfold gIn at q
  by_cases hd : isDic s x = true
  · rw [if_pos hd] at q
    split at q
    · rename_i c k hc
      cases h : ask c k with
      | none => rw [h] at q; exact q.elim
      | some o =>
        rw [h] at q
        obtain ⟨a, ov, rfl, g, m⟩ := ask_v e r2 hc r1 h
        refine .inl ⟨a, ov, rfl, g, ?_⟩
        rw [isSome_m m]
        exact q.bool e
    · exact q.elim
  · rw [if_neg hd] at q
    unfold p2 at q
    cases h1 : rd s y with
    | none => rw [h1] at q; exact q.elim
    | some a =>
      cases h2 : rd s x with
      | none => rw [h1, h2] at q; exact q.elim
      | some b =>
        rw [h1, h2] at q
        have d1 := (e.rd r1 h1).dp hd_sub
        have d2 := (e.rd r2 h2).dp hd_sub
        dsimp only at q
        have txts : ∀ {i j : Str}, a = .str i → b = .str j → rInX K neg v w H Q := fun {i j} ea eb => by
          subst ea; subst eb
          exact .inr (.inr ⟨i, j, dp_str d1, dp_str d2, q.bool e⟩)
        cases b with
        | list ds =>
          have q : Post K B (vE K B) σ R s H (gv (if SeqAt.shaped a && PyData.canLayAll0 ds then .d (.bool (if neg then !(ds.any fun z => PyData.eqv z a) else ds.any fun z => PyData.eqv z a)) else .no) s) Q := by
            cases a <;> exact q
          obtain ⟨h, q⟩ := post_if q
          rw [Bool.and_eq_true] at h
          exact .inr (.inl ⟨a, ds, d1, .inl d2, h.1, h.2, q.bool e⟩)
        | tuple ds =>
          have q : Post K B (vE K B) σ R s H (gv (if SeqAt.shaped a && PyData.canLayAll0 ds then .d (.bool (if neg then !(ds.any fun z => PyData.eqv z a) else ds.any fun z => PyData.eqv z a)) else .no) s) Q := by
            cases a <;> exact q
          obtain ⟨h, q⟩ := post_if q
          rw [Bool.and_eq_true] at h
          exact .inr (.inl ⟨a, ds, d1, .inr d2, h.1, h.2, q.bool e⟩)
        | str j =>
          cases a with
          | str i => exact txts rfl rfl
          | _ => exact q.elim
        | _ => cases a <;> exact q.elim
theorem s_in {K : PySem.W.Frag} : Op2 K (rInX K false) (gIn false) := s_inA
theorem s_nin {K : PySem.W.Frag} : Op2 K (rInX K true) (gIn true) := s_inA
/-! count -/
def gCount (x : AV) (xs : List AV) (s : S) : R AV :=
  match xs with
  | [y] => match rd s x, rd s y with
    | some (.list ds), some d => if PyData.canLayAll0 ds && SeqAt.shaped d then .ok (.d (.int (ds.countP fun z => PyData.eqv z d : Nat))) s else .no
    | _, _ => .no
  | _ => .no
theorem s_count {K : PySem.W.Frag} : MtF K (Bk.rCountD K) gCount := fun B R s σ H v vs x xs Q e r ra q => by
  match xs, ra, q with
  | [], .nil, q => exact q.elim
  | [y], .cons r1 .nil, q =>
    have q : Post K B (vE K B) σ R s H (match rd s x, rd s y with
      | some (.list ds), some d => if PyData.canLayAll0 ds && SeqAt.shaped d then .ok (.d (.int (ds.countP fun z => PyData.eqv z d : Nat))) s else .no
      | _, _ => .no) Q := q
    split at q
    · rename_i ds d z1 z2
      by_cases hs : (PyData.canLayAll0 ds && SeqAt.shaped d) = true
      · rw [if_pos hs] at q
        rw [Bool.and_eq_true] at hs
        obtain ⟨a, us, rfl, u1, u2⟩ := (e.rd r z1).lst hd_sub
        exact ⟨a, _, d, ds, rfl, rfl, .lst u1 (DpAll.ex hd_sub _ _ u2), (e.rd r1 z2).dp hd_sub, hs.1, hs.2, q.int e⟩
      · rw [if_neg hs] at q; exact q.elim
    · exact q.elim
  | _ :: _ :: _, .cons _ (.cons _ _), q => exact q.elim
/-! new dicts, list(d.values()), list(zip(t, u)) -/
def fDic (s : S) : R AV := .ok (.l s.lo.length) (s.push (.dic []))
def fDit (s : S) : R AV := .ok (.l s.lo.length) (s.push (.dit []))
section
variable {X : Cx} {B : Fr} {a b c e e2 o : Expr} {fa fb fe fo fi : S → R AV} {fs : S → R (List AV)} {p p2 q pos apos mpos : Pos}
theorem pf_dic : PE X (.Dict [] [] pos) (rE X.K B fDic) := pe_imp pe_dnewK fun σ H Q ⟨R, s, en, q⟩ => fun p hp => by
  obtain ⟨e1, st, v⟩ := en.push (c := .dic []) hp (ex_new hp) ⟨[], upd_same, rfl, .nil⟩
  exact q _ _ _ e1 st v
theorem pf_dit : PE X (.Dict [] [] pos) (rE X.K B fDit) := pe_imp pe_dnewT fun σ H Q ⟨R, s, en, q⟩ => fun p hp => by
  obtain ⟨e1, st, v⟩ := en.push (c := .dit []) hp (ex_new hp) ⟨[], upd_same, rfl, .nil⟩
  exact q _ _ _ e1 st v
def fVals (f : S → R AV) (s : S) : R AV := (f s).bind fun x s1 =>
  match cellOf s1 x with
  | some (.dit kvs) => .ok (.l s1.lo.length) (s1.push (.lst (kvs.map (·.2))))
  | _ => .no
theorem pf_vals (hc : X.calm = true) (hg : Gl X "list") (hm : X.mg "list" = none) (hd : PE X o (rE X.K B fo)) (hbase : attributeBase o "values" X.env (eval o X.env) = eval o X.env := by rfl) (hline : (apos.endLine == mpos.line) = true := by rfl)
    (hse : starEach [Expr.Call (.Attribute o "values" apos) [] [] mpos] X.env = (false, eval (Expr.Call (.Attribute o "values" apos) [] [] mpos) X.env) :: starEach [] X.env := by rfl) :
    PE X (.Call (.Name "list" p) [.Call (.Attribute o "values" apos) [] [] mpos] [] pos) (rE X.K B (fVals fo)) := pe_imp (Bk.pe_listVals hc hg hm hd hbase hline hse) fun σ H Q ⟨R, s, en, q⟩ => ⟨R, s, en, post_bind q fun x s1 R1 v H1 _ e1 st r q1 => by
  try dsimp only at q1
  cases hc : cellOf s1 x with
  | none => rw [hc] at q1; exact q1.elim
  | some c =>
    rw [hc] at q1
    obtain ⟨a, rfl, _, _, hcel⟩ := e1.cell r hc
    cases c with
    | lst _ => exact q1.elim
    | dic _ => exact q1.elim
    | dit kvs =>
      obtain ⟨us, h1, h2, h3⟩ := hcel
      exact ⟨a, us, rfl, h1, fun p hp => q1.lst e1 h3 hp⟩⟩
end
end Fx

/-! ### sorted, min of data; what is never reached; older promises -/
namespace Fx
open PySem PySem.Spec PyProof.Rows L2
open Bk (Dp.ex DpAll.ex DpAll.len DpAll.get DpAll.get' DpAll.app DpAll.take DpAll.drop DpAll.snoc dp_tup dp_lst dp_int dp_str dp_bl ex_new FnG fz fzA Tu)
open Evl (Ex)
section
variable {K : PySem.W.Frag} {B : Fr} {A : List Addr} {cs : Glo} {R : List Addr} {s : S} {σ : L2.St} {H : Hp}
theorem Cells.tu (h : Cells K A cs H) : Tu H (hd A cs H) := by
  have n1 : ∀ a, Fx.hid A cs a → (∀ xs, H a ≠ some (.tup xs)) ∧ ∀ o u, H a ≠ some (.frz o u) := fun a z => by
    obtain ⟨k, c, h1, h2⟩ := z
    have hc := h.cel k c a h1 h2
    cases c with
    | lst ds => obtain ⟨us, e, _⟩ := hc; rw [e]; exact ⟨fun _ q => (by cases q), fun _ _ q => (by cases q)⟩
    | dic kvs => obtain ⟨us, e, _⟩ := hc; rw [e]; exact ⟨fun _ q => (by cases q), fun _ _ q => (by cases q)⟩
    | dit kvs => obtain ⟨us, e, _⟩ := hc; rw [e]; exact ⟨fun _ q => (by cases q), fun _ _ q => (by cases q)⟩
  exact ⟨fun a xs q => by rw [hd_get fun z => (n1 a z).1 xs q]; exact q, fun a o u q => by rw [hd_get fun z => (n1 a z).2 o u q]; exact q⟩
theorem Env.hide (e : Env K B R s σ H) {v : V} {d : PyData} (hf : fz d = true) (h : Dp K H v d) : Dp K (hdS B R s H) v d := Bk.Dp.tu e.cells.tu d v hf h
theorem Env.hideA (e : Env K B R s σ H) {vs : List V} {ds : List PyData} (hf : fzA ds = true) (h : DpAll K H vs ds) : DpAll K (hdS B R s H) vs ds := Bk.DpAll.tu e.cells.tu ds vs hf h
end
section
variable {X : Cx} {B : Fr} {a b c e e2 o : Expr} {st : Stmt} {fa fb fe fo fi : S → R AV} {fs : S → R (List AV)} {p p2 q pos apos mpos : Pos}
def fNo (s : S) : R Fl := .no
theorem pf_never : PS X st (rS X.K B fNo) := ⟨fun pins s σ H D I h => by obtain ⟨_, _, _, q⟩ := h; exact q.elim⟩
def fNoE (s : S) : R AV := .no
theorem pf_neverE : PE X e (rE X.K B fNoE) := ⟨fun pins s σ H D I h => by obtain ⟨_, _, _, q⟩ := h; exact q.elim⟩
def fPar3 (i j l : Nat) (f : S → R (List AV)) (s : S) : R Fl := (f s).bind fun xs s1 =>
  match xs with
  | [x, y, z] => .ok .nx ({ s1 with sl := ((s1.sl.set i (some x)).set j (some y)).set l (some z) } : S).tidy
  | _ => .no
theorem pf_par3 {i j l : Nat} {x y z : Str} {px py pz pt : Pos} {kt k2 pt2} (hc : X.calm = true) (hN : X.N.Nodup) (hi : X.N[i]? = some x) (hj : X.N[j]? = some y) (hl : X.N[l]? = some z) (hij : i ≠ j) (hil : i ≠ l) (hjl : j ≠ l)
    (hx : X.env.scope.names.lookup x = some .local) (hy : X.env.scope.names.lookup y = some .local) (hz : X.env.scope.names.lookup z = some .local) (ha : PA X [a, b, c] (rA X.K B fs))
    (hw : swappedStores [.Tuple [.Name x px, .Name y py, .Name z pz] kt pt] (.Tuple [a, b, c] k2 pt2) X.env = pure (some [x, y, z]))
    (hs : swapsWithSole [.Tuple [.Name x px, .Name y py, .Name z pz] kt pt] (.Tuple [a, b, c] k2 pt2) pos.line X.env = pure false := by rfl) :
    PS X (.Assign [.Tuple [.Name x px, .Name y py, .Name z pz] kt pt] (.Tuple [a, b, c] k2 pt2) pos) (rS X.K B (fPar3 i j l fs)) := ps_imp (ps_par3 hc hN hi hj hl hij hil hjl hx hy hz ha hw hs) fun D σ H ⟨R, s, e, q⟩ => ⟨R, s, e, post_bindS q fun xs s1 R1 vs H1 _ e1 st r q1 => by
  match xs, r, q1 with
  | [], .nil, q1 => exact q1.elim
  | [_], .cons r1 .nil, q1 => exact q1.elim
  | [_, _], .cons r1 (.cons r2 .nil), q1 => exact q1.elim
  | [x, y, z], .cons r1 (.cons r2 (.cons r3 .nil)), q1 =>
    obtain ⟨R2, e2, k2⟩ := (((e1.set (i := i) r1).set (i := j) r2).set (i := l) r3).tidy
    exact ⟨_, _, _, rfl, q1 R2 _ H1 e2 ⟨k2.hx, k2.dom⟩⟩
  | _ :: _ :: _ :: _ :: _, .cons _ (.cons _ (.cons _ (.cons _ _))), q1 => exact q1.elim⟩
end
/-! min, sorted -/
def alikeB (ds : List PyData) : Bool := ds.all fun x => ds.all fun y => PySem.W.alike x y
def notNone : PyData → Bool
  | .none => false
  | _ => true
def minAD : PyData → Rs
  | .list (d :: ds) => if alikeB (d :: ds) && (d :: ds).all notNone && decide (PyData.depthAll (d :: ds) ≤ 61) && fzA (d :: ds) then .d (PySem.W.minD d ds) else .no
  | _ => .no
theorem alikeB_ok {ds : List PyData} (h : alikeB ds = true) : ∀ x ∈ ds, ∀ y ∈ ds, PySem.W.alike x y = true := fun x hx y hy => List.all_eq_true.mp (List.all_eq_true.mp h x hx) y hy
theorem fzA_mem : ∀ {ds : List PyData} {d : PyData}, fzA ds = true → d ∈ ds → fz d = true
  | e :: ds, d, h, hm => by
    have h : fz e = true ∧ fzA ds = true := by simpa [fzA] using h
    rcases List.mem_cons.mp hm with q | q
    · rw [q]; exact h.1
    · exact fzA_mem h.2 q
section
variable {K : PySem.W.Frag}
theorem s_minA : OpN K (Bk.rMinD K) (n1 minAD) := op_n1 fun B R s σ H v a Q e r1 h => by
  match a, h with
  | .list (d :: ds), h =>
    obtain ⟨c, q⟩ := post_if h
    simp only [Bool.and_eq_true, decide_eq_true_eq] at c
    obtain ⟨⟨⟨c1, c2⟩, c3⟩, c4⟩ := c
    refine ⟨v, d, ds, rfl, r1.dp hd_sub, ⟨alikeB_ok c1, fun x hx z => ?_⟩, c3, fun x hx => ?_⟩
    · have := List.all_eq_true.mp c2 x hx
      rw [z] at this; cases this
    · exact q.dat e (e.hide (fzA_mem c4 (Bk.minD_mem ds d)) hx)
  | .list [], h => exact (post_no h).elim
  | .none, h => exact (post_no h).elim
  | .bool _, h => exact (post_no h).elim
  | .int _, h => exact (post_no h).elim
  | .str _, h => exact (post_no h).elim
  | .tuple _, h => exact (post_no h).elim
  | .dict _, h => exact (post_no h).elim
def fulls : PyData → Bool
  | .tuple (_ :: _) => true
  | _ => false
def plains : PyData → Bool
  | .tuple _ => false
  | .none => false
  | _ => true
def sortAD : PyData → Rs
  | .list ds => if alikeB ds && (ds.all fulls || ds.all plains) && (ds.all fun d => decide (d.depth ≤ 61)) && fzA ds then .c (.lst (ds.mergeSort (PySem.W.dataLe false id))) else .no
  | _ => .no
theorem fzA_of : ∀ {ds : List PyData}, (∀ d ∈ ds, fz d = true) → fzA ds = true
  | [], _ => rfl
  | d :: ds, h => by
    unfold fzA
    rw [h d List.mem_cons_self, fzA_of fun x hx => h x (List.mem_cons_of_mem _ hx)]; rfl
theorem s_sortA : OpN K (Bk.rSortD K) (n1 sortAD) := op_n1 fun B R s σ H v a Q e r1 h => by
  match a, h with
  | .list ds, h =>
    obtain ⟨c, q⟩ := post_if h
    simp only [Bool.and_eq_true, Bool.or_eq_true] at c
    obtain ⟨⟨⟨c1, c2⟩, c3⟩, c4⟩ := c
    refine ⟨v, ds, rfl, r1.dp hd_sub, alikeB_ok c1, ?_, fun d hd => by simpa using List.all_eq_true.mp c3 d hd, fun us p hu hp => ?_⟩
    · rcases c2 with c2 | c2
      · refine .inl fun d hd => ?_
        have := List.all_eq_true.mp c2 d hd
        unfold fulls at this
        split at this
        · exact ⟨_, _, rfl⟩
        · cases this
      · refine .inr fun d hd => ?_
        have := List.all_eq_true.mp c2 d hd
        unfold plains at this
        constructor
        · intro z; subst z; cases this
        · intro xs z; subst z; cases this
    · exact q.lst e (e.hideA (fzA_of fun d hd => fzA_mem c4 (List.mem_mergeSort.mp hd)) hu) hp
  | .none, h => exact (post_no h).elim
  | .bool _, h => exact (post_no h).elim
  | .int _, h => exact (post_no h).elim
  | .str _, h => exact (post_no h).elim
  | .tuple _, h => exact (post_no h).elim
  | .dict _, h => exact (post_no h).elim
end
/-! ### a promise of before as a function -/
def datas : List AV → Option (List PyData)
  | [] => some []
  | .d x :: l => (datas l).map (x :: ·)
  | _ :: _ => none
theorem datas_eq : ∀ {xs : List AV} {ds : List PyData}, datas xs = some ds → xs = ds.map AV.d
  | [], ds, h => by cases h; rfl
  | .d x :: l, ds, h => by
    cases q : datas l with
    | none => simp [datas, q] at h
    | some es =>
      simp [datas, q] at h
      subst h
      rw [datas_eq q]; rfl
  | .g _ :: _, _, h => by cases h
  | .l _ :: _, _, h => by cases h
theorem datas_map (ds : List PyData) : datas (ds.map AV.d) = some ds := by
  induction ds with
  | nil => rfl
  | cons d l ih => simp [datas, ih]
/-- data of data -/
def dataF (f : List PyData → Option PyData) (xs : List AV) (gl : Glo) : RR := match datas xs with
  | some ds => match f ds with
    | some d => if fz d then .ok (.d d) gl else .no
    | none => .no
  | none => .no
/-- a new list, a new dict of data -/
def newF (f : List PyData → Option Cel) (xs : List AV) (gl : Glo) : RR := match datas xs with
  | some ds => match f ds with
    | some (.lst es) => if fzA es then .ok (.f (.lst es)) gl else .no
    | some (.dic kvs) => if fzA (kvs.map (·.2)) then .ok (.f (.dic kvs)) gl else .no
    | some (.dit kvs) => if fzA (kvs.map (·.2)) then .ok (.f (.dit kvs)) gl else .no
    | none => .no
  | none => .no
section
variable {P : Program} {w : World} {K : PySem.W.Frag} {mg : Str → Option Value} {base : Heap} {k : Nat} {f : Addr} {fd : FuncData} {ps : List Str} {sp : Sp} {xr : XRep} {n : Nat}
theorem okOld {F : List AV → Glo → RR} (h : FnG P w K mg base CX0 k f fd ps sp) (hs : ∀ vs H Q E, spF K xr n F vs H Q E → sp vs H Q E) : FnG P w K mg base (L2.CX P w) k f fd ps (spF K xr n F) := by
  refine ⟨fun vs H Q E q => h.len vs H Q E (hs vs H Q E q), fun A outer s H args us vs Q E hg hr he hb hv q => ?_⟩
  refine codeAny_mono (h.run A outer s H args us vs Q E hg hr he hb hv (hs vs H Q E q)) fun r s' hr => ?_
  cases r with
  | error e => exact hr.elim
  | ok fl => cases fl <;> exact hr
theorem avs_dp {G : List Addr} {Hh : Hp} : ∀ {vs : List V} {ds : List PyData}, Paired (fun v x => AvR K G [] Hh v x) vs (ds.map AV.d) → DpAll K Hh vs ds
  | vs, [], h => by cases h; exact .nil
  | vs, d :: ds, h => by
    cases h with
    | cons h1 h2 => exact .cons h1 (avs_dp h2)
theorem dataF_sp {g : List PyData → Option PyData} (hs : ∀ vs H ds d (Q : VK) E, DpAll K H vs ds → g ds = some d → (∀ r H', Ex H H' → Dp K H' r d → Q r H') → sp vs H Q E) : ∀ vs H Q E, spF K xr n (dataF g) vs H Q E → sp vs H Q E := fun vs H Q E h => by
  obtain ⟨hl, G, gl, xs, hc, ha, q⟩ := h
  unfold dataF at q
  cases z : datas xs with
  | none => rw [z] at q; exact q.elim
  | some ds =>
    rw [z] at q
    dsimp only at q
    cases z2 : g ds with
    | none => rw [z2] at q; exact q.elim
    | some d =>
      rw [z2] at q
      dsimp only at q
      by_cases hf : fz d = true
      · rw [if_pos hf] at q
        rw [datas_eq z] at ha
        refine hs vs H ds d Q E (DpAll.ex hd_sub _ _ (avs_dp ha)) z2 fun r H' ex hd => q r H' ⟨⟨rfl, fun a o _ h => ex a o h⟩, hc.grow ex, Bk.Dp.tu (hc.grow ex).tu d r hf hd⟩
      · rw [if_neg hf] at q; exact q.elim
/-- a new cell -/
theorem Cells.add {G : List Addr} {gl : Glo} {H H' : Hp} {p : Addr} {c : Cel} (hc : Cells K G gl H) (hp : H p = none) (ex : Ex H H') (hcel : ∀ Hh, Tu H' Hh → CelAt K Hh H' p c) : Cells K (G ++ [p]) (gl ++ [some c]) H' := by
  have e' := hc.grow ex
  have hpn : p ∉ G := hc.fresh hp
  have hpe : H' p ≠ none := by obtain ⟨o, ho⟩ := (hcel H' (Tu.refl _)).some; rw [ho]; exact fun z => by cases z
  -- what is hidden is a cell
  have hx : Ex (hd (G ++ [p]) (gl ++ [some c]) H') (hd G gl H') := hd_more fun a z => (hid_snoc hc.len).mpr (.inr z)
  have tu : Tu H' (hd (G ++ [p]) (gl ++ [some c]) H') := by
    have n1 : ∀ a, Fx.hid (G ++ [p]) (gl ++ [some c]) a → (∀ xs, H' a ≠ some (.tup xs)) ∧ ∀ o u, H' a ≠ some (.frz o u) := fun a z => by
      have key : ∀ {d : Cel} {Hh : Hp}, CelAt K Hh H' a d → (∀ xs, H' a ≠ some (.tup xs)) ∧ ∀ o u, H' a ≠ some (.frz o u) := fun {d Hh} hc => by
        cases d with
        | lst ds => obtain ⟨us, e, _⟩ := hc; rw [e]; exact ⟨fun _ q => (by cases q), fun _ _ q => (by cases q)⟩
        | dic kvs => obtain ⟨us, e, _⟩ := hc; rw [e]; exact ⟨fun _ q => (by cases q), fun _ _ q => (by cases q)⟩
        | dit kvs => obtain ⟨us, e, _⟩ := hc; rw [e]; exact ⟨fun _ q => (by cases q), fun _ _ q => (by cases q)⟩
      rcases (hid_snoc hc.len).mp z with z | ⟨k, d, h1, h2⟩
      · subst z; exact key (hcel H' (Tu.refl _))
      · exact key (e'.cel k d a h1 h2)
    exact ⟨fun a xs q => by rw [hd_get fun z => (n1 a z).1 xs q]; exact q, fun a o u q => by rw [hd_get fun z => (n1 a z).2 o u q]; exact q⟩
  -- the heap without p
  have old : ∀ a o, ¬ a = p → hd G gl H' a = some o → hd (G ++ [p]) (gl ++ [some c]) H' a = some o := fun a o ne q => by
    obtain ⟨n, q⟩ := hd_some q
    rw [hd_get fun z => ((hid_snoc hc.len).mp z).elim ne n]
    exact q
  refine ⟨by simp [hc.len], ?_, fun a m => ?_, fun k d a h1 h2 => ?_⟩
  · rw [List.nodup_append]
    refine ⟨hc.nd, by simp, fun a ha b hb => ?_⟩
    have : b = p := by simpa using hb
    subst this
    exact fun z => hpn (z ▸ ha)
  · rcases List.mem_append.mp m with m | m
    · exact e'.ex a m
    · have : a = p := by simpa using m
      subst this; exact hpe
  · by_cases q : k < gl.length
    · rw [List.getElem?_append_left q] at h1
      rw [List.getElem?_append_left (by rw [hc.len]; exact q)] at h2
      have h0 := hc.cel k d a h1 h2
      obtain ⟨o, ho⟩ := h0.some
      refine h0.ex (fun b o' hb => ?_) ((ex a o ho).trans ho.symm)
      have hb' := hd_ex (A := G) (cs := gl) (fun a o _ h => ex a o h) b o' hb
      refine old b o' (fun z => ?_) hb'
      subst z
      rw [(hd_some hb).2] at hp; cases hp
    · have hk := (List.getElem?_eq_some_iff.mp h1).1
      rw [List.length_append, List.length_singleton] at hk
      have hk : k = gl.length := by omega
      subst hk
      rw [List.getElem?_append_right (Nat.le_refl _), Nat.sub_self] at h1
      rw [← hc.len, List.getElem?_append_right (Nat.le_refl _), Nat.sub_self] at h2
      have e1 : c = d := by simpa using h1
      have e2 : p = a := by simpa using h2
      subst e1
      subst e2
      exact hcel _ tu
/-- what a new cell's object is -/
def CelNew (K : PySem.W.Frag) (H : Hp) (p : Addr) : Cel → Prop
  | .lst ds => ∃ us, H p = some (.lst us) ∧ DpAll K H us ds
  | .dic kvs => ∃ us : List (Key × V), H p = some (.dK us) ∧ kvs.map (·.1) = us.map (fun p => keyD p.1) ∧ DpAll K H (us.map (·.2)) (kvs.map (·.2))
  | .dit kvs => ∃ us : List (List Key × V), H p = some (.dT us) ∧ kvs.map (·.1) = us.map (fun p => PyData.tuple (p.1.map keyD)) ∧ DpAll K H (us.map (·.2)) (kvs.map (·.2))
theorem newF_sp {g : List PyData → Option Cel} (hs : ∀ vs H ds c (Q : VK) E, DpAll K H vs ds → g ds = some c → (∀ p H', H p = none → Ex H H' → CelNew K H' p c → Q (.ref p) H') → sp vs H Q E) : ∀ vs H Q E, spF K xr n (newF g) vs H Q E → sp vs H Q E := fun vs H Q E h => by
  obtain ⟨hl, G, gl, xs, hc, ha, q⟩ := h
  unfold newF at q
  cases z : datas xs with
  | none => rw [z] at q; exact q.elim
  | some ds =>
    rw [z] at q
    dsimp only at q
    cases z2 : g ds with
    | none => rw [z2] at q; exact q.elim
    | some c =>
      rw [z2] at q
      rw [datas_eq z] at ha
      refine hs vs H ds c Q E (DpAll.ex hd_sub _ _ (avs_dp ha)) z2 fun p H' hp ex hn => ?_
      have st : Stay G gl H gl H' := ⟨rfl, fun a o _ h => ex a o h⟩
      cases c with
      | lst es =>
        dsimp only at q
        by_cases hf : fzA es = true
        · rw [if_pos hf] at q
          obtain ⟨us, h1, h2⟩ := hn
          exact q _ H' ⟨st, p, rfl, hp, hc.add hp ex fun Hh tu => ⟨us, h1, Bk.DpAll.tu tu _ _ hf h2⟩⟩
        · rw [if_neg hf] at q; exact q.elim
      | dic kvs =>
        dsimp only at q
        by_cases hf : fzA (kvs.map (·.2)) = true
        · rw [if_pos hf] at q
          obtain ⟨us, h1, h2, h3⟩ := hn
          exact q _ H' ⟨st, p, rfl, hp, hc.add hp ex fun Hh tu => ⟨us, h1, h2, Bk.DpAll.tu tu _ _ hf h3⟩⟩
        · rw [if_neg hf] at q; exact q.elim
      | dit kvs =>
        dsimp only at q
        by_cases hf : fzA (kvs.map (·.2)) = true
        · rw [if_pos hf] at q
          obtain ⟨us, h1, h2, h3⟩ := hn
          exact q _ H' ⟨st, p, rfl, hp, hc.add hp ex fun Hh tu => ⟨us, h1, h2, Bk.DpAll.tu tu _ _ hf h3⟩⟩
        · rw [if_neg hf] at q; exact q.elim
end
end Fx

/-! ### x op= y; putting into dicts -/
namespace Fx
open PySem PySem.Spec PyProof.Rows L2
open Bk (Dp.ex DpAll.ex DpAll.len DpAll.get DpAll.get' DpAll.app DpAll.take DpAll.drop DpAll.snoc dp_tup dp_lst dp_int dp_str dp_bl ex_new FnG fz fzA Tu)
open Evl (Ex)
section
variable {K : PySem.W.Frag}
def iplusD : PyData → PyData → Rs
  | .int i, .int j => .d (.int (i + j))
  | .str i, .str j => if i.length + j.length ≤ sizeLine then .d (.str (i ++ j)) else .no
  | _, _ => .no
def rIPlus : R2 := fun x y H Q => rI0 (fun i j => .int (i + j)) x y H Q ∨ (∃ i j, x = .str i ∧ y = .str j ∧ i.length + j.length ≤ sizeLine ∧ Q (.str (i ++ j)) H)
theorem iop_plus {X : Cx} : OpR X (inplaceOp .Add) rIPlus := OpR.or iop_add iop_add_str
theorem s_iplus : Op2 K rIPlus (p2 iplusD) := op_p2 fun B R s σ H v w a b Q e r1 r2 h => by
  unfold iplusD at h
  split at h
  · exact .inl ⟨_, _, r1.int, r2.int, h.int e⟩
  · obtain ⟨c, q⟩ := post_if h
    exact .inr ⟨_, _, r1.str, r2.str, c, q.str e⟩
  · exact (post_no h).elim
def imulD : PyData → PyData → Rs
  | .int i, .int j => if (-(2 ^ 64) < i ∧ i < 2 ^ 64) ∨ (-(2 ^ 64) < j ∧ j < 2 ^ 64) then .d (.int (i * j)) else .no
  | _, _ => .no
theorem s_imul : Op2 K (rI CMulA fun i j => .int (i * j)) (p2 imulD) := op_p2 fun B R s σ H v w a b Q e r1 r2 h => by
  unfold imulD at h
  split at h
  · obtain ⟨c, q⟩ := post_if h
    exact ⟨_, _, r1.int, r2.int, c.elim .inl fun z => .inr (.inl z), q.int e⟩
  · exact (post_no h).elim
def idivD : PyData → PyData → Rs
  | .int i, .int j => if 0 < j ∧ j.natAbs.log2 < 9000 then .d (.int (i / j)) else .no
  | _, _ => .no
def imodD : PyData → PyData → Rs
  | .int i, .int j => if 0 < j then .d (.int (i % j)) else .no
  | _, _ => .no
theorem s_imod : Op2 K (rI (fun _ j => 0 < j) fun i j => .int (i % j)) (p2 imodD) := op_p2 fun B R s σ H v w a b Q e r1 r2 h => by
  unfold imodD at h
  split at h
  · obtain ⟨c, q⟩ := post_if h
    exact ⟨_, _, r1.int, r2.int, c, q.int e⟩
  · exact (post_no h).elim
theorem s_idiv : Op2 K (rI CDivW fun i j => .int (i / j)) (p2 idivD) := op_p2 fun B R s σ H v w a b Q e r1 r2 h => by
  unfold idivD at h
  split at h
  · obtain ⟨c, q⟩ := post_if h
    exact ⟨_, _, r1.int, r2.int, c, q.int e⟩
  · exact (post_no h).elim
def gcdD : PyData → PyData → Rs
  | .int i, .int j => .d (.int ((Nat.gcd i.natAbs j.natAbs : Nat) : Int))
  | _, _ => .no
theorem s_gcd : OpN K rGcd (n2 gcdD) := op_n2 fun B R s σ H v w a b Q e r1 r2 h => by
  unfold gcdD at h
  split at h
  · exact ⟨_, _, by rw [r1.int, r2.int], h.int e⟩
  · exact (post_no h).elim
end
/-! x is True -/
section
variable {K : PySem.W.Frag}
def isBF (neg : Bool) : PyData → PyData → Rs
  | .bool a, .bool b => .d (.bool (if neg then !decide (a = b) else decide (a = b)))
  | _, _ => .no
abbrev isBD (neg : Bool) : AV → AV → S → R AV := p2 (isBF neg)
theorem s_isB : Op2 K rIsB (isBD false) := op_p2 fun B R s σ H v w a b Q e r1 r2 h => by
  unfold isBF at h
  split at h
  · exact ⟨_, _, r1.bool, r2.bool, h.bool e⟩
  · exact (post_no h).elim
theorem s_isnB : Op2 K rNotB (isBD true) := op_p2 fun B R s σ H v w a b Q e r1 r2 h => by
  unfold isBF at h
  split at h
  · exact ⟨_, _, r1.bool, r2.bool, h.bool e⟩
  · exact (post_no h).elim
end
/-! a call of an imported built-in -/
section
variable {X : Cx} {B : Fr} {a b c e o i : Expr} {es : List Expr} {fa fb fe fo fi : S → R AV} {fs : S → R (List AV)} {pos tpos : Pos}
theorem pf_callI {id : String} {x : Str} {p : Pos} {r : List V → Hp → VK → Prop} {g : List AV → S → R AV} (hc : CallR X (.builtin id) r) (ho : OpN X.K r g) (hg : Gl X x) (hm : X.mg x = some (.builtin id)) (ha : PA X (a :: es) (rA X.K B fs)) (hdb : (x == ("__debug__" : Str)) = false := by decide)
    (he : starEach (a :: es) X.env = (false, eval a X.env) :: starEach es X.env := by rfl) (hpl : (backTo pos (starEach es X.env)).any (·.1) = false := by rfl) : PE X (.Call (.Name x p) (a :: es) [] pos) (rE X.K B (fN g fs)) := pe_imp (pe_callBfun hc hg hm ha hdb he hpl) (q_n ho)
end
/-! sorted(d), d a dict of roads -/
def intKeys : List (PyData × PyData) → Option (List (List Int))
  | [] => some []
  | (.tuple ks, _) :: l => match intsOf ks, intKeys l with | some r, some rs => some (r :: rs) | _, _ => none
  | _ :: _ => none
def insR (r : List Int) : List (List Int) → List (List Int)
  | [] => [r]
  | x :: xs => if Bk.leR r x then r :: x :: xs else x :: insR r xs
def isortR : List (List Int) → List (List Int)
  | [] => []
  | r :: rs => insR r (isortR rs)
theorem leR_iff {a b : List Int} : Bk.leR a b = true ↔ a ≤ b := by
  unfold Bk.leR
  rw [Bool.not_eq_true', decide_eq_false_iff_not]
  exact Iff.rfl
theorem insR_perm (r : List Int) : ∀ l, (insR r l).Perm (r :: l)
  | [] => .refl _
  | x :: xs => by
    unfold insR
    split
    · exact .refl _
    · exact ((insR_perm r xs).cons x).trans (.swap ..)
theorem isortR_perm : ∀ l, (isortR l).Perm l
  | [] => .refl _
  | r :: rs => (insR_perm r _).trans ((isortR_perm rs).cons r)
theorem insR_sorted (r : List Int) : ∀ l, l.Pairwise (fun a b => Bk.leR a b = true) → (insR r l).Pairwise (fun a b => Bk.leR a b = true)
  | [], _ => by simp [insR]
  | x :: xs, h => by
    unfold insR
    rw [List.pairwise_cons] at h
    by_cases q : Bk.leR r x = true
    · rw [if_pos q]
      refine List.pairwise_cons.mpr ⟨fun y hy => ?_, List.pairwise_cons.mpr h⟩
      rcases List.mem_cons.mp hy with z | z
      · rw [z]; exact q
      · exact leR_iff.mpr (List.le_trans (leR_iff.mp q) (leR_iff.mp (h.1 y z)))
    · rw [if_neg q]
      refine List.pairwise_cons.mpr ⟨fun y hy => ?_, insR_sorted r xs h.2⟩
      rcases List.mem_cons.mp ((insR_perm r xs).mem_iff.mp hy) with z | z
      · rw [z]
        rcases List.le_total r x with q1 | q1
        · exact absurd (leR_iff.mpr q1) q
        · exact leR_iff.mpr q1
      · exact h.1 y z
theorem isortR_sorted : ∀ l, (isortR l).Pairwise (fun a b => Bk.leR a b = true)
  | [] => .nil
  | r :: rs => insR_sorted r _ (isortR_sorted rs)
theorem isortR_eq (l : List (List Int)) : isortR l = l.mergeSort Bk.leR := by
  refine List.Perm.eq_of_pairwise (le := fun a b => Bk.leR a b = true) (fun x y _ _ h1 h2 => ?_) (isortR_sorted l) (List.pairwise_mergeSort (fun x y z h1 h2 => ?_) (fun x y => ?_) _) ((isortR_perm l).trans (List.mergeSort_perm _ _).symm)
  · exact List.le_antisymm (leR_iff.mp h1) (leR_iff.mp h2)
  · exact leR_iff.mpr (List.le_trans (leR_iff.mp h1) (leR_iff.mp h2))
  · rcases List.le_total x y with q | q
    · rw [leR_iff.mpr q]; rfl
    · rw [leR_iff.mpr q, Bool.or_true]
def gSorted (xs : List AV) (s : S) : R AV :=
  match xs with
  | [x] => match cellOf s x with
    | some (.dit kvs) => match intKeys kvs with
      | some (r :: rs) => if r = [] then .ok (.l s.lo.length) (s.push (.lst ((isortR (r :: rs)).map Bk.enc))) else .no
      | _ => .no
    | _ => n1 sortAD [x] s
  | _ => .no
def rSortDT (K : PySem.W.Frag) : List V → Hp → VK → Prop := fun xs H Q => ∃ (a : Addr) (kvs : List (List Key × V)) (rs : List (List Int)), xs = [.ref a] ∧ Rd H a (.dT kvs) ∧
  kvs.map (·.1) = rs.map (·.map Sum.inl) ∧ (∀ r t, rs = r :: t → r = []) ∧ ∀ ys p, Bk.Rds H ys (rs.mergeSort Bk.leR) → H p = none → Q (.ref p) (upd H p (.lst ys))
def rSorted (K : PySem.W.Frag) : List V → Hp → VK → Prop := fun vs H Q => Bk.rSortD K vs H Q ∨ rSortDT K vs H Q
theorem cr_sorted {X : Cx} (hc : X.calm = true) (hu : X.A.units + 64 < cLine) : CallR X (.builtin "sorted") (rSorted X.K) := CallR.or (Bk.cr_sortD hu) (Bk.cr_sortedDT hc hu)
theorem intKeys_eq : ∀ {kvs : List (PyData × PyData)} {rs : List (List Int)}, intKeys kvs = some rs → kvs.map (·.1) = rs.map fun r => PyData.tuple (r.map .int)
  | [], rs, h => by cases h; rfl
  | (k, v) :: l, rs, h => by
    cases k with
    | tuple ks =>
      cases q : intsOf ks with
      | none => simp [intKeys, q] at h
      | some r =>
        cases q2 : intKeys l with
        | none => simp [intKeys, q, q2] at h
        | some t =>
          simp [intKeys, q, q2] at h
          subst h
          rw [List.map_cons, intKeys_eq q2, intsOf_eq q]; rfl
    | _ => cases h
theorem keyD_ints : ∀ {ks : List Key} {r : List Int}, ks.map keyD = r.map PyData.int → ks = r.map Sum.inl
  | [], [], _ => rfl
  | [], _ :: _, h => by cases h
  | _ :: _, [], h => by cases h
  | k :: ks, i :: r, h => by
    simp only [List.map_cons, List.cons.injEq] at h
    rw [keyD_ints h.2]
    cases k with
    | inl j => simp [keyD] at h; rw [h.1]; rfl
    | inr x => simp [keyD] at h
theorem s_sorted {K : PySem.W.Frag} : OpN K (rSorted K) gSorted := fun B R s σ H vs xs Q e r q => by
  match xs, r, q with
  | [], .nil, q => exact q.elim
  | _ :: _ :: _, .cons _ (.cons _ _), q => exact q.elim
  | [x], .cons r1 .nil, q =>
    have q : Post K B (vE K B) σ R s H (match cellOf s x with
      | some (.dit kvs) => match intKeys kvs with
        | some (r :: rs) => if r = [] then .ok (.l s.lo.length) (s.push (.lst ((isortR (r :: rs)).map Bk.enc))) else .no
        | _ => .no
      | _ => n1 sortAD [x] s) Q := q
    split at q
    · rename_i kvs hc
      split at q
      · rename_i r rs hk
        by_cases h0 : r = []
        · rw [if_pos h0, isortR_eq] at q
          obtain ⟨a, rfl, _, _, us, u1, u2, u3⟩ := e.cell r1 hc
          refine .inr ⟨a, us, r :: rs, rfl, .inl u1, ?_, fun r' t h => by cases h; exact h0, fun ys p hy hp => ?_⟩
          · rw [intKeys_eq hk] at u2
            clear q hc u1 u3 hk h0
            generalize r :: rs = l at u2
            induction us generalizing l with
            | nil => cases l with
              | nil => rfl
              | cons _ _ => cases u2
            | cons p us ih => cases l with
              | nil => cases u2
              | cons i l =>
                simp only [List.map_cons, List.cons.injEq, PyData.tuple.injEq] at u2 ⊢
                exact ⟨keyD_ints u2.1.symm, ih l u2.2⟩
          · have hd := e.hideA (fzA_of fun d hd => by
              obtain ⟨z, _, rfl⟩ := List.mem_map.mp hd
              show fzA _ = true
              exact fzA_of fun d hd => by obtain ⟨_, _, rfl⟩ := List.mem_map.mp hd; rfl) (hy.dp (K := K))
            exact q.lst e hd hp
        · rw [if_neg h0] at q; exact q.elim
      · exact q.elim
    · exact .inl (s_sortA B R s σ H _ [x] Q e (.cons r1 .nil) q)
/-! d[k] = v -/
def putKD (kvs : List (PyData × PyData)) (k v : PyData) : List (PyData × PyData) := if (findD kvs k).isSome then kvs.map (fun kv => if (findD [kv] k).isSome then (kv.1, v) else kv) else kvs ++ [(k, v)]
def putA (x i : AV) (d : PyData) (s : S) : R Unit :=
  match cellOf s x, i with
  | some (.dic kvs), .d k => match keyOf k with
    | some _ => if kvs.length < sizeLine then .ok () (s.put x (.dic (putKD kvs k d))) else .no
    | none => .no
  | _, _ => putI x i d s
def rSetA : TSet := fun o i v H Q => rSetL o i v H Q ∨ rSetD o i v H Q
theorem set_any {X : Cx} (hu : X.A.units + 1 < cLine) : PSet X rSetA := by
  intro pins s σ H o i v ov iv u Q I ro ri rv h
  rcases h with h | h
  · exact set_list pins s σ H o i v ov iv u Q I ro ri rv h
  · exact set_dict hu pins s σ H o i v ov iv u Q I ro ri rv h
theorem findD_one {k : Key} {p : PyData × PyData} {pk : Key} (h : p.1 = keyD pk) : (findD [p] (keyD k)).isSome = decide (pk = k) := by
  unfold findD
  rw [List.find?_cons, h]
  cases pk <;> cases k <;> simp [keyD] <;> split <;> simp_all
theorem putKD_ok {K : PySem.W.Frag} {Hh : Hp} {us : List (Key × V)} {kvs : List (PyData × PyData)} {k : Key} {v : V} {d : PyData} (h1 : kvs.map (·.1) = us.map (fun p => keyD p.1)) (h2 : DpAll K Hh (us.map (·.2)) (kvs.map (·.2))) (hv : Dp K Hh v d) :
    (putKD kvs (keyD k) d).map (·.1) = (putK us k v).map (fun p => keyD p.1) ∧ DpAll K Hh ((putK us k v).map (·.2)) ((putKD kvs (keyD k) d).map (·.2)) := by
  have hs : (findD kvs (keyD k)).isSome = us.any fun kv => decide (kv.1 = k) := by
    rw [valV_any, isSome_m (findD_k (k := k) h1 h2)]
  unfold putKD putK
  rw [hs]
  by_cases c : (us.any fun kv => decide (kv.1 = k)) = true
  · rw [if_pos c, if_pos c]
    clear c hs
    induction us generalizing kvs with
    | nil => cases kvs with
      | nil => exact ⟨rfl, .nil⟩
      | cons _ _ => cases h1
    | cons p us ih => cases kvs with
      | nil => cases h1
      | cons q kvs =>
        simp only [List.map_cons, List.cons.injEq] at h1
        cases h2 with
        | cons r1 r2 =>
          obtain ⟨i1, i2⟩ := ih h1.2 r2
          simp only [List.map_cons]
          have e1 := findD_one (k := k) h1.1
          by_cases z : p.1 = k
          · rw [if_pos z, if_pos (by rw [e1]; exact decide_eq_true z)]
            exact ⟨by rw [h1.1, i1], .cons hv i2⟩
          · rw [if_neg z, if_neg (by rw [e1]; simpa using z)]
            exact ⟨by rw [h1.1, i1], .cons r1 i2⟩
  · rw [if_neg c, if_neg c]
    exact ⟨by simp [h1], by rw [List.map_append, List.map_append]; exact DpAll.snoc h2 hv⟩
theorem s_putA {K : PySem.W.Frag} : PutF K rSetA putA := fun B R s σ H o i v x y d s1 Q e ro ri rv h q => by
  have alt : putI x y d s = .ok () s1 → rSetA o i v H Q := fun h => .inl (s_putI B R s σ H o i v x y d s1 Q e ro ri rv h q)
  unfold putA at h
  split at h
  · rename_i kvs k hc
    cases z : keyOf k with
    | none => rw [z] at h; cases h
    | some kk =>
      rw [z] at h
      dsimp only at h
      by_cases hl : kvs.length < sizeLine
      · rw [if_pos hl] at h
        cases h
        obtain ⟨a, rfl, c1, c2, us, u1, u2, u3⟩ := e.cell ro hc
        obtain rfl := keyOf_d z
        obtain ⟨p1, p2⟩ := putKD_ok (k := kk) u2 u3 rv
        obtain ⟨e2, st2⟩ := e.put (c := .dic (putKD kvs (keyD kk) d)) (o := .dK (putK us kk v)) hc c2 ⟨_, upd_same, p1, p2⟩
        have hlen : us.length = kvs.length := by have := congrArg List.length u2; simpa using this.symm
        exact .inr ⟨a, _, rfl, .inl ⟨us, kk, u1, dpKey ri, by rw [hlen]; exact hl, rfl⟩, q _ e2 st2⟩
      · rw [if_neg hl] at h; cases h
  · exact alt h
theorem putA_nx {x i : AV} {d : PyData} {s s' : S} {c : Xc} : putA x i d s ≠ .xc c s' := fun h => by
  unfold putA at h
  split at h
  · split at h
    · split at h <;> cases h
    · cases h
  · exact putI_nx h
section
variable {X : Cx} {B : Fr} {e o i : Expr} {fe fo fi : S → R AV} {pos tpos : Pos}
theorem pf_putA (hu : X.A.units + 1 < cLine) (ho : PE X o (rE X.K B fo)) (hi : PE X i (rE X.K B fi)) (he : PE X e (rE X.K B fe)) (hs : swapsWithSole [.Subscript o i tpos] e pos.line X.env = pure false := by rfl) (hw : swappedStores [.Subscript o i tpos] e X.env = pure none := by rfl)
    (h1 : (assignEach [.Subscript o i tpos] X.env).map (·.2) = [assign (.Subscript o i tpos) X.env] := by rfl)
    (ha : ∀ v, assign (.Subscript o i tpos) X.env v = (do
      let ov ← holding [v] (eval o X.env)
      let iv ← holding [v, ov] (eval i X.env)
      standAt tpos
      holding [v, ov, iv] (setItem ov iv v)
      release [v, ov, iv] []) := by intro _; rfl) : PS X (.Assign [.Subscript o i tpos] e pos) (rS X.K B (fPut putA fo fi fe)) := pf_put s_putA (fun _ _ _ _ _ _ => putA_nx) (set_any hu) ho hi he hs hw h1 ha
end
end Fx

/-! ### repr; how a function is reckoned -/
namespace Fx
open PySem PySem.Spec PyProof.Rows L2
open Bk (Dp.ex DpAll.ex DpAll.len DpAll.get DpAll.get' DpAll.app DpAll.take DpAll.drop DpAll.snoc dp_tup dp_lst dp_int dp_str dp_bl ex_new FnG fz fzA Tu)
open Evl (Ex)
def reprD (d : PyData) : Rs :=
  match d with
  | .bool b => .d (.str (if b then "True" else "False"))
  | .none => .d (.str "None")
  | .tuple ds => if PyData.showable (.tuple ds) && !PyData.hasDict (.tuple ds) && decide (PyData.depth (.tuple ds) ≤ 60) && decide ((PyData.shown (.tuple ds)).length ≤ sizeLine) then .d (.str (PyData.shown (.tuple ds))) else .no
  | .list ds => if PyData.showable (.list ds) && !PyData.hasDict (.list ds) && decide (PyData.depth (.list ds) ≤ 60) && decide ((PyData.shown (.list ds)).length ≤ sizeLine) then .d (.str (PyData.shown (.list ds))) else .no
  | _ => .no
abbrev gRepr : List AV → S → R AV := n1 reprD
theorem s_repr {K : PySem.W.Frag} : OpN K (Bk.rReprD K) gRepr := op_n1 fun B R s σ H v a Q e r1 h => by
  unfold reprD at h
  split at h
  · exact .inr (.inl ⟨_, by rw [r1.bool], h.str e⟩)
  · exact .inr (.inr ⟨by rw [r1.none], h.str e⟩)
  · obtain ⟨c, q⟩ := post_if h
    simp only [Bool.and_eq_true, decide_eq_true_eq, Bool.not_eq_true'] at c
    obtain ⟨p, us, rfl, _⟩ := r1.tup
    exact .inl ⟨_, _, rfl, r1.dp hd_sub, c.1.1.1, c.1.1.2, c.1.2, c.2, ⟨p, rfl⟩, q.str e⟩
  · obtain ⟨c, q⟩ := post_if h
    simp only [Bool.and_eq_true, decide_eq_true_eq, Bool.not_eq_true'] at c
    obtain ⟨p, us, rfl, _⟩ := r1.lst hd_sub
    exact .inl ⟨_, _, rfl, r1.dp hd_sub, c.1.1.1, c.1.1.2, c.1.2, c.2, ⟨p, rfl⟩, q.str e⟩
  · exact (post_no h).elim
/-! errors: told where the law catches some -/
class Zz where
  on : Bool
def fRaise [Zz] (cls : Str) (f : S → R (List AV)) (s : S) : R Fl :=
  match Zz.on with
  | true => (f s).bind fun xs s1 =>
    match datas xs with
    | some ds => .xc ⟨cls, ds⟩ s1
    | none => .no
  | false => .no
theorem pf_neverR {X : Cx} {B : Fr} {st : Stmt} [Zz] {cls : Str} {f : S → R (List AV)} (h : fRaise cls f = fNo) : PS X st (rS X.K B (fRaise cls f)) := by
  rw [h]
  exact pf_never
/-! reckoning -/
/-- what comes next, where simp doesn't look -/
class Kn (α β : Type) where
  run : α → S → R β
@[irreducible] def bnd {α β : Type} (r : R α) [k : Kn α β] : R β := r.bind k.run
theorem bind_bnd {α β : Type} {r : R α} {f : α → S → R β} : r.bind f = @bnd _ _ r ⟨f⟩ := by unfold bnd; rfl
theorem bnd_ok {α β : Type} {a : α} {s : S} {k : Kn α β} : @bnd _ _ (R.ok a s) k = k.run a s := by unfold bnd; rfl
theorem bnd_xc {α β : Type} {x : Xc} {s : S} {k : Kn α β} : @bnd _ _ (R.xc x s : R α) k = .xc x s := by unfold bnd; rfl
theorem bnd_no {α β : Type} {k : Kn α β} : @bnd _ _ (R.no : R α) k = .no := by unfold bnd; rfl
theorem bind_ok {α β : Type} {a : α} {s : S} {f : α → S → R β} : (R.ok a s).bind f = f a s := rfl
theorem bind_xc {α β : Type} {x : Xc} {s : S} {f : α → S → R β} : (R.xc x s : R α).bind f = .xc x s := rfl
theorem bind_no {α β : Type} {f : α → S → R β} : (R.no : R α).bind f = .no := rfl
theorem tidy_nil {sl : List (Option AV)} {gl : Glo} : (S.tidy ⟨sl, gl, []⟩) = ⟨sl, gl, []⟩ := rfl
theorem cut_nil {sl : List (Option AV)} {gl : Glo} {n : Nat} : (S.cut n ⟨sl, gl, []⟩) = ⟨sl, gl, []⟩ := by simp [S.cut]
end Fx

namespace Fx
open PySem PySem.Spec PyProof.Rows L2
section
variable [Zz]
def b_is_letter : S → R Fl :=
  (fRet (fAndV (f1 (gIsi "str") (fV 0)) (fAndV (f2 (p2 eqD) (fN (n1 lenD) (fCons (fV 0) fNil)) (fC (.int 1))) (fChain (p2 leD) (p2 leD) (fC (.str "a")) (fV 0) (fC (.str "z"))))))
def f_is_letter : List AV → Glo → RR := run 1 b_is_letter
end
end Fx

namespace Fx
open PySem PySem.Spec PyProof.Rows L2
section
variable [Zz]
def b_has_form : S → R Fl :=
  (fSeq (fIfS (fNot (fT (f1 (gIsi "tuple") (fV 0)))) (fRet (fC (.bool false))) fNx)
  (fSeq (fIfS (fB (f2 (p2 eqD) (fN (n1 lenD) (fCons (fV 0) fNil)) (fC (.int 0)))) (fRet (fC (.bool true))) fNx)
  (fRet (fAndV (fChain (p2 leD) (p2 leD) (fC (.int 2)) (fN (n1 lenD) (fCons (fV 0) fNil)) (f2 (p2 plusD) (fC (.int 6)) (fC (.int 1)))) (fCall 1 f_is_letter (fCons (f2 gIx (fV 0) (fC (.int 0))) fNil))))))
def f_has_form : List AV → Glo → RR := run 1 b_has_form
end
end Fx

namespace Fx
open PySem PySem.Spec PyProof.Rows L2
section
variable [Zz]
def b_is_bush : S → R Fl :=
  (fSeq (fSet 1 (fC (.int 0)))
  (fSeq (fSet 2 (fLst (fCons (fV 0) fNil)))
  (fSeq (fFor (fRng1 (fCons (f2 (p2 plusD) (fC (.int 60)) (fC (.int 1))) fNil)) (tgName 3)
    (fSeq (fAug 1 (p2 iplusD) (fN (n1 lenD) (fCons (fV 2) fNil)))
  (fSeq (fIfS (fOr (fB (f2 (p2 gtD) (fV 1) (fC (.int 400)))) (fNot (fT (fN (n1 allD) (fCons (fLc (fIt (fV 2)) (tgName 4) tYesF (fCall 1 f_has_form (fCons (fV 4) fNil)) [4]) fNil))))) (fRet (fC (.bool false))) fNx)
  (fSet 2 (fLc2 (fIt (fV 2)) (tgName 4) tYesF (fIt (fSl (fV 4) (fP (fC (.int 1))) fNoP)) (tgName 5) tYesF (fV 5) [4, 5] [5])))))
  (fRet (fNotV (fV 2))))))
def f_is_bush : List AV → Glo → RR := run 6 b_is_bush
end
end Fx

namespace Fx
open PySem PySem.Spec PyProof.Rows L2
section
variable [Zz]
def b_are_growths : S → R Fl :=
  (fSeq (fIfS (fOr (fNot (fT (f1 (gIsi "tuple") (fV 0)))) (fB (f2 (p2 gtD) (fN (n1 lenD) (fCons (fV 0) fNil)) (fC (.int 12))))) (fRet (fC (.bool false))) fNx)
  (fRet (fN (n1 allD) (fCons (fLc (fIt (fV 0)) (tgName 1) tYesF (fCall 1 f_is_bush (fCons (fV 1) fNil)) [1]) fNil))))
def f_are_growths : List AV → Glo → RR := run 2 b_are_growths
end
end Fx

namespace Fx
open PySem PySem.Spec PyProof.Rows L2
section
variable [Zz]
def b_law_cup : S → R Fl :=
  (fSeq (fSet 1 (fN (n1 absD) (fCons (f2 gIx (f2 (p2 plusD) (fN (n1 lstD) (fCons (fV 0) fNil)) (fLst (fCons (fC (.int 0)) fNil))) (fC (.int 0))) fNil)))
  (fRet (fLst (fCons (fIf (fB (f2 (p2 geD) (fV 1) (f2 (p2 powD) (fC (.int 10)) (fC (.int 18))))) (f2 (p2 divD) (fV 1) (fC (.int 41))) (fC (.int 0))) (fCons (f2 (p2 plusD) (f2 (p2 modD) (fN (n1 int1D) (fCons (f2 (p2 plusD) (f2 gTimes (fV 1) (fC (.int 241))) (fC (.int 2017))) fNil)) (fC (.int 2077503403))) (fC (.int 131))) fNil)))))
def f_law_cup : List AV → Glo → RR := run 2 b_law_cup
end
end Fx

namespace Fx
open PySem PySem.Spec PyProof.Rows L2
section
variable [Zz]
def b_law_roll : S → R Fl :=
  (fSeq (fIfS (fB (f2 (p2 gtD) (f2 gIx (fV 0) (fC (.int 0))) (fC (.int 0)))) (fSeq (fSet 2 (f2 (p2 modD) (fN (n1 int1D) (fCons (f2 gIx (fV 0) (fC (.int 0))) fNil)) (fV 1)))
  (fSeq (fPut putA (fV 0) (fC (.int 0)) (f2 (p2 divD) (f2 gIx (fV 0) (fC (.int 0))) (fV 1)))
  (fRet (fV 2)))) fNx)
  (fSeq (fPut putA (fV 0) (fC (.int 1)) (f2 (p2 modD) (fN (n1 int1D) (fCons (f2 (p2 plusD) (f2 gTimes (f2 gIx (fV 0) (fC (.int 1))) (fC (.int 30971))) (fC (.int 7927))) fNil)) (fC (.int 2147483549))))
  (fSeq (fSet 3 (f2 (p2 modD) (fN (n1 int1D) (fCons (f2 gTimes (f2 gIx (fV 0) (fC (.int 1))) (f2 (p2 plusD) (f2 gIx (fV 0) (fC (.int 1))) (fC (.int 193)))) fNil)) (fC (.int 2147483587))))
  (fRet (f2 (p2 modD) (fN (n1 int1D) (fCons (f2 (p2 divD) (fV 3) (fC (.int 769))) fNil)) (fV 1))))))
def f_law_roll : List AV → Glo → RR := run 4 b_law_roll
end
end Fx

namespace Fx
open PySem PySem.Spec PyProof.Rows L2
section
variable [Zz]
def b_law_some : S → R Fl :=
  (fRet (f2 gIx (fV 1) (fCall 2 f_law_roll (fCons (fV 0) (fCons (fN (n1 lenD) (fCons (fV 1) fNil)) fNil)))))
def f_law_some : List AV → Glo → RR := run 2 b_law_some
end
end Fx

namespace Fx
open PySem PySem.Spec PyProof.Rows L2
open Bk (Bu toD okB dep knots tips enc)
/-! ### the parts of a bush with their roads, as a function -/
mutual
def visD : PyData → List (List Int × PyData)
  | .tuple (x :: bs) => ([], .tuple (x :: bs)) :: visDL 0 bs
  | d => [([], d)]
def visDL : Nat → List PyData → List (List Int × PyData)
  | _, [] => []
  | i, b :: bs => visDL (i + 1) bs ++ (visD b).map fun p => ((i : Int) :: p.1, p.2)
end
mutual
def buOf : PyData → Option Bu
  | .tuple [] => some .tip
  | .tuple (.str z :: bs) => match z.cps.toList with
    | [c] => (buOfs bs).map (.knot c)
    | _ => none
  | _ => none
def buOfs : List PyData → Option (List Bu)
  | [] => some []
  | d :: ds => match buOf d, buOfs ds with
    | some b, some bs => some (b :: bs)
    | _, _ => none
end
def drB (b : Bu) : Bool := okB b && decide (dep b ≤ 60) && decide (knots b + tips b ≤ 1000)
def partsC (ds : List PyData) : Option Cel :=
  match ds with
  | [d] => match buOf d with
    | some b => if drB b then some (.dit ((visD d).map fun p => (enc p.1, p.2))) else none
    | none => none
  | _ => none
def f_law_parts : List AV → Glo → RR := newF partsC
mutual
theorem buOf_toD : ∀ b : Bu, buOf (toD b) = some b
  | .tip => rfl
  | .knot c bs => by
    rw [toD]
    unfold buOf
    simp [buOfs_toDs bs]
theorem buOfs_toDs : ∀ bs : List Bu, buOfs (Bk.toDs bs) = some bs
  | [] => rfl
  | b :: bs => by
    rw [Bk.toDs]
    unfold buOfs
    simp [buOf_toD b, buOfs_toDs bs]
end
mutual
theorem buOf_some : ∀ (d : PyData) (b : Bu), buOf d = some b → d = toD b
  | .tuple [], b, h => by cases h; rfl
  | .tuple (.str z :: bs), b, h => by
    unfold buOf at h
    split at h
    · rename_i c hz
      cases q : buOfs bs with
      | none => simp [q] at h
      | some es =>
        simp [q] at h
        subst h
        rw [toD, ← buOfs_some bs es q]
        have : z = ⟨#[c]⟩ := by
          cases z with
          | mk a => simp at hz; simp [← hz]
        rw [this]
    · cases h
  | .tuple (.none :: _), _, h => by cases h
  | .tuple (.bool _ :: _), _, h => by cases h
  | .tuple (.int _ :: _), _, h => by cases h
  | .tuple (.list _ :: _), _, h => by cases h
  | .tuple (.tuple _ :: _), _, h => by cases h
  | .tuple (.dict _ :: _), _, h => by cases h
  | .none, _, h => by cases h
  | .bool _, _, h => by cases h
  | .int _, _, h => by cases h
  | .str _, _, h => by cases h
  | .list _, _, h => by cases h
  | .dict _, _, h => by cases h
theorem buOfs_some : ∀ (ds : List PyData) (bs : List Bu), buOfs ds = some bs → ds = Bk.toDs bs
  | [], bs, h => by cases h; rfl
  | d :: ds, bs, h => by
    unfold buOfs at h
    cases q : buOf d with
    | none => simp [q] at h
    | some b =>
      cases q2 : buOfs ds with
      | none => simp [q, q2] at h
      | some es =>
        simp [q, q2] at h
        subst h
        rw [Bk.toDs, ← buOf_some d b q, ← buOfs_some ds es q2]
end
end Fx

namespace Bk
open PySem PySem.Spec PyProof.Rows L2
open Evl (Ex)
section
variable {P : Program} {w : World} {K : PySem.W.Frag} {mg : Str → Option Value} {base : Heap}
def spIsLetter : Sp := fun vs H Q _ => ∃ c : Nat, vs = [.str ⟨#[c]⟩] ∧ 97 ≤ c ∧ c ≤ 122 ∧ Q (.bl true) H
theorem le_lo {c : Nat} (h : 97 ≤ c) : (!decide ((⟨#[c]⟩ : Str).cps.toList < ("a" : Str).cps.toList)) = true := by
  have : ¬ ([c] < ([97] : List Nat)) := by
    intro q
    rw [List.cons_lt_cons_iff] at q
    rcases q with q | ⟨q, r⟩
    · omega
    · exact absurd r (by simp)
  show (!decide ([c] < ([97] : List Nat))) = true
  simp [this]
theorem le_hi {c : Nat} (h : c ≤ 122) : (!decide (("z" : Str).cps.toList < (⟨#[c]⟩ : Str).cps.toList)) = true := by
  have : ¬ (([122] : List Nat) < [c]) := by
    intro q
    rw [List.cons_lt_cons_iff] at q
    rcases q with q | ⟨q, r⟩
    · omega
    · exact absurd r (by simp)
  show (!decide (([122] : List Nat) < [c])) = true
  simp [this]
end
end Bk

namespace Bk
open PySem PySem.Spec PyProof.Rows L2
open Evl (Ex)
section
variable {P : Program} {w : World} {K : PySem.W.Frag} {mg : Str → Option Value} {base : Heap}
/-! ### _has_form -/
def okR : Bu → Prop
  | .tip => True
  | .knot c bs => 97 ≤ c ∧ c ≤ 122 ∧ 1 ≤ bs.length ∧ bs.length ≤ 6
def spHasForm (K : PySem.W.Frag) : Sp := fun vs H Q _ => ∃ (v : V) (b : Bu), vs = [v] ∧ Dp K H v (toD b) ∧ okR b ∧ Q (.bl true) H
end
end Bk

namespace Bk
open PySem PySem.Spec PyProof.Rows L2
open Evl (Ex)
/-- the parts one deeper -/
def nxt (l : List Bu) : List Bu := l.flatMap kids
/-- the levels, so many at most, while there are parts -/
def lvsN : Nat → List Bu → List (List Bu)
  | 0, _ => []
  | n + 1, l => if l.isEmpty then [] else l :: lvsN n (nxt l)
def lvls (b : Bu) : List (List Bu) := lvsN (dep b + 1) [b]
theorem deps_nxt : ∀ l : List Bu, deps (nxt l) + 1 ≤ deps l ∨ nxt l = []
  | [] => .inr rfl
  | b :: l => by
    have ih := deps_nxt l
    have app : ∀ xs ys : List Bu, deps (xs ++ ys) = max (deps xs) (deps ys) := by
      intro xs ys
      induction xs with
      | nil => simp [deps]
      | cons x xs ih => rw [List.cons_append, deps, deps, ih, Nat.max_assoc]
    have e : nxt (b :: l) = kids b ++ nxt l := by unfold nxt; rw [List.flatMap_cons]
    rw [e]
    cases b with
    | tip =>
      rcases ih with ih | ih
      · left
        show deps (nxt l) + 1 ≤ max (dep .tip) (deps l)
        omega
      · right
        rw [ih]
        rfl
    | knot c bs =>
      left
      rw [app]
      show max (deps bs) (deps (nxt l)) + 1 ≤ max (deps bs + 1) (deps l)
      rcases ih with ih | ih
      · omega
      · rw [ih]
        have : deps ([] : List Bu) = 0 := rfl
        omega
section
variable {P : Program} {w : World} {K : PySem.W.Frag} {mg : Str → Option Value} {base : Heap}
def lvD (l : List Bu) : PyData := .list (l.map toD)
/-- the lists that a list holds -/
inductive LLs (K : PySem.W.Frag) (H : Hp) (p : Addr) : List V → List (List Bu) → Prop
  | nil : LLs K H p [] []
  | cons {q : Addr} {vs : List V} {l : List Bu} {ls : List (List Bu)} : q ≠ p → LsB K H q l → LLs K H p vs ls → LLs K H p (.ref q :: vs) (l :: ls)
theorem LLs.keep {H H' : Hp} {p : Addr} {vs : List V} {ls : List (List Bu)} (h : LLs K H p vs ls) (e : ExB p H H') (t : Tu H H') : LLs K H' p vs ls := by
  induction h with
  | nil => exact .nil
  | cons n l _ ih => exact .cons n (l.keep e n t) ih
theorem LLs.snoc {H : Hp} {p q : Addr} {vs : List V} {ls : List (List Bu)} {l : List Bu} (h : LLs K H p vs ls) (n : q ≠ p) (hl : LsB K H q l) : LLs K H p (vs ++ [.ref q]) (ls ++ [l]) := by
  induction h with
  | nil => exact .cons n hl .nil
  | cons n' l' _ ih => exact .cons n' l' ih
theorem LLs.dp {H : Hp} {p : Addr} {vs : List V} {ls : List (List Bu)} (h : LLs K H p vs ls) : DpAll K H vs (ls.map lvD) := by
  induction h with
  | nil => exact .nil
  | cons n l _ ih =>
    obtain ⟨us, h1, h2⟩ := l
    exact .cons (.lst (SqL.of h1) h2) ih
theorem LLs.len {H : Hp} {p : Addr} {vs : List V} {ls : List (List Bu)} (h : LLs K H p vs ls) : vs.length = ls.length := by
  induction h with
  | nil => rfl
  | cons _ _ _ ih => simp [ih]
theorem kids_of {H : Hp} : ∀ {vs : List V} {bs : List Bu}, DpAll K H vs (bs.map toD) → ∃ yss : List (List V), yss.length = vs.length ∧ (∀ (i : Nat) (x : V), vs[i]? = some x → ∃ (a : Addr) (xs : List V), x = V.ref a ∧ SqT K H a xs ∧ yss[i]? = some (xs.drop 1)) ∧ DpAll K H yss.flatten ((nxt bs).map toD)
  | vs, [], h => by
    have h' : DpAll K H vs [] := h
    cases h'
    exact ⟨[], rfl, fun i x e => by simp at e, .nil⟩
  | vs, b :: bs, h => by
    have h' : DpAll K H vs (toD b :: bs.map toD) := h
    cases h' with
    | cons h1 h2 =>
      obtain ⟨yss, y1, y2, y3⟩ := kids_of h2
      obtain ⟨a, xs, rfl, hs, ha⟩ := bu_dp h1
      refine ⟨xs.drop 1 :: yss, by simp [y1], fun i x e => ?_, ?_⟩
      · cases i with
        | zero =>
          have e' : V.ref a = x := by simpa using e
          exact ⟨a, xs, e'.symm, hs, rfl⟩
        | succ i => exact y2 i x (by simpa using e)
      · have e : (nxt (b :: bs)).map toD = (kids b).map toD ++ (nxt bs).map toD := by
          unfold nxt
          rw [List.flatMap_cons, List.map_append]
        rw [e, List.flatten_cons]
        refine DpAll.app ?_ y3
        rw [← itm_kids]
        exact DpAll.drop 1 ha
theorem flat_range {yss : List (List V)} {n : Nat} (h : yss.length = n) : (List.range n).flatMap (fun i => yss.getD i []) = yss.flatten := by
  subst h
  induction yss with
  | nil => rfl
  | cons y t ih =>
    rw [List.length_cons, List.range_succ_eq_map, List.flatMap_cons, List.flatMap_map, List.flatten_cons]
    exact congrArg (y ++ ·) ih
def spLevels (K : PySem.W.Frag) : Sp := fun vs H Q _ => ∃ (v : V) (b : Bu), vs = [v] ∧ Dp K H v (toD b) ∧ dep b ≤ 1000 ∧ (∀ l ∈ lvls b, l.length < 100000) ∧
  ∀ p H' us, H p = none → Ex H H' → H' p = some (.lst us) → LLs K H' p us (lvls b) → Q (.ref p) H'
end
end Bk

namespace Bk
open PySem PySem.Spec PyProof.Rows L2
open Evl (Ex Ev EvT EvL EvU EvA)
mutual
def near : Bu → Nat
  | .tip => 0
  | .knot _ bs => nears bs + 1
def nears : List Bu → Nat
  | [] => 0
  | b :: bs => match bs with
    | [] => near b
    | _ :: _ => min (near b) (nears bs)
end
section
variable {P : Program} {w : World} {K : PySem.W.Frag} {mg : Str → Option Value} {base : Heap}
theorem LLs.get {H : Hp} {p : Addr} : ∀ {vs : List V} {ls : List (List Bu)} {i : Nat} {x : V}, LLs K H p vs ls → vs[i]? = some x → ∃ (q : Addr) (l : List Bu), x = V.ref q ∧ ls[i]? = some l ∧ LsB K H q l
  | _, _, _, _, .nil, e => by simp at e
  | _, _, 0, _, .cons n h _, e => by simp at e; exact ⟨_, _, e.symm, rfl, h⟩
  | _, _, i + 1, _, .cons n h t, e => by
    obtain ⟨q, l, h1, h2, h3⟩ := LLs.get t (i := i) (by simpa using e)
    exact ⟨q, l, h1, by simpa using h2, h3⟩
def cnts (b : Bu) : List Int := (lvls b).map fun l => ((l.countP isTip : Nat) : Int)
def lens (b : Bu) : List Int := (lvls b).map fun l => ((l.length : Nat) : Int)
/-- what a bush's counts ask -/
structure Fits (b : Bu) : Prop where
  ok : okB b = true
  dep : dep b ≤ 1000
  few : knots b + tips b ≤ 1000
  len : ∀ l ∈ lvls b, l.length < 40000
  okl : ∀ l ∈ lvls b, okBs l = true
  sum : (lens b).sum = ((knots b + tips b : Nat) : Int)
  tip : (cnts b).sum = ((tips b : Nat) : Int)
  lst : (lvls b).length = Bk.dep b + 1
  nr : ((near b : Nat) : Int) ∈ (List.range (cnts b).length).filterMap (fun i => if decide (0 < (cnts b).getD i 0) = true then some ((i : Nat) : Int) else none)
  nl : ∀ y ∈ (List.range (cnts b).length).filterMap (fun i => if decide (0 < (cnts b).getD i 0) = true then some ((i : Nat) : Int) else none), ((near b : Nat) : Int) ≤ y
theorem given_fm (n : Nat) (f : Nat → Bool) : Evl.given n f (fun i => V.int ((i : Nat) : Int)) = ((List.range n).filterMap fun i => if f i = true then some ((i : Nat) : Int) else none).map V.int := by
  unfold Evl.given
  induction (List.range n) with
  | nil => rfl
  | cons i l ih =>
    rw [List.filter_cons, List.filterMap_cons]
    cases h : f i with
    | true => simp [ih]
    | false => simp [ih]
theorem el_enum' {H : Hp} {tl : TE} {ns : List Int} {a : Addr} {x0 x1 x2 x3 : Option V} (hz : ns.length ≤ 40000) (h : Ev tl [x0, x1, x2, x3, none, none, none, none] H (.ref a)) (hx : SqL K H a (ns.map V.int)) :
    EvL (tLc (iEnum K (tCons tl tNil)) (gTup K 2 (gCons (gName 6) (gCons (gName 7) gNil))) (tTest (tOp (rI0 fun i j => .bl (decide (j < i))) (tVar 7) (tC (.int 0)))) (tVar 6) [6, 7]) [x0, x1, x2, x3, none, none, none, none] H
      (((List.range ns.length).filterMap fun i => if decide (0 < ns.getD i 0) = true then some ((i : Nat) : Int) else none).map V.int) := by
  rw [← given_fm]
  exact el_enum h hx hz (fun x y σ' H' R r => ⟨x, [y], rfl, y, [], rfl, rfl, r⟩) (fun _ _ => rfl) (fun _ _ => rfl) (fun _ _ => rfl)
def spCounts (K : PySem.W.Frag) : Sp := fun vs H Q _ => ∃ (v : V) (b : Bu), vs = [v] ∧ Dp K H v (toD b) ∧ Fits b ∧
  ∀ p H', H p = none → Ex H H' → H' p = some (.tup [.int (knots b : Nat), .int (tips b : Nat), .int (near b : Nat), .int (dep b : Nat)]) → Q (.ref p) H'
end
end Bk

namespace Bk
open PySem PySem.Spec PyProof.Rows L2
open Evl (Ex Ev EvT EvL EvU EvA)
section
variable {P : Program} {w : World} {K : PySem.W.Frag} {mg : Str → Option Value} {base : Heap}
def spGrow (K : PySem.W.Frag) (n : Nat) : Sp := fun vs H Q _ => ∃ (v g : V) (b gb : Bu), vs = [v, g] ∧ Dp K H v (toD b) ∧ Dp K H g (toD gb) ∧ dep b ≤ n ∧ okB b = true ∧ ∀ r H', Ex H H' → Dp K H' r (toD (grow b gb)) → Q r H'
theorem tru_tup {H : Hp} {a : Addr} {xs : List V} (h : SqT K H a xs) : TruV K (.ref a) H (!xs.isEmpty) := .inr (.inl ⟨xs, h, rfl⟩)
end
end Bk

namespace Bk
open PySem PySem.Spec PyProof.Rows L2
open Evl (Ex Ev EvT EvL EvU EvA)
theorem ip_mulB {X : Cx} : PIp X .Mult (rI CMulB fun i j => .int (i * j)) := fun pins s σ H x y v u Q I r1 r2 h => iop_mulB pins s σ H x y v u Q I r1 r2 h
theorem mulB {i j : Nat} (hi : i < 2 ^ 250) (hj : j < 2 ^ 250) : CMulB (i : Int) (j : Int) := by
  have h1 := PySem.Flt.log2_lt_of (by decide) hi
  have h2 := PySem.Flt.log2_lt_of (by decide) hj
  unfold CMulB
  simp only [Int.natAbs_natCast]
  omega
abbrev C4 := Nat × Nat × Nat × Nat
def ctr (a : C4) (g : Bu) : C4 := (a.1 + a.2.1 * knots g, a.2.1 * tips g, a.2.2.1 + near g, a.2.2.2 + dep g)
def ctrs (b : Bu) (gs : List Bu) : C4 := gs.foldl ctr (knots b, tips b, near b, dep b)
def ints4 (a : C4) : List V := [.int (a.1 : Nat), .int (a.2.1 : Nat), .int (a.2.2.1 : Nat), .int (a.2.2.2 : Nat)]
theorem ctrs_snoc (b : Bu) (gs : List Bu) (g : Bu) : ctrs b (gs ++ [g]) = ctr (ctrs b gs) g := by unfold ctrs; rw [List.foldl_append]; rfl
theorem ctrs_tips {b : Bu} : ∀ {gs : List Bu}, tips b ≤ 1000 → (∀ g ∈ gs, tips g ≤ 1000) → (ctrs b gs).2.1 ≤ 1000 ^ (gs.length + 1) := by
  intro gs hb hg
  have key : ∀ (gs : List Bu) (a : C4) (n : Nat), a.2.1 ≤ 1000 ^ n → (∀ g ∈ gs, tips g ≤ 1000) → (gs.foldl ctr a).2.1 ≤ 1000 ^ (n + gs.length) := by
    intro gs
    induction gs with
    | nil => intro a n h _; exact h
    | cons g gs ih =>
      intro a n h hg
      have h1 : (ctr a g).2.1 ≤ 1000 ^ (n + 1) := by
        show a.2.1 * tips g ≤ _
        rw [Nat.pow_succ]
        exact Nat.mul_le_mul h (hg g List.mem_cons_self)
      have h2 := ih (ctr a g) (n + 1) h1 fun x hx => hg x (List.mem_cons_of_mem _ hx)
      rw [List.foldl_cons, List.length_cons]
      rw [show n + (gs.length + 1) = n + 1 + gs.length by omega]
      exact h2
  have := key gs (knots b, tips b, near b, dep b) 1 (by simpa using hb) hg
  rw [Nat.add_comm 1] at this
  exact this
section
variable {P : Program} {w : World} {K : PySem.W.Frag} {mg : Str → Option Value} {base : Heap}
def spCG (K : PySem.W.Frag) : Sp := fun vs H Q _ => ∃ (v r : V) (b : Bu) (gs : List Bu), vs = [v, r] ∧ Dp K H v (toD b) ∧ Dp K H r (.tuple (gs.map toD)) ∧ Fits b ∧ (∀ g ∈ gs, Fits g) ∧ gs.length ≤ 13 ∧
  ∀ p H', H p = none → Ex H H' → H' p = some (.tup (ints4 (ctrs b gs))) → Q (.ref p) H'
end
end Bk

namespace Bk
open PySem PySem.Spec PyProof.Rows L2
open Evl (Ex Ev EvT EvL EvU EvA)
/-- all parts of some bushes -/
def kt : List Bu → Nat := fun l => knotss l + tipss l
theorem kt_app (a b : List Bu) : kt (a ++ b) = kt a + kt b := by
  unfold kt
  induction a with
  | nil => simp [knotss, tipss]
  | cons x a ih => simp only [List.cons_append, knotss, tipss]; omega
theorem kt_nxt : ∀ l : List Bu, kt l = l.length + kt (nxt l)
  | [] => rfl
  | b :: l => by
    have ih := kt_nxt l
    have e : nxt (b :: l) = kids b ++ nxt l := by unfold nxt; rw [List.flatMap_cons]
    rw [e, kt_app, List.length_cons]
    have h : kt (b :: l) = (knots b + tips b) + kt l := by unfold kt; simp only [knotss, tipss]; omega
    rw [h, ih]
    cases b with
    | tip => simp [knots, tips, kids, kt, knotss, tipss]; omega
    | knot c bs => simp [knots, tips, kids, kt]; omega
def itN : Nat → List Bu → List Bu
  | 0, l => l
  | n + 1, l => nxt (itN n l)
theorem itN_kt (l : List Bu) : ∀ n, kt (itN n l) ≤ kt l
  | 0 => Nat.le_refl _
  | n + 1 => by
    have h1 := itN_kt l n
    have h2 := kt_nxt (itN n l)
    show kt (nxt (itN n l)) ≤ _
    omega
def sumL (l : List Bu) : Nat → Nat
  | 0 => 0
  | n + 1 => sumL l n + (itN n l).length
theorem sumL_kt (l : List Bu) : ∀ n, sumL l n + kt (itN n l) = kt l
  | 0 => by simp [sumL, itN]
  | n + 1 => by
    have h1 := sumL_kt l n
    have h2 := kt_nxt (itN n l)
    show sumL l n + (itN n l).length + kt (nxt (itN n l)) = _
    omega
theorem itN_dep (l : List Bu) : ∀ n, deps (itN n l) + n ≤ deps l ∨ itN n l = []
  | 0 => .inl (Nat.le_refl _)
  | n + 1 => by
    rcases itN_dep l n with h | h
    · rcases deps_nxt (itN n l) with h2 | h2
      · left
        show deps (nxt (itN n l)) + (n + 1) ≤ _
        omega
      · exact .inr h2
    · right
      show nxt (itN n l) = []
      rw [h]
      rfl
theorem deps0 : ∀ {l : List Bu}, deps l = 0 → nxt l = []
  | [], _ => rfl
  | b :: l, h => by
    rw [deps] at h
    have h1 : dep b = 0 := by omega
    have h2 : deps l = 0 := by omega
    have e : nxt (b :: l) = kids b ++ nxt l := by unfold nxt; rw [List.flatMap_cons]
    rw [e, deps0 h2]
    cases b with
    | tip => rfl
    | knot c bs => simp [dep] at h1
theorem itN_nil {l : List Bu} {n : Nat} (h : deps l < n) : itN n l = [] := by
  obtain ⟨m, rfl⟩ : ∃ m, n = m + 1 := ⟨n - 1, by omega⟩
  rcases itN_dep l (m + 1) with h1 | h1
  · omega
  · exact h1
theorem okBs_app {a b : List Bu} : okBs (a ++ b) = (okBs a && okBs b) := by
  induction a with
  | nil => rfl
  | cons x a ih => simp only [List.cons_append, okBs, ih, Bool.and_assoc]
theorem okBs_nxt : ∀ {l : List Bu}, okBs l = true → okBs (nxt l) = true
  | [], _ => rfl
  | b :: l, h => by
    have h' : okB b = true ∧ okBs l = true := by simpa [okBs] using h
    have e : nxt (b :: l) = kids b ++ nxt l := by unfold nxt; rw [List.flatMap_cons]
    rw [e, okBs_app, okBs_nxt h'.2]
    cases b with
    | tip => rfl
    | knot c bs => simp [kids, (okB_knot h'.1).2.2]
theorem itN_ok {l : List Bu} (h : okBs l = true) : ∀ n, okBs (itN n l) = true
  | 0 => h
  | n + 1 => okBs_nxt (itN_ok h n)
theorem okR_of {b : Bu} (h : okB b = true) : okR b := by
  cases b with
  | tip => trivial
  | knot c bs =>
    obtain ⟨⟨h1, h2⟩, ⟨h3, h4⟩, _⟩ := okB_knot h
    exact ⟨h1, h2, h3, h4⟩
/-- a bush that can be handed in -/
structure Good (b : Bu) : Prop where
  ok : okB b = true
  few : knots b + tips b ≤ 400
  dep : Bk.dep b ≤ 60
section
variable {P : Program} {w : World} {K : PySem.W.Frag} {mg : Str → Option Value} {base : Heap}
theorem ev_allL {σ : L2.St} {H : Hp} {te : TE} {bs : List Bool} (h : EvL te σ H (bs.map V.bl)) : Ev (tCB (rAll K) (tCons te tNil)) σ H (.bl (bs.all id)) := fun H1 e Q q =>
  h H1 e _ fun p H2 _ e2 hp => ⟨p, bs, rfl, SqL.of hp, q H2 e2⟩
def spIsBush (K : PySem.W.Frag) : Sp := fun vs H Q _ => ∃ (v : V) (b : Bu), vs = [v] ∧ Dp K H v (toD b) ∧ Good b ∧ ∀ H', Ex H H' → Q (.bl true) H'
end
end Bk

namespace Bk
open PySem PySem.Spec PyProof.Rows L2
theorem nxt_cons (b : Bu) (l : List Bu) : nxt (b :: l) = kids b ++ nxt l := by unfold nxt; rw [List.flatMap_cons]
theorem deps_app (xs ys : List Bu) : deps (xs ++ ys) = max (deps xs) (deps ys) := by
  induction xs with
  | nil => simp [deps]
  | cons x xs ih => rw [List.cons_append, deps, deps, ih, Nat.max_assoc]
theorem deps_nxt2 : ∀ l : List Bu, deps l ≤ deps (nxt l) + 1
  | [] => Nat.zero_le _
  | b :: l => by
    have ih := deps_nxt2 l
    rw [nxt_cons, deps_app, deps]
    cases b with
    | tip => have : dep .tip = 0 := rfl; omega
    | knot c bs => have : dep (.knot c bs) = deps bs + 1 := rfl; show max (dep (.knot c bs)) (deps l) ≤ max (deps bs) _ + 1; omega
theorem nxt_nil : ∀ {l : List Bu}, okBs l = true → nxt l = [] → deps l = 0
  | [], _, _ => rfl
  | b :: l, ho, h => by
    have h' : okB b = true ∧ okBs l = true := by simpa [okBs] using ho
    rw [nxt_cons] at h
    have h1 := List.append_eq_nil_iff.mp h
    have ih := nxt_nil h'.2 h1.2
    rw [deps, ih]
    cases b with
    | tip => rfl
    | knot c bs =>
      have := (okB_knot h'.1).2.1.1
      have e : bs = [] := h1.1
      rw [e] at this
      simp at this
theorem lvsN_nil : ∀ n, lvsN n [] = []
  | 0 => rfl
  | _ + 1 => rfl
theorem lvsN_cons {n : Nat} {l : List Bu} (h : l ≠ []) : lvsN (n + 1) l = l :: lvsN n (nxt l) := by
  rw [lvsN]
  cases l with
  | nil => exact absurd rfl h
  | cons b t => rfl
theorem nxt_lt {n : Nat} {l : List Bu} (h : deps l < n + 1) : deps (nxt l) < n ∨ nxt l = [] := by
  rcases deps_nxt l with e | e
  · left; omega
  · exact .inr e
theorem lv_len : ∀ (n : Nat) (l : List Bu), l ≠ [] → okBs l = true → deps l < n → (lvsN n l).length = deps l + 1
  | 0, _, _, _, h => absurd h (by omega)
  | n + 1, l, hn, ho, h => by
    rw [lvsN_cons hn, List.length_cons]
    by_cases e : nxt l = []
    · rw [e, lvsN_nil, nxt_nil ho e]
      rfl
    · have h1 : deps (nxt l) < n := (nxt_lt h).resolve_right e
      rw [lv_len n (nxt l) e (okBs_nxt ho) h1]
      have h2 := deps_nxt2 l
      have h3 := (deps_nxt l).resolve_right e
      omega
theorem lv_sum : ∀ (n : Nat) (l : List Bu), (l = [] ∨ deps l < n) → ((lvsN n l).map fun l => ((l.length : Nat) : Int)).sum = ((kt l : Nat) : Int)
  | n, [], _ => by rw [lvsN_nil]; rfl
  | 0, b :: t, h => by rcases h with h | h; · simp at h
                       · omega
  | n + 1, b :: t, h => by
    have hn : b :: t ≠ [] := by simp
    have h1 : deps (b :: t) < n + 1 := h.resolve_left hn
    have ih := lv_sum n (nxt (b :: t)) (nxt_lt h1).symm
    rw [lvsN_cons hn, List.map_cons, List.sum_cons, ih]
    have := kt_nxt (b :: t)
    omega
theorem tipss_app (xs ys : List Bu) : tipss (xs ++ ys) = tipss xs + tipss ys := by
  induction xs with
  | nil => simp [tipss]
  | cons x xs ih => rw [List.cons_append, tipss, tipss, ih, Nat.add_assoc]
theorem tipss_nxt : ∀ l : List Bu, tipss l = l.countP isTip + tipss (nxt l)
  | [] => rfl
  | b :: l => by
    have ih := tipss_nxt l
    rw [nxt_cons, tipss_app, tipss, List.countP_cons]
    cases b with
    | tip => have : tips .tip = 1 := rfl; have h2 : tipss (kids .tip) = 0 := rfl; simp [isTip]; omega
    | knot c bs => have : tips (.knot c bs) = tipss bs := rfl; have h2 : tipss (kids (.knot c bs)) = tipss bs := rfl; simp [isTip]; omega
theorem lv_tip : ∀ (n : Nat) (l : List Bu), (l = [] ∨ deps l < n) → ((lvsN n l).map fun l => ((l.countP isTip : Nat) : Int)).sum = ((tipss l : Nat) : Int)
  | n, [], _ => by rw [lvsN_nil]; rfl
  | 0, b :: t, h => by rcases h with h | h; · simp at h
                       · omega
  | n + 1, b :: t, h => by
    have hn : b :: t ≠ [] := by simp
    have h1 : deps (b :: t) < n + 1 := h.resolve_left hn
    have ih := lv_tip n (nxt (b :: t)) (nxt_lt h1).symm
    rw [lvsN_cons hn, List.map_cons, List.sum_cons, ih]
    have := tipss_nxt (b :: t)
    omega
theorem lv_mem : ∀ (n : Nat) (l x : List Bu), okBs l = true → x ∈ lvsN n l → okBs x = true ∧ x.length ≤ kt l
  | 0, _, _, _, h => by simp [lvsN] at h
  | n + 1, l, x, ho, h => by
    by_cases e : l = []
    · subst e; rw [lvsN_nil] at h; simp at h
    · rw [lvsN_cons e] at h
      have h2 := kt_nxt l
      rcases List.mem_cons.mp h with h1 | h1
      · subst h1; exact ⟨ho, by omega⟩
      · have h3 := lv_mem n (nxt l) x (okBs_nxt ho) h1
        exact ⟨h3.1, by omega⟩
theorem nears_cons (b : Bu) {l : List Bu} (h : l ≠ []) : nears (b :: l) = min (near b) (nears l) := by
  cases l with
  | nil => exact absurd rfl h
  | cons c t => rw [nears]
theorem nears_one (b : Bu) : nears [b] = near b := by rw [nears]
theorem nears_app : ∀ {xs ys : List Bu}, xs ≠ [] → ys ≠ [] → nears (xs ++ ys) = min (nears xs) (nears ys)
  | [], _, h, _ => absurd rfl h
  | [x], ys, _, h => by rw [List.singleton_append, nears_cons x h, nears_one]
  | x :: x2 :: t, ys, _, h => by
    have ih := nears_app (xs := x2 :: t) (ys := ys) (by simp) h
    rw [List.cons_append, nears_cons x (by simp), ih, nears_cons x (l := x2 :: t) (by simp), Nat.min_assoc]
theorem no_tip : ∀ {l : List Bu}, l ≠ [] → okBs l = true → l.countP isTip = 0 → nxt l ≠ [] ∧ nears l = nears (nxt l) + 1
  | [], h, _, _ => absurd rfl h
  | b :: l, _, ho, hc => by
    have h' : okB b = true ∧ okBs l = true := by simpa [okBs] using ho
    rw [List.countP_cons] at hc
    cases b with
    | tip => simp [isTip] at hc
    | knot c bs =>
      have hb : bs ≠ [] := by
        intro e
        have := (okB_knot h'.1).2.1.1
        rw [e] at this
        simp at this
      have hn : near (.knot c bs) = nears bs + 1 := rfl
      rw [nxt_cons]
      have hk : kids (.knot c bs) = bs := rfl
      rw [hk]
      refine ⟨by simp [hb], ?_⟩
      by_cases e : l = []
      · subst e
        rw [nears_one, hn, show nxt ([] : List Bu) = [] from rfl, List.append_nil]
      · have ih := no_tip e h'.2 (by omega)
        rw [nears_cons _ e, nears_app hb ih.1, ih.2, hn]
        omega
theorem some_tip : ∀ {l : List Bu}, 0 < l.countP isTip → nears l = 0
  | [], h => by simp at h
  | b :: l, h => by
    cases b with
    | tip =>
      by_cases e : l = []
      · subst e; rfl
      · rw [nears_cons _ e]; exact Nat.zero_min _
    | knot c bs =>
      rw [List.countP_cons] at h
      have h1 : 0 < l.countP isTip := by simpa [isTip] using h
      have e : l ≠ [] := by intro e; subst e; simp at h1
      rw [nears_cons _ e, some_tip h1]; exact Nat.min_zero _
theorem lv_near : ∀ (n : Nat) (l : List Bu), l ≠ [] → okBs l = true → deps l < n →
    nears l < (lvsN n l).length ∧ 0 < ((lvsN n l).getD (nears l) []).countP isTip ∧ ∀ i, i < nears l → ((lvsN n l).getD i []).countP isTip = 0
  | 0, _, _, _, h => absurd h (by omega)
  | n + 1, l, hn, ho, h => by
    rw [lvsN_cons hn]
    by_cases hc : 0 < l.countP isTip
    · rw [some_tip hc]
      exact ⟨by simp, by simpa using hc, fun i hi => absurd hi (by omega)⟩
    · obtain ⟨h1, h2⟩ := no_tip hn ho (by omega)
      obtain ⟨a, b, c⟩ := lv_near n (nxt l) h1 (okBs_nxt ho) ((nxt_lt h).resolve_right h1)
      rw [h2]
      refine ⟨by simpa using a, by simpa using b, fun i hi => ?_⟩
      cases i with
      | zero => simpa using hc
      | succ i => simpa using c i (by omega)
theorem Good.fits {b : Bu} (G : Good b) : Fits b := by
  have hd : deps [b] = Bk.dep b := Nat.max_zero _
  have ho : okBs [b] = true := by show okB b && true = true; rw [G.ok]; rfl
  have hk : kt [b] = knots b + tips b := rfl
  have hf := G.few
  obtain ⟨n1, n2, n3⟩ := lv_near (Bk.dep b + 1) [b] (by simp) ho (by rw [hd]; omega)
  rw [nears_one] at n1 n2 n3
  have hg : ∀ i, (cnts b).getD i 0 = (((lvls b).getD i []).countP isTip : Nat) := by
    intro i
    unfold cnts
    rw [List.getD_eq_getElem?_getD, List.getD_eq_getElem?_getD, List.getElem?_map]
    cases (lvls b)[i]? with
    | none => rfl
    | some l => rfl
  refine ⟨G.ok, by have := G.dep; omega, by omega, fun l hl => ?_, fun l hl => ?_, ?_, ?_, ?_, ?_, ?_⟩
  · have := (lv_mem _ _ _ ho hl).2
    omega
  · exact (lv_mem _ _ _ ho hl).1
  · have := lv_sum (Bk.dep b + 1) [b] (.inr (by rw [hd]; omega))
    rw [hk] at this
    exact this
  · exact lv_tip (Bk.dep b + 1) [b] (.inr (by rw [hd]; omega))
  · have := lv_len (Bk.dep b + 1) [b] (by simp) ho (by rw [hd]; omega)
    rw [hd] at this
    exact this
  · refine List.mem_filterMap.mpr ⟨near b, List.mem_range.mpr ?_, ?_⟩
    · unfold cnts
      rw [List.length_map]
      exact n1
    · rw [hg]
      exact if_pos (decide_eq_true (Int.natCast_pos.mpr n2))
  · intro y hy
    obtain ⟨i, _, h2⟩ := List.mem_filterMap.mp hy
    rw [hg] at h2
    by_cases c : 0 < (((lvls b).getD i []).countP isTip : Nat)
    · rw [if_pos (decide_eq_true (Int.natCast_pos.mpr c))] at h2
      have e := Option.some.inj h2
      by_cases hi : i < near b
      · have := n3 i hi
        have c' : 0 < ((lvsN (Bk.dep b + 1) [b]).getD i []).countP isTip := c
        omega
      · omega
    · rw [if_neg (fun e => c (Int.natCast_pos.mp (of_decide_eq_true e)))] at h2
      cases h2
/-! ### grown bushes -/
mutual
theorem dep_grow (g : Bu) : ∀ b : Bu, okB b = true → dep (grow b g) = dep b + dep g
  | .tip, _ => by show dep g = 0 + dep g; omega
  | .knot c bs, h => by
    obtain ⟨_, h2, h3⟩ := okB_knot h
    show deps (growL bs g) + 1 = deps bs + 1 + dep g
    have := deps_growL g bs h3 (by intro e; rw [e] at h2; simp at h2)
    omega
theorem deps_growL (g : Bu) : ∀ bs : List Bu, okBs bs = true → bs ≠ [] → deps (growL bs g) = deps bs + dep g
  | [], _, h => absurd rfl h
  | b :: bs, h, _ => by
    have h' : okB b = true ∧ okBs bs = true := by simpa [okBs] using h
    have h1 := dep_grow g b h'.1
    rw [growL, deps, deps, h1]
    by_cases e : bs = []
    · subst e
      show max _ 0 = max (dep b) 0 + dep g
      omega
    · rw [deps_growL g bs h'.2 e]
      omega
end
mutual
theorem ok_grow2 {g : Bu} (hg : okB g = true) : ∀ b : Bu, okB b = true → okB (grow b g) = true
  | .tip, _ => hg
  | .knot c bs, h => by
    obtain ⟨h1, h2, h3⟩ := okB_knot h
    show okB (.knot c (growL bs g)) = true
    have h4 := ok_growL hg bs h3
    have h5 : (growL bs g).length = bs.length := by rw [growL_map, List.length_map]
    simp [okB, h1, h2, h4, h5]
theorem ok_growL {g : Bu} (hg : okB g = true) : ∀ bs : List Bu, okBs bs = true → okBs (growL bs g) = true
  | [], _ => rfl
  | b :: bs, h => by
    have h' : okB b = true ∧ okBs bs = true := by simpa [okBs] using h
    rw [growL, okBs, ok_grow2 hg b h'.1, ok_growL hg bs h'.2]
    rfl
end
mutual
theorem sizes_grow (g : Bu) : ∀ b : Bu, knots (grow b g) = knots b + tips b * knots g ∧ tips (grow b g) = tips b * tips g
  | .tip => by
    show knots g = 0 + 1 * knots g ∧ tips g = 1 * tips g
    omega
  | .knot c bs => by
    have h := sizes_growL g bs
    show knotss (growL bs g) + 1 = knotss bs + 1 + tipss bs * knots g ∧ tipss (growL bs g) = tipss bs * tips g
    exact ⟨by rw [h.1]; omega, h.2⟩
theorem sizes_growL (g : Bu) : ∀ bs : List Bu, knotss (growL bs g) = knotss bs + tipss bs * knots g ∧ tipss (growL bs g) = tipss bs * tips g
  | [] => by simp [growL, knotss, tipss]
  | b :: bs => by
    have h1 := sizes_grow g b
    have h2 := sizes_growL g bs
    show knots (grow b g) + knotss (growL bs g) = knots b + knotss bs + (tips b + tipss bs) * knots g ∧ tips (grow b g) + tipss (growL bs g) = (tips b + tipss bs) * tips g
    rw [h1.1, h1.2, h2.1, h2.2, Nat.add_mul, Nat.add_mul]
    constructor
    · omega
    · rfl
end
mutual
theorem near_grow (g : Bu) : ∀ b : Bu, okB b = true → near (grow b g) = near b + near g
  | .tip, _ => by show near g = 0 + near g; omega
  | .knot c bs, h => by
    obtain ⟨_, h2, h3⟩ := okB_knot h
    show nears (growL bs g) + 1 = nears bs + 1 + near g
    have := nears_growL g bs h3 (by intro e; rw [e] at h2; simp at h2)
    omega
theorem nears_growL (g : Bu) : ∀ bs : List Bu, okBs bs = true → bs ≠ [] → nears (growL bs g) = nears bs + near g
  | [], _, h => absurd rfl h
  | b :: bs, h, _ => by
    have h' : okB b = true ∧ okBs bs = true := by simpa [okBs] using h
    have h1 := near_grow g b h'.1
    by_cases e : bs = []
    · subst e
      show nears [grow b g] = nears [b] + near g
      rw [nears_one, nears_one, h1]
    · have e2 : growL bs g ≠ [] := by
        intro hh
        have : (growL bs g).length = bs.length := by rw [growL_map, List.length_map]
        rw [hh] at this
        exact e (List.eq_nil_of_length_eq_zero this.symm)
      rw [growL, nears_cons _ e2, nears_cons _ e, h1, nears_growL g bs h'.2 e]
      omega
end
/-- a bush grown by a row -/
def growAll (b : Bu) (gs : List Bu) : Bu := gs.foldl grow b
theorem growAll_snoc (b : Bu) (gs : List Bu) (g : Bu) : growAll b (gs ++ [g]) = grow (growAll b gs) g := by unfold growAll; rw [List.foldl_append]; rfl
theorem ok_growAll : ∀ {gs : List Bu} {b : Bu}, okB b = true → (∀ g ∈ gs, okB g = true) → okB (growAll b gs) = true
  | [], _, h, _ => h
  | g :: gs, b, h, hg => ok_growAll (gs := gs) (b := grow b g) (ok_grow2 (hg g List.mem_cons_self) b h) fun x hx => hg x (List.mem_cons_of_mem _ hx)
/-- the counts are those of the bush grown -/
theorem ctrs_grow : ∀ {gs : List Bu} {b : Bu}, okB b = true → (∀ g ∈ gs, okB g = true) →
    ctrs b gs = (knots (growAll b gs), tips (growAll b gs), near (growAll b gs), dep (growAll b gs))
  | [], _, _, _ => rfl
  | g :: gs, b, h, hg => by
    have ih := ctrs_grow (gs := gs) (b := grow b g) (ok_grow2 (hg g List.mem_cons_self) b h) fun x hx => hg x (List.mem_cons_of_mem _ hx)
    have e : ctrs b (g :: gs) = ctrs (grow b g) gs := by
      unfold ctrs
      rw [List.foldl_cons]
      have hs := sizes_grow g b
      have e2 : ctr (knots b, tips b, near b, dep b) g = (knots (grow b g), tips (grow b g), near (grow b g), dep (grow b g)) := by
        unfold ctr
        rw [hs.1, hs.2, near_grow g b h, dep_grow g b h]
      rw [e2]
    rw [e, ih]
    rfl
theorem dep_growAll : ∀ {gs : List Bu} {b : Bu}, okB b = true → (∀ g ∈ gs, okB g = true) → dep b ≤ dep (growAll b gs)
  | [], _, _, _ => Nat.le_refl _
  | g :: gs, b, h, hg => by
    have ih := dep_growAll (gs := gs) (b := grow b g) (ok_grow2 (hg g List.mem_cons_self) b h) fun x hx => hg x (List.mem_cons_of_mem _ hx)
    have := dep_grow g b h
    show dep b ≤ dep (growAll (grow b g) gs)
    omega
theorem tips_pos : ∀ {b : Bu}, okB b = true → 1 ≤ tips b := by
  have key : ∀ n, ∀ b : Bu, dep b ≤ n → okB b = true → 1 ≤ tips b := by
    intro n
    induction n with
    | zero =>
      intro b hd ho
      cases b with
      | tip => exact Nat.le_refl 1
      | knot c bs => simp [dep] at hd
    | succ n ih =>
      intro b hd ho
      cases b with
      | tip => exact Nat.le_refl 1
      | knot c bs =>
        obtain ⟨_, h2, h3⟩ := okB_knot ho
        cases bs with
        | nil => simp at h2
        | cons b t =>
          have h4 : dep b ≤ n := by
            have := dep_le (bs := b :: t) (b := b) List.mem_cons_self
            simp only [dep] at hd
            omega
          have h5 := ih b h4 (okBs_mem h3 List.mem_cons_self)
          show 1 ≤ tips b + tipss t
          omega
  exact fun {b} h => key _ b (Nat.le_refl _) h
theorem size_growAll : ∀ {gs : List Bu} {b : Bu}, okB b = true → (∀ g ∈ gs, okB g = true) → knots b + tips b ≤ knots (growAll b gs) + tips (growAll b gs)
  | [], _, _, _ => Nat.le_refl _
  | g :: gs, b, h, hg => by
    have hgo := hg g List.mem_cons_self
    have ih := size_growAll (gs := gs) (b := grow b g) (ok_grow2 hgo b h) fun x hx => hg x (List.mem_cons_of_mem _ hx)
    have hs := sizes_grow g b
    have ht := tips_pos hgo
    have h1 : tips b * 1 ≤ tips b * tips g := Nat.mul_le_mul_left _ ht
    show knots b + tips b ≤ knots (growAll (grow b g) gs) + tips (growAll (grow b g) gs)
    have h2 : 0 ≤ tips b * knots g := Nat.zero_le _
    omega
end Bk

namespace Bk
open PySem PySem.Spec PyProof.Rows L2
open Evl (Ex Ev EvT EvL EvU EvA)
structure Can (b : Bu) (gs : List Bu) : Prop where
  hb : Good b
  hg : ∀ g ∈ gs, Good g
  n : gs.length ≤ 12
  few : knots (growAll b gs) + tips (growAll b gs) ≤ 400
  deep : dep (growAll b gs) ≤ 60
/-- a bush and what it comes to behind each year, up to one -/
def yrs (b : Bu) (gs : List Bu) (i : Nat) : List Bu := (List.range (i + 1)).map fun j => growAll b (gs.take j)
theorem yrs_succ (b : Bu) (gs : List Bu) (i : Nat) : yrs b gs (i + 1) = yrs b gs i ++ [growAll b (gs.take (i + 1))] := by
  unfold yrs
  rw [List.range_succ, List.map_append]
  rfl
theorem yrs_last (b : Bu) (gs : List Bu) (i : Nat) : ∃ l, yrs b gs i = l ++ [growAll b (gs.take i)] := by
  unfold yrs
  rw [List.range_succ, List.map_append]
  exact ⟨_, rfl⟩
theorem dpAll_last {K : PySem.W.Frag} {H : Hp} {vs : List V} {l : List Bu} {b : Bu} (h : DpAll K H vs ((l ++ [b]).map toD)) : ∃ us v, vs = us ++ [v] ∧ Dp K H v (toD b) := by
  induction l generalizing vs with
  | nil =>
    cases h with
    | cons h1 h2 => cases h2; exact ⟨[], _, rfl, h1⟩
  | cons x l ih =>
    cases h with
    | cons h1 h2 =>
      obtain ⟨us, v, e, d⟩ := ih h2
      exact ⟨_ :: us, v, by rw [e]; rfl, d⟩
section
variable {P : Program} {w : World} {K : PySem.W.Frag} {mg : Str → Option Value} {base : Heap}
def spAreGr (K : PySem.W.Frag) : Sp := fun vs H Q _ => ∃ (v : V) (gs : List Bu), vs = [v] ∧ Dp K H v (.tuple (gs.map toD)) ∧ (∀ g ∈ gs, Good g) ∧ gs.length ≤ 12 ∧ ∀ H', Ex H H' → Q (.bl true) H'
def spCheckB (K : PySem.W.Frag) : Sp := fun vs H Q _ => ∃ (v : V) (b : Bu), vs = [v] ∧ Dp K H v (toD b) ∧ Good b ∧ ∀ H', Ex H H' → Q .non H'
def spCheckG (K : PySem.W.Frag) : Sp := fun vs H Q _ => ∃ (v : V) (gs : List Bu), vs = [v] ∧ Dp K H v (.tuple (gs.map toD)) ∧ (∀ g ∈ gs, Good g) ∧ gs.length ≤ 12 ∧ ∀ H', Ex H H' → Q .non H'
def spRoom (K : PySem.W.Frag) : Sp := fun vs H Q _ => ∃ (v r : V) (b : Bu) (gs : List Bu), vs = [v, r] ∧ Dp K H v (toD b) ∧ Dp K H r (.tuple (gs.map toD)) ∧ Can b gs ∧ ∀ H', Ex H H' → Q .non H'
def spYears (K : PySem.W.Frag) : Sp := fun vs H Q _ => ∃ (v r : V) (b : Bu) (gs : List Bu), vs = [v, r] ∧ Dp K H v (toD b) ∧ Dp K H r (.tuple (gs.map toD)) ∧ Can b gs ∧ ∀ p H', H p = none → Ex H H' → LsB K H' p (yrs b gs gs.length) → Q (.ref p) H'
/-- the call of the years, as data -/
theorem ed_years {σ : L2.St} {H : Hp} {ta : TA} {E : XK} {b : Bu} {gs : List Bu} (C : Can b gs) (h : EvAD K ta σ H [toD b, .tuple (gs.map toD)]) : EvD K (tCall (spYears K) [] E ta) σ H (.list ((yrs b gs gs.length).map toD)) :=
  el_callD h fun vs H1 e1 hvs R r => by
    cases hvs with
    | cons h1 h2 =>
      cases h2 with
      | cons h3 h4 =>
        cases h4
        exact ⟨_, _, b, gs, rfl, h1, h3, C, fun p H' hp e ⟨us, h5, h6⟩ => r p H' us hp e h5 h6⟩
theorem yrs_lastD (b : Bu) (gs : List Bu) : ∃ l, (yrs b gs gs.length).map toD = l ++ [toD (growAll b gs)] := by
  obtain ⟨l, h⟩ := yrs_last b gs gs.length
  rw [h, List.map_append, List.take_length]
  exact ⟨_, rfl⟩
def spGrown (K : PySem.W.Frag) : Sp := fun vs H Q _ => ∃ (v g : V) (b gb : Bu), vs = [v, g] ∧ Dp K H v (toD b) ∧ Dp K H g (toD gb) ∧ Can b [gb] ∧ ∀ r H', Ex H H' → Dp K H' r (toD (grow b gb)) → Q r H'
def spGrownBy (K : PySem.W.Frag) : Sp := fun vs H Q _ => ∃ (v r : V) (b : Bu) (gs : List Bu), vs = [v, r] ∧ Dp K H v (toD b) ∧ Dp K H r (.tuple (gs.map toD)) ∧ Can b gs ∧ ∀ r H', Ex H H' → Dp K H' r (toD (growAll b gs)) → Q r H'
def spGrownOn (K : PySem.W.Frag) : Sp := fun vs H Q _ => ∃ (v r : V) (b : Bu) (gs : List Bu), vs = [v, r] ∧ Dp K H v (toD b) ∧ Dp K H r (.tuple (gs.map toD)) ∧ Can b gs ∧ ∀ r H', Ex H H' → Dp K H' r (.list ((yrs b gs gs.length).map toD)) → Q r H'
def spBushOf (K : PySem.W.Frag) : Sp := fun vs H Q _ => ∃ (r : V) (gs : List Bu), vs = [r] ∧ Dp K H r (.tuple (gs.map toD)) ∧ Can .tip gs ∧ ∀ r H', Ex H H' → Dp K H' r (toD (growAll .tip gs)) → Q r H'
end
end Bk

namespace Bk
open PySem PySem.Spec PyProof.Rows L2
/-! ### roads -/
abbrev Rb := List Int × Bu
def at1 (i : Int) (p : Rb) : Rb := (i :: p.1, p.2)
mutual
/-- all parts with their roads, as they are met: the last branch first -/
def vis : Bu → List Rb
  | .tip => [([], .tip)]
  | .knot c bs => ([], .knot c bs) :: visL 0 bs
def visL : Nat → List Bu → List Rb
  | _, [] => []
  | i, b :: bs => visL (i + 1) bs ++ (vis b).map (at1 i)
end
mutual
/-- the same in order -/
def pre : Bu → List Rb
  | .tip => [([], .tip)]
  | .knot c bs => ([], .knot c bs) :: preL 0 bs
def preL : Nat → List Bu → List Rb
  | _, [] => []
  | i, b :: bs => (pre b).map (at1 i) ++ preL (i + 1) bs
end
mutual
/-- the roads to the tips, in order -/
def tr : Bu → List (List Int)
  | .tip => [[]]
  | .knot _ bs => trL 0 bs
def trL : Nat → List Bu → List (List Int)
  | _, [] => []
  | i, b :: bs => (tr b).map ((i : Int) :: ·) ++ trL (i + 1) bs
end
mutual
theorem vis_perm : ∀ b : Bu, (vis b).Perm (pre b)
  | .tip => List.Perm.refl _
  | .knot c bs => (visL_perm 0 bs).cons _
theorem visL_perm : ∀ (i : Nat) (bs : List Bu), (visL i bs).Perm (preL i bs)
  | _, [] => List.Perm.refl _
  | i, b :: bs => (List.perm_append_comm).trans (((vis_perm b).map _).append (visL_perm (i + 1) bs))
end
theorem preL_ge : ∀ {i : Nat} {bs : List Bu} {p : Rb}, p ∈ preL i bs → ∃ (j : Nat) (r : List Int), p.1 = (j : Int) :: r ∧ i ≤ j
  | i, [], p, h => by simp [preL] at h
  | i, b :: bs, p, h => by
    rw [preL] at h
    rcases List.mem_append.mp h with h | h
    · obtain ⟨q, _, rfl⟩ := List.mem_map.mp h
      exact ⟨i, q.1, rfl, Nat.le_refl _⟩
    · obtain ⟨j, r, h1, h2⟩ := preL_ge h
      exact ⟨j, r, h1, by omega⟩
mutual
theorem pre_sorted : ∀ b : Bu, (pre b).Pairwise fun p q => p.1 < q.1
  | .tip => by simp [pre]
  | .knot c bs => by
    rw [pre]
    refine List.pairwise_cons.mpr ⟨fun q hq => ?_, preL_sorted 0 bs⟩
    obtain ⟨j, r, h, _⟩ := preL_ge hq
    rw [h]
    exact List.nil_lt_cons _ _
theorem preL_sorted : ∀ (i : Nat) (bs : List Bu), (preL i bs).Pairwise fun p q => p.1 < q.1
  | _, [] => by simp [preL]
  | i, b :: bs => by
    rw [preL]
    refine List.pairwise_append.mpr ⟨?_, preL_sorted (i + 1) bs, fun p hp q hq => ?_⟩
    · refine List.pairwise_map.mpr ((pre_sorted b).imp fun {p q} h => ?_)
      exact List.cons_lt_cons_iff.mpr (.inr ⟨rfl, h⟩)
    · obtain ⟨p', _, rfl⟩ := List.mem_map.mp hp
      obtain ⟨j, r, h, h2⟩ := preL_ge hq
      rw [h]
      exact List.cons_lt_cons_iff.mpr (.inl (by omega))
end
theorem leR_iff {a b : List Int} : leR a b = true ↔ a ≤ b := by
  unfold leR
  rw [Bool.not_eq_true', decide_eq_false_iff_not]
  exact List.not_lt
theorem sort_vis (b : Bu) : ((vis b).map (·.1)).mergeSort leR = (pre b).map (·.1) := by
  have hp : (((vis b).map (·.1)).mergeSort leR).Perm ((pre b).map (·.1)) := (List.mergeSort_perm _ _).trans ((vis_perm b).map _)
  refine List.Perm.eq_of_pairwise (le := fun a b => leR a b = true) (fun x y _ _ h1 h2 => ?_) (List.pairwise_mergeSort (fun x y z h1 h2 => ?_) (fun x y => ?_) _) ?_ hp
  · exact List.le_antisymm (leR_iff.mp h1) (leR_iff.mp h2)
  · exact leR_iff.mpr (List.le_trans (leR_iff.mp h1) (leR_iff.mp h2))
  · rcases List.le_total x y with h | h
    · rw [leR_iff.mpr h]; rfl
    · rw [leR_iff.mpr h]; exact Bool.or_true _
  · refine List.pairwise_map.mpr ((pre_sorted b).imp fun {p q} h => ?_)
    exact leR_iff.mpr (List.le_of_lt h)
theorem nodup_vis (b : Bu) : ((vis b).map (·.1)).Nodup := by
  refine ((vis_perm b).map _).nodup_iff.mpr ?_
  refine List.pairwise_map.mpr ((pre_sorted b).imp fun {p q} h e => ?_)
  rw [e] at h
  exact List.lt_irrefl _ h
theorem tips_at1 (l : List Rb) (i : Nat) : ((l.map (at1 i)).filter (fun p => isTip p.2)).map (·.1) = ((l.filter (fun p => isTip p.2)).map (·.1)).map ((i : Int) :: ·) := by
  rw [List.filter_map, List.map_map, List.map_map]
  rfl
mutual
theorem pre_tips : ∀ b : Bu, ((pre b).filter (fun p => isTip p.2)).map (·.1) = tr b
  | .tip => rfl
  | .knot c bs => by
    rw [pre, tr, List.filter_cons_of_neg (by simp [isTip])]
    exact preL_tips 0 bs
theorem preL_tips : ∀ (i : Nat) (bs : List Bu), ((preL i bs).filter (fun p => isTip p.2)).map (·.1) = trL i bs
  | _, [] => rfl
  | i, b :: bs => by
    rw [preL, trL, List.filter_append, List.map_append, tips_at1, pre_tips b, preL_tips (i + 1) bs]
end
mutual
theorem pre_knots : ∀ b : Bu, (pre b).countP (fun p => !isTip p.2) = knots b
  | .tip => rfl
  | .knot c bs => by
    rw [pre, List.countP_cons, preL_knots 0 bs]
    rfl
theorem preL_knots : ∀ (i : Nat) (bs : List Bu), (preL i bs).countP (fun p => !isTip p.2) = knotss bs
  | _, [] => rfl
  | i, b :: bs => by
    rw [preL, List.countP_append, List.countP_map, preL_knots (i + 1) bs]
    have := pre_knots b
    exact congrArg (· + knotss bs) this
end
mutual
theorem pre_len : ∀ b : Bu, (pre b).length = knots b + tips b
  | .tip => rfl
  | .knot c bs => by
    rw [pre, List.length_cons, preL_len 0 bs]
    simp only [knots, tips]
    omega
theorem preL_len : ∀ (i : Nat) (bs : List Bu), (preL i bs).length = knotss bs + tipss bs
  | _, [] => rfl
  | i, b :: bs => by
    rw [preL, List.length_append, List.length_map, preL_len (i + 1) bs, pre_len b]
    simp only [knotss, tipss]
    omega
end
theorem vis_len (b : Bu) : (vis b).length = knots b + tips b := by rw [(vis_perm b).length_eq, pre_len]
theorem vis_knots (b : Bu) : (vis b).countP (fun p => !isTip p.2) = knots b := by rw [(vis_perm b).countP_eq, pre_knots]
mutual
theorem tr_len : ∀ b : Bu, (tr b).length = tips b
  | .tip => rfl
  | .knot c bs => by rw [tr, trL_len 0 bs]; rfl
theorem trL_len : ∀ (i : Nat) (bs : List Bu), (trL i bs).length = tipss bs
  | _, [] => rfl
  | i, b :: bs => by rw [trL, List.length_append, List.length_map, trL_len (i + 1) bs, tr_len b]; rfl
end
mutual
theorem tr_dep : ∀ (b : Bu) (r : List Int), r ∈ tr b → r.length ≤ dep b
  | .tip, r, h => by simp [tr] at h; subst h; exact Nat.le_refl _
  | .knot c bs, r, h => trL_dep 0 bs r h
theorem trL_dep : ∀ (i : Nat) (bs : List Bu) (r : List Int), r ∈ trL i bs → r.length ≤ deps bs + 1
  | _, [], r, h => by simp [trL] at h
  | i, b :: bs, r, h => by
    rw [trL] at h
    rw [deps]
    rcases List.mem_append.mp h with h | h
    · obtain ⟨q, hq, rfl⟩ := List.mem_map.mp h
      have := tr_dep b q hq
      rw [List.length_cons]
      omega
    · have := trL_dep (i + 1) bs r h
      omega
end
mutual
theorem tr_near : ∀ (b : Bu) (r : List Int), r ∈ tr b → near b ≤ r.length
  | .tip, r, h => Nat.zero_le _
  | .knot c bs, r, h => by
    have := trL_near 0 bs r h
    show nears bs + 1 ≤ _
    omega
theorem trL_near : ∀ (i : Nat) (bs : List Bu) (r : List Int), r ∈ trL i bs → nears bs + 1 ≤ r.length
  | _, [], r, h => by simp [trL] at h
  | i, b :: bs, r, h => by
    rw [trL] at h
    rcases List.mem_append.mp h with h | h
    · obtain ⟨q, hq, rfl⟩ := List.mem_map.mp h
      have := tr_near b q hq
      rw [List.length_cons]
      by_cases e : bs = []
      · subst e; rw [nears_one]; omega
      · rw [nears_cons _ e]; omega
    · have := trL_near (i + 1) bs r h
      by_cases e : bs = []
      · subst e; simp [trL] at h
      · rw [nears_cons _ e]; omega
end
mutual
theorem tr_ends : ∀ b : Bu, okB b = true → (∃ r ∈ tr b, r.length = dep b) ∧ ∃ r ∈ tr b, r.length = near b
  | .tip, _ => ⟨⟨[], List.mem_cons_self, rfl⟩, ⟨[], List.mem_cons_self, rfl⟩⟩
  | .knot c bs, h => by
    obtain ⟨_, h2, h3⟩ := okB_knot h
    exact trL_ends 0 bs h3 (by intro e; rw [e] at h2; simp at h2)
theorem trL_ends : ∀ (i : Nat) (bs : List Bu), okBs bs = true → bs ≠ [] → (∃ r ∈ trL i bs, r.length = deps bs + 1) ∧ ∃ r ∈ trL i bs, r.length = nears bs + 1
  | _, [], _, h => absurd rfl h
  | i, b :: bs, h, _ => by
    have h' : okB b = true ∧ okBs bs = true := by simpa [okBs] using h
    obtain ⟨⟨r1, m1, l1⟩, ⟨r2, m2, l2⟩⟩ := tr_ends b h'.1
    rw [trL, deps]
    have n1 : ((i : Int) :: r1) ∈ (tr b).map ((i : Int) :: ·) := List.mem_map.mpr ⟨r1, m1, rfl⟩
    have n2 : ((i : Int) :: r2) ∈ (tr b).map ((i : Int) :: ·) := List.mem_map.mpr ⟨r2, m2, rfl⟩
    by_cases e : bs = []
    · subst e
      rw [nears_one]
      have : deps ([] : List Bu) = 0 := rfl
      exact ⟨⟨_, List.mem_append_left _ n1, by rw [List.length_cons]; omega⟩, ⟨_, List.mem_append_left _ n2, by rw [List.length_cons]; omega⟩⟩
    · obtain ⟨⟨r3, m3, l3⟩, ⟨r4, m4, l4⟩⟩ := trL_ends (i + 1) bs h'.2 e
      rw [nears_cons _ e]
      constructor
      · by_cases c : dep b ≤ deps bs
        · exact ⟨r3, List.mem_append_right _ m3, by omega⟩
        · exact ⟨_, List.mem_append_left _ n1, by rw [List.length_cons]; omega⟩
      · by_cases c : near b ≤ nears bs
        · exact ⟨_, List.mem_append_left _ n2, by rw [List.length_cons]; omega⟩
        · exact ⟨r4, List.mem_append_right _ m4, by omega⟩
end
/-! ### a growth in the place of the part at a road -/
mutual
def putB : Bu → List Int → Bu → Bu
  | _, [], g => g
  | .tip, _ :: _, _ => .tip
  | .knot c bs, i :: r, g => .knot c (putL bs i.toNat r g)
def putL : List Bu → Nat → List Int → Bu → List Bu
  | [], _, _, _ => []
  | b :: bs, 0, r, g => putB b r g :: bs
  | b :: bs, n + 1, r, g => b :: putL bs n r g
end
mutual
def inB : Bu → List Int → Prop
  | _, [] => True
  | .tip, _ :: _ => False
  | .knot _ bs, i :: r => 0 ≤ i ∧ inL bs i.toNat r
def inL : List Bu → Nat → List Int → Prop
  | [], _, _ => False
  | b :: _, 0, r => inB b r
  | _ :: bs, n + 1, r => inL bs n r
end
theorem inL_get : ∀ {bs : List Bu} {n : Nat} {r : List Int}, inL bs n r → ∃ b, bs[n]? = some b ∧ inB b r
  | [], _, _, h => by simp [inL] at h
  | b :: _, 0, r, h => ⟨b, rfl, by simpa [inL] using h⟩
  | b :: bs, n + 1, r, h => by
    obtain ⟨x, h1, h2⟩ := inL_get (bs := bs) (n := n) (r := r) (by simpa [inL] using h)
    exact ⟨x, by simpa using h1, h2⟩
theorem putL_eq : ∀ {bs : List Bu} {n : Nat} {r : List Int} {g b : Bu}, bs[n]? = some b → putL bs n r g = bs.take n ++ putB b r g :: bs.drop (n + 1)
  | [], _, _, _, _, h => by simp at h
  | x :: bs, 0, r, g, b, h => by
    have e : x = b := by simpa using h
    subst e
    simp [putL]
  | x :: bs, n + 1, r, g, b, h => by
    have := putL_eq (bs := bs) (n := n) (r := r) (g := g) (b := b) (by simpa using h)
    simp [putL, this]
theorem putL_len : ∀ (bs : List Bu) (n : Nat) (r : List Int) (g : Bu), (putL bs n r g).length = bs.length
  | [], _, _, _ => rfl
  | x :: bs, 0, r, g => rfl
  | x :: bs, n + 1, r, g => by rw [putL, List.length_cons, putL_len bs n r g, List.length_cons]
mutual
theorem ok_put {g : Bu} (hg : okB g = true) : ∀ (b : Bu) (r : List Int), okB b = true → okB (putB b r g) = true
  | .tip, [], _ => by rw [putB]; exact hg
  | .tip, _ :: _, _ => by rw [putB]; rfl
  | .knot c bs, [], _ => by rw [putB]; exact hg
  | .knot c bs, i :: r, h => by
    obtain ⟨h1, h2, h3⟩ := okB_knot h
    rw [putB]
    have h4 := ok_putL hg bs i.toNat r h3
    have h5 := putL_len bs i.toNat r g
    simp [okB, h1, h2, h4, h5]
theorem ok_putL {g : Bu} (hg : okB g = true) : ∀ (bs : List Bu) (n : Nat) (r : List Int), okBs bs = true → okBs (putL bs n r g) = true
  | [], _, _, _ => by simp [putL, okBs]
  | x :: bs, 0, r, h => by
    have h' : okB x = true ∧ okBs bs = true := by simpa [okBs] using h
    simp [putL, okBs, ok_put hg x r h'.1, h'.2]
  | x :: bs, n + 1, r, h => by
    have h' : okB x = true ∧ okBs bs = true := by simpa [okBs] using h
    simp [putL, okBs, h'.1, ok_putL hg bs n r h'.2]
end
/-- putting at one road after the other goes well -/
def goes (g : Bu) : Bu → List (List Int) → Prop
  | _, [] => True
  | x, r :: rs => inB x r ∧ goes g (putB x r g) rs
def puts (g : Bu) (x : Bu) (rs : List (List Int)) : Bu := rs.foldl (fun x r => putB x r g) x
theorem goes_app (g : Bu) : ∀ (rs ss : List (List Int)) (x : Bu), goes g x (rs ++ ss) ↔ goes g x rs ∧ goes g (puts g x rs) ss
  | [], ss, x => by simp [goes, puts]
  | r :: rs, ss, x => by
    have := goes_app g rs ss (putB x r g)
    simp only [List.cons_append, goes, this, puts, List.foldl_cons, and_assoc]
theorem puts_app (g x : Bu) (rs ss : List (List Int)) : puts g x (rs ++ ss) = puts g (puts g x rs) ss := by unfold puts; rw [List.foldl_append]
theorem putL_mid (dn : List Bu) (b : Bu) (bs : List Bu) (r : List Int) (g : Bu) : putL (dn ++ b :: bs) dn.length r g = dn ++ putB b r g :: bs := by
  rw [putL_eq (b := b) (by simp)]
  simp
theorem inL_mid : ∀ (dn : List Bu) (b : Bu) (bs : List Bu) (r : List Int), inL (dn ++ b :: bs) dn.length r ↔ inB b r
  | [], b, bs, r => by simp [inL]
  | x :: dn, b, bs, r => by
    have := inL_mid dn b bs r
    simpa [inL] using this
theorem puts_mid (g : Bu) (c : Nat) (dn bs : List Bu) : ∀ (rs : List (List Int)) (b : Bu), puts g (.knot c (dn ++ b :: bs)) (rs.map (((dn.length : Nat) : Int) :: ·)) = .knot c (dn ++ puts g b rs :: bs) ∧
    (goes g b rs → goes g (.knot c (dn ++ b :: bs)) (rs.map (((dn.length : Nat) : Int) :: ·)))
  | [], b => ⟨rfl, fun _ => by simp [goes]⟩
  | r :: rs, b => by
    have e : putB (.knot c (dn ++ b :: bs)) (((dn.length : Nat) : Int) :: r) g = .knot c (dn ++ putB b r g :: bs) := by
      rw [putB]
      show Bu.knot c (putL (dn ++ b :: bs) dn.length r g) = _
      rw [putL_mid]
    obtain ⟨h1, h2⟩ := puts_mid g c dn bs rs (putB b r g)
    refine ⟨?_, fun h => ?_⟩
    · show puts g (putB (.knot c (dn ++ b :: bs)) (((dn.length : Nat) : Int) :: r) g) (rs.map (((dn.length : Nat) : Int) :: ·)) = _
      rw [e, h1]
      rfl
    · show inB (.knot c (dn ++ b :: bs)) (((dn.length : Nat) : Int) :: r) ∧ goes g (putB (.knot c (dn ++ b :: bs)) (((dn.length : Nat) : Int) :: r) g) (rs.map (((dn.length : Nat) : Int) :: ·))
      rw [e]
      refine ⟨?_, h2 h.2⟩
      rw [inB]
      exact ⟨by omega, (inL_mid dn b bs r).mpr h.1⟩
mutual
theorem puts_tr (g : Bu) : ∀ b : Bu, puts g b (tr b) = grow b g ∧ goes g b (tr b)
  | .tip => by
    refine ⟨by rw [tr, grow]; show putB .tip [] g = g; rw [putB], ?_⟩
    rw [tr]
    exact ⟨by rw [inB]; trivial, trivial⟩
  | .knot c bs => puts_trL g c [] bs
theorem puts_trL (g : Bu) (c : Nat) (dn : List Bu) : ∀ bs : List Bu, puts g (.knot c (dn ++ bs)) (trL dn.length bs) = .knot c (dn ++ growL bs g) ∧ goes g (.knot c (dn ++ bs)) (trL dn.length bs)
  | [] => ⟨rfl, by simp [trL, goes]⟩
  | b :: bs => by
    obtain ⟨h1, h2⟩ := puts_tr g b
    obtain ⟨h3, h4⟩ := puts_mid g c dn bs (tr b) b
    have h5 := puts_trL g c (dn ++ [puts g b (tr b)]) bs
    rw [List.length_append, List.append_assoc, List.append_assoc, List.length_singleton, List.singleton_append, List.singleton_append] at h5
    rw [trL, puts_app, goes_app, h3, growL]
    refine ⟨?_, h4 h2, h5.2⟩
    rw [h5.1, h1]
end
end Bk

namespace Bk
open PySem PySem.Spec PyProof.Rows L2
open Evl (Ex Ev EvT EvL EvU EvA)
/-- for j in range(n), n from -1 on -/
theorem s_forRm {D : Ends} {σ : L2.St} {H : Hp} {tu : TS} {ta : TA} {j : Nat} {n : Int} (h : EvA ta σ H [.int n]) (hn : -1 ≤ n ∧ n ≤ 100000) (Pv : Nat → L2.St → Hp → Prop) (h0 : ∀ H1, Ex H H1 → Pv 0 σ H1)
    (hs : ∀ (i : Nat) σ' H', (i : Int) < n → Pv i σ' H' → tu { D with nx := Pv (i + 1), ct := Pv (i + 1), bk := D.nx } (σ'.set j (some (.int (i : Int)))) H') (hd : ∀ σ' H', Pv n.toNat σ' H' → D.nx σ' H') : tFor (iRng1 ta) (gName j) tu D σ H :=
  h H (Ex.refl H) _ fun H1 e => ⟨n, rfl, by omega, by omega, for_range (lo := 0) (n := n.toNat) Pv (h0 H1 e) (fun i σ' H' hi p => by
    have e0 : (0 : Int) + (i : Int) = (i : Int) := Int.zero_add _
    show tu { D with nx := Pv (i + 1), ct := Pv (i + 1), bk := D.nx } (σ'.set j (some (.int ((0 : Int) + (i : Int))))) H'
    rw [e0]
    exact hs i σ' H' (by omega) p) hd⟩
/-- a bush that can be drawn here -/
structure Dr (b : Bu) : Prop where
  ok : okB b = true
  dep : Bk.dep b ≤ 60
  few : knots b + tips b ≤ 1000
theorem Good.dr {b : Bu} (G : Good b) : Dr b := ⟨G.ok, G.dep, by have := G.few; omega⟩
def Ent (K : PySem.W.Frag) (H : Hp) (u : V) (p : Rb) : Prop := ∃ (a r : Addr) (v : V), u = .ref a ∧ H a = some (.tup [.ref r, v]) ∧ H r = some (.tup (p.1.map V.int)) ∧ Dp K H v (toD p.2)
inductive Ents (K : PySem.W.Frag) (H : Hp) : List V → List Rb → Prop
  | nil : Ents K H [] []
  | cons {u : V} {us : List V} {p : Rb} {ps : List Rb} : Ent K H u p → Ents K H us ps → Ents K H (u :: us) (p :: ps)
section
variable {K : PySem.W.Frag} {H H' : Hp}
theorem Ent.tu {u : V} {p : Rb} (t : Tu H H') (h : Ent K H u p) : Ent K H' u p := by
  obtain ⟨a, r, v, e, h1, h2, h3⟩ := h
  exact ⟨a, r, v, e, t.1 _ _ h1, t.1 _ _ h2, Dp.tu t _ _ (fz_toD _) h3⟩
theorem Ents.tu {us : List V} {ps : List Rb} (t : Tu H H') (h : Ents K H us ps) : Ents K H' us ps := by
  induction h with
  | nil => exact .nil
  | cons h1 _ ih => exact .cons (h1.tu t) ih
theorem Ents.len {us : List V} {ps : List Rb} (h : Ents K H us ps) : us.length = ps.length := by
  induction h with
  | nil => rfl
  | cons _ _ ih => simp [ih]
theorem Ents.snoc {us : List V} {ps : List Rb} {u : V} {p : Rb} (h : Ents K H us ps) (e : Ent K H u p) : Ents K H (us ++ [u]) (ps ++ [p]) := by
  induction h with
  | nil => exact .cons e .nil
  | cons h1 _ ih => exact .cons h1 ih
theorem Ents.last {us : List V} {ps : List Rb} {p : Rb} (h : Ents K H us (ps ++ [p])) : ∃ us' u, us = us' ++ [u] ∧ Ents K H us' ps ∧ Ent K H u p := by
  induction ps generalizing us with
  | nil =>
    cases h with
    | cons h1 h2 => cases h2; exact ⟨[], _, rfl, .nil, h1⟩
  | cons x ps ih =>
    cases h with
    | cons h1 h2 =>
      obtain ⟨us', u, e, a, b⟩ := ih h2
      exact ⟨_ :: us', u, by rw [e]; rfl, .cons h1 a, b⟩
def entD (p : Rb) : PyData := .tuple [enc p.1, toD p.2]
theorem Ents.dp {us : List V} {ps : List Rb} (h : Ents K H us ps) : DpAll K H us (ps.map entD) := by
  induction h with
  | nil => exact .nil
  | cons h1 _ ih =>
    obtain ⟨a, r, v, rfl, h2, h3, h4⟩ := h1
    exact .cons (.tup (SqT.of h2) (.cons (dp_road h3) (.cons h4 .nil))) ih
end
theorem lay_ints : ∀ r : List Int, PyData.canLayAll0 (r.map PyData.int) = true
  | [] => by simp [PyData.canLayAll0]
  | i :: r => by simp [PyData.canLayAll0, PyData.canLay0, lay_ints r]
theorem shaped_ents {ps : List Rb} (h : ∀ p ∈ ps, okB p.2 = true ∧ dep p.2 ≤ 60) : SeqAt.shaped (.list (ps.map entD)) = true := by
  have key : PyData.canLayAll0 (ps.map entD) = true ∧ PyData.depthAll (ps.map entD) ≤ 62 := by
    induction ps with
    | nil => simp [PyData.canLayAll0, PyData.depthAll]
    | cons p ps ih =>
      obtain ⟨h1, h2⟩ := h p List.mem_cons_self
      obtain ⟨h3, h4⟩ := ih fun q hq => h q (List.mem_cons_of_mem _ hq)
      have d1 := depth_enc p.1
      have d2 := depth_toD p.2
      constructor
      · simp [PyData.canLayAll0, entD, PyData.canLay0, enc, lay_ints, lay_toD p.2 h1, h3]
      · simp only [List.map_cons, PyData.depthAll, entD, PyData.depth]
        omega
  show ((PyData.list (ps.map entD)).canLay0 && decide ((PyData.list (ps.map entD)).depth ≤ 64)) = true
  have e1 : (PyData.list (ps.map entD)).canLay0 = true := by simp only [PyData.canLay0]; exact key.1
  have e2 : (PyData.list (ps.map entD)).depth ≤ 64 := by simp only [PyData.depth]; omega
  rw [e1, decide_eq_true e2]
  rfl
theorem eqv_nil (ds : List PyData) : PyData.eqv (.list ds) (.list []) = ds.isEmpty := by
  cases ds with
  | nil => simp [PyData.eqv, PyData.eqvAll]
  | cons d ds => simp [PyData.eqv, PyData.eqvAll]
/-- what stands in the line, in the order in which it is met -/
def flatV (ps : List Rb) : List Rb := ps.reverse.flatMap fun p => (vis p.2).map fun q => (p.1 ++ q.1, q.2)
theorem flatV_snoc (ps : List Rb) (p : Rb) : flatV (ps ++ [p]) = ((vis p.2).map fun q => (p.1 ++ q.1, q.2)) ++ flatV ps := by
  unfold flatV
  rw [List.reverse_append, List.flatMap_append]
  simp
/-- the branches with their roads -/
def chs (r : List Int) : Nat → List Bu → List Rb
  | _, [] => []
  | i, b :: bs => (r ++ [(i : Int)], b) :: chs r (i + 1) bs
theorem flatV_app (ps qs : List Rb) : flatV (ps ++ qs) = flatV qs ++ flatV ps := by
  unfold flatV
  rw [List.reverse_append, List.flatMap_append]
theorem flatV_chs (r : List Int) : ∀ (i : Nat) (bs : List Bu), flatV (chs r i bs) = (visL i bs).map fun q => (r ++ q.1, q.2)
  | _, [] => rfl
  | i, b :: bs => by
    have ih := flatV_chs r (i + 1) bs
    rw [chs, visL, List.map_append, ← ih, List.map_map]
    have e : (r ++ [(i : Int)], b) :: chs r (i + 1) bs = [(r ++ [(i : Int)], b)] ++ chs r (i + 1) bs := rfl
    rw [e, flatV_app]
    congr 1
    show (vis b).map _ ++ [] = _
    rw [List.append_nil]
    refine List.map_congr_left fun q _ => ?_
    simp [at1]
theorem flatV_pop (ps : List Rb) (r : List Int) (b : Bu) : flatV (ps ++ [(r, b)]) = (r, b) :: flatV (ps ++ chs r 0 (kids b)) := by
  rw [flatV_snoc, flatV_app, flatV_chs]
  cases b with
  | tip => simp [vis, kids, visL]
  | knot c bs => simp [vis, kids]
theorem chs_snoc (r : List Int) : ∀ (i : Nat) (bs : List Bu) (b : Bu), chs r i (bs ++ [b]) = chs r i bs ++ [(r ++ [((i + bs.length : Nat) : Int)], b)]
  | i, [], b => rfl
  | i, x :: bs, b => by
    have := chs_snoc r (i + 1) bs b
    rw [List.cons_append, chs, chs, this, List.length_cons, List.cons_append]
    rw [show i + 1 + bs.length = i + (bs.length + 1) by omega]
theorem chs_len (r : List Int) : ∀ (i : Nat) (bs : List Bu), (chs r i bs).length = bs.length
  | _, [] => rfl
  | i, b :: bs => by rw [chs, List.length_cons, List.length_cons, chs_len r (i + 1) bs]
theorem chs_mem (r : List Int) : ∀ (i : Nat) (bs : List Bu) (p : Rb), p ∈ chs r i bs → p.2 ∈ bs
  | _, [], p, h => by simp [chs] at h
  | i, b :: bs, p, h => by
    rw [chs] at h
    rcases List.mem_cons.mp h with h | h
    · subst h; exact List.mem_cons_self
    · exact List.mem_cons_of_mem _ (chs_mem r (i + 1) bs p h)
def KvB (K : PySem.W.Frag) (H : Hp) (kvs : List (List Key × V)) (ps : List Rb) : Prop := kvs.map (·.1) = ps.map (fun p => p.1.map Sum.inl) ∧ DpAll K H (kvs.map (·.2)) (ps.map fun p => toD p.2)
theorem KvB.snoc {K : PySem.W.Frag} {H : Hp} {kvs : List (List Key × V)} {ps : List Rb} {r : List Int} {v : V} {b : Bu} (h : KvB K H kvs ps) (hv : Dp K H v (toD b)) : KvB K H (kvs ++ [(r.map Sum.inl, v)]) (ps ++ [(r, b)]) := by
  refine ⟨by rw [List.map_append, List.map_append, h.1]; rfl, ?_⟩
  rw [List.map_append, List.map_append]
  exact DpAll.app h.2 (.cons hv .nil)
theorem KvB.tu {K : PySem.W.Frag} {H H' : Hp} {kvs : List (List Key × V)} {ps : List Rb} (t : Tu H H') (h : KvB K H kvs ps) : KvB K H' kvs ps := ⟨h.1, DpAll.tu t _ _ (fzA_of fun d hd => by
  obtain ⟨p, _, rfl⟩ := List.mem_map.mp hd
  exact fz_toD _) h.2⟩
theorem KvB.len {K : PySem.W.Frag} {H : Hp} {kvs : List (List Key × V)} {ps : List Rb} (h : KvB K H kvs ps) : kvs.length = ps.length := by
  have := congrArg List.length h.1
  simpa using this
theorem inl_inj {a b : List Int} (h : a.map (Sum.inl : Int → Key) = b.map Sum.inl) : a = b := by
  induction a generalizing b with
  | nil => cases b with
    | nil => rfl
    | cons y b => simp at h
  | cons x a ih =>
    cases b with
    | nil => simp at h
    | cons y b =>
      rw [List.map_cons, List.map_cons] at h
      injection h with h1 h2
      injection h1 with h1
      rw [h1, ih h2]
theorem KvB.new {K : PySem.W.Frag} {H : Hp} {kvs : List (List Key × V)} {ps : List Rb} {r : List Int} (h : KvB K H kvs ps) (hn : r ∉ ps.map (·.1)) : valV kvs (r.map Sum.inl) = none := by
  cases hv : valV kvs (r.map Sum.inl) with
  | none => rfl
  | some v =>
    unfold valV at hv
    obtain ⟨kv, h1, _⟩ := Option.map_eq_some_iff.mp hv
    have h2 := List.find?_some h1
    have h3 := List.mem_of_find?_eq_some h1
    have h4 : kv.1 ∈ kvs.map (·.1) := List.mem_map.mpr ⟨kv, h3, rfl⟩
    rw [h.1] at h4
    obtain ⟨p, hp, e⟩ := List.mem_map.mp h4
    have e2 : kv.1 = r.map Sum.inl := of_decide_eq_true h2
    rw [e2] at e
    exact absurd (List.mem_map.mpr ⟨p, hp, inl_inj e⟩) hn
theorem KvB.get {K : PySem.W.Frag} {H : Hp} : ∀ {kvs : List (List Key × V)} {ps : List Rb} {r : List Int} {b : Bu}, KvB K H kvs ps → (ps.map (·.1)).Nodup → (r, b) ∈ ps → ∃ v, valV kvs (r.map Sum.inl) = some v ∧ Dp K H v (toD b)
  | [], [], r, b, _, _, hm => by simp at hm
  | [], _ :: _, r, b, h, _, _ => by have := h.1; simp at this
  | kv :: kvs, [], r, b, h, _, _ => by have := h.1; simp at this
  | kv :: kvs, p :: ps, r, b, h, hn, hm => by
    obtain ⟨h1, h2⟩ := h
    rw [List.map_cons, List.map_cons] at h1 h2
    injection h1 with h3 h4
    cases h2 with
    | cons d1 d2 =>
      rw [List.map_cons] at hn
      have hn' := List.nodup_cons.mp hn
      rcases List.mem_cons.mp hm with e | e
      · subst e
        exact ⟨kv.2, valV_pos h3, d1⟩
      · have hne : ¬ kv.1 = r.map Sum.inl := by
          intro e2
          rw [h3] at e2
          have := inl_inj e2
          exact hn'.1 (by rw [this]; exact List.mem_map.mpr ⟨(r, b), e, rfl⟩)
        obtain ⟨v, hv, hd⟩ := KvB.get (kvs := kvs) (ps := ps) ⟨h4, d2⟩ hn'.2 e
        exact ⟨v, by rw [valV_neg hne]; exact hv, hd⟩
theorem ru_catA1 {K : PySem.W.Frag} {σ : L2.St} {H : Hp} {i j : Nat} {rr : Addr} {xs : List V} {y : V} {R : VK} (h3 : σ[i]? = some (some (.ref rr))) (h5 : σ[j]? = some (some y)) (hx : H rr = some (.tup xs)) (hz : xs.length ≤ 1000)
    (k : ∀ z H2, Ex H H2 → H2 z = some (.tup (xs ++ [y])) → R (.ref z) H2) : tOp (rCatA K) (tVar i) (tTup (tCons (tVar j) tNil)) σ H R := by
  refine ⟨_, h3, _, h5, by show 1 ≤ sizeLine; decide, fun t ht => ?_⟩
  have e1 : Ex H (upd H t (.tup [y])) := ex_new ht
  refine ⟨rr, t, xs, [y], rfl, rfl, SqT.of (e1 _ _ hx), SqT.of upd_same, Evl.sz_of (by show xs.length + 1 ≤ 100000; omega), fun h0 => ?_, fun _ h0 => (nomatch h0), fun _ _ z hz => ?_⟩
  · subst h0
    exact k t _ e1 upd_same
  · exact k z _ (e1.trans (ex_new hz)) upd_same
theorem kids_in {b c : Bu} (h : c ∈ kids b) (ho : okB b = true) : okB c = true ∧ dep c + 1 ≤ dep b := by
  cases b with
  | tip => simp [kids] at h
  | knot x bs =>
    have h' : c ∈ bs := h
    have := dep_le h'
    exact ⟨okBs_mem (okB_knot ho).2.2 h', by show dep c + 1 ≤ deps bs + 1; omega⟩
def wgt (ps : List Rb) : Nat := (flatV ps).length
end Bk

namespace Bk
open PySem PySem.Spec PyProof.Rows L2
open Evl (Ex Ev EvT EvL EvU EvA)
section
variable {P : Program} {w : World} {K : PySem.W.Frag} {mg : Str → Option Value} {base : Heap}
def spParts (K : PySem.W.Frag) : Sp := fun vs H Q _ => ∃ (v : V) (b : Bu), vs = [v] ∧ Dp K H v (toD b) ∧ Dr b ∧ ∀ p H' kvs, H p = none → Ex H H' → H' p = some (.dT kvs) → KvB K H' kvs (vis b) → Q (.ref p) H'
theorem ok_parts (T : Tx K mg) : FnOk P w K mg base CX0 1 T.a_law_parts T.d_law_parts P_law_parts (spParts K) := by
  refine T.F_law_parts.ok sc_law_parts (fun vs H Q E h => ?_) (fun cdv A outer s H vs Q E hr h => ?_)
  · obtain ⟨v, b, rfl, _⟩ := h; rfl
  · obtain ⟨v, b, rfl, hv, hD, q⟩ := h
    have hu : (A.deeper (envOfC "_law_parts" (defScope s_law_parts) s.heap.objs.size T.a_law_parts cdv)).units + 64 < cLine := by have := hr.un; omega
    have hu1 : (A.deeper (envOfC "_law_parts" (defScope s_law_parts) s.heap.objs.size T.a_law_parts cdv)).units + 1 < cLine := by omega
    refine ⟨_, pss_cons (ps_par (i := 1) (j := 2) rfl sc_law_parts.nd rfl rfl (by decide) rfl rfl (pa_cons pe_dnewT (pa_cons (pe_lst (pa_cons (pe_tup (pa_cons (pe_tup pa_nil) (pa_cons (pv 0) pa_nil))) pa_nil)) pa_nil)) rfl)
      (pss_cons (ps_while PassesOwn.never (pt_cmpR (op_neD hu) (pv 2) (pe_lst pa_nil) (nomark _))
        (pss_cons (ps_asg (pe_bm0 PySem.F.plainAttrs_list PySem.F.slot_list_pop PySem.F.type_list_pop mt_pop (pv 2)) (pg_tup rfl (pgs_cons (pg_name (i := 3) sc_law_parts.nd rfl (.inl rfl)) (pgs_cons (pg_name (i := 4) sc_law_parts.nd rfl (.inl rfl)) pgs_nil))))
        (pss_cons (ps_asg (pv 4) (pg_sub (pv 1) (pv 3) (set_dict hu1)))
        (pss_one (ps_for PassesOwn.never rfl (pi_range1 (by rfl) T.z_range (pa_cons (pe_op op_sub (pe_callB call_len_seq (by rfl) T.z_len PySem.boot_len (pa_cons (pv 4) pa_nil)) pe_int) pa_nil)) (pg_name (i := 5) sc_law_parts.nd rfl (.inl rfl))
          (pss_one (ps_expr (pe_bm PySem.F.plainAttrs_list PySem.F.slot_list_append PySem.F.type_list_append mt_append (pv 2) (pa_cons (pe_tup (pa_cons (pe_op op_catA (pv 3) (pe_tup (pa_cons (pv 5) pa_nil))) (pa_cons (pe_ix ix_tup (pv 4) (pe_op op_add (pv 5) pe_int) (fun _ _ => rfl)) pa_nil))) pa_nil)))))))))
      (pss_one (ps_ret (pv 1)))), ?_⟩
    refine fun p hp => ⟨Nat.zero_le _, fun r0 hr0 => ⟨v, rfl, by show 2 ≤ sizeLine; decide, fun a0 ha0 => ⟨by show 1 ≤ sizeLine; decide, fun q0 hq0 => ⟨_, _, rfl, ?_⟩⟩⟩⟩
    have e1 : Ex H (upd H p (.dT [])) := ex_new hp
    have e2 := e1.trans (ex_new (o := .tup []) hr0)
    have e3 := e2.trans (ex_new (o := .tup [.ref r0, v]) ha0)
    have e4 := e3.trans (ex_new (o := .lst [.ref a0]) hq0)
    have hq0' : H q0 = none := Evl.fresh_back e3 hq0
    have npq : p ≠ q0 := by
      intro e
      have h1 : (upd (upd (upd H p (.dT [])) r0 (.tup [])) a0 (.tup [.ref r0, v])) p = some (.dT []) := (ex_new ha0) _ _ ((ex_new hr0) _ _ upd_same)
      have h2 := hq0
      rw [← e, h1] at h2
      cases h2
    refine Evl.q_while (fun m σ H' => ∃ (x3 x4 x5 : Option V) (us : List V) (ps : List Rb) (kvs : List (List Key × V)) (done : List Rb), σ = [some v, some (.ref p), some (.ref q0), x3, x4, x5] ∧ Ex H H' ∧ H' p = some (.dT kvs) ∧ KvB K H' kvs done ∧
        H' q0 = some (.lst us) ∧ Ents K H' us ps ∧ done ++ flatV ps = vis b ∧ m = (flatV ps).length ∧ ∀ z ∈ ps, okB z.2 = true ∧ z.1.length + dep z.2 ≤ 60) (flatV [([], b)]).length
      ⟨none, none, none, [.ref a0], [([], b)], [], [], rfl, e4, ?_, ⟨rfl, .nil⟩, upd_same, .cons ⟨a0, r0, v, rfl, ?_, ?_, Dp.ex e4 _ _ hv⟩ .nil, ?_, rfl, ?_⟩ ?_
    · exact (ex_new hq0) _ _ ((ex_new ha0) _ _ ((ex_new hr0) _ _ upd_same))
    · exact (ex_new hq0) _ _ upd_same
    · exact (ex_new hq0) _ _ ((ex_new ha0) _ _ upd_same)
    · simp [flatV]
    · intro z hz
      have : z = ([], b) := by simpa using hz
      subst this
      exact ⟨hD.ok, by have := hD.dep; show 0 + dep b ≤ 60; omega⟩
    rintro m σ' H' ⟨x3, x4, x5, us, ps, kvs, done, rfl, eH, hP, hK, hQ, hE, hfl, rfl, hok⟩
    refine ⟨!(ps.map entD).isEmpty, ?_, fun hb H1 f1 => ?_, fun hb H1 f1 => ?_⟩
    · have := ev_neD (K := K) (σ := [some v, some (.ref p), some (.ref q0), x3, x4, x5]) (H := H') (ta := tVar 2) (tb := tLst tNil) (d := .list (ps.map entD)) (e := .list []) (ed_var rfl (.lst (SqL.of hQ) hE.dp)) (ed_lst ead_nil (by decide))
        (shaped_ents fun z hz => ⟨(hok z hz).1, by have := (hok z hz).2; omega⟩) (by decide)
      rw [eqv_nil] at this
      exact Evl.et_test this
    · have hne : ps ≠ [] := by intro e; subst e; simp at hb
      obtain ⟨ps', z, rfl⟩ : ∃ ps' z, ps = ps' ++ [z] := ⟨ps.dropLast, ps.getLast hne, (List.dropLast_concat_getLast hne).symm⟩
      obtain ⟨r, c⟩ := z
      obtain ⟨us', u, rfl, hE', hu⟩ := hE.last
      obtain ⟨hokc, hdc⟩ := hok (r, c) (List.mem_append_right _ List.mem_cons_self)
      have hdc' : r.length + dep c ≤ 60 := hdc
      obtain ⟨a, rr, vc, rfl, ha, hrr, hvc⟩ := hu.tu (Tu.ex f1)
      have hE1 := hE'.tu (Tu.ex f1)
      have hQ1 := f1 _ _ hQ
      have hP1 := f1 _ _ hP
      have hK1 := hK.tu (Tu.ex f1)
      refine ⟨fun σ2 H2 => ∃ m', m' < (flatV (ps' ++ [(r, c)])).length ∧ ∃ (x3 x4 x5 : Option V) (us : List V) (ps : List Rb) (kvs : List (List Key × V)) (done : List Rb), σ2 = [some v, some (.ref p), some (.ref q0), x3, x4, x5] ∧ Ex H H2 ∧ H2 p = some (.dT kvs) ∧ KvB K H2 kvs done ∧
        H2 q0 = some (.lst us) ∧ Ents K H2 us ps ∧ done ++ flatV ps = vis b ∧ m' = (flatV ps).length ∧ ∀ z ∈ ps, okB z.2 = true ∧ z.1.length + dep z.2 ≤ 60, fun _ _ h => h, ?_⟩
      have hlast : (us' ++ [V.ref a])[(us' ++ [V.ref a]).length - 1]? = some (V.ref a) := by
        rw [List.length_append, List.length_singleton, Nat.add_sub_cancel]
        simp
      refine ⟨_, rfl, Or.inl ⟨rfl, _, SqL.of hQ1⟩, q0, _, _, rfl, rfl, hQ1, hlast, ?_⟩
      rw [List.dropLast_concat]
      have t2 : Tu H1 (upd H1 q0 (.lst us')) := tu_lst hQ1
      have eH2 : Ex H (upd H1 q0 (.lst us')) := Evl.Ex.mut (eH.trans f1) hq0'
      refine ⟨a, _, rfl, SqT.of (t2.1 _ _ ha), rfl, _, _, rfl, _, _, rfl, rfl, ?_⟩
      have hP2 : (upd H1 q0 (.lst us')) p = some (.dT kvs) := by rw [upd_ne npq]; exact hP1
      have hrr2 := t2.1 _ _ hrr
      have hnew : valV kvs (r.map Sum.inl) = none := by
        refine hK1.new ?_
        have h1 := nodup_vis b
        rw [← hfl, flatV_pop, List.map_append, List.map_cons] at h1
        intro hm
        exact (List.nodup_append.mp h1).2.2 _ hm _ List.mem_cons_self rfl
      have hklen : kvs.length < 1000 := by
        rw [hK1.len]
        have h1 := congrArg List.length hfl
        rw [List.length_append, flatV_pop, List.length_cons, vis_len] at h1
        have := hD.few
        omega
      refine ⟨_, rfl, _, rfl, _, rfl, p, _, rfl, DPut.t hP2 (k := r.map Sum.inl) (by rw [map_kV]; exact hrr2) (Nat.lt_of_lt_of_le hklen (by decide)), ?_⟩
      rw [putK_new _ hnew]
      have t3 : Tu (upd H1 q0 (.lst us')) (upd (upd H1 q0 (.lst us')) p (.dT (kvs ++ [(r.map Sum.inl, vc)]))) := by
        refine ⟨fun x xs hx => ?_, fun x o u hx => ?_⟩
        · rw [upd_ne (fun e => by rw [e, hP2] at hx; cases hx)]; exact hx
        · rw [upd_ne (fun e => by rw [e, hP2] at hx; cases hx)]; exact hx
      have t23 := t2.trans t3
      have eH3 := Evl.Ex.mut (o := .dT (kvs ++ [(r.map Sum.inl, vc)])) eH2 hp
      have hvc3 := Dp.tu t23 _ _ (fz_toD c) hvc
      have hvl := ev_lenD (K := K) (σ := [some v, some (.ref p), some (.ref q0), some (.ref rr), some vc, x5]) (H := upd (upd H1 q0 (.lst us')) p (.dT (kvs ++ [(r.map Sum.inl, vc)]))) (ta := tVar 4) (ds := itm c) (ed_var rfl (toD_itm c ▸ hvc3))
      have hic : (itm c).length = 1 + (kids c).length ∨ ((itm c).length = 0 ∧ kids c = []) := by
        cases c with
        | tip => exact .inr ⟨rfl, rfl⟩
        | knot x bs => left; simp [itm, kids]; omega
      have hkl : (kids c).length ≤ 6 := by
        cases c with
        | tip => exact Nat.zero_le _
        | knot x bs => exact (okB_knot hokc).2.1.2
      refine s_forRm (n := ((itm c).length : Int) - 1) (Evl.ea_cons (Evl.ev_op (z := .int (((itm c).length : Int) - 1)) hvl Evl.ev_c (Evl.rv_I0 (g := fun i j => .int (i - j)))) Evl.ea_nil) (by rcases hic with h | ⟨h, _⟩ <;> omega)
        (fun i σ H' => ∃ (x5 : Option V) (us2 : List V), σ = [some v, some (.ref p), some (.ref q0), some (.ref rr), some vc, x5] ∧ Ex H H' ∧ H' p = some (.dT (kvs ++ [(r.map Sum.inl, vc)])) ∧ KvB K H' (kvs ++ [(r.map Sum.inl, vc)]) (done ++ [(r, c)]) ∧ H' q0 = some (.lst us2) ∧
          Ents K H' us2 (ps' ++ chs r 0 ((kids c).take i)) ∧ H' rr = some (.tup (r.map V.int)) ∧ Dp K H' vc (toD c)) (fun H4 f4 => ?_) ?_ ?_
      · refine ⟨x5, us', rfl, eH3.trans f4, f4 _ _ upd_same, ((hK1.tu t23).snoc hvc3).tu (Tu.ex f4), f4 _ _ (by rw [upd_ne npq.symm]; exact upd_same), ?_, f4 _ _ (t3.1 _ _ hrr2), Dp.ex f4 _ _ hvc3⟩
        show Ents K H4 us' (ps' ++ [])
        rw [List.append_nil]
        exact (hE1.tu t23).tu (Tu.ex f4)
      · rintro i σ' H4 hi ⟨x5, us2, rfl, eH4, hP4, hK4, hQ4, hE4, hrr4, hvc4⟩
        have hik : i < (kids c).length := by rcases hic with h | ⟨h, _⟩ <;> omega
        have hch : (kids c)[i]? = some (kids c)[i] := by simp [hik]
        have htk : (kids c).take (i + 1) = (kids c).take i ++ [(kids c)[i]] := by rw [List.take_add_one, hch]; rfl
        have hu2 : us2.length ≤ 2000 := by
          rw [hE4.len, List.length_append, chs_len, List.length_take]
          have h1 := congrArg List.length hfl
          rw [List.length_append, vis_len] at h1
          have h2 : ps'.length ≤ (flatV (ps' ++ [(r, c)])).length := by
            have key : ∀ ps : List Rb, ps.length ≤ (flatV ps).length := by
              intro ps
              induction ps with
              | nil => exact Nat.zero_le _
              | cons p ps ih =>
                have e1 : flatV (p :: ps) = flatV ps ++ flatV [p] := flatV_app [p] ps
                have e2 : (flatV [p]).length = (vis p.2).length := by simp [flatV]
                have : 1 ≤ (vis p.2).length := by cases p.2 <;> simp [vis]
                rw [e1, List.length_append, List.length_cons, e2]
                omega
            have := key (ps' ++ [(r, c)])
            rw [List.length_append] at this
            omega
          have := hD.few
          omega
        refine ⟨_, rfl, Or.inl ⟨rfl, _, SqL.of hQ4⟩, ?_⟩
        refine ru_catA1 rfl rfl hrr4 (by rw [List.length_map]; omega) fun z H5 f5 hz => ?_
        have hpart := ed_ixT (K := K) (σ := [some v, some (.ref p), some (.ref q0), some (.ref rr), some vc, some (.int (i : Int))]) (H := H5) (ta := tVar 4) (tb := tOp (rI0 fun i j => .int (i + j)) (tVar 5) (tC (.int 1))) (k := i + 1) (ds := itm c) (d := toD (kids c)[i]) (ed_var rfl (toD_itm c ▸ Dp.ex f5 _ _ hvc4)) ?_ ?_
        · refine hpart H5 (Evl.Ex.refl H5) _ fun vk H6 f6 hvk => ⟨by show 2 ≤ sizeLine; decide, fun zz hzz => ?_⟩
          have f7 : Ex H6 (upd H6 zz (.tup [.ref z, vk])) := ex_new hzz
          have f47 := (f5.trans f6).trans f7
          refine ⟨q0, us2, .ref zz, rfl, rfl, f47 _ _ hQ4, Nat.lt_of_le_of_lt hu2 (by decide), ?_⟩
          have t8 : Tu (upd H6 zz (.tup [.ref z, vk])) (upd (upd H6 zz (.tup [.ref z, vk])) q0 (.lst (us2 ++ [.ref zz]))) := tu_lst (f47 _ _ hQ4)
          refine ⟨some (.int (i : Int)), us2 ++ [.ref zz], rfl, Evl.Ex.mut (eH4.trans f47) hq0', by rw [upd_ne npq]; exact f47 _ _ hP4, (hK4.tu (Tu.ex f47)).tu t8, upd_same, ?_, t8.1 _ _ (f47 _ _ hrr4), Dp.tu t8 _ _ (fz_toD c) (Dp.ex f47 _ _ hvc4)⟩
          rw [htk, chs_snoc, ← List.append_assoc, List.length_take, Nat.min_eq_left (by omega)]
          refine ((hE4.tu (Tu.ex f47)).tu t8).snoc ⟨zz, z, vk, rfl, t8.1 _ _ upd_same, t8.1 _ _ (f7 _ _ (f6 _ _ ?_)), Dp.tu t8 _ _ (fz_toD _) (Dp.ex f7 _ _ hvk)⟩
          rw [hz, List.map_append]
          simp
        · exact Evl.ev_op (z := .int ((i + 1 : Nat) : Int)) (Evl.ev_var rfl) Evl.ev_c (Evl.rv_I0 (g := fun i j => .int (i + j)))
        · cases c with
          | tip => simp [kids] at hik
          | knot x bs =>
            have hik' : i < bs.length := hik
            simp [itm, kids, hik']
      · rintro σ' H4 ⟨x5, us2, rfl, eH4, hP4, hK4, hQ4, hE4, hrr4, hvc4⟩
        have htk : (kids c).take (((itm c).length : Int) - 1).toNat = kids c := by
          rcases hic with h | ⟨h, h2⟩
          · exact List.take_of_length_le (by omega)
          · rw [h2]; exact List.take_nil
        rw [htk] at hE4
        refine ⟨(flatV (ps' ++ chs r 0 (kids c))).length, by rw [flatV_pop, List.length_cons]; omega, some (.ref rr), some vc, x5, us2, _, _, _, rfl, eH4, hP4, hK4, hQ4, hE4, ?_, rfl, fun z hz => ?_⟩
        · rw [List.append_assoc, ← hfl, flatV_pop]
          rfl
        · rcases List.mem_append.mp hz with h | h
          · exact hok z (List.mem_append_left _ h)
          · have h1 := kids_in (chs_mem r 0 (kids c) z h) hokc
            have h2 : z.1.length = r.length + 1 := by
              have key : ∀ (i : Nat) (bs : List Bu), ∀ z ∈ chs r i bs, z.1.length = r.length + 1 := by
                intro i bs
                induction bs generalizing i with
                | nil => intro z hz; simp [chs] at hz
                | cons x bs ih =>
                  intro z hz
                  rw [chs] at hz
                  rcases List.mem_cons.mp hz with h | h
                  · subst h; simp
                  · exact ih (i + 1) z h
              exact key 0 _ z h
            exact ⟨h1.1, by omega⟩
    · have h0 : ps = [] := by
        cases ps with
        | nil => rfl
        | cons z ps => simp at hb
      subst h0
      have hfl' : done = vis b := by rw [← hfl]; simp [flatV]
      subst hfl'
      exact ⟨_, rfl, q p H1 kvs hp (eH.trans f1) (f1 _ _ hP) (hK.tu (Tu.ex f1))⟩
end
end Bk

namespace Fx
open PySem PySem.Spec PyProof.Rows L2
open Bk (FnG Bu toD okB dep knots tips enc vis visL at1 Rb KvB Dr fzA fz)
open Evl (Ex)
mutual
theorem visD_toD : ∀ b : Bu, visD (toD b) = (vis b).map fun p => (p.1, toD p.2)
  | .tip => by simp [toD, visD, vis]
  | .knot c bs => by
    rw [toD, visD, vis, List.map_cons, visDL_toDs 0 bs]
    simp [toD]
theorem visDL_toDs : ∀ (i : Nat) (bs : List Bu), visDL i (Bk.toDs bs) = (visL i bs).map fun p => (p.1, toD p.2)
  | _, [] => by simp [Bk.toDs, visDL, visL]
  | i, b :: bs => by
    rw [Bk.toDs, visDL, visL, visDL_toDs (i + 1) bs, visD_toD b]
    simp [at1, Function.comp_def]
end
theorem drB_ok {b : Bu} (h : drB b = true) : Dr b := by
  unfold drB at h
  simp only [Bool.and_eq_true, decide_eq_true_eq] at h
  exact ⟨h.1.1, h.1.2, h.2⟩
section
variable {P : Program} {w : World} {K : PySem.W.Frag} {mg : Str → Option Value} {base : Heap}
theorem okL_law_parts (T : Bk.Tx K mg) {xr : XRep} : FnG P w K mg base (L2.CX P w) 1 T.a_law_parts T.d_law_parts Bk.P_law_parts (spF K xr 1 f_law_parts) := okOld (Bk.FnOk.toG (Bk.ok_parts T)) (newF_sp fun vs H ds c Q E hv hg h => by
  unfold partsC at hg
  split at hg
  · rename_i d
    cases q : buOf d with
    | none => rw [q] at hg; cases hg
    | some b =>
      rw [q] at hg
      dsimp only at hg
      by_cases hd : drB b = true
      · rw [if_pos hd] at hg
        cases hg
        have e := buOf_some d b q
        subst e
        obtain _ | ⟨h1, _ | _⟩ := hv
        refine ⟨_, b, rfl, h1, drB_ok hd, fun p H' kvs hp ex hk hb => h p H' hp ex ⟨kvs, hk, ?_, ?_⟩⟩
        · rw [visD_toD, List.map_map, List.map_map]
          have := congrArg (List.map fun ks : List Key => PyData.tuple (ks.map keyD)) hb.1
          rw [List.map_map, List.map_map] at this
          refine Eq.trans ?_ this.symm
          refine List.map_congr_left fun p _ => ?_
          simp [enc, keyD, Function.comp_def]
        · rw [visD_toD, List.map_map, List.map_map]
          exact hb.2
      · rw [if_neg hd] at hg; cases hg
  · cases hg)
end
end Fx

namespace Fx
open PySem PySem.Spec PyProof.Rows L2
section
variable [Zz]
def b_law_tips : S → R Fl :=
  (fSeq (fSet 1 (fCall 1 f_law_parts (fCons (fV 0) fNil)))
  (fRet (fLc (fIt (fN gSorted (fCons (fV 1) fNil))) (tgName 2) (fB (f2 (p2 eqD) (f2 gIx (fV 1) (fV 2)) (fTup fNil))) (fV 2) [2])))
def f_law_tips : List AV → Glo → RR := run 3 b_law_tips
end
end Fx

namespace Fx
open PySem PySem.Spec PyProof.Rows L2
section
variable [Zz]
def b_law_knots : S → R Fl :=
  (fRet (fN (n1 lenD) (fCons (fLc (fIt (fVals (fCall 1 f_law_parts (fCons (fV 0) fNil)))) (tgName 1) (fB (f2 (p2 neD) (fV 1) (fTup fNil))) (fV 1) [1]) fNil)))
def f_law_knots : List AV → Glo → RR := run 2 b_law_knots
end
end Fx

namespace Fx
open PySem PySem.Spec PyProof.Rows L2
section
variable [Zz]
def b_law_put_v1 (rec : List AV → Glo → RR) : S → R Fl :=
  (fSeq (fIfS (fB (f2 (p2 eqD) (fV 1) (fTup fNil))) (fRet (fV 2)) fNx)
  (fSeq (fSet 3 (f2 (p2 plusD) (f2 gIx (fV 1) (fC (.int 0))) (fC (.int 1))))
  (fRet (f2 (p2 plusD) (f2 (p2 plusD) (fSl (fV 0) fNoP (fP (fV 3))) (fTup (fCons (fCall 3 rec (fCons (f2 gIx (fV 0) (fV 3)) (fCons (fSl (fV 1) (fP (fC (.int 1))) fNoP) (fCons (fV 2) fNil)))) fNil))) (fSl (fV 0) (fP (f2 (p2 plusD) (fV 3) (fC (.int 1)))) fNoP)))))
def n_law_put_v1 : Nat → List AV → Glo → RR
  | 0 => fun _ _ => .no
  | n + 1 => run 4 (b_law_put_v1 (n_law_put_v1 n))
def f_law_put_v1 : List AV → Glo → RR := n_law_put_v1 64
end
end Fx

namespace Fx
open PySem PySem.Spec PyProof.Rows L2
section
variable [Zz]
def b_law_grown_v1 : S → R Fl :=
  (fSeq (fFor (fIt (fCall 1 f_law_tips (fCons (fV 0) fNil))) (tgName 2)
    (fSet 0 (fCall 3 f_law_put_v1 (fCons (fV 0) (fCons (fV 2) (fCons (fV 1) fNil))))))
  (fRet (fV 0)))
def f_law_grown_v1 : List AV → Glo → RR := run 3 b_law_grown_v1
end
end Fx

namespace Fx
open PySem PySem.Spec PyProof.Rows L2
section
variable [Zz]
def b_law_bush_of_v1 : S → R Fl :=
  (fSeq (fSet 1 (fTup fNil))
  (fSeq (fFor (fIt (fV 0)) (tgName 2)
    (fSet 1 (fCall 2 f_law_grown_v1 (fCons (fV 1) (fCons (fV 2) fNil)))))
  (fRet (fV 1))))
def f_law_bush_of_v1 : List AV → Glo → RR := run 3 b_law_bush_of_v1
end
end Fx

namespace Fx
open PySem PySem.Spec PyProof.Rows L2
section
variable [Zz]
def b_law_depths : S → R Fl :=
  (fRet (fLc (fIt (fCall 1 f_law_tips (fCons (fV 0) fNil))) (tgName 1) tYesF (fN (n1 lenD) (fCons (fV 1) fNil)) [1]))
def f_law_depths : List AV → Glo → RR := run 2 b_law_depths
end
end Fx

namespace Fx
open PySem PySem.Spec PyProof.Rows L2
section
variable [Zz]
def b_law_sizes_v1 : S → R Fl :=
  (fSeq (fUn (tgTup 4 (tgCons (tgName 1) (tgCons (tgName 2) (tgCons (tgName 3) (tgCons (tgName 4) tgNil))))) (fTup (fCons (fC (.int 0)) (fCons (fC (.int 1)) (fCons (fC (.int 0)) (fCons (fC (.int 0)) fNil))))))
  (fSeq (fFor (fIt (fV 0)) (tgName 5)
    (fSeq (fSet 6 (fCall 1 f_law_depths (fCons (fV 5) fNil)))
  (fSeq (fPar 1 2 (fCons (f2 (p2 plusD) (fV 1) (f2 gTimes (fV 2) (fCall 1 f_law_knots (fCons (fV 5) fNil)))) (fCons (f2 gTimes (fV 2) (fN (n1 lenD) (fCons (fV 6) fNil))) fNil)))
  (fPar 3 4 (fCons (f2 (p2 plusD) (fV 3) (fN (n1 minD) (fCons (fV 6) fNil))) (fCons (f2 (p2 plusD) (fV 4) (fN (n1 maxD) (fCons (fV 6) fNil))) fNil))))))
  (fRet (fTup (fCons (fV 1) (fCons (fV 2) (fCons (fV 3) (fCons (fV 4) fNil))))))))
def f_law_sizes_v1 : List AV → Glo → RR := run 7 b_law_sizes_v1
end
end Fx

namespace Fx
open PySem PySem.Spec PyProof.Rows L2
section
variable [Zz]
def b_law_bush (rec : List AV → Glo → RR) : S → R Fl :=
  (fSeq (fIfS (fOr (fB (f2 (p2 eqD) (fV 1) (fC (.int 0)))) (fB (f2 (p2 eqD) (fCall 2 f_law_roll (fCons (fV 0) (fCons (fC (.int 7)) fNil))) (fC (.int 0))))) (fRet (fTup fNil)) fNx)
  (fSeq (fPar 2 3 (fCons (fCall 2 f_law_some (fCons (fV 0) (fCons (fLst (fCons (fC (.str "a")) (fCons (fC (.str "a")) (fCons (fC (.str "b")) (fCons (fC (.str "c")) (fCons (fC (.str "f")) (fCons (fC (.str "z")) fNil))))))) fNil))) (fCons (fCall 2 f_law_some (fCons (fV 0) (fCons (fLst (fCons (fC (.int 1)) (fCons (fC (.int 1)) (fCons (fC (.int 2)) (fCons (fC (.int 2)) (fCons (fC (.int 2)) (fCons (fC (.int 3)) (fCons (fC (.int 4)) fNil)))))))) fNil))) fNil)))
  (fSeq (fPar3 4 5 6 (fCons (fTup fNil) (fCons (f2 (p2 minusD) (fV 1) (fC (.int 1))) (fCons (f2 (p2 eqD) (fCall 2 f_law_roll (fCons (fV 0) (fCons (fC (.int 3)) fNil))) (fC (.int 0))) fNil))))
  (fSeq (fFor (fRng1 (fCons (fV 3) fNil)) (tgName 7)
    (fSeq (fSet 8 (fIf (fAnd (fT (fV 6)) (fB (f2 (p2 neD) (fV 4) (fTup fNil)))) (f2 gIx (fV 4) (fC (.int 0))) (fCall 2 rec (fCons (fV 0) (fCons (f2 (p2 divD) (fV 5) (fV 3)) fNil)))))
  (fSet 4 (f2 (p2 plusD) (fV 4) (fTup (fCons (fV 8) fNil))))))
  (fRet (f2 (p2 plusD) (fTup (fCons (fV 2) fNil)) (fV 4)))))))
def n_law_bush : Nat → List AV → Glo → RR
  | 0 => fun _ _ => .no
  | n + 1 => run 9 (b_law_bush (n_law_bush n))
def f_law_bush : List AV → Glo → RR := n_law_bush 64
end
end Fx

namespace Fx
open PySem PySem.Spec PyProof.Rows L2
section
variable [Zz]
def b_law_growth : S → R Fl :=
  (fSeq (fSet 2 (fCall 2 f_law_bush (fCons (fV 0) (fCons (fV 1) fNil))))
  (fRet (fIf (fB (f2 (p2 neD) (fV 2) (fTup fNil))) (fV 2) (f2 (p2 plusD) (fTup (fCons (fCall 2 f_law_some (fCons (fV 0) (fCons (fLst (fCons (fC (.str "a")) (fCons (fC (.str "b")) fNil))) fNil))) fNil)) (f2 gTimes (fTup (fCons (fTup fNil) fNil)) (f2 (p2 plusD) (fC (.int 1)) (fCall 2 f_law_roll (fCons (fV 0) (fCons (fC (.int 3)) fNil)))))))))
def f_law_growth : List AV → Glo → RR := run 3 b_law_growth
end
end Fx

namespace Fx
open PySem PySem.Spec PyProof.Rows L2
section
variable [Zz]
def b_law_known : S → R Fl :=
  (fSeq (fUn (tgTup 2 (tgCons (tgName 1) (tgCons (tgName 2) tgNil))) (fTup (fCons (fTup (fCons (fC (.str "a")) (fCons (fTup fNil) fNil))) (fCons (fTup (fCons (fC (.str "f")) (fCons (fTup fNil) (fCons (fTup fNil) fNil)))) fNil))))
  (fSeq (fSet 3 (fLst (fCons (fV 1) (fCons (fV 2) (fCons (fTup (fCons (fC (.str "b")) (fCons (fTup fNil) fNil))) (fCons (fTup (fCons (fC (.str "f")) (fCons (fV 1) (fCons (fTup fNil) fNil)))) (fCons (fTup (fCons (fC (.str "f")) (fCons (fTup fNil) (fCons (fV 1) fNil)))) (fCons (fTup (fCons (fC (.str "f")) (fCons (fV 2) (fCons (fTup fNil) fNil)))) (fCons (fTup (fCons (fC (.str "g")) (fCons (fTup fNil) (fCons (fTup fNil) (fCons (fTup fNil) fNil))))) (fCons (fTup (fCons (fC (.str "f")) (fCons (fV 1) (fCons (fV 1) fNil)))) (fCons (fTup (fCons (fC (.str "f")) (fCons (fTup (fCons (fC (.str "b")) (fCons (fTup fNil) fNil))) (fCons (fV 1) fNil)))) (fCons (fTup (fCons (fC (.str "a")) (fCons (fV 2) fNil))) fNil))))))))))))
  (fRet (fCall 2 f_law_some (fCons (fV 0) (fCons (fV 3) fNil))))))
def f_law_known : List AV → Glo → RR := run 4 b_law_known
end
end Fx

namespace Fx
open PySem PySem.Spec PyProof.Rows L2
section
variable [Zz]
def b_law_row : S → R Fl :=
  (fSeq (fSet 3 (fTup fNil))
  (fSeq (fFor (fRng1 (fCons (fCall 2 f_law_roll (fCons (fV 0) (fCons (f2 (p2 plusD) (fV 1) (fC (.int 1))) fNil))) fNil)) (tgName 4)
    (fSeq (fSet 5 (fCall 2 f_law_roll (fCons (fV 0) (fCons (fC (.int 9)) fNil))))
  (fSeq (fSet 6 (fIf (fB (f2 (p2 eqD) (fV 5) (fC (.int 0)))) (fTup fNil) (fIf (fB (f2 (p2 ltD) (fV 5) (fC (.int 5)))) (fCall 1 f_law_known (fCons (fV 0) fNil)) (fCall 2 f_law_growth (fCons (fV 0) (fCons (fC (.int 4)) fNil))))))
  (fSeq (fUn (tgTup 4 (tgCons (tgName 7) (tgCons (tgName 8) (tgCons (tgName 9) (tgCons (tgName 10) tgNil))))) (fCall 1 f_law_sizes_v1 (fCons (f2 (p2 plusD) (fV 3) (fTup (fCons (fV 6) fNil))) fNil)))
  (fIfS (fAnd (fB (f2 (p2 leD) (f2 (p2 plusD) (fV 7) (fV 8)) (fV 2))) (fB (f2 (p2 leD) (fV 10) (fC (.int 60))))) (fSet 3 (f2 (p2 plusD) (fV 3) (fTup (fCons (fV 6) fNil)))) fNx)))))
  (fRet (fV 3))))
def f_law_row : List AV → Glo → RR := run 11 b_law_row
end
end Fx

namespace Fx
open PySem PySem.Spec PyProof.Rows L2
section
variable [Zz]
def b_law_near_bush_v1 : S → R Fl :=
  (fSeq (fSet 2 (fN gSorted (fCons (fCall 1 f_law_parts (fCons (fV 1) fNil)) fNil)))
  (fSeq (fSet 3 (fCall 2 f_law_some (fCons (fV 0) (fCons (fV 2) fNil))))
  (fSeq (fPar 4 5 (fCons (f2 gIx (fCall 1 f_law_parts (fCons (fV 1) fNil)) (fV 3)) (fCons (fCall 2 f_law_roll (fCons (fV 0) (fCons (fC (.int 4)) fNil))) fNil)))
  (fSeq (fIfS (fOr (fB (f2 (p2 eqD) (fV 5) (fC (.int 0)))) (fB (f2 (p2 eqD) (fV 4) (fTup fNil)))) (fRet (fCall 3 f_law_put_v1 (fCons (fV 1) (fCons (fV 3) (fCons (fCall 2 f_law_bush (fCons (fV 0) (fCons (fC (.int 2)) fNil))) fNil))))) fNx)
  (fSeq (fIfS (fB (f2 (p2 eqD) (fV 5) (fC (.int 1)))) (fRet (fCall 3 f_law_put_v1 (fCons (fV 1) (fCons (fV 3) (fCons (f2 (p2 plusD) (fTup (fCons (fCall 2 f_law_some (fCons (fV 0) (fCons (fLst (fCons (fC (.str "a")) (fCons (fC (.str "b")) (fCons (fC (.str "f")) fNil)))) fNil))) fNil)) (fSl (fV 4) (fP (fC (.int 1))) fNoP)) fNil))))) fNx)
  (fSeq (fIfS (fB (f2 (p2 eqD) (fV 5) (fC (.int 2)))) (fRet (fCall 3 f_law_put_v1 (fCons (fV 1) (fCons (fV 3) (fCons (f2 (p2 plusD) (fSl (fV 4) fNoP (fP (fC (.int 1)))) (f1 (p1 rev1D) (fV 4))) fNil))))) fNx)
  (fRet (fCall 3 f_law_put_v1 (fCons (fV 1) (fCons (fV 3) (fCons (fSl (f2 (p2 plusD) (fV 4) (fTup (fCons (fTup fNil) fNil))) fNoP (fP (fC (.int 7)))) fNil)))))))))))
def f_law_near_bush_v1 : List AV → Glo → RR := run 6 b_law_near_bush_v1
end
end Fx

namespace Fx
open PySem PySem.Spec PyProof.Rows L2
section
variable [Zz]
def b_law_chain : S → R Fl :=
  (fSeq (fSet 1 (fTup fNil))
  (fSeq (fFor (fRng1 (fCons (fV 0) fNil)) (tgName 2)
    (fSet 1 (fTup (fCons (fC (.str "s")) (fCons (fV 1) fNil)))))
  (fRet (fV 1))))
def f_law_chain : List AV → Glo → RR := run 3 b_law_chain
end
end Fx

namespace Fx
open PySem PySem.Spec PyProof.Rows L2
section
variable [Zz]
def b_law_great : S → R Fl :=
  (fSeq (fSet 1 (f2 (p2 plusD) (fTup (fCons (fC (.str "g")) fNil)) (f2 gTimes (fTup (fCons (fTup fNil) fNil)) (fC (.int 6)))))
  (fSeq (fSet 2 (fCall 1 f_law_bush_of_v1 (fCons (fTup (fCons (fV 1) (fCons (fV 1) (fCons (fV 1) fNil)))) fNil)))
  (fSeq (fSet 3 (fCall 1 f_law_tips (fCons (fV 2) fNil)))
  (fSeq (fFor (fIt (fSl (fV 3) fNoP (fP (fC (.int 23))))) (tgName 4)
    (fSet 2 (fCall 3 f_law_put_v1 (fCons (fV 2) (fCons (fV 4) (fCons (fV 1) fNil))))))
  (fRet (fCall 3 f_law_put_v1 (fCons (fV 2) (fCons (f2 gIx (fV 3) (f1 (p1 negD) (fC (.int 1)))) (fCons (fCall 1 f_law_chain (fCons (fV 0) fNil)) fNil)))))))))
def f_law_great : List AV → Glo → RR := run 5 b_law_great
end
end Fx

namespace Fx
open PySem PySem.Spec PyProof.Rows L2
section
variable [Zz]
def b_law_is_bush (rec : List AV → Glo → RR) : S → R Fl :=
  (fSeq (fIfS (fOr (fNot (fT (f1 (gIsi "tuple") (fV 0)))) (fB (f2 (p2 gtD) (fV 1) (fC (.int 60))))) (fRet (fC (.int 1000))) fNx)
  (fSeq (fIfS (fB (f2 (p2 eqD) (fN (n1 lenD) (fCons (fV 0) fNil)) (fC (.int 0)))) (fRet (fC (.int 1))) fNx)
  (fSeq (fIfS (fOr (fNot (fB (fChain (p2 leD) (p2 leD) (fC (.int 2)) (fN (n1 lenD) (fCons (fV 0) fNil)) (fC (.int 7))))) (fNot (fT (f1 (gIsi "str") (f2 gIx (fV 0) (fC (.int 0))))))) (fRet (fC (.int 1000))) fNx)
  (fSeq (fIfS (fOr (fB (f2 (p2 neD) (fN (n1 lenD) (fCons (f2 gIx (fV 0) (fC (.int 0))) fNil)) (fC (.int 1)))) (fNot (fB (fChain (p2 leD) (p2 leD) (fC (.str "a")) (f2 gIx (fV 0) (fC (.int 0))) (fC (.str "z")))))) (fRet (fC (.int 1000))) fNx)
  (fRet (fN (n2 min2D) (fCons (fC (.int 1000)) (fCons (f2 (p2 plusD) (fC (.int 1)) (fN (n1 sumD) (fCons (fLc (fIt (fSl (fV 0) (fP (fC (.int 1))) fNoP)) (tgName 2) tYesF (fCall 2 rec (fCons (fV 2) (fCons (f2 (p2 plusD) (fV 1) (fC (.int 1))) fNil))) [2]) fNil))) fNil))))))))
def n_law_is_bush : Nat → List AV → Glo → RR
  | 0 => fun _ _ => .no
  | n + 1 => run 3 (b_law_is_bush (n_law_is_bush n))
def f_law_is_bush : List AV → Glo → RR := n_law_is_bush 64
end
end Fx

namespace Fx
open PySem PySem.Spec PyProof.Rows L2
section
variable [Zz]
def b_law_odd : S → R Fl :=
  (fSeq (fSet 1 (f2 gTimes (fTup (fCons (fTup fNil) fNil)) (fC (.int 7))))
  (fSeq (fSet 2 (fLst (fCons (fC .none) (fCons (fLst fNil) (fCons (fC (.str "a")) (fCons (fTup (fCons (fC (.str "a")) fNil)) (fCons (fTup (fCons (fC (.str "A")) (fCons (fTup fNil) fNil))) (fCons (fTup (fCons (fTup (fCons (fC (.str "a")) fNil)) (fCons (fTup fNil) fNil))) (fCons (fC (.int 0)) (fCons (fC (.bool true)) (fCons (fTup (fCons (fC (.str "ab")) (fCons (fTup fNil) fNil))) (fCons (fTup (fCons (fC (.str "")) (fCons (fTup fNil) fNil))) (fCons (f2 (p2 plusD) (fTup (fCons (fC (.str "a")) fNil)) (fV 1)) (fCons (fTup (fCons (fC (.str "a")) (fCons (fLst fNil) (fCons (fTup fNil) fNil)))) (fCons (fTup (fCons (fC (.int 1)) (fCons (fTup fNil) fNil))) (fCons (fTup (fCons (fC (.str "a")) (fCons (fC .none) fNil))) (fCons (fLst (fCons (fC (.str "a")) (fCons (fTup fNil) fNil))) fNil)))))))))))))))))
  (fRet (fCall 2 f_law_some (fCons (fV 0) (fCons (f2 (p2 plusD) (fV 2) (fLst (fCons (f2 (p2 plusD) (fTup (fCons (fC (.str "z")) fNil)) (fSl (fV 1) fNoP (fP (fC (.int 6))))) (fCons (fTup (fCons (fC (.str "{")) (fCons (fTup fNil) fNil))) (fCons (fTup (fCons (fC .none) (fCons (fTup fNil) fNil))) (fCons (fTup (fCons (fC (.str "a")) (fCons (fC (.str "b")) fNil))) (fCons (fTup (fCons (fTup fNil) (fCons (fTup fNil) fNil))) (fCons (fTup (fCons (fTup fNil) fNil)) (fCons (fTup (fCons (fC (.str " ")) (fCons (fTup fNil) fNil))) fNil))))))))) fNil))))))
def f_law_odd : List AV → Glo → RR := run 3 b_law_odd
end
end Fx

namespace Fx
open PySem PySem.Spec PyProof.Rows L2
section
variable [Zz]
def b_law_right_v1 : S → R Fl :=
  (fRet (f2 (p2 eqD) (fN gRepr (fCons (fCall 1 f_is_bush (fCons (fV 0) fNil)) fNil)) (fN gRepr (fCons (f2 (p2 leD) (fCall 2 f_law_is_bush (fCons (fV 0) (fCons (fC (.int 0)) fNil))) (fC (.int 400))) fNil))))
def f_law_right_v1 : List AV → Glo → RR := run 1 b_law_right_v1
end
end Fx

namespace Fx
open PySem PySem.Spec PyProof.Rows L2
section
variable [Zz]
def q_law_v1_0 : S → R Fl :=
  (fSet 1 (fCall 1 f_law_cup (fCons (fV 0) fNil)))
def q_law_v1_1_0 : S → R Fl :=
  (fSet 3 (fCall 2 f_law_bush (fCons (fV 1) (fCons (fC (.int 8)) fNil))))
def q_law_v1_1_1 : S → R Fl :=
  (fIfS (fOr (fB (f2 (isBD true) (fCall 1 f_is_bush (fCons (fV 3) fNil)) (fC (.bool true)))) (fNot (fT (fCall 1 f_law_right_v1 (fCons (fCall 2 f_law_near_bush_v1 (fCons (fV 1) (fCons (fV 3) fNil))) fNil))))) (fRet (fC (.bool false))) fNx)
def q_law_v1_1_2 : S → R Fl :=
  (fSet 4 (fCall 1 f_law_odd (fCons (fV 1) fNil)))
def q_law_v1_1_3 : S → R Fl :=
  (fIfS (fOr (fNot (fT (fCall 1 f_law_right_v1 (fCons (fV 4) fNil)))) (fNot (fT (fCall 1 f_law_right_v1 (fCons (fCall 3 f_law_put_v1 (fCons (fV 3) (fCons (fCall 2 f_law_some (fCons (fV 1) (fCons (fN gSorted (fCons (fCall 1 f_law_parts (fCons (fV 3) fNil)) fNil)) fNil))) (fCons (fV 4) fNil)))) fNil))))) (fRet (fC (.bool false))) fNx)
def q_law_v1_1_4 : S → R Fl :=
  (fSet 5 (fCall 3 f_law_row (fCons (fV 1) (fCons (fC (.int 4)) (fCons (fC (.int 60)) fNil)))))
def q_law_v1_1_5 : S → R Fl :=
  (fIfS (fOr (fB (f2 (isBD true) (fCall 1 f_are_growths (fCons (fV 5) fNil)) (fC (.bool true)))) (fB (f2 (isBD true) (fCall 1 f_are_growths (fCons (fN (n1 lstD) (fCons (fV 5) fNil)) fNil)) (fC (.bool false))))) (fRet (fC (.bool false))) fNx)
def q_law_v1_1_6 : S → R Fl :=
  (fIfS (fB (f2 (p2 neD) (fN gRepr (fCons (fCall 1 f_are_growths (fCons (f2 (p2 plusD) (fV 5) (fTup (fCons (fV 4) fNil))) fNil)) fNil)) (fN gRepr (fCons (f2 (p2 leD) (fCall 2 f_law_is_bush (fCons (fV 4) (fCons (fC (.int 0)) fNil))) (fC (.int 400))) fNil)))) (fRet (fC (.bool false))) fNx)
def q_law_v1_1_b : S → R Fl :=
  (fSeq q_law_v1_1_0 (fSeq q_law_v1_1_1 (fSeq q_law_v1_1_2 (fSeq q_law_v1_1_3 (fSeq q_law_v1_1_4 (fSeq q_law_v1_1_5 q_law_v1_1_6))))))
def q_law_v1_1 : S → R Fl :=
  (fFor (fRng1 (fCons (fC (.int 6)) fNil)) (tgName 2) q_law_v1_1_b)
def q_law_v1_2 : S → R Fl :=
  (fSet 6 (fLst (fCons (fTup (fCons (fTup fNil) (fCons (fC (.bool true)) fNil))) (fCons (fTup (fCons (fTup (fCons (fC (.str "ab")) (fCons (fTup fNil) fNil))) (fCons (fC (.bool false)) fNil))) (fCons (fTup (fCons (fTup (fCons (fC (.str "")) (fCons (fTup fNil) fNil))) (fCons (fC (.bool false)) fNil))) fNil)))))
def q_law_v1_3 : S → R Fl :=
  (fSet 6 (f2 (p2 plusD) (fV 6) (fLst (fCons (fTup (fCons (fTup (fCons (fC (.str "f")) fNil)) (fCons (fC (.bool false)) fNil))) (fCons (fTup (fCons (fTup (fCons (fC (.str "f")) (fCons (fTup fNil) (fCons (fC (.str "s")) fNil)))) (fCons (fC (.bool false)) fNil))) (fCons (fTup (fCons (fTup (fCons (fC (.str "F")) (fCons (fTup fNil) fNil))) (fCons (fC (.bool false)) fNil))) (fCons (fTup (fCons (fCall 1 f_law_chain (fCons (fC (.int 60)) fNil)) (fCons (fC (.bool true)) fNil))) (fCons (fTup (fCons (fCall 1 f_law_chain (fCons (fC (.int 61)) fNil)) (fCons (fC (.bool false)) fNil))) (fCons (fTup (fCons (fTup (fCons (fC (.str "f")) (fCons (fTup fNil) (fCons (fCall 1 f_law_chain (fCons (fC (.int 60)) fNil)) fNil)))) (fCons (fC (.bool false)) fNil))) fNil)))))))))
def q_law_v1_4 : S → R Fl :=
  (fSet 6 (f2 (p2 plusD) (fV 6) (fLst (fCons (fTup (fCons (fCall 1 f_law_great (fCons (fC (.int 3)) fNil)) (fCons (fC (.bool true)) fNil))) (fCons (fTup (fCons (fCall 1 f_law_great (fCons (fC (.int 4)) fNil)) (fCons (fC (.bool false)) fNil))) (fCons (fTup (fCons (f2 (p2 plusD) (fTup (fCons (fC (.str "f")) fNil)) (f2 gTimes (fTup (fCons (fTup fNil) fNil)) (fC (.int 6)))) (fCons (fC (.bool true)) fNil))) (fCons (fTup (fCons (f2 (p2 plusD) (fTup (fCons (fC (.str "f")) fNil)) (f2 gTimes (fTup (fCons (fTup fNil) fNil)) (fC (.int 7)))) (fCons (fC (.bool false)) fNil))) (fCons (fTup (fCons (fTup (fCons (fC (.str "f")) (fCons (fTup (fCons (fC (.str "f")) (fCons (fTup fNil) fNil))) (fCons (fTup (fCons (fTup (fCons (fC (.str "f")) fNil)) (fCons (fTup fNil) fNil))) fNil)))) (fCons (fC (.bool false)) fNil))) fNil))))))))
def q_law_v1_5 : S → R Fl :=
  (fIfS (fB (f2 (p2 neD) (fLc (fIt (fV 6)) (tgTup 2 (tgCons (tgName 8) (tgCons (tgName 9) tgNil))) (fOr (fB (f2 (p2 neD) (fN gRepr (fCons (fCall 1 f_is_bush (fCons (fV 8) fNil)) fNil)) (fN gRepr (fCons (fV 9) fNil)))) (fNot (fT (fCall 1 f_law_right_v1 (fCons (fV 8) fNil))))) (fV 8) [8, 9]) (fLst fNil))) (fRet (fC (.bool false))) fNx)
def q_law_v1_6 : S → R Fl :=
  (fSet 7 (fTup (fCons (fC (.str "f")) (fCons (fTup fNil) (fCons (fTup fNil) fNil)))))
def q_law_v1_7 : S → R Fl :=
  (fSet 6 (fLst (fCons (fTup (fCons (fTup fNil) (fCons (fC (.bool true)) fNil))) (fCons (fTup (fCons (fTup (fCons (fV 7) (fCons (fTup fNil) fNil))) (fCons (fC (.bool true)) fNil))) (fCons (fTup (fCons (fLst (fCons (fV 7) fNil)) (fCons (fC (.bool false)) fNil))) (fCons (fTup (fCons (f2 gTimes (fTup (fCons (fV 7) fNil)) (fC (.int 12))) (fCons (fC (.bool true)) fNil))) (fCons (fTup (fCons (f2 gTimes (fTup (fCons (fV 7) fNil)) (fC (.int 13))) (fCons (fC (.bool false)) fNil))) (fCons (fTup (fCons (fC .none) (fCons (fC (.bool false)) fNil))) (fCons (fTup (fCons (fV 7) (fCons (fC (.bool false)) fNil))) (fCons (fTup (fCons (fTup (fCons (fV 7) (fCons (fC .none) fNil))) (fCons (fC (.bool false)) fNil))) (fCons (fTup (fCons (f2 gTimes (fTup (fCons (fCall 1 f_law_great (fCons (fC (.int 3)) fNil)) fNil)) (fC (.int 3))) (fCons (fC (.bool true)) fNil))) fNil)))))))))))
def q_law_v1_8 : S → R Fl :=
  (fRet (f2 (p2 eqD) (fLc (fIt (fV 6)) (tgTup 2 (tgCons (tgName 8) (tgCons (tgName 9) tgNil))) (fB (f2 (p2 neD) (fN gRepr (fCons (fCall 1 f_are_growths (fCons (fV 8) fNil)) fNil)) (fN gRepr (fCons (fV 9) fNil)))) (fV 8) [8, 9]) (fLst fNil)))
def b_law_v1 : S → R Fl :=
  (fSeq q_law_v1_0 (fSeq q_law_v1_1 (fSeq q_law_v1_2 (fSeq q_law_v1_3 (fSeq q_law_v1_4 (fSeq q_law_v1_5 (fSeq q_law_v1_6 (fSeq q_law_v1_7 q_law_v1_8))))))))
def f_law_v1 : List AV → Glo → RR := run 10 b_law_v1
end
end Fx

namespace Fx
open PySem PySem.Spec PyProof.Rows L2
open Bk (FnG)
instance : Zz := ⟨false⟩
section
variable {P : Program} {w : World} {K : PySem.W.Frag} {mg : Str → Option Value} {base : Heap}
theorem ok_is_letter (T : Bk.Tx K mg) {xr : XRep} : FnG P w K mg base (L2.CX P w) 1 T.a_is_letter T.d_is_letter Bk.P_is_letter (spF K xr 1 f_is_letter) := okF (b := b_is_letter) (N := Bk.N_is_letter) T.F_is_letter Bk.sc_is_letter rfl fun cdv A outer s H E hgd hr B hxr hxw => by
    subst hxr
    have hE : ∀ cls d σ H, B.xw cls d σ H → E cls d H := fun cls d σ H h => by rw [hxw] at h; exact h
    have hu : (A.deeper (envOfC "is_letter" (defScope Bk.s_is_letter) s.heap.objs.size T.a_is_letter cdv)).units + 64 < cLine := by have := hr.un; omega
    have hu1 : (A.deeper (envOfC "is_letter" (defScope Bk.s_is_letter) s.heap.objs.size T.a_is_letter cdv)).units + 1 < cLine := by have := hr.un; omega
    have hu2 : (A.deeper (envOfC "is_letter" (defScope Bk.s_is_letter) s.heap.objs.size T.a_is_letter cdv)).units + 65 < cLine := by have := hr.un; omega
    exact (pf_sOne (pf_ret (pf_andV (pf_isi (by rfl) T.z_isinstance (pf_var (pv 0)) (pe_bltn (v := .ty "str") (u := .type "str") (by rfl) T.z_str (by decide +kernel) rfl)) (pf_andV (pf_cmp (op_eqD hu) s_eq (pf_callB call_lenA s_len (by rfl) T.z_len PySem.boot_len (pf_cons (pf_var (pv 0)) pf_nil)) (pf_c (.int 1) pe_int) (nomark _)) (pf_one (pf_chain op_leA s_le op_leA s_le (pf_c (.str "a") pe_str) (pf_var (pv 0)) (pf_c (.str "z") pe_str)))))))
theorem ok_has_form (T : Bk.Tx K mg) {xr : XRep} : FnG P w K mg base (L2.CX P w) 2 T.a_has_form T.d_has_form Bk.P_has_form (spF K xr 1 f_has_form) := okF (b := b_has_form) (N := Bk.N_has_form) T.F_has_form Bk.sc_has_form rfl fun cdv A outer s H E hgd hr B hxr hxw => by
    subst hxr
    have hE : ∀ cls d σ H, B.xw cls d σ H → E cls d H := fun cls d σ H h => by rw [hxw] at h; exact h
    have hu : (A.deeper (envOfC "_has_form" (defScope Bk.s_has_form) s.heap.objs.size T.a_has_form cdv)).units + 64 < cLine := by have := hr.un; omega
    have hu1 : (A.deeper (envOfC "_has_form" (defScope Bk.s_has_form) s.heap.objs.size T.a_has_form cdv)).units + 1 < cLine := by have := hr.un; omega
    have hu2 : (A.deeper (envOfC "_has_form" (defScope Bk.s_has_form) s.heap.objs.size T.a_has_form cdv)).units + 65 < cLine := by have := hr.un; omega
    have g_is_letter : FnG P w K mg base (L2.CX P w) 1 T.a_is_letter T.d_is_letter Bk.P_is_letter (spF K B.xr 1 f_is_letter) := (ok_is_letter T).mono (by omega)
    obtain ⟨_, m_MOST_BRANCHES⟩ := T.c_MOST_BRANCHES
    exact (pf_sCons (pf_ifS (pf_not (pf_truth (pf_isi (by rfl) T.z_isinstance (pf_var (pv 0)) (pe_bltn (v := .ty "tuple") (u := .type "tuple") (by rfl) T.z_tuple (by decide +kernel) rfl)))) (pf_sOne (pf_ret (pf_c (.bool false) pe_bl))) pf_sNil)
      (pf_sCons (pf_ifS (pf_tcmp (op_eqD hu) s_eq (pf_callB call_lenA s_len (by rfl) T.z_len PySem.boot_len (pf_cons (pf_var (pv 0)) pf_nil)) (pf_c (.int 0) pe_int) (nomark _)) (pf_sOne (pf_ret (pf_c (.bool true) pe_bl))) pf_sNil)
      (pf_sOne (pf_ret (pf_andV (pf_chain op_leA s_le op_leA s_le (pf_c (.int 2) pe_int) (pf_callB call_lenA s_len (by rfl) T.z_len PySem.boot_len (pf_cons (pf_var (pv 0)) pf_nil)) (pf_op op_plus s_plus (pf_c (.int 6) (pe_glob (v := (.int 6)) (by rfl) m_MOST_BRANCHES ⟨_, rfl⟩)) (pf_c (.int 1) pe_int))) (pf_one (pf_call g_is_letter hgd hr (by rfl) T.g_is_letter T.F_is_letter.kp T.b_is_letter (passes_call (takes_of rfl rfl rfl rfl) fun _ _ _ _ h => h) hE (pf_cons (pf_ixA hu1 (pf_var (pv 0)) (pf_c (.int 0) pe_int) (fun _ _ => rfl)) pf_nil))))))))
theorem ok_is_bush (T : Bk.Tx K mg) {xr : XRep} : FnG P w K mg base (L2.CX P w) 3 T.a_is_bush T.d_is_bush Bk.P_is_bush (spF K xr 1 f_is_bush) := okF (b := b_is_bush) (N := Bk.N_is_bush) T.F_is_bush Bk.sc_is_bush rfl fun cdv A outer s H E hgd hr B hxr hxw => by
    subst hxr
    have hE : ∀ cls d σ H, B.xw cls d σ H → E cls d H := fun cls d σ H h => by rw [hxw] at h; exact h
    have hu : (A.deeper (envOfC "is_bush" (defScope Bk.s_is_bush) s.heap.objs.size T.a_is_bush cdv)).units + 64 < cLine := by have := hr.un; omega
    have hu1 : (A.deeper (envOfC "is_bush" (defScope Bk.s_is_bush) s.heap.objs.size T.a_is_bush cdv)).units + 1 < cLine := by have := hr.un; omega
    have hu2 : (A.deeper (envOfC "is_bush" (defScope Bk.s_is_bush) s.heap.objs.size T.a_is_bush cdv)).units + 65 < cLine := by have := hr.un; omega
    have g_has_form : FnG P w K mg base (L2.CX P w) 2 T.a_has_form T.d_has_form Bk.P_has_form (spF K B.xr 1 f_has_form) := (ok_has_form T).mono (by omega)
    obtain ⟨_, m_MOST_DEPTH⟩ := T.c_MOST_DEPTH
    obtain ⟨_, m_MOST_PARTS⟩ := T.c_MOST_PARTS
    exact (pf_sCons (pf_set (i := 1) Bk.sc_is_bush.nd rfl (.inl rfl) (pf_c (.int 0) pe_int))
      (pf_sCons (pf_set (i := 2) Bk.sc_is_bush.nd rfl (.inl rfl) (pf_lst (pf_cons (pf_var (pv 0)) pf_nil)))
      (pf_sCons (pf_for (passes_of rfl) rfl (pf_rng1 (by rfl) T.z_range (pf_cons (pf_op op_plus s_plus (pf_c (.int 60) (pe_glob (v := (.int 60)) (by rfl) m_MOST_DEPTH ⟨_, rfl⟩)) (pf_c (.int 1) pe_int)) pf_nil)) g_name (pg_name (i := 3) Bk.sc_is_bush.nd rfl (.inl rfl))
        (pf_sCons (pf_aug (i := 1) iop_plus s_iplus Bk.sc_is_bush.nd rfl (.inl rfl) (pf_callB call_lenA s_len (by rfl) T.z_len PySem.boot_len (pf_cons (pf_var (pv 2)) pf_nil)))
      (pf_sCons (pf_ifS (PW.pt (pf_or (pf_tcmp op_gtA s_gt (pf_var (pv 1)) (pf_c (.int 400) (pe_glob (v := (.int 400)) (by rfl) m_MOST_PARTS ⟨_, rfl⟩)) (nomark _)) (pf_or1 (pf_not (pf_truth (pf_callB (cr_all rfl) s_all (by rfl) T.z_all (by decide +kernel) (pf_cons (pf_lc (own := [("part", 4)]) rfl Bk.sc_is_bush.nd (pf_it (pf_var (pv 2))) (blkOk_by (N := Bk.N_is_bush) (sc := defScope Bk.s_is_bush) (by decide +kernel)) g_name (by decide) (fun _ _ _ _ _ => (pg_name (i := 4) Bk.sc_is_bush.nd rfl (Or.inl rfl))) (fun _ _ _ _ _ => pts_nilF) (fun _ _ _ _ _ => (pf_call g_has_form hgd hr (by rfl) T.g_has_form T.F_has_form.kp T.b_has_form passL (fun _ _ _ _ h => h.elim) (pf_cons (pf_var (pv 4)) pf_nil)))) pf_nil))))))) (pf_sOne (pf_ret (pf_c (.bool false) pe_bl))) pf_sNil)
      (pf_sOne (pf_setLc2 (i := 2) (own := [("part", 4), ("branch", 5)]) (vs1 := [5]) rfl Bk.sc_is_bush.nd rfl rfl (sw_true rfl rfl rfl (by decide +kernel)) (pf_it (pf_var (pv 2))) (blkOk_by (N := Bk.N_is_bush) (sc := defScope Bk.s_is_bush) (by decide +kernel)) g_name (by decide) g_name (by decide) (by decide) (fun _ _ _ _ _ => (pg_name (i := 4) Bk.sc_is_bush.nd rfl (Or.inl rfl))) (fun _ _ _ _ _ => pts_nilF) (fun _ _ _ _ _ => (pf_it (pf_slice (pf_var (pv 4)) (pf_P (pf_c (.int 1) pe_int)) pf_noP))) (fun _ _ _ _ _ => (pg_name (i := 5) Bk.sc_is_bush.nd rfl (Or.inl rfl))) (fun _ _ _ _ _ => pts_nilF) (fun _ _ _ _ _ => (pf_var (pv 5))))))))
      (pf_sOne (pf_ret (pf_notV (pf_var (pv 2))))))))
theorem ok_are_growths (T : Bk.Tx K mg) {xr : XRep} : FnG P w K mg base (L2.CX P w) 4 T.a_are_growths T.d_are_growths Bk.P_are_growths (spF K xr 1 f_are_growths) := okF (b := b_are_growths) (N := Bk.N_are_growths) T.F_are_growths Bk.sc_are_growths rfl fun cdv A outer s H E hgd hr B hxr hxw => by
    subst hxr
    have hE : ∀ cls d σ H, B.xw cls d σ H → E cls d H := fun cls d σ H h => by rw [hxw] at h; exact h
    have hu : (A.deeper (envOfC "are_growths" (defScope Bk.s_are_growths) s.heap.objs.size T.a_are_growths cdv)).units + 64 < cLine := by have := hr.un; omega
    have hu1 : (A.deeper (envOfC "are_growths" (defScope Bk.s_are_growths) s.heap.objs.size T.a_are_growths cdv)).units + 1 < cLine := by have := hr.un; omega
    have hu2 : (A.deeper (envOfC "are_growths" (defScope Bk.s_are_growths) s.heap.objs.size T.a_are_growths cdv)).units + 65 < cLine := by have := hr.un; omega
    have g_is_bush : FnG P w K mg base (L2.CX P w) 3 T.a_is_bush T.d_is_bush Bk.P_is_bush (spF K B.xr 1 f_is_bush) := (ok_is_bush T).mono (by omega)
    obtain ⟨_, m_MOST_GROWTHS⟩ := T.c_MOST_GROWTHS
    exact (pf_sCons (pf_ifS (PW.pt (pf_or (pf_not (pf_truth (pf_isi (by rfl) T.z_isinstance (pf_var (pv 0)) (pe_bltn (v := .ty "tuple") (u := .type "tuple") (by rfl) T.z_tuple (by decide +kernel) rfl)))) (pf_or1 (pf_tcmp op_gtA s_gt (pf_callB call_lenA s_len (by rfl) T.z_len PySem.boot_len (pf_cons (pf_var (pv 0)) pf_nil)) (pf_c (.int 12) (pe_glob (v := (.int 12)) (by rfl) m_MOST_GROWTHS ⟨_, rfl⟩)) (nomark _))))) (pf_sOne (pf_ret (pf_c (.bool false) pe_bl))) pf_sNil)
      (pf_sOne (pf_ret (pf_callB (cr_all rfl) s_all (by rfl) T.z_all (by decide +kernel) (pf_cons (pf_lc (own := [("growth", 1)]) rfl Bk.sc_are_growths.nd (pf_it (pf_var (pv 0))) (blkOk_by (N := Bk.N_are_growths) (sc := defScope Bk.s_are_growths) (by decide +kernel)) g_name (by decide) (fun _ _ _ _ _ => (pg_name (i := 1) Bk.sc_are_growths.nd rfl (Or.inl rfl))) (fun _ _ _ _ _ => pts_nilF) (fun _ _ _ _ _ => (pf_call g_is_bush hgd hr (by rfl) T.g_is_bush T.F_is_bush.kp T.b_is_bush passL (fun _ _ _ _ h => h.elim) (pf_cons (pf_var (pv 1)) pf_nil)))) pf_nil)))))
theorem ok_law_cup (T : Bk.Tx K mg) {xr : XRep} : FnG P w K mg base (L2.CX P w) 1 T.a_law_cup T.d_law_cup Bk.P_law_cup (spF K xr 1 f_law_cup) := okF (b := b_law_cup) (N := Bk.N_law_cup) T.F_law_cup Bk.sc_law_cup rfl fun cdv A outer s H E hgd hr B hxr hxw => by
    subst hxr
    have hE : ∀ cls d σ H, B.xw cls d σ H → E cls d H := fun cls d σ H h => by rw [hxw] at h; exact h
    have hu : (A.deeper (envOfC "_law_cup" (defScope Bk.s_law_cup) s.heap.objs.size T.a_law_cup cdv)).units + 64 < cLine := by have := hr.un; omega
    have hu1 : (A.deeper (envOfC "_law_cup" (defScope Bk.s_law_cup) s.heap.objs.size T.a_law_cup cdv)).units + 1 < cLine := by have := hr.un; omega
    have hu2 : (A.deeper (envOfC "_law_cup" (defScope Bk.s_law_cup) s.heap.objs.size T.a_law_cup cdv)).units + 65 < cLine := by have := hr.un; omega
    exact (pf_sCons (pf_set (i := 1) Bk.sc_law_cup.nd rfl (.inl rfl) (pf_callB call_abs s_abs (by rfl) T.z_abs (by decide +kernel) (pf_cons (pf_ixA hu1 (pf_op op_plus s_plus (pf_callTy call_list_of s_list (by rfl) T.z_list (by decide +kernel) (pf_cons (pf_var (pv 0)) pf_nil)) (pf_lst (pf_cons (pf_c (.int 0) pe_int) pf_nil))) (pf_c (.int 0) pe_int) (fun _ _ => rfl)) pf_nil)))
      (pf_sOne (pf_ret (pf_lst (pf_cons (pf_if (pf_tcmp op_geA s_ge (pf_var (pv 1)) (pf_op op_pow s_pow (pf_c (.int 10) pe_int) (pf_c (.int 18) pe_int)) (nomark _)) (pf_op op_div s_div (pf_var (pv 1)) (pf_c (.int 41) pe_int)) (pf_c (.int 0) pe_int)) (pf_cons (pf_op op_plus s_plus (pf_op op_modA s_mod (pf_callTy call_int1 s_int1 (by rfl) T.z_int (by decide +kernel) (pf_cons (pf_op op_plus s_plus (pf_op op_times s_times (pf_var (pv 1)) (pf_c (.int 241) pe_int)) (pf_c (.int 2017) pe_int)) pf_nil)) (pf_c (.int 2077503403) pe_int)) (pf_c (.int 131) pe_int)) pf_nil))))))
theorem ok_law_roll (T : Bk.Tx K mg) {xr : XRep} : FnG P w K mg base (L2.CX P w) 1 T.a_law_roll T.d_law_roll Bk.P_law_roll (spF K xr 2 f_law_roll) := okF (b := b_law_roll) (N := Bk.N_law_roll) T.F_law_roll Bk.sc_law_roll rfl fun cdv A outer s H E hgd hr B hxr hxw => by
    subst hxr
    have hE : ∀ cls d σ H, B.xw cls d σ H → E cls d H := fun cls d σ H h => by rw [hxw] at h; exact h
    have hu : (A.deeper (envOfC "_law_roll" (defScope Bk.s_law_roll) s.heap.objs.size T.a_law_roll cdv)).units + 64 < cLine := by have := hr.un; omega
    have hu1 : (A.deeper (envOfC "_law_roll" (defScope Bk.s_law_roll) s.heap.objs.size T.a_law_roll cdv)).units + 1 < cLine := by have := hr.un; omega
    have hu2 : (A.deeper (envOfC "_law_roll" (defScope Bk.s_law_roll) s.heap.objs.size T.a_law_roll cdv)).units + 65 < cLine := by have := hr.un; omega
    exact (pf_sCons (pf_ifS (pf_tcmp op_gtA s_gt (pf_ixA hu1 (pf_var (pv 0)) (pf_c (.int 0) pe_int) (fun _ _ => rfl)) (pf_c (.int 0) pe_int) (nomark _)) (pf_sCons (pf_set (i := 2) Bk.sc_law_roll.nd rfl (.inl rfl) (pf_op op_modA s_mod (pf_callTy call_int1 s_int1 (by rfl) T.z_int (by decide +kernel) (pf_cons (pf_ixA hu1 (pf_var (pv 0)) (pf_c (.int 0) pe_int) (fun _ _ => rfl)) pf_nil)) (pf_var (pv 1))))
      (pf_sCons (pf_putA hu1 (pf_var (pv 0)) (pf_c (.int 0) pe_int) (pf_op op_div s_div (pf_ixA hu1 (pf_var (pv 0)) (pf_c (.int 0) pe_int) (fun _ _ => rfl)) (pf_var (pv 1))))
      (pf_sOne (pf_ret (pf_var (pv 2)))))) pf_sNil)
      (pf_sCons (pf_putA hu1 (pf_var (pv 0)) (pf_c (.int 1) pe_int) (pf_op op_modA s_mod (pf_callTy call_int1 s_int1 (by rfl) T.z_int (by decide +kernel) (pf_cons (pf_op op_plus s_plus (pf_op op_times s_times (pf_ixA hu1 (pf_var (pv 0)) (pf_c (.int 1) pe_int) (fun _ _ => rfl)) (pf_c (.int 30971) pe_int)) (pf_c (.int 7927) pe_int)) pf_nil)) (pf_c (.int 2147483549) pe_int)))
      (pf_sCons (pf_set (i := 3) Bk.sc_law_roll.nd rfl (.inl rfl) (pf_op op_modA s_mod (pf_callTy call_int1 s_int1 (by rfl) T.z_int (by decide +kernel) (pf_cons (pf_op op_times s_times (pf_ixA hu1 (pf_var (pv 0)) (pf_c (.int 1) pe_int) (fun _ _ => rfl)) (pf_op op_plus s_plus (pf_ixA hu1 (pf_var (pv 0)) (pf_c (.int 1) pe_int) (fun _ _ => rfl)) (pf_c (.int 193) pe_int))) pf_nil)) (pf_c (.int 2147483587) pe_int)))
      (pf_sOne (pf_ret (pf_op op_modA s_mod (pf_callTy call_int1 s_int1 (by rfl) T.z_int (by decide +kernel) (pf_cons (pf_op op_div s_div (pf_var (pv 3)) (pf_c (.int 769) pe_int)) pf_nil)) (pf_var (pv 1))))))))
theorem ok_law_some (T : Bk.Tx K mg) {xr : XRep} : FnG P w K mg base (L2.CX P w) 2 T.a_law_some T.d_law_some Bk.P_law_some (spF K xr 2 f_law_some) := okF (b := b_law_some) (N := Bk.N_law_some) T.F_law_some Bk.sc_law_some rfl fun cdv A outer s H E hgd hr B hxr hxw => by
    subst hxr
    have hE : ∀ cls d σ H, B.xw cls d σ H → E cls d H := fun cls d σ H h => by rw [hxw] at h; exact h
    have hu : (A.deeper (envOfC "_law_some" (defScope Bk.s_law_some) s.heap.objs.size T.a_law_some cdv)).units + 64 < cLine := by have := hr.un; omega
    have hu1 : (A.deeper (envOfC "_law_some" (defScope Bk.s_law_some) s.heap.objs.size T.a_law_some cdv)).units + 1 < cLine := by have := hr.un; omega
    have hu2 : (A.deeper (envOfC "_law_some" (defScope Bk.s_law_some) s.heap.objs.size T.a_law_some cdv)).units + 65 < cLine := by have := hr.un; omega
    have g_law_roll : FnG P w K mg base (L2.CX P w) 1 T.a_law_roll T.d_law_roll Bk.P_law_roll (spF K B.xr 2 f_law_roll) := (ok_law_roll T).mono (by omega)
    exact (pf_sOne (pf_ret (pf_ixA hu1 (pf_var (pv 1)) (pf_call g_law_roll hgd hr (by rfl) T.g_law_roll T.F_law_roll.kp T.b_law_roll (passes_call (takes_of rfl rfl rfl rfl) fun _ _ _ _ h => h) hE (pf_cons (pf_var (pv 0)) (pf_cons (pf_callB call_lenA s_len (by rfl) T.z_len PySem.boot_len (pf_cons (pf_var (pv 1)) pf_nil)) pf_nil))) (fun _ _ => rfl))))
theorem ok_law_parts (T : Bk.Tx K mg) {xr : XRep} : FnG P w K mg base (L2.CX P w) 1 T.a_law_parts T.d_law_parts Bk.P_law_parts (spF K xr 1 f_law_parts) := okL_law_parts T
theorem ok_law_tips (T : Bk.Tx K mg) {xr : XRep} : FnG P w K mg base (L2.CX P w) 2 T.a_law_tips T.d_law_tips Bk.P_law_tips (spF K xr 1 f_law_tips) := okF (b := b_law_tips) (N := Bk.N_law_tips) T.F_law_tips Bk.sc_law_tips rfl fun cdv A outer s H E hgd hr B hxr hxw => by
    subst hxr
    have hE : ∀ cls d σ H, B.xw cls d σ H → E cls d H := fun cls d σ H h => by rw [hxw] at h; exact h
    have hu : (A.deeper (envOfC "_law_tips" (defScope Bk.s_law_tips) s.heap.objs.size T.a_law_tips cdv)).units + 64 < cLine := by have := hr.un; omega
    have hu1 : (A.deeper (envOfC "_law_tips" (defScope Bk.s_law_tips) s.heap.objs.size T.a_law_tips cdv)).units + 1 < cLine := by have := hr.un; omega
    have hu2 : (A.deeper (envOfC "_law_tips" (defScope Bk.s_law_tips) s.heap.objs.size T.a_law_tips cdv)).units + 65 < cLine := by have := hr.un; omega
    have g_law_parts : FnG P w K mg base (L2.CX P w) 1 T.a_law_parts T.d_law_parts Bk.P_law_parts (spF K B.xr 1 f_law_parts) := (ok_law_parts T).mono (by omega)
    exact (pf_sCons (pf_set (i := 1) Bk.sc_law_tips.nd rfl (.inr rfl) (pf_call g_law_parts hgd hr (by rfl) T.g_law_parts T.F_law_parts.kp T.b_law_parts (passes_call (takes_of rfl rfl rfl rfl) fun _ _ _ _ h => h) hE (pf_cons (pf_var (pv 0)) pf_nil)))
      (pf_sOne (pf_ret (pf_lc (own := [("_law_road", 2)]) rfl Bk.sc_law_tips.nd (pf_it (pf_callB (cr_sorted rfl hu) s_sorted (by rfl) T.z_sorted (by decide +kernel) (pf_cons (pf_var (pv 1)) pf_nil))) (blkOk_by (N := Bk.N_law_tips) (sc := defScope Bk.s_law_tips) (by decide +kernel)) g_name (by decide) (fun _ _ _ _ _ => (pg_name (i := 2) Bk.sc_law_tips.nd rfl (Or.inl rfl))) (fun _ _ _ _ _ => (pts_oneF (pf_tcmp (op_eqD hu) s_eq (pf_ixA hu1 (pf_var (pv 1)) (pf_var (pv 2)) (fun _ _ => rfl)) (pf_tup pf_nil) (nomark _)))) (fun _ _ _ _ _ => (pf_var (pv 2)))))))
theorem ok_law_knots (T : Bk.Tx K mg) {xr : XRep} : FnG P w K mg base (L2.CX P w) 2 T.a_law_knots T.d_law_knots Bk.P_law_knots (spF K xr 1 f_law_knots) := okF (b := b_law_knots) (N := Bk.N_law_knots) T.F_law_knots Bk.sc_law_knots rfl fun cdv A outer s H E hgd hr B hxr hxw => by
    subst hxr
    have hE : ∀ cls d σ H, B.xw cls d σ H → E cls d H := fun cls d σ H h => by rw [hxw] at h; exact h
    have hu : (A.deeper (envOfC "_law_knots" (defScope Bk.s_law_knots) s.heap.objs.size T.a_law_knots cdv)).units + 64 < cLine := by have := hr.un; omega
    have hu1 : (A.deeper (envOfC "_law_knots" (defScope Bk.s_law_knots) s.heap.objs.size T.a_law_knots cdv)).units + 1 < cLine := by have := hr.un; omega
    have hu2 : (A.deeper (envOfC "_law_knots" (defScope Bk.s_law_knots) s.heap.objs.size T.a_law_knots cdv)).units + 65 < cLine := by have := hr.un; omega
    have g_law_parts : FnG P w K mg base (L2.CX P w) 1 T.a_law_parts T.d_law_parts Bk.P_law_parts (spF K B.xr 1 f_law_parts) := (ok_law_parts T).mono (by omega)
    exact (pf_sOne (pf_ret (pf_callB call_lenA s_len (by rfl) T.z_len PySem.boot_len (pf_cons (pf_lc (own := [("_law_part", 1)]) rfl Bk.sc_law_knots.nd (pf_it (pf_vals rfl (by rfl) T.z_list (pf_call g_law_parts hgd hr (by rfl) T.g_law_parts T.F_law_parts.kp T.b_law_parts (passes_call (takes_of rfl rfl rfl rfl) fun _ _ _ _ h => h) hE (pf_cons (pf_var (pv 0)) pf_nil)))) (blkOk_by (N := Bk.N_law_knots) (sc := defScope Bk.s_law_knots) (by decide +kernel)) g_name (by decide) (fun _ _ _ _ _ => (pg_name (i := 1) Bk.sc_law_knots.nd rfl (Or.inl rfl))) (fun _ _ _ _ _ => (pts_oneF (pf_tcmp (op_neD hu) s_ne (pf_var (pv 1)) (pf_tup pf_nil) (nomark _)))) (fun _ _ _ _ _ => (pf_var (pv 1)))) pf_nil))))
theorem ok_law_put_n (T : Bk.Tx K mg) {xr : XRep} : ∀ n, FnG P w K mg base (L2.CX P w) (0 + n) T.a_law_put T.d_law_put Bk.P_law_put (spF K xr 3 (n_law_put_v1 n))
  | 0 => ok_no T.F_law_put
  | n + 1 => okF (b := b_law_put_v1 (n_law_put_v1 n)) (N := Bk.N_law_put) T.F_law_put Bk.sc_law_put rfl fun cdv A outer s H E hgd hr B hxr hxw => by
    subst hxr
    have hE : ∀ cls d σ H, B.xw cls d σ H → E cls d H := fun cls d σ H h => by rw [hxw] at h; exact h
    have hu : (A.deeper (envOfC "_law_put" (defScope Bk.s_law_put) s.heap.objs.size T.a_law_put cdv)).units + 64 < cLine := by have := hr.un; omega
    have hu1 : (A.deeper (envOfC "_law_put" (defScope Bk.s_law_put) s.heap.objs.size T.a_law_put cdv)).units + 1 < cLine := by have := hr.un; omega
    have hu2 : (A.deeper (envOfC "_law_put" (defScope Bk.s_law_put) s.heap.objs.size T.a_law_put cdv)).units + 65 < cLine := by have := hr.un; omega
    have g_law_put : FnG P w K mg base (L2.CX P w) (0 + n) T.a_law_put T.d_law_put Bk.P_law_put (spF K B.xr 3 (n_law_put_v1 n)) := ok_law_put_n T n
    exact (pf_sCons (pf_ifS (pf_tcmp (op_eqD hu) s_eq (pf_var (pv 1)) (pf_tup pf_nil) (nomark _)) (pf_sOne (pf_ret (pf_var (pv 2)))) pf_sNil)
      (pf_sCons (pf_set (i := 3) Bk.sc_law_put.nd rfl (.inl rfl) (pf_op op_plus s_plus (pf_ixA hu1 (pf_var (pv 1)) (pf_c (.int 0) pe_int) (fun _ _ => rfl)) (pf_c (.int 1) pe_int)))
      (pf_sOne (pf_ret (pf_op op_plus s_plus (pf_op op_plus s_plus (pf_slice (pf_var (pv 0)) pf_noP (pf_P (pf_var (pv 3)))) (pf_tup (pf_cons (pf_call g_law_put hgd hr (by rfl) T.g_law_put T.F_law_put.kp T.b_law_put (passes_call (takes_of rfl rfl rfl rfl) fun _ _ _ _ h => h) hE (pf_cons (pf_ixA hu1 (pf_var (pv 0)) (pf_var (pv 3)) (fun _ _ => rfl)) (pf_cons (pf_slice (pf_var (pv 1)) (pf_P (pf_c (.int 1) pe_int)) pf_noP) (pf_cons (pf_var (pv 2)) pf_nil)))) pf_nil))) (pf_slice (pf_var (pv 0)) (pf_P (pf_op op_plus s_plus (pf_var (pv 3)) (pf_c (.int 1) pe_int))) pf_noP))))))
theorem ok_law_put (T : Bk.Tx K mg) {xr : XRep} : FnG P w K mg base (L2.CX P w) 64 T.a_law_put T.d_law_put Bk.P_law_put (spF K xr 3 f_law_put_v1) := ok_law_put_n T 64
theorem ok_law_grown (T : Bk.Tx K mg) {xr : XRep} : FnG P w K mg base (L2.CX P w) 65 T.a_law_grown T.d_law_grown Bk.P_law_grown (spF K xr 2 f_law_grown_v1) := okF (b := b_law_grown_v1) (N := Bk.N_law_grown) T.F_law_grown Bk.sc_law_grown rfl fun cdv A outer s H E hgd hr B hxr hxw => by
    subst hxr
    have hE : ∀ cls d σ H, B.xw cls d σ H → E cls d H := fun cls d σ H h => by rw [hxw] at h; exact h
    have hu : (A.deeper (envOfC "_law_grown" (defScope Bk.s_law_grown) s.heap.objs.size T.a_law_grown cdv)).units + 64 < cLine := by have := hr.un; omega
    have hu1 : (A.deeper (envOfC "_law_grown" (defScope Bk.s_law_grown) s.heap.objs.size T.a_law_grown cdv)).units + 1 < cLine := by have := hr.un; omega
    have hu2 : (A.deeper (envOfC "_law_grown" (defScope Bk.s_law_grown) s.heap.objs.size T.a_law_grown cdv)).units + 65 < cLine := by have := hr.un; omega
    have g_law_tips : FnG P w K mg base (L2.CX P w) 64 T.a_law_tips T.d_law_tips Bk.P_law_tips (spF K B.xr 1 f_law_tips) := (ok_law_tips T).mono (by omega)
    have g_law_put : FnG P w K mg base (L2.CX P w) 64 T.a_law_put T.d_law_put Bk.P_law_put (spF K B.xr 3 f_law_put_v1) := (ok_law_put T).mono (by omega)
    exact (pf_sCons (pf_for (passes_of rfl) rfl (pf_it (pf_call g_law_tips hgd hr (by rfl) T.g_law_tips T.F_law_tips.kp T.b_law_tips (passes_call (takes_of rfl rfl rfl rfl) fun _ _ _ _ h => h) hE (pf_cons (pf_var (pv 0)) pf_nil))) g_name (pg_name (i := 2) Bk.sc_law_grown.nd rfl (.inl rfl))
        (pf_sOne (pf_set (i := 0) Bk.sc_law_grown.nd rfl (.inl rfl) (pf_call g_law_put hgd hr (by rfl) T.g_law_put T.F_law_put.kp T.b_law_put (passes_call (takes_of rfl rfl rfl rfl) fun _ _ _ _ h => h) hE (pf_cons (pf_var (pv 0)) (pf_cons (pf_var (pv 2)) (pf_cons (pf_var (pv 1)) pf_nil)))))))
      (pf_sOne (pf_ret (pf_var (pv 0)))))
theorem ok_law_bush_of (T : Bk.Tx K mg) {xr : XRep} : FnG P w K mg base (L2.CX P w) 66 T.a_law_bush_of T.d_law_bush_of Bk.P_law_bush_of (spF K xr 1 f_law_bush_of_v1) := okF (b := b_law_bush_of_v1) (N := Bk.N_law_bush_of) T.F_law_bush_of Bk.sc_law_bush_of rfl fun cdv A outer s H E hgd hr B hxr hxw => by
    subst hxr
    have hE : ∀ cls d σ H, B.xw cls d σ H → E cls d H := fun cls d σ H h => by rw [hxw] at h; exact h
    have hu : (A.deeper (envOfC "_law_bush_of" (defScope Bk.s_law_bush_of) s.heap.objs.size T.a_law_bush_of cdv)).units + 64 < cLine := by have := hr.un; omega
    have hu1 : (A.deeper (envOfC "_law_bush_of" (defScope Bk.s_law_bush_of) s.heap.objs.size T.a_law_bush_of cdv)).units + 1 < cLine := by have := hr.un; omega
    have hu2 : (A.deeper (envOfC "_law_bush_of" (defScope Bk.s_law_bush_of) s.heap.objs.size T.a_law_bush_of cdv)).units + 65 < cLine := by have := hr.un; omega
    have g_law_grown : FnG P w K mg base (L2.CX P w) 65 T.a_law_grown T.d_law_grown Bk.P_law_grown (spF K B.xr 2 f_law_grown_v1) := (ok_law_grown T).mono (by omega)
    exact (pf_sCons (pf_set (i := 1) Bk.sc_law_bush_of.nd rfl (.inl rfl) (pf_tup pf_nil))
      (pf_sCons (pf_for (passes_of rfl) rfl (pf_it (pf_var (pv 0))) g_name (pg_name (i := 2) Bk.sc_law_bush_of.nd rfl (.inl rfl))
        (pf_sOne (pf_set (i := 1) Bk.sc_law_bush_of.nd rfl (.inl rfl) (pf_call g_law_grown hgd hr (by rfl) T.g_law_grown T.F_law_grown.kp T.b_law_grown (passes_call (takes_of rfl rfl rfl rfl) fun _ _ _ _ h => h) hE (pf_cons (pf_var (pv 1)) (pf_cons (pf_var (pv 2)) pf_nil))))))
      (pf_sOne (pf_ret (pf_var (pv 1))))))
theorem ok_law_depths (T : Bk.Tx K mg) {xr : XRep} : FnG P w K mg base (L2.CX P w) 3 T.a_law_depths T.d_law_depths Bk.P_law_depths (spF K xr 1 f_law_depths) := okF (b := b_law_depths) (N := Bk.N_law_depths) T.F_law_depths Bk.sc_law_depths rfl fun cdv A outer s H E hgd hr B hxr hxw => by
    subst hxr
    have hE : ∀ cls d σ H, B.xw cls d σ H → E cls d H := fun cls d σ H h => by rw [hxw] at h; exact h
    have hu : (A.deeper (envOfC "_law_depths" (defScope Bk.s_law_depths) s.heap.objs.size T.a_law_depths cdv)).units + 64 < cLine := by have := hr.un; omega
    have hu1 : (A.deeper (envOfC "_law_depths" (defScope Bk.s_law_depths) s.heap.objs.size T.a_law_depths cdv)).units + 1 < cLine := by have := hr.un; omega
    have hu2 : (A.deeper (envOfC "_law_depths" (defScope Bk.s_law_depths) s.heap.objs.size T.a_law_depths cdv)).units + 65 < cLine := by have := hr.un; omega
    have g_law_tips : FnG P w K mg base (L2.CX P w) 2 T.a_law_tips T.d_law_tips Bk.P_law_tips (spF K B.xr 1 f_law_tips) := (ok_law_tips T).mono (by omega)
    exact (pf_sOne (pf_ret (pf_lc (own := [("_law_road", 1)]) rfl Bk.sc_law_depths.nd (pf_it (pf_call g_law_tips hgd hr (by rfl) T.g_law_tips T.F_law_tips.kp T.b_law_tips (passes_call (takes_of rfl rfl rfl rfl) fun _ _ _ _ h => h) hE (pf_cons (pf_var (pv 0)) pf_nil))) (blkOk_by (N := Bk.N_law_depths) (sc := defScope Bk.s_law_depths) (by decide +kernel)) g_name (by decide) (fun _ _ _ _ _ => (pg_name (i := 1) Bk.sc_law_depths.nd rfl (Or.inl rfl))) (fun _ _ _ _ _ => pts_nilF) (fun _ _ _ _ _ => (pf_callB call_lenA s_len (by rfl) T.z_len PySem.boot_len (pf_cons (pf_var (pv 1)) pf_nil))))))
theorem ok_law_sizes (T : Bk.Tx K mg) {xr : XRep} : FnG P w K mg base (L2.CX P w) 4 T.a_law_sizes T.d_law_sizes Bk.P_law_sizes (spF K xr 1 f_law_sizes_v1) := okF (b := b_law_sizes_v1) (N := Bk.N_law_sizes) T.F_law_sizes Bk.sc_law_sizes rfl fun cdv A outer s H E hgd hr B hxr hxw => by
    subst hxr
    have hE : ∀ cls d σ H, B.xw cls d σ H → E cls d H := fun cls d σ H h => by rw [hxw] at h; exact h
    have hu : (A.deeper (envOfC "_law_sizes" (defScope Bk.s_law_sizes) s.heap.objs.size T.a_law_sizes cdv)).units + 64 < cLine := by have := hr.un; omega
    have hu1 : (A.deeper (envOfC "_law_sizes" (defScope Bk.s_law_sizes) s.heap.objs.size T.a_law_sizes cdv)).units + 1 < cLine := by have := hr.un; omega
    have hu2 : (A.deeper (envOfC "_law_sizes" (defScope Bk.s_law_sizes) s.heap.objs.size T.a_law_sizes cdv)).units + 65 < cLine := by have := hr.un; omega
    have g_law_depths : FnG P w K mg base (L2.CX P w) 3 T.a_law_depths T.d_law_depths Bk.P_law_depths (spF K B.xr 1 f_law_depths) := (ok_law_depths T).mono (by omega)
    have g_law_knots : FnG P w K mg base (L2.CX P w) 3 T.a_law_knots T.d_law_knots Bk.P_law_knots (spF K B.xr 1 f_law_knots) := (ok_law_knots T).mono (by omega)
    exact (pf_sCons (pf_unpack (g_tup (g_cons g_name (g_cons g_name (g_cons g_name (g_cons g_name g_nil))))) (pf_tup (pf_cons (pf_c (.int 0) pe_int) (pf_cons (pf_c (.int 1) pe_int) (pf_cons (pf_c (.int 0) pe_int) (pf_cons (pf_c (.int 0) pe_int) pf_nil))))) (pg_tup rfl (pgs_cons (pg_name (i := 1) Bk.sc_law_sizes.nd rfl (.inl rfl)) (pgs_cons (pg_name (i := 2) Bk.sc_law_sizes.nd rfl (.inl rfl)) (pgs_cons (pg_name (i := 3) Bk.sc_law_sizes.nd rfl (.inl rfl)) (pgs_cons (pg_name (i := 4) Bk.sc_law_sizes.nd rfl (.inl rfl)) pgs_nil))))))
      (pf_sCons (pf_for (passes_of rfl) rfl (pf_it (pf_var (pv 0))) g_name (pg_name (i := 5) Bk.sc_law_sizes.nd rfl (.inl rfl))
        (pf_sCons (pf_set (i := 6) Bk.sc_law_sizes.nd rfl (.inl rfl) (pf_call g_law_depths hgd hr (by rfl) T.g_law_depths T.F_law_depths.kp T.b_law_depths (passes_call (takes_of rfl rfl rfl rfl) fun _ _ _ _ h => h) hE (pf_cons (pf_var (pv 5)) pf_nil)))
      (pf_sCons (pf_par (i := 1) (j := 2) rfl Bk.sc_law_sizes.nd rfl rfl (by decide) rfl rfl (pf_cons (pf_op op_plus s_plus (pf_var (pv 1)) (pf_op op_times s_times (pf_var (pv 2)) (pf_call g_law_knots hgd hr (by rfl) T.g_law_knots T.F_law_knots.kp T.b_law_knots (passes_call (takes_of rfl rfl rfl rfl) fun _ _ _ _ h => h) hE (pf_cons (pf_var (pv 5)) pf_nil)))) (pf_cons (pf_op op_times s_times (pf_var (pv 2)) (pf_callB call_lenA s_len (by rfl) T.z_len PySem.boot_len (pf_cons (pf_var (pv 6)) pf_nil))) pf_nil)) rfl)
      (pf_sOne (pf_par (i := 3) (j := 4) rfl Bk.sc_law_sizes.nd rfl rfl (by decide) rfl rfl (pf_cons (pf_op op_plus s_plus (pf_var (pv 3)) (pf_callB (cr_min rfl) s_min (by rfl) T.z_min (by decide +kernel) (pf_cons (pf_var (pv 6)) pf_nil))) (pf_cons (pf_op op_plus s_plus (pf_var (pv 4)) (pf_callB (cr_max rfl) s_max (by rfl) T.z_max (by decide +kernel) (pf_cons (pf_var (pv 6)) pf_nil))) pf_nil)) rfl)))))
      (pf_sOne (pf_ret (pf_tup (pf_cons (pf_var (pv 1)) (pf_cons (pf_var (pv 2)) (pf_cons (pf_var (pv 3)) (pf_cons (pf_var (pv 4)) pf_nil)))))))))
theorem ok_law_bush_n (T : Bk.Tx K mg) {xr : XRep} : ∀ n, FnG P w K mg base (L2.CX P w) (2 + n) T.a_law_bush T.d_law_bush Bk.P_law_bush (spF K xr 2 (n_law_bush n))
  | 0 => ok_no T.F_law_bush
  | n + 1 => okF (b := b_law_bush (n_law_bush n)) (N := Bk.N_law_bush) T.F_law_bush Bk.sc_law_bush rfl fun cdv A outer s H E hgd hr B hxr hxw => by
    subst hxr
    have hE : ∀ cls d σ H, B.xw cls d σ H → E cls d H := fun cls d σ H h => by rw [hxw] at h; exact h
    have hu : (A.deeper (envOfC "_law_bush" (defScope Bk.s_law_bush) s.heap.objs.size T.a_law_bush cdv)).units + 64 < cLine := by have := hr.un; omega
    have hu1 : (A.deeper (envOfC "_law_bush" (defScope Bk.s_law_bush) s.heap.objs.size T.a_law_bush cdv)).units + 1 < cLine := by have := hr.un; omega
    have hu2 : (A.deeper (envOfC "_law_bush" (defScope Bk.s_law_bush) s.heap.objs.size T.a_law_bush cdv)).units + 65 < cLine := by have := hr.un; omega
    have g_law_roll : FnG P w K mg base (L2.CX P w) (2 + n) T.a_law_roll T.d_law_roll Bk.P_law_roll (spF K B.xr 2 f_law_roll) := (ok_law_roll T).mono (by omega)
    have g_law_some : FnG P w K mg base (L2.CX P w) (2 + n) T.a_law_some T.d_law_some Bk.P_law_some (spF K B.xr 2 f_law_some) := (ok_law_some T).mono (by omega)
    have g_law_bush : FnG P w K mg base (L2.CX P w) (2 + n) T.a_law_bush T.d_law_bush Bk.P_law_bush (spF K B.xr 2 (n_law_bush n)) := ok_law_bush_n T n
    exact (pf_sCons (pf_ifS (PW.pt (pf_or (pf_tcmp (op_eqD hu) s_eq (pf_var (pv 1)) (pf_c (.int 0) pe_int) (nomark _)) (pf_or1 (pf_tcmp (op_eqD hu) s_eq (pf_call g_law_roll hgd hr (by rfl) T.g_law_roll T.F_law_roll.kp T.b_law_roll (passes_call (takes_of rfl rfl rfl rfl) fun _ _ _ _ h => h) hE (pf_cons (pf_var (pv 0)) (pf_cons (pf_c (.int 7) pe_int) pf_nil))) (pf_c (.int 0) pe_int) (nomark _))))) (pf_sOne (pf_ret (pf_tup pf_nil))) pf_sNil)
      (pf_sCons (pf_par (i := 2) (j := 3) rfl Bk.sc_law_bush.nd rfl rfl (by decide) rfl rfl (pf_cons (pf_call g_law_some hgd hr (by rfl) T.g_law_some T.F_law_some.kp T.b_law_some (passes_call (takes_of rfl rfl rfl rfl) fun _ _ _ _ h => h) hE (pf_cons (pf_var (pv 0)) (pf_cons (pf_lst (pf_cons (pf_c (.str "a") pe_str) (pf_cons (pf_c (.str "a") pe_str) (pf_cons (pf_c (.str "b") pe_str) (pf_cons (pf_c (.str "c") pe_str) (pf_cons (pf_c (.str "f") pe_str) (pf_cons (pf_c (.str "z") pe_str) pf_nil))))))) pf_nil))) (pf_cons (pf_call g_law_some hgd hr (by rfl) T.g_law_some T.F_law_some.kp T.b_law_some (passes_call (takes_of rfl rfl rfl rfl) fun _ _ _ _ h => h) hE (pf_cons (pf_var (pv 0)) (pf_cons (pf_lst (pf_cons (pf_c (.int 1) pe_int) (pf_cons (pf_c (.int 1) pe_int) (pf_cons (pf_c (.int 2) pe_int) (pf_cons (pf_c (.int 2) pe_int) (pf_cons (pf_c (.int 2) pe_int) (pf_cons (pf_c (.int 3) pe_int) (pf_cons (pf_c (.int 4) pe_int) pf_nil)))))))) pf_nil))) pf_nil)) rfl)
      (pf_sCons (pf_par3 (i := 4) (j := 5) (l := 6) rfl Bk.sc_law_bush.nd rfl rfl rfl (by decide) (by decide) (by decide) rfl rfl rfl (pf_cons (pf_tup pf_nil) (pf_cons (pf_op op_sub s_minus (pf_var (pv 1)) (pf_c (.int 1) pe_int)) (pf_cons (pf_cmp (op_eqD hu) s_eq (pf_call g_law_roll hgd hr (by rfl) T.g_law_roll T.F_law_roll.kp T.b_law_roll (passes_call (takes_of rfl rfl rfl rfl) fun _ _ _ _ h => h) hE (pf_cons (pf_var (pv 0)) (pf_cons (pf_c (.int 3) pe_int) pf_nil))) (pf_c (.int 0) pe_int) (nomark _)) pf_nil))) rfl)
      (pf_sCons (pf_for (passes_of rfl) rfl (pf_rng1 (by rfl) T.z_range (pf_cons (pf_var (pv 3)) pf_nil)) g_name (pg_name (i := 7) Bk.sc_law_bush.nd rfl (.inl rfl))
        (pf_sCons (pf_set (i := 8) Bk.sc_law_bush.nd rfl (.inl rfl) (pf_if (PW.pt (pf_and (pf_truth (pf_var (pv 6))) (pf_and1 (pf_tcmp (op_neD hu) s_ne (pf_var (pv 4)) (pf_tup pf_nil) (nomark _))))) (pf_ixA hu1 (pf_var (pv 4)) (pf_c (.int 0) pe_int) (fun _ _ => rfl)) (pf_call g_law_bush hgd hr (by rfl) T.g_law_bush T.F_law_bush.kp T.b_law_bush (passes_call (takes_of rfl rfl rfl rfl) fun _ _ _ _ h => h) hE (pf_cons (pf_var (pv 0)) (pf_cons (pf_op op_div s_div (pf_var (pv 5)) (pf_var (pv 3))) pf_nil)))))
      (pf_sOne (pf_set (i := 4) Bk.sc_law_bush.nd rfl (.inl rfl) (pf_op op_plus s_plus (pf_var (pv 4)) (pf_tup (pf_cons (pf_var (pv 8)) pf_nil)))))))
      (pf_sOne (pf_ret (pf_op op_plus s_plus (pf_tup (pf_cons (pf_var (pv 2)) pf_nil)) (pf_var (pv 4)))))))))
theorem ok_law_bush (T : Bk.Tx K mg) {xr : XRep} : FnG P w K mg base (L2.CX P w) 66 T.a_law_bush T.d_law_bush Bk.P_law_bush (spF K xr 2 f_law_bush) := ok_law_bush_n T 64
theorem ok_law_growth (T : Bk.Tx K mg) {xr : XRep} : FnG P w K mg base (L2.CX P w) 67 T.a_law_growth T.d_law_growth Bk.P_law_growth (spF K xr 2 f_law_growth) := okF (b := b_law_growth) (N := Bk.N_law_growth) T.F_law_growth Bk.sc_law_growth rfl fun cdv A outer s H E hgd hr B hxr hxw => by
    subst hxr
    have hE : ∀ cls d σ H, B.xw cls d σ H → E cls d H := fun cls d σ H h => by rw [hxw] at h; exact h
    have hu : (A.deeper (envOfC "_law_growth" (defScope Bk.s_law_growth) s.heap.objs.size T.a_law_growth cdv)).units + 64 < cLine := by have := hr.un; omega
    have hu1 : (A.deeper (envOfC "_law_growth" (defScope Bk.s_law_growth) s.heap.objs.size T.a_law_growth cdv)).units + 1 < cLine := by have := hr.un; omega
    have hu2 : (A.deeper (envOfC "_law_growth" (defScope Bk.s_law_growth) s.heap.objs.size T.a_law_growth cdv)).units + 65 < cLine := by have := hr.un; omega
    have g_law_bush : FnG P w K mg base (L2.CX P w) 66 T.a_law_bush T.d_law_bush Bk.P_law_bush (spF K B.xr 2 f_law_bush) := (ok_law_bush T).mono (by omega)
    have g_law_some : FnG P w K mg base (L2.CX P w) 66 T.a_law_some T.d_law_some Bk.P_law_some (spF K B.xr 2 f_law_some) := (ok_law_some T).mono (by omega)
    have g_law_roll : FnG P w K mg base (L2.CX P w) 66 T.a_law_roll T.d_law_roll Bk.P_law_roll (spF K B.xr 2 f_law_roll) := (ok_law_roll T).mono (by omega)
    exact (pf_sCons (pf_set (i := 2) Bk.sc_law_growth.nd rfl (.inl rfl) (pf_call g_law_bush hgd hr (by rfl) T.g_law_bush T.F_law_bush.kp T.b_law_bush (passes_call (takes_of rfl rfl rfl rfl) fun _ _ _ _ h => h) hE (pf_cons (pf_var (pv 0)) (pf_cons (pf_var (pv 1)) pf_nil))))
      (pf_sOne (pf_ret (pf_if (pf_tcmp (op_neD hu) s_ne (pf_var (pv 2)) (pf_tup pf_nil) (nomark _)) (pf_var (pv 2)) (pf_op op_plus s_plus (pf_tup (pf_cons (pf_call g_law_some hgd hr (by rfl) T.g_law_some T.F_law_some.kp T.b_law_some (passes_call (takes_of rfl rfl rfl rfl) fun _ _ _ _ h => h) hE (pf_cons (pf_var (pv 0)) (pf_cons (pf_lst (pf_cons (pf_c (.str "a") pe_str) (pf_cons (pf_c (.str "b") pe_str) pf_nil))) pf_nil))) pf_nil)) (pf_op op_times s_times (pf_tup (pf_cons (pf_tup pf_nil) pf_nil)) (pf_op op_plus s_plus (pf_c (.int 1) pe_int) (pf_call g_law_roll hgd hr (by rfl) T.g_law_roll T.F_law_roll.kp T.b_law_roll (passes_call (takes_of rfl rfl rfl rfl) fun _ _ _ _ h => h) hE (pf_cons (pf_var (pv 0)) (pf_cons (pf_c (.int 3) pe_int) pf_nil))))))))))
theorem ok_law_known (T : Bk.Tx K mg) {xr : XRep} : FnG P w K mg base (L2.CX P w) 3 T.a_law_known T.d_law_known Bk.P_law_known (spF K xr 1 f_law_known) := okF (b := b_law_known) (N := Bk.N_law_known) T.F_law_known Bk.sc_law_known rfl fun cdv A outer s H E hgd hr B hxr hxw => by
    subst hxr
    have hE : ∀ cls d σ H, B.xw cls d σ H → E cls d H := fun cls d σ H h => by rw [hxw] at h; exact h
    have hu : (A.deeper (envOfC "_law_known" (defScope Bk.s_law_known) s.heap.objs.size T.a_law_known cdv)).units + 64 < cLine := by have := hr.un; omega
    have hu1 : (A.deeper (envOfC "_law_known" (defScope Bk.s_law_known) s.heap.objs.size T.a_law_known cdv)).units + 1 < cLine := by have := hr.un; omega
    have hu2 : (A.deeper (envOfC "_law_known" (defScope Bk.s_law_known) s.heap.objs.size T.a_law_known cdv)).units + 65 < cLine := by have := hr.un; omega
    have g_law_some : FnG P w K mg base (L2.CX P w) 2 T.a_law_some T.d_law_some Bk.P_law_some (spF K B.xr 2 f_law_some) := (ok_law_some T).mono (by omega)
    exact (pf_sCons (pf_unpack (g_tup (g_cons g_name (g_cons g_name g_nil))) (pf_tup (pf_cons (pf_tup (pf_cons (pf_c (.str "a") pe_str) (pf_cons (pf_tup pf_nil) pf_nil))) (pf_cons (pf_tup (pf_cons (pf_c (.str "f") pe_str) (pf_cons (pf_tup pf_nil) (pf_cons (pf_tup pf_nil) pf_nil)))) pf_nil))) (pg_tup rfl (pgs_cons (pg_name (i := 1) Bk.sc_law_known.nd rfl (.inl rfl)) (pgs_cons (pg_name (i := 2) Bk.sc_law_known.nd rfl (.inl rfl)) pgs_nil))))
      (pf_sCons (pf_set (i := 3) Bk.sc_law_known.nd rfl (.inl rfl) (pf_lst (pf_cons (pf_var (pv 1)) (pf_cons (pf_var (pv 2)) (pf_cons (pf_tup (pf_cons (pf_c (.str "b") pe_str) (pf_cons (pf_tup pf_nil) pf_nil))) (pf_cons (pf_tup (pf_cons (pf_c (.str "f") pe_str) (pf_cons (pf_var (pv 1)) (pf_cons (pf_tup pf_nil) pf_nil)))) (pf_cons (pf_tup (pf_cons (pf_c (.str "f") pe_str) (pf_cons (pf_tup pf_nil) (pf_cons (pf_var (pv 1)) pf_nil)))) (pf_cons (pf_tup (pf_cons (pf_c (.str "f") pe_str) (pf_cons (pf_var (pv 2)) (pf_cons (pf_tup pf_nil) pf_nil)))) (pf_cons (pf_tup (pf_cons (pf_c (.str "g") pe_str) (pf_cons (pf_tup pf_nil) (pf_cons (pf_tup pf_nil) (pf_cons (pf_tup pf_nil) pf_nil))))) (pf_cons (pf_tup (pf_cons (pf_c (.str "f") pe_str) (pf_cons (pf_var (pv 1)) (pf_cons (pf_var (pv 1)) pf_nil)))) (pf_cons (pf_tup (pf_cons (pf_c (.str "f") pe_str) (pf_cons (pf_tup (pf_cons (pf_c (.str "b") pe_str) (pf_cons (pf_tup pf_nil) pf_nil))) (pf_cons (pf_var (pv 1)) pf_nil)))) (pf_cons (pf_tup (pf_cons (pf_c (.str "a") pe_str) (pf_cons (pf_var (pv 2)) pf_nil))) pf_nil))))))))))))
      (pf_sOne (pf_ret (pf_call g_law_some hgd hr (by rfl) T.g_law_some T.F_law_some.kp T.b_law_some (passes_call (takes_of rfl rfl rfl rfl) fun _ _ _ _ h => h) hE (pf_cons (pf_var (pv 0)) (pf_cons (pf_var (pv 3)) pf_nil)))))))
theorem ok_law_row (T : Bk.Tx K mg) {xr : XRep} : FnG P w K mg base (L2.CX P w) 68 T.a_law_row T.d_law_row Bk.P_law_row (spF K xr 3 f_law_row) := okF (b := b_law_row) (N := Bk.N_law_row) T.F_law_row Bk.sc_law_row rfl fun cdv A outer s H E hgd hr B hxr hxw => by
    subst hxr
    have hE : ∀ cls d σ H, B.xw cls d σ H → E cls d H := fun cls d σ H h => by rw [hxw] at h; exact h
    have hu : (A.deeper (envOfC "_law_row" (defScope Bk.s_law_row) s.heap.objs.size T.a_law_row cdv)).units + 64 < cLine := by have := hr.un; omega
    have hu1 : (A.deeper (envOfC "_law_row" (defScope Bk.s_law_row) s.heap.objs.size T.a_law_row cdv)).units + 1 < cLine := by have := hr.un; omega
    have hu2 : (A.deeper (envOfC "_law_row" (defScope Bk.s_law_row) s.heap.objs.size T.a_law_row cdv)).units + 65 < cLine := by have := hr.un; omega
    have g_law_roll : FnG P w K mg base (L2.CX P w) 67 T.a_law_roll T.d_law_roll Bk.P_law_roll (spF K B.xr 2 f_law_roll) := (ok_law_roll T).mono (by omega)
    have g_law_known : FnG P w K mg base (L2.CX P w) 67 T.a_law_known T.d_law_known Bk.P_law_known (spF K B.xr 1 f_law_known) := (ok_law_known T).mono (by omega)
    have g_law_growth : FnG P w K mg base (L2.CX P w) 67 T.a_law_growth T.d_law_growth Bk.P_law_growth (spF K B.xr 2 f_law_growth) := (ok_law_growth T).mono (by omega)
    have g_law_sizes : FnG P w K mg base (L2.CX P w) 67 T.a_law_sizes T.d_law_sizes Bk.P_law_sizes (spF K B.xr 1 f_law_sizes_v1) := (ok_law_sizes T).mono (by omega)
    exact (pf_sCons (pf_set (i := 3) Bk.sc_law_row.nd rfl (.inl rfl) (pf_tup pf_nil))
      (pf_sCons (pf_for (passes_of rfl) rfl (pf_rng1 (by rfl) T.z_range (pf_cons (pf_call g_law_roll hgd hr (by rfl) T.g_law_roll T.F_law_roll.kp T.b_law_roll (passes_call (takes_of rfl rfl rfl rfl) fun _ _ _ _ h => h) hE (pf_cons (pf_var (pv 0)) (pf_cons (pf_op op_plus s_plus (pf_var (pv 1)) (pf_c (.int 1) pe_int)) pf_nil))) pf_nil)) g_name (pg_name (i := 4) Bk.sc_law_row.nd rfl (.inl rfl))
        (pf_sCons (pf_set (i := 5) Bk.sc_law_row.nd rfl (.inl rfl) (pf_call g_law_roll hgd hr (by rfl) T.g_law_roll T.F_law_roll.kp T.b_law_roll (passes_call (takes_of rfl rfl rfl rfl) fun _ _ _ _ h => h) hE (pf_cons (pf_var (pv 0)) (pf_cons (pf_c (.int 9) pe_int) pf_nil))))
      (pf_sCons (pf_set (i := 6) Bk.sc_law_row.nd rfl (.inl rfl) (pf_if (pf_tcmp (op_eqD hu) s_eq (pf_var (pv 5)) (pf_c (.int 0) pe_int) (nomark _)) (pf_tup pf_nil) (pf_if (pf_tcmp op_ltA s_lt (pf_var (pv 5)) (pf_c (.int 5) pe_int) (nomark _)) (pf_call g_law_known hgd hr (by rfl) T.g_law_known T.F_law_known.kp T.b_law_known (passes_call (takes_of rfl rfl rfl rfl) fun _ _ _ _ h => h) hE (pf_cons (pf_var (pv 0)) pf_nil)) (pf_call g_law_growth hgd hr (by rfl) T.g_law_growth T.F_law_growth.kp T.b_law_growth (passes_call (takes_of rfl rfl rfl rfl) fun _ _ _ _ h => h) hE (pf_cons (pf_var (pv 0)) (pf_cons (pf_c (.int 4) pe_int) pf_nil))))))
      (pf_sCons (pf_unpack (g_tup (g_cons g_name (g_cons g_name (g_cons g_name (g_cons g_name g_nil))))) (pf_call g_law_sizes hgd hr (by rfl) T.g_law_sizes T.F_law_sizes.kp T.b_law_sizes (passes_call (takes_of rfl rfl rfl rfl) fun _ _ _ _ h => h) hE (pf_cons (pf_op op_plus s_plus (pf_var (pv 3)) (pf_tup (pf_cons (pf_var (pv 6)) pf_nil))) pf_nil)) (pg_tup rfl (pgs_cons (pg_name (i := 7) Bk.sc_law_row.nd rfl (.inl rfl)) (pgs_cons (pg_name (i := 8) Bk.sc_law_row.nd rfl (.inl rfl)) (pgs_cons (pg_name (i := 9) Bk.sc_law_row.nd rfl (.inl rfl)) (pgs_cons (pg_name (i := 10) Bk.sc_law_row.nd rfl (.inl rfl)) pgs_nil))))))
      (pf_sOne (pf_ifS (PW.pt (pf_and (pf_tcmp op_leA s_le (pf_op op_plus s_plus (pf_var (pv 7)) (pf_var (pv 8))) (pf_var (pv 2)) (nomark _)) (pf_and1 (pf_tcmp op_leA s_le (pf_var (pv 10)) (pf_c (.int 60) pe_int) (nomark _))))) (pf_sOne (pf_set (i := 3) Bk.sc_law_row.nd rfl (.inl rfl) (pf_op op_plus s_plus (pf_var (pv 3)) (pf_tup (pf_cons (pf_var (pv 6)) pf_nil))))) pf_sNil))))))
      (pf_sOne (pf_ret (pf_var (pv 3))))))
theorem ok_law_near_bush (T : Bk.Tx K mg) {xr : XRep} : FnG P w K mg base (L2.CX P w) 67 T.a_law_near_bush T.d_law_near_bush Bk.P_law_near_bush (spF K xr 2 f_law_near_bush_v1) := okF (b := b_law_near_bush_v1) (N := Bk.N_law_near_bush) T.F_law_near_bush Bk.sc_law_near_bush rfl fun cdv A outer s H E hgd hr B hxr hxw => by
    subst hxr
    have hE : ∀ cls d σ H, B.xw cls d σ H → E cls d H := fun cls d σ H h => by rw [hxw] at h; exact h
    have hu : (A.deeper (envOfC "_law_near_bush" (defScope Bk.s_law_near_bush) s.heap.objs.size T.a_law_near_bush cdv)).units + 64 < cLine := by have := hr.un; omega
    have hu1 : (A.deeper (envOfC "_law_near_bush" (defScope Bk.s_law_near_bush) s.heap.objs.size T.a_law_near_bush cdv)).units + 1 < cLine := by have := hr.un; omega
    have hu2 : (A.deeper (envOfC "_law_near_bush" (defScope Bk.s_law_near_bush) s.heap.objs.size T.a_law_near_bush cdv)).units + 65 < cLine := by have := hr.un; omega
    have g_law_parts : FnG P w K mg base (L2.CX P w) 66 T.a_law_parts T.d_law_parts Bk.P_law_parts (spF K B.xr 1 f_law_parts) := (ok_law_parts T).mono (by omega)
    have g_law_some : FnG P w K mg base (L2.CX P w) 66 T.a_law_some T.d_law_some Bk.P_law_some (spF K B.xr 2 f_law_some) := (ok_law_some T).mono (by omega)
    have g_law_roll : FnG P w K mg base (L2.CX P w) 66 T.a_law_roll T.d_law_roll Bk.P_law_roll (spF K B.xr 2 f_law_roll) := (ok_law_roll T).mono (by omega)
    have g_law_put : FnG P w K mg base (L2.CX P w) 66 T.a_law_put T.d_law_put Bk.P_law_put (spF K B.xr 3 f_law_put_v1) := (ok_law_put T).mono (by omega)
    have g_law_bush : FnG P w K mg base (L2.CX P w) 66 T.a_law_bush T.d_law_bush Bk.P_law_bush (spF K B.xr 2 f_law_bush) := (ok_law_bush T).mono (by omega)
    exact (pf_sCons (pf_set (i := 2) Bk.sc_law_near_bush.nd rfl (.inl rfl) (pf_callB (cr_sorted rfl hu) s_sorted (by rfl) T.z_sorted (by decide +kernel) (pf_cons (pf_call g_law_parts hgd hr (by rfl) T.g_law_parts T.F_law_parts.kp T.b_law_parts (passes_call (takes_of rfl rfl rfl rfl) fun _ _ _ _ h => h) hE (pf_cons (pf_var (pv 1)) pf_nil)) pf_nil)))
      (pf_sCons (pf_set (i := 3) Bk.sc_law_near_bush.nd rfl (.inl rfl) (pf_call g_law_some hgd hr (by rfl) T.g_law_some T.F_law_some.kp T.b_law_some (passes_call (takes_of rfl rfl rfl rfl) fun _ _ _ _ h => h) hE (pf_cons (pf_var (pv 0)) (pf_cons (pf_var (pv 2)) pf_nil))))
      (pf_sCons (pf_par (i := 4) (j := 5) rfl Bk.sc_law_near_bush.nd rfl rfl (by decide) rfl rfl (pf_cons (pf_ixA hu1 (pf_call g_law_parts hgd hr (by rfl) T.g_law_parts T.F_law_parts.kp T.b_law_parts (passes_call (takes_of rfl rfl rfl rfl) fun _ _ _ _ h => h) hE (pf_cons (pf_var (pv 1)) pf_nil)) (pf_var (pv 3)) (fun _ _ => rfl)) (pf_cons (pf_call g_law_roll hgd hr (by rfl) T.g_law_roll T.F_law_roll.kp T.b_law_roll (passes_call (takes_of rfl rfl rfl rfl) fun _ _ _ _ h => h) hE (pf_cons (pf_var (pv 0)) (pf_cons (pf_c (.int 4) pe_int) pf_nil))) pf_nil)) rfl)
      (pf_sCons (pf_ifS (PW.pt (pf_or (pf_tcmp (op_eqD hu) s_eq (pf_var (pv 5)) (pf_c (.int 0) pe_int) (nomark _)) (pf_or1 (pf_tcmp (op_eqD hu) s_eq (pf_var (pv 4)) (pf_tup pf_nil) (nomark _))))) (pf_sOne (pf_ret (pf_call g_law_put hgd hr (by rfl) T.g_law_put T.F_law_put.kp T.b_law_put (passes_call (takes_of rfl rfl rfl rfl) fun _ _ _ _ h => h) hE (pf_cons (pf_var (pv 1)) (pf_cons (pf_var (pv 3)) (pf_cons (pf_call g_law_bush hgd hr (by rfl) T.g_law_bush T.F_law_bush.kp T.b_law_bush (passes_call (takes_of rfl rfl rfl rfl) fun _ _ _ _ h => h) hE (pf_cons (pf_var (pv 0)) (pf_cons (pf_c (.int 2) pe_int) pf_nil))) pf_nil)))))) pf_sNil)
      (pf_sCons (pf_ifS (pf_tcmp (op_eqD hu) s_eq (pf_var (pv 5)) (pf_c (.int 1) pe_int) (nomark _)) (pf_sOne (pf_ret (pf_call g_law_put hgd hr (by rfl) T.g_law_put T.F_law_put.kp T.b_law_put (passes_call (takes_of rfl rfl rfl rfl) fun _ _ _ _ h => h) hE (pf_cons (pf_var (pv 1)) (pf_cons (pf_var (pv 3)) (pf_cons (pf_op op_plus s_plus (pf_tup (pf_cons (pf_call g_law_some hgd hr (by rfl) T.g_law_some T.F_law_some.kp T.b_law_some (passes_call (takes_of rfl rfl rfl rfl) fun _ _ _ _ h => h) hE (pf_cons (pf_var (pv 0)) (pf_cons (pf_lst (pf_cons (pf_c (.str "a") pe_str) (pf_cons (pf_c (.str "b") pe_str) (pf_cons (pf_c (.str "f") pe_str) pf_nil)))) pf_nil))) pf_nil)) (pf_slice (pf_var (pv 4)) (pf_P (pf_c (.int 1) pe_int)) pf_noP)) pf_nil)))))) pf_sNil)
      (pf_sCons (pf_ifS (pf_tcmp (op_eqD hu) s_eq (pf_var (pv 5)) (pf_c (.int 2) pe_int) (nomark _)) (pf_sOne (pf_ret (pf_call g_law_put hgd hr (by rfl) T.g_law_put T.F_law_put.kp T.b_law_put (passes_call (takes_of rfl rfl rfl rfl) fun _ _ _ _ h => h) hE (pf_cons (pf_var (pv 1)) (pf_cons (pf_var (pv 3)) (pf_cons (pf_op op_plus s_plus (pf_slice (pf_var (pv 4)) pf_noP (pf_P (pf_c (.int 1) pe_int))) (pf_rev1 (pf_var (pv 4)))) pf_nil)))))) pf_sNil)
      (pf_sOne (pf_ret (pf_call g_law_put hgd hr (by rfl) T.g_law_put T.F_law_put.kp T.b_law_put (passes_call (takes_of rfl rfl rfl rfl) fun _ _ _ _ h => h) hE (pf_cons (pf_var (pv 1)) (pf_cons (pf_var (pv 3)) (pf_cons (pf_slice (pf_op op_plus s_plus (pf_var (pv 4)) (pf_tup (pf_cons (pf_tup pf_nil) pf_nil))) pf_noP (pf_P (pf_c (.int 7) pe_int))) pf_nil))))))))))))
theorem ok_law_chain (T : Bk.Tx K mg) {xr : XRep} : FnG P w K mg base (L2.CX P w) 1 T.a_law_chain T.d_law_chain Bk.P_law_chain (spF K xr 1 f_law_chain) := okF (b := b_law_chain) (N := Bk.N_law_chain) T.F_law_chain Bk.sc_law_chain rfl fun cdv A outer s H E hgd hr B hxr hxw => by
    subst hxr
    have hE : ∀ cls d σ H, B.xw cls d σ H → E cls d H := fun cls d σ H h => by rw [hxw] at h; exact h
    have hu : (A.deeper (envOfC "_law_chain" (defScope Bk.s_law_chain) s.heap.objs.size T.a_law_chain cdv)).units + 64 < cLine := by have := hr.un; omega
    have hu1 : (A.deeper (envOfC "_law_chain" (defScope Bk.s_law_chain) s.heap.objs.size T.a_law_chain cdv)).units + 1 < cLine := by have := hr.un; omega
    have hu2 : (A.deeper (envOfC "_law_chain" (defScope Bk.s_law_chain) s.heap.objs.size T.a_law_chain cdv)).units + 65 < cLine := by have := hr.un; omega
    exact (pf_sCons (pf_set (i := 1) Bk.sc_law_chain.nd rfl (.inl rfl) (pf_tup pf_nil))
      (pf_sCons (pf_for (passes_of rfl) rfl (pf_rng1 (by rfl) T.z_range (pf_cons (pf_var (pv 0)) pf_nil)) g_name (pg_name (i := 2) Bk.sc_law_chain.nd rfl (.inl rfl))
        (pf_sOne (pf_set (i := 1) Bk.sc_law_chain.nd rfl (.inl rfl) (pf_tup (pf_cons (pf_c (.str "s") pe_str) (pf_cons (pf_var (pv 1)) pf_nil))))))
      (pf_sOne (pf_ret (pf_var (pv 1))))))
theorem ok_law_great (T : Bk.Tx K mg) {xr : XRep} : FnG P w K mg base (L2.CX P w) 67 T.a_law_great T.d_law_great Bk.P_law_great (spF K xr 1 f_law_great) := okF (b := b_law_great) (N := Bk.N_law_great) T.F_law_great Bk.sc_law_great rfl fun cdv A outer s H E hgd hr B hxr hxw => by
    subst hxr
    have hE : ∀ cls d σ H, B.xw cls d σ H → E cls d H := fun cls d σ H h => by rw [hxw] at h; exact h
    have hu : (A.deeper (envOfC "_law_great" (defScope Bk.s_law_great) s.heap.objs.size T.a_law_great cdv)).units + 64 < cLine := by have := hr.un; omega
    have hu1 : (A.deeper (envOfC "_law_great" (defScope Bk.s_law_great) s.heap.objs.size T.a_law_great cdv)).units + 1 < cLine := by have := hr.un; omega
    have hu2 : (A.deeper (envOfC "_law_great" (defScope Bk.s_law_great) s.heap.objs.size T.a_law_great cdv)).units + 65 < cLine := by have := hr.un; omega
    have g_law_bush_of : FnG P w K mg base (L2.CX P w) 66 T.a_law_bush_of T.d_law_bush_of Bk.P_law_bush_of (spF K B.xr 1 f_law_bush_of_v1) := (ok_law_bush_of T).mono (by omega)
    have g_law_tips : FnG P w K mg base (L2.CX P w) 66 T.a_law_tips T.d_law_tips Bk.P_law_tips (spF K B.xr 1 f_law_tips) := (ok_law_tips T).mono (by omega)
    have g_law_put : FnG P w K mg base (L2.CX P w) 66 T.a_law_put T.d_law_put Bk.P_law_put (spF K B.xr 3 f_law_put_v1) := (ok_law_put T).mono (by omega)
    have g_law_chain : FnG P w K mg base (L2.CX P w) 66 T.a_law_chain T.d_law_chain Bk.P_law_chain (spF K B.xr 1 f_law_chain) := (ok_law_chain T).mono (by omega)
    exact (pf_sCons (pf_set (i := 1) Bk.sc_law_great.nd rfl (.inl rfl) (pf_op op_plus s_plus (pf_tup (pf_cons (pf_c (.str "g") pe_str) pf_nil)) (pf_op op_times s_times (pf_tup (pf_cons (pf_tup pf_nil) pf_nil)) (pf_c (.int 6) pe_int))))
      (pf_sCons (pf_set (i := 2) Bk.sc_law_great.nd rfl (.inl rfl) (pf_call g_law_bush_of hgd hr (by rfl) T.g_law_bush_of T.F_law_bush_of.kp T.b_law_bush_of (passes_call (takes_of rfl rfl rfl rfl) fun _ _ _ _ h => h) hE (pf_cons (pf_tup (pf_cons (pf_var (pv 1)) (pf_cons (pf_var (pv 1)) (pf_cons (pf_var (pv 1)) pf_nil)))) pf_nil)))
      (pf_sCons (pf_set (i := 3) Bk.sc_law_great.nd rfl (.inl rfl) (pf_call g_law_tips hgd hr (by rfl) T.g_law_tips T.F_law_tips.kp T.b_law_tips (passes_call (takes_of rfl rfl rfl rfl) fun _ _ _ _ h => h) hE (pf_cons (pf_var (pv 2)) pf_nil)))
      (pf_sCons (pf_for (passes_of rfl) rfl (pf_it (pf_slice (pf_var (pv 3)) pf_noP (pf_P (pf_c (.int 23) pe_int)))) g_name (pg_name (i := 4) Bk.sc_law_great.nd rfl (.inl rfl))
        (pf_sOne (pf_set (i := 2) Bk.sc_law_great.nd rfl (.inl rfl) (pf_call g_law_put hgd hr (by rfl) T.g_law_put T.F_law_put.kp T.b_law_put (passes_call (takes_of rfl rfl rfl rfl) fun _ _ _ _ h => h) hE (pf_cons (pf_var (pv 2)) (pf_cons (pf_var (pv 4)) (pf_cons (pf_var (pv 1)) pf_nil)))))))
      (pf_sOne (pf_ret (pf_call g_law_put hgd hr (by rfl) T.g_law_put T.F_law_put.kp T.b_law_put (passes_call (takes_of rfl rfl rfl rfl) fun _ _ _ _ h => h) hE (pf_cons (pf_var (pv 2)) (pf_cons (pf_ixA hu1 (pf_var (pv 3)) (pf_un un_neg s_neg (pf_c (.int 1) pe_int)) (fun _ _ => rfl)) (pf_cons (pf_call g_law_chain hgd hr (by rfl) T.g_law_chain T.F_law_chain.kp T.b_law_chain (passes_call (takes_of rfl rfl rfl rfl) fun _ _ _ _ h => h) hE (pf_cons (pf_var (pv 0)) pf_nil)) pf_nil))))))))))
theorem ok_law_is_bush_n (T : Bk.Tx K mg) {xr : XRep} : ∀ n, FnG P w K mg base (L2.CX P w) (0 + n) T.a_law_is_bush T.d_law_is_bush Bk.P_law_is_bush (spF K xr 2 (n_law_is_bush n))
  | 0 => ok_no T.F_law_is_bush
  | n + 1 => okF (b := b_law_is_bush (n_law_is_bush n)) (N := Bk.N_law_is_bush) T.F_law_is_bush Bk.sc_law_is_bush rfl fun cdv A outer s H E hgd hr B hxr hxw => by
    subst hxr
    have hE : ∀ cls d σ H, B.xw cls d σ H → E cls d H := fun cls d σ H h => by rw [hxw] at h; exact h
    have hu : (A.deeper (envOfC "_law_is_bush" (defScope Bk.s_law_is_bush) s.heap.objs.size T.a_law_is_bush cdv)).units + 64 < cLine := by have := hr.un; omega
    have hu1 : (A.deeper (envOfC "_law_is_bush" (defScope Bk.s_law_is_bush) s.heap.objs.size T.a_law_is_bush cdv)).units + 1 < cLine := by have := hr.un; omega
    have hu2 : (A.deeper (envOfC "_law_is_bush" (defScope Bk.s_law_is_bush) s.heap.objs.size T.a_law_is_bush cdv)).units + 65 < cLine := by have := hr.un; omega
    have g_law_is_bush : FnG P w K mg base (L2.CX P w) (0 + n) T.a_law_is_bush T.d_law_is_bush Bk.P_law_is_bush (spF K B.xr 2 (n_law_is_bush n)) := ok_law_is_bush_n T n
    exact (pf_sCons (pf_ifS (PW.pt (pf_or (pf_not (pf_truth (pf_isi (by rfl) T.z_isinstance (pf_var (pv 0)) (pe_bltn (v := .ty "tuple") (u := .type "tuple") (by rfl) T.z_tuple (by decide +kernel) rfl)))) (pf_or1 (pf_tcmp op_gtA s_gt (pf_var (pv 1)) (pf_c (.int 60) pe_int) (nomark _))))) (pf_sOne (pf_ret (pf_c (.int 1000) pe_int))) pf_sNil)
      (pf_sCons (pf_ifS (pf_tcmp (op_eqD hu) s_eq (pf_callB call_lenA s_len (by rfl) T.z_len PySem.boot_len (pf_cons (pf_var (pv 0)) pf_nil)) (pf_c (.int 0) pe_int) (nomark _)) (pf_sOne (pf_ret (pf_c (.int 1) pe_int))) pf_sNil)
      (pf_sCons (pf_ifS (PW.pt (pf_or (pf_not (pf_tchain op_leA s_le op_leA s_le (pf_c (.int 2) pe_int) (pf_callB call_lenA s_len (by rfl) T.z_len PySem.boot_len (pf_cons (pf_var (pv 0)) pf_nil)) (pf_c (.int 7) pe_int))) (pf_or1 (pf_not (pf_truth (pf_isi (by rfl) T.z_isinstance (pf_ixA hu1 (pf_var (pv 0)) (pf_c (.int 0) pe_int) (fun _ _ => rfl)) (pe_bltn (v := .ty "str") (u := .type "str") (by rfl) T.z_str (by decide +kernel) rfl))))))) (pf_sOne (pf_ret (pf_c (.int 1000) pe_int))) pf_sNil)
      (pf_sCons (pf_ifS (PW.pt (pf_or (pf_tcmp (op_neD hu) s_ne (pf_callB call_lenA s_len (by rfl) T.z_len PySem.boot_len (pf_cons (pf_ixA hu1 (pf_var (pv 0)) (pf_c (.int 0) pe_int) (fun _ _ => rfl)) pf_nil)) (pf_c (.int 1) pe_int) (nomark _)) (pf_or1 (pf_not (pf_tchain op_leA s_le op_leA s_le (pf_c (.str "a") pe_str) (pf_ixA hu1 (pf_var (pv 0)) (pf_c (.int 0) pe_int) (fun _ _ => rfl)) (pf_c (.str "z") pe_str)))))) (pf_sOne (pf_ret (pf_c (.int 1000) pe_int))) pf_sNil)
      (pf_sOne (pf_ret (pf_callB (call_min2 rfl) s_min2 (by rfl) T.z_min (by decide +kernel) (pf_cons (pf_c (.int 1000) pe_int) (pf_cons (pf_op op_plus s_plus (pf_c (.int 1) pe_int) (pf_callB (cr_sumA rfl) s_sum (by rfl) T.z_sum (by decide +kernel) (pf_cons (pf_lc (own := [("_law_branch", 2)]) rfl Bk.sc_law_is_bush.nd (pf_it (pf_slice (pf_var (pv 0)) (pf_P (pf_c (.int 1) pe_int)) pf_noP)) (blkOk_by (N := Bk.N_law_is_bush) (sc := defScope Bk.s_law_is_bush) (by decide +kernel)) g_name (by decide) (fun _ _ _ _ _ => (pg_name (i := 2) Bk.sc_law_is_bush.nd rfl (Or.inl rfl))) (fun _ _ _ _ _ => pts_nilF) (fun _ _ _ _ _ => (pf_call g_law_is_bush hgd hr (by rfl) T.g_law_is_bush T.F_law_is_bush.kp T.b_law_is_bush passL (fun _ _ _ _ h => h.elim) (pf_cons (pf_var (pv 2)) (pf_cons (pf_op op_plus s_plus (pf_var (pv 1)) (pf_c (.int 1) pe_int)) pf_nil))))) pf_nil))) pf_nil)))))))))
theorem ok_law_is_bush (T : Bk.Tx K mg) {xr : XRep} : FnG P w K mg base (L2.CX P w) 64 T.a_law_is_bush T.d_law_is_bush Bk.P_law_is_bush (spF K xr 2 f_law_is_bush) := ok_law_is_bush_n T 64
theorem ok_law_odd (T : Bk.Tx K mg) {xr : XRep} : FnG P w K mg base (L2.CX P w) 3 T.a_law_odd T.d_law_odd Bk.P_law_odd (spF K xr 1 f_law_odd) := okF (b := b_law_odd) (N := Bk.N_law_odd) T.F_law_odd Bk.sc_law_odd rfl fun cdv A outer s H E hgd hr B hxr hxw => by
    subst hxr
    have hE : ∀ cls d σ H, B.xw cls d σ H → E cls d H := fun cls d σ H h => by rw [hxw] at h; exact h
    have hu : (A.deeper (envOfC "_law_odd" (defScope Bk.s_law_odd) s.heap.objs.size T.a_law_odd cdv)).units + 64 < cLine := by have := hr.un; omega
    have hu1 : (A.deeper (envOfC "_law_odd" (defScope Bk.s_law_odd) s.heap.objs.size T.a_law_odd cdv)).units + 1 < cLine := by have := hr.un; omega
    have hu2 : (A.deeper (envOfC "_law_odd" (defScope Bk.s_law_odd) s.heap.objs.size T.a_law_odd cdv)).units + 65 < cLine := by have := hr.un; omega
    have g_law_some : FnG P w K mg base (L2.CX P w) 2 T.a_law_some T.d_law_some Bk.P_law_some (spF K B.xr 2 f_law_some) := (ok_law_some T).mono (by omega)
    exact (pf_sCons (pf_set (i := 1) Bk.sc_law_odd.nd rfl (.inl rfl) (pf_op op_times s_times (pf_tup (pf_cons (pf_tup pf_nil) pf_nil)) (pf_c (.int 7) pe_int)))
      (pf_sCons (pf_set (i := 2) Bk.sc_law_odd.nd rfl (.inl rfl) (pf_lst (pf_cons (pf_c .none pe_non) (pf_cons (pf_lst pf_nil) (pf_cons (pf_c (.str "a") pe_str) (pf_cons (pf_tup (pf_cons (pf_c (.str "a") pe_str) pf_nil)) (pf_cons (pf_tup (pf_cons (pf_c (.str "A") pe_str) (pf_cons (pf_tup pf_nil) pf_nil))) (pf_cons (pf_tup (pf_cons (pf_tup (pf_cons (pf_c (.str "a") pe_str) pf_nil)) (pf_cons (pf_tup pf_nil) pf_nil))) (pf_cons (pf_c (.int 0) pe_int) (pf_cons (pf_c (.bool true) pe_bl) (pf_cons (pf_tup (pf_cons (pf_c (.str "ab") pe_str) (pf_cons (pf_tup pf_nil) pf_nil))) (pf_cons (pf_tup (pf_cons (pf_c (.str "") pe_str) (pf_cons (pf_tup pf_nil) pf_nil))) (pf_cons (pf_op op_plus s_plus (pf_tup (pf_cons (pf_c (.str "a") pe_str) pf_nil)) (pf_var (pv 1))) (pf_cons (pf_tup (pf_cons (pf_c (.str "a") pe_str) (pf_cons (pf_lst pf_nil) (pf_cons (pf_tup pf_nil) pf_nil)))) (pf_cons (pf_tup (pf_cons (pf_c (.int 1) pe_int) (pf_cons (pf_tup pf_nil) pf_nil))) (pf_cons (pf_tup (pf_cons (pf_c (.str "a") pe_str) (pf_cons (pf_c .none pe_non) pf_nil))) (pf_cons (pf_lst (pf_cons (pf_c (.str "a") pe_str) (pf_cons (pf_tup pf_nil) pf_nil))) pf_nil)))))))))))))))))
      (pf_sOne (pf_ret (pf_call g_law_some hgd hr (by rfl) T.g_law_some T.F_law_some.kp T.b_law_some (passes_call (takes_of rfl rfl rfl rfl) fun _ _ _ _ h => h) hE (pf_cons (pf_var (pv 0)) (pf_cons (pf_op op_plus s_plus (pf_var (pv 2)) (pf_lst (pf_cons (pf_op op_plus s_plus (pf_tup (pf_cons (pf_c (.str "z") pe_str) pf_nil)) (pf_slice (pf_var (pv 1)) pf_noP (pf_P (pf_c (.int 6) pe_int)))) (pf_cons (pf_tup (pf_cons (pf_c (.str "{") pe_str) (pf_cons (pf_tup pf_nil) pf_nil))) (pf_cons (pf_tup (pf_cons (pf_c .none pe_non) (pf_cons (pf_tup pf_nil) pf_nil))) (pf_cons (pf_tup (pf_cons (pf_c (.str "a") pe_str) (pf_cons (pf_c (.str "b") pe_str) pf_nil))) (pf_cons (pf_tup (pf_cons (pf_tup pf_nil) (pf_cons (pf_tup pf_nil) pf_nil))) (pf_cons (pf_tup (pf_cons (pf_tup pf_nil) pf_nil)) (pf_cons (pf_tup (pf_cons (pf_c (.str " ") pe_str) (pf_cons (pf_tup pf_nil) pf_nil))) pf_nil))))))))) pf_nil)))))))
theorem ok_law_right (T : Bk.Tx K mg) {xr : XRep} : FnG P w K mg base (L2.CX P w) 65 T.a_law_right T.d_law_right Bk.P_law_right (spF K xr 1 f_law_right_v1) := okF (b := b_law_right_v1) (N := Bk.N_law_right) T.F_law_right Bk.sc_law_right rfl fun cdv A outer s H E hgd hr B hxr hxw => by
    subst hxr
    have hE : ∀ cls d σ H, B.xw cls d σ H → E cls d H := fun cls d σ H h => by rw [hxw] at h; exact h
    have hu : (A.deeper (envOfC "_law_right" (defScope Bk.s_law_right) s.heap.objs.size T.a_law_right cdv)).units + 64 < cLine := by have := hr.un; omega
    have hu1 : (A.deeper (envOfC "_law_right" (defScope Bk.s_law_right) s.heap.objs.size T.a_law_right cdv)).units + 1 < cLine := by have := hr.un; omega
    have hu2 : (A.deeper (envOfC "_law_right" (defScope Bk.s_law_right) s.heap.objs.size T.a_law_right cdv)).units + 65 < cLine := by have := hr.un; omega
    have g_is_bush : FnG P w K mg base (L2.CX P w) 64 T.a_is_bush T.d_is_bush Bk.P_is_bush (spF K B.xr 1 f_is_bush) := (ok_is_bush T).mono (by omega)
    have g_law_is_bush : FnG P w K mg base (L2.CX P w) 64 T.a_law_is_bush T.d_law_is_bush Bk.P_law_is_bush (spF K B.xr 2 f_law_is_bush) := (ok_law_is_bush T).mono (by omega)
    exact (pf_sOne (pf_ret (pf_cmp (op_eqD hu) s_eq (pf_callB (Bk.call_reprD hgd hu) s_repr (by rfl) T.z_repr (by decide +kernel) (pf_cons (pf_call g_is_bush hgd hr (by rfl) T.g_is_bush T.F_is_bush.kp T.b_is_bush (passes_call (takes_of rfl rfl rfl rfl) fun _ _ _ _ h => h) hE (pf_cons (pf_var (pv 0)) pf_nil)) pf_nil)) (pf_callB (Bk.call_reprD hgd hu) s_repr (by rfl) T.z_repr (by decide +kernel) (pf_cons (pf_cmp op_leA s_le (pf_call g_law_is_bush hgd hr (by rfl) T.g_law_is_bush T.F_law_is_bush.kp T.b_law_is_bush (passes_call (takes_of rfl rfl rfl rfl) fun _ _ _ _ h => h) hE (pf_cons (pf_var (pv 0)) (pf_cons (pf_c (.int 0) pe_int) pf_nil))) (pf_c (.int 400) pe_int) (nomark _)) pf_nil)) (nomark _))))
theorem ok_law (T : Bk.Tx K mg) {xr : XRep} : FnG P w K mg base (L2.CX P w) 69 T.a_law T.d_law Bk.P_law (spF K xr 1 f_law_v1) := okF (b := b_law_v1) (N := Bk.N_law) T.F_law Bk.sc_law rfl fun cdv A outer s H E hgd hr B hxr hxw => by
    subst hxr
    have hE : ∀ cls d σ H, B.xw cls d σ H → E cls d H := fun cls d σ H h => by rw [hxw] at h; exact h
    have hu : (A.deeper (envOfC "law" (defScope Bk.s_law) s.heap.objs.size T.a_law cdv)).units + 64 < cLine := by have := hr.un; omega
    have hu1 : (A.deeper (envOfC "law" (defScope Bk.s_law) s.heap.objs.size T.a_law cdv)).units + 1 < cLine := by have := hr.un; omega
    have hu2 : (A.deeper (envOfC "law" (defScope Bk.s_law) s.heap.objs.size T.a_law cdv)).units + 65 < cLine := by have := hr.un; omega
    have g_law_cup : FnG P w K mg base (L2.CX P w) 68 T.a_law_cup T.d_law_cup Bk.P_law_cup (spF K B.xr 1 f_law_cup) := (ok_law_cup T).mono (by omega)
    have g_law_bush : FnG P w K mg base (L2.CX P w) 68 T.a_law_bush T.d_law_bush Bk.P_law_bush (spF K B.xr 2 f_law_bush) := (ok_law_bush T).mono (by omega)
    have g_is_bush : FnG P w K mg base (L2.CX P w) 68 T.a_is_bush T.d_is_bush Bk.P_is_bush (spF K B.xr 1 f_is_bush) := (ok_is_bush T).mono (by omega)
    have g_law_right : FnG P w K mg base (L2.CX P w) 68 T.a_law_right T.d_law_right Bk.P_law_right (spF K B.xr 1 f_law_right_v1) := (ok_law_right T).mono (by omega)
    have g_law_near_bush : FnG P w K mg base (L2.CX P w) 68 T.a_law_near_bush T.d_law_near_bush Bk.P_law_near_bush (spF K B.xr 2 f_law_near_bush_v1) := (ok_law_near_bush T).mono (by omega)
    have g_law_odd : FnG P w K mg base (L2.CX P w) 68 T.a_law_odd T.d_law_odd Bk.P_law_odd (spF K B.xr 1 f_law_odd) := (ok_law_odd T).mono (by omega)
    have g_law_put : FnG P w K mg base (L2.CX P w) 68 T.a_law_put T.d_law_put Bk.P_law_put (spF K B.xr 3 f_law_put_v1) := (ok_law_put T).mono (by omega)
    have g_law_some : FnG P w K mg base (L2.CX P w) 68 T.a_law_some T.d_law_some Bk.P_law_some (spF K B.xr 2 f_law_some) := (ok_law_some T).mono (by omega)
    have g_law_parts : FnG P w K mg base (L2.CX P w) 68 T.a_law_parts T.d_law_parts Bk.P_law_parts (spF K B.xr 1 f_law_parts) := (ok_law_parts T).mono (by omega)
    have g_law_row : FnG P w K mg base (L2.CX P w) 68 T.a_law_row T.d_law_row Bk.P_law_row (spF K B.xr 3 f_law_row) := (ok_law_row T).mono (by omega)
    have g_are_growths : FnG P w K mg base (L2.CX P w) 68 T.a_are_growths T.d_are_growths Bk.P_are_growths (spF K B.xr 1 f_are_growths) := (ok_are_growths T).mono (by omega)
    have g_law_is_bush : FnG P w K mg base (L2.CX P w) 68 T.a_law_is_bush T.d_law_is_bush Bk.P_law_is_bush (spF K B.xr 2 f_law_is_bush) := (ok_law_is_bush T).mono (by omega)
    have g_law_chain : FnG P w K mg base (L2.CX P w) 68 T.a_law_chain T.d_law_chain Bk.P_law_chain (spF K B.xr 1 f_law_chain) := (ok_law_chain T).mono (by omega)
    have g_law_great : FnG P w K mg base (L2.CX P w) 68 T.a_law_great T.d_law_great Bk.P_law_great (spF K B.xr 1 f_law_great) := (ok_law_great T).mono (by omega)
    exact (pf_sCons (pf_set (i := 1) Bk.sc_law.nd rfl (.inl rfl) (pf_call g_law_cup hgd hr (by rfl) T.g_law_cup T.F_law_cup.kp T.b_law_cup (passes_call (takes_of rfl rfl rfl rfl) fun _ _ _ _ h => h) hE (pf_cons (pf_var (pv 0)) pf_nil)))
      (pf_sCons (pf_for (passes_of rfl) rfl (pf_rng1 (by rfl) T.z_range (pf_cons (pf_c (.int 6) pe_int) pf_nil)) g_name (pg_name (i := 2) Bk.sc_law.nd rfl (.inl rfl))
        (pf_sCons (pf_set (i := 3) Bk.sc_law.nd rfl (.inl rfl) (pf_call g_law_bush hgd hr (by rfl) T.g_law_bush T.F_law_bush.kp T.b_law_bush (passes_call (takes_of rfl rfl rfl rfl) fun _ _ _ _ h => h) hE (pf_cons (pf_var (pv 1)) (pf_cons (pf_c (.int 8) pe_int) pf_nil))))
      (pf_sCons (pf_ifS (PW.pt (pf_or (pf_tcmp op_notBl s_isnB (pf_call g_is_bush hgd hr (by rfl) T.g_is_bush T.F_is_bush.kp T.b_is_bush (passes_call (takes_of rfl rfl rfl rfl) fun _ _ _ _ h => h) hE (pf_cons (pf_var (pv 3)) pf_nil)) (pf_c (.bool true) pe_bl) (nomark _)) (pf_or1 (pf_not (pf_truth (pf_call g_law_right hgd hr (by rfl) T.g_law_right T.F_law_right.kp T.b_law_right (passes_call (takes_of rfl rfl rfl rfl) fun _ _ _ _ h => h) hE (pf_cons (pf_call g_law_near_bush hgd hr (by rfl) T.g_law_near_bush T.F_law_near_bush.kp T.b_law_near_bush (passes_call (takes_of rfl rfl rfl rfl) fun _ _ _ _ h => h) hE (pf_cons (pf_var (pv 1)) (pf_cons (pf_var (pv 3)) pf_nil))) pf_nil))))))) (pf_sOne (pf_ret (pf_c (.bool false) pe_bl))) pf_sNil)
      (pf_sCons (pf_set (i := 4) Bk.sc_law.nd rfl (.inl rfl) (pf_call g_law_odd hgd hr (by rfl) T.g_law_odd T.F_law_odd.kp T.b_law_odd (passes_call (takes_of rfl rfl rfl rfl) fun _ _ _ _ h => h) hE (pf_cons (pf_var (pv 1)) pf_nil)))
      (pf_sCons (pf_ifS (PW.pt (pf_or (pf_not (pf_truth (pf_call g_law_right hgd hr (by rfl) T.g_law_right T.F_law_right.kp T.b_law_right (passes_call (takes_of rfl rfl rfl rfl) fun _ _ _ _ h => h) hE (pf_cons (pf_var (pv 4)) pf_nil)))) (pf_or1 (pf_not (pf_truth (pf_call g_law_right hgd hr (by rfl) T.g_law_right T.F_law_right.kp T.b_law_right (passes_call (takes_of rfl rfl rfl rfl) fun _ _ _ _ h => h) hE (pf_cons (pf_call g_law_put hgd hr (by rfl) T.g_law_put T.F_law_put.kp T.b_law_put (passes_call (takes_of rfl rfl rfl rfl) fun _ _ _ _ h => h) hE (pf_cons (pf_var (pv 3)) (pf_cons (pf_call g_law_some hgd hr (by rfl) T.g_law_some T.F_law_some.kp T.b_law_some (passes_call (takes_of rfl rfl rfl rfl) fun _ _ _ _ h => h) hE (pf_cons (pf_var (pv 1)) (pf_cons (pf_callB (cr_sorted rfl hu) s_sorted (by rfl) T.z_sorted (by decide +kernel) (pf_cons (pf_call g_law_parts hgd hr (by rfl) T.g_law_parts T.F_law_parts.kp T.b_law_parts (passes_call (takes_of rfl rfl rfl rfl) fun _ _ _ _ h => h) hE (pf_cons (pf_var (pv 3)) pf_nil)) pf_nil)) pf_nil))) (pf_cons (pf_var (pv 4)) pf_nil)))) pf_nil))))))) (pf_sOne (pf_ret (pf_c (.bool false) pe_bl))) pf_sNil)
      (pf_sCons (pf_set (i := 5) Bk.sc_law.nd rfl (.inl rfl) (pf_call g_law_row hgd hr (by rfl) T.g_law_row T.F_law_row.kp T.b_law_row (passes_call (takes_of rfl rfl rfl rfl) fun _ _ _ _ h => h) hE (pf_cons (pf_var (pv 1)) (pf_cons (pf_c (.int 4) pe_int) (pf_cons (pf_c (.int 60) pe_int) pf_nil)))))
      (pf_sCons (pf_ifS (PW.pt (pf_or (pf_tcmp op_notBl s_isnB (pf_call g_are_growths hgd hr (by rfl) T.g_are_growths T.F_are_growths.kp T.b_are_growths (passes_call (takes_of rfl rfl rfl rfl) fun _ _ _ _ h => h) hE (pf_cons (pf_var (pv 5)) pf_nil)) (pf_c (.bool true) pe_bl) (nomark _)) (pf_or1 (pf_tcmp op_notBl s_isnB (pf_call g_are_growths hgd hr (by rfl) T.g_are_growths T.F_are_growths.kp T.b_are_growths (passes_call (takes_of rfl rfl rfl rfl) fun _ _ _ _ h => h) hE (pf_cons (pf_callTy call_list_of s_list (by rfl) T.z_list (by decide +kernel) (pf_cons (pf_var (pv 5)) pf_nil)) pf_nil)) (pf_c (.bool false) pe_bl) (nomark _))))) (pf_sOne (pf_ret (pf_c (.bool false) pe_bl))) pf_sNil)
      (pf_sOne (pf_ifS (pf_tcmp (op_neD hu) s_ne (pf_callB (Bk.call_reprD hgd hu) s_repr (by rfl) T.z_repr (by decide +kernel) (pf_cons (pf_call g_are_growths hgd hr (by rfl) T.g_are_growths T.F_are_growths.kp T.b_are_growths (passes_call (takes_of rfl rfl rfl rfl) fun _ _ _ _ h => h) hE (pf_cons (pf_op op_plus s_plus (pf_var (pv 5)) (pf_tup (pf_cons (pf_var (pv 4)) pf_nil))) pf_nil)) pf_nil)) (pf_callB (Bk.call_reprD hgd hu) s_repr (by rfl) T.z_repr (by decide +kernel) (pf_cons (pf_cmp op_leA s_le (pf_call g_law_is_bush hgd hr (by rfl) T.g_law_is_bush T.F_law_is_bush.kp T.b_law_is_bush (passes_call (takes_of rfl rfl rfl rfl) fun _ _ _ _ h => h) hE (pf_cons (pf_var (pv 4)) (pf_cons (pf_c (.int 0) pe_int) pf_nil))) (pf_c (.int 400) pe_int) (nomark _)) pf_nil)) (nomark _)) (pf_sOne (pf_ret (pf_c (.bool false) pe_bl))) pf_sNil)))))))))
      (pf_sCons (pf_set (i := 6) Bk.sc_law.nd rfl (.inl rfl) (pf_lst (pf_cons (pf_tup (pf_cons (pf_tup pf_nil) (pf_cons (pf_c (.bool true) pe_bl) pf_nil))) (pf_cons (pf_tup (pf_cons (pf_tup (pf_cons (pf_c (.str "ab") pe_str) (pf_cons (pf_tup pf_nil) pf_nil))) (pf_cons (pf_c (.bool false) pe_bl) pf_nil))) (pf_cons (pf_tup (pf_cons (pf_tup (pf_cons (pf_c (.str "") pe_str) (pf_cons (pf_tup pf_nil) pf_nil))) (pf_cons (pf_c (.bool false) pe_bl) pf_nil))) pf_nil)))))
      (pf_sCons (pf_set (i := 6) Bk.sc_law.nd rfl (.inl rfl) (pf_op op_plus s_plus (pf_var (pv 6)) (pf_lst (pf_cons (pf_tup (pf_cons (pf_tup (pf_cons (pf_c (.str "f") pe_str) pf_nil)) (pf_cons (pf_c (.bool false) pe_bl) pf_nil))) (pf_cons (pf_tup (pf_cons (pf_tup (pf_cons (pf_c (.str "f") pe_str) (pf_cons (pf_tup pf_nil) (pf_cons (pf_c (.str "s") pe_str) pf_nil)))) (pf_cons (pf_c (.bool false) pe_bl) pf_nil))) (pf_cons (pf_tup (pf_cons (pf_tup (pf_cons (pf_c (.str "F") pe_str) (pf_cons (pf_tup pf_nil) pf_nil))) (pf_cons (pf_c (.bool false) pe_bl) pf_nil))) (pf_cons (pf_tup (pf_cons (pf_call g_law_chain hgd hr (by rfl) T.g_law_chain T.F_law_chain.kp T.b_law_chain (passes_call (takes_of rfl rfl rfl rfl) fun _ _ _ _ h => h) hE (pf_cons (pf_c (.int 60) pe_int) pf_nil)) (pf_cons (pf_c (.bool true) pe_bl) pf_nil))) (pf_cons (pf_tup (pf_cons (pf_call g_law_chain hgd hr (by rfl) T.g_law_chain T.F_law_chain.kp T.b_law_chain (passes_call (takes_of rfl rfl rfl rfl) fun _ _ _ _ h => h) hE (pf_cons (pf_c (.int 61) pe_int) pf_nil)) (pf_cons (pf_c (.bool false) pe_bl) pf_nil))) (pf_cons (pf_tup (pf_cons (pf_tup (pf_cons (pf_c (.str "f") pe_str) (pf_cons (pf_tup pf_nil) (pf_cons (pf_call g_law_chain hgd hr (by rfl) T.g_law_chain T.F_law_chain.kp T.b_law_chain (passes_call (takes_of rfl rfl rfl rfl) fun _ _ _ _ h => h) hE (pf_cons (pf_c (.int 60) pe_int) pf_nil)) pf_nil)))) (pf_cons (pf_c (.bool false) pe_bl) pf_nil))) pf_nil)))))))))
      (pf_sCons (pf_set (i := 6) Bk.sc_law.nd rfl (.inl rfl) (pf_op op_plus s_plus (pf_var (pv 6)) (pf_lst (pf_cons (pf_tup (pf_cons (pf_call g_law_great hgd hr (by rfl) T.g_law_great T.F_law_great.kp T.b_law_great (passes_call (takes_of rfl rfl rfl rfl) fun _ _ _ _ h => h) hE (pf_cons (pf_c (.int 3) pe_int) pf_nil)) (pf_cons (pf_c (.bool true) pe_bl) pf_nil))) (pf_cons (pf_tup (pf_cons (pf_call g_law_great hgd hr (by rfl) T.g_law_great T.F_law_great.kp T.b_law_great (passes_call (takes_of rfl rfl rfl rfl) fun _ _ _ _ h => h) hE (pf_cons (pf_c (.int 4) pe_int) pf_nil)) (pf_cons (pf_c (.bool false) pe_bl) pf_nil))) (pf_cons (pf_tup (pf_cons (pf_op op_plus s_plus (pf_tup (pf_cons (pf_c (.str "f") pe_str) pf_nil)) (pf_op op_times s_times (pf_tup (pf_cons (pf_tup pf_nil) pf_nil)) (pf_c (.int 6) pe_int))) (pf_cons (pf_c (.bool true) pe_bl) pf_nil))) (pf_cons (pf_tup (pf_cons (pf_op op_plus s_plus (pf_tup (pf_cons (pf_c (.str "f") pe_str) pf_nil)) (pf_op op_times s_times (pf_tup (pf_cons (pf_tup pf_nil) pf_nil)) (pf_c (.int 7) pe_int))) (pf_cons (pf_c (.bool false) pe_bl) pf_nil))) (pf_cons (pf_tup (pf_cons (pf_tup (pf_cons (pf_c (.str "f") pe_str) (pf_cons (pf_tup (pf_cons (pf_c (.str "f") pe_str) (pf_cons (pf_tup pf_nil) pf_nil))) (pf_cons (pf_tup (pf_cons (pf_tup (pf_cons (pf_c (.str "f") pe_str) pf_nil)) (pf_cons (pf_tup pf_nil) pf_nil))) pf_nil)))) (pf_cons (pf_c (.bool false) pe_bl) pf_nil))) pf_nil))))))))
      (pf_sCons (pf_ifS (pf_tcmp (op_neD hu) s_ne (pf_lc (own := [("_law_value", 8), ("_law_due", 9)]) rfl Bk.sc_law.nd (pf_it (pf_var (pv 6))) (blkOk_by (N := Bk.N_law) (sc := defScope Bk.s_law) (by decide +kernel)) (g_tup (g_cons g_name (g_cons g_name g_nil))) (by decide) (fun _ _ _ _ _ => (pg_tup rfl (pgs_cons (pg_name (i := 8) Bk.sc_law.nd rfl (Or.inl rfl)) (pgs_cons (pg_name (i := 9) Bk.sc_law.nd rfl (Or.inl rfl)) pgs_nil)))) (fun _ _ _ _ _ => (pts_oneF (PW.pt (pf_or (pf_tcmp (op_neD hu) s_ne (pf_callB (Bk.call_reprD hgd hu) s_repr (by rfl) T.z_repr (by decide +kernel) (pf_cons (pf_call g_is_bush hgd hr (by rfl) T.g_is_bush T.F_is_bush.kp T.b_is_bush passL (fun _ _ _ _ h => h.elim) (pf_cons (pf_var (pv 8)) pf_nil)) pf_nil)) (pf_callB (Bk.call_reprD hgd hu) s_repr (by rfl) T.z_repr (by decide +kernel) (pf_cons (pf_var (pv 9)) pf_nil)) (nomark _)) (pf_or1 (pf_not (pf_truth (pf_call g_law_right hgd hr (by rfl) T.g_law_right T.F_law_right.kp T.b_law_right passL (fun _ _ _ _ h => h.elim) (pf_cons (pf_var (pv 8)) pf_nil))))))))) (fun _ _ _ _ _ => (pf_var (pv 8)))) (pf_lst pf_nil) (nomark _)) (pf_sOne (pf_ret (pf_c (.bool false) pe_bl))) pf_sNil)
      (pf_sCons (pf_set (i := 7) Bk.sc_law.nd rfl (.inl rfl) (pf_tup (pf_cons (pf_c (.str "f") pe_str) (pf_cons (pf_tup pf_nil) (pf_cons (pf_tup pf_nil) pf_nil)))))
      (pf_sCons (pf_set (i := 6) Bk.sc_law.nd rfl (.inl rfl) (pf_lst (pf_cons (pf_tup (pf_cons (pf_tup pf_nil) (pf_cons (pf_c (.bool true) pe_bl) pf_nil))) (pf_cons (pf_tup (pf_cons (pf_tup (pf_cons (pf_var (pv 7)) (pf_cons (pf_tup pf_nil) pf_nil))) (pf_cons (pf_c (.bool true) pe_bl) pf_nil))) (pf_cons (pf_tup (pf_cons (pf_lst (pf_cons (pf_var (pv 7)) pf_nil)) (pf_cons (pf_c (.bool false) pe_bl) pf_nil))) (pf_cons (pf_tup (pf_cons (pf_op op_times s_times (pf_tup (pf_cons (pf_var (pv 7)) pf_nil)) (pf_c (.int 12) pe_int)) (pf_cons (pf_c (.bool true) pe_bl) pf_nil))) (pf_cons (pf_tup (pf_cons (pf_op op_times s_times (pf_tup (pf_cons (pf_var (pv 7)) pf_nil)) (pf_c (.int 13) pe_int)) (pf_cons (pf_c (.bool false) pe_bl) pf_nil))) (pf_cons (pf_tup (pf_cons (pf_c .none pe_non) (pf_cons (pf_c (.bool false) pe_bl) pf_nil))) (pf_cons (pf_tup (pf_cons (pf_var (pv 7)) (pf_cons (pf_c (.bool false) pe_bl) pf_nil))) (pf_cons (pf_tup (pf_cons (pf_tup (pf_cons (pf_var (pv 7)) (pf_cons (pf_c .none pe_non) pf_nil))) (pf_cons (pf_c (.bool false) pe_bl) pf_nil))) (pf_cons (pf_tup (pf_cons (pf_op op_times s_times (pf_tup (pf_cons (pf_call g_law_great hgd hr (by rfl) T.g_law_great T.F_law_great.kp T.b_law_great (passes_call (takes_of rfl rfl rfl rfl) fun _ _ _ _ h => h) hE (pf_cons (pf_c (.int 3) pe_int) pf_nil)) pf_nil)) (pf_c (.int 3) pe_int)) (pf_cons (pf_c (.bool true) pe_bl) pf_nil))) pf_nil)))))))))))
      (pf_sOne (pf_ret (pf_cmp (op_eqD hu) s_eq (pf_lc (own := [("_law_value", 8), ("_law_due", 9)]) rfl Bk.sc_law.nd (pf_it (pf_var (pv 6))) (blkOk_by (N := Bk.N_law) (sc := defScope Bk.s_law) (by decide +kernel)) (g_tup (g_cons g_name (g_cons g_name g_nil))) (by decide) (fun _ _ _ _ _ => (pg_tup rfl (pgs_cons (pg_name (i := 8) Bk.sc_law.nd rfl (Or.inl rfl)) (pgs_cons (pg_name (i := 9) Bk.sc_law.nd rfl (Or.inl rfl)) pgs_nil)))) (fun _ _ _ _ _ => (pts_oneF (pf_tcmp (op_neD hu) s_ne (pf_callB (Bk.call_reprD hgd hu) s_repr (by rfl) T.z_repr (by decide +kernel) (pf_cons (pf_call g_are_growths hgd hr (by rfl) T.g_are_growths T.F_are_growths.kp T.b_are_growths passL (fun _ _ _ _ h => h.elim) (pf_cons (pf_var (pv 8)) pf_nil)) pf_nil)) (pf_callB (Bk.call_reprD hgd hu) s_repr (by rfl) T.z_repr (by decide +kernel) (pf_cons (pf_var (pv 9)) pf_nil)) (nomark _)))) (fun _ _ _ _ _ => (pf_var (pv 8)))) (pf_lst pf_nil) (nomark _))))))))))))
end
end Fx

/-! ### what comes of a function -/
namespace Fx
open PySem PySem.Spec PyProof.Rows L2
/-- it comes to a value, and Q holds of it -/
def wpM {α : Type} (r : R α) (Q : α → S → Prop) : Prop :=
  match r with
  | .ok a s => Q a s
  | _ => False
class Pn (α : Type) where
  run : α → S → Prop
structure WpI {α : Type} (r : R α) [q : Pn α] : Prop where
  h : wpM r q.run
def Wp {α : Type} (r : R α) (Q : α → S → Prop) : Prop := @WpI _ r ⟨Q⟩
theorem Wp.h {α : Type} {r : R α} {Q : α → S → Prop} (h : Wp r Q) : wpM r Q := @WpI.h _ _ ⟨Q⟩ h
theorem wpOk {α : Type} {a : α} {s : S} {Q : α → S → Prop} (h : Q a s) : Wp (.ok a s) Q := @WpI.mk _ _ ⟨Q⟩ h
theorem wp_def {α : Type} {r : R α} {Q : α → S → Prop} : Wp r Q = @WpI _ r ⟨Q⟩ := rfl
def rwM (r : RR) (P : RV → Glo → Prop) : Prop :=
  match r with
  | .ok v gl => P v gl
  | _ => False
structure Rw (r : RR) (P : RV → Glo → Prop) : Prop where
  h : rwM r P
section
variable {α β : Type} {r r' : R α} {f : α → S → R β} {Q Q' : α → S → Prop} {s : S} {a : α}
theorem wpI_ok {q : Pn α} : @WpI _ (.ok a s) q = q.run a s := propext ⟨fun h => @WpI.h _ _ q h, fun h => @WpI.mk _ _ q h⟩
theorem wpI_bnd {k : Kn α β} {q : Pn β} : @WpI _ (@bnd _ _ r k) q = @WpI _ r ⟨fun a s => @WpI _ (k.run a s) q⟩ := by
  unfold bnd
  cases r with
  | ok a s => exact (wpI_ok (a := a) (s := s) (q := ⟨fun a s => @WpI _ (k.run a s) q⟩)).symm
  | xc _ _ => exact propext ⟨fun h => (@WpI.h _ _ q h).elim, fun h => (@WpI.h _ _ ⟨_⟩ h).elim⟩
  | no => exact propext ⟨fun h => (@WpI.h _ _ q h).elim, fun h => (@WpI.h _ _ ⟨_⟩ h).elim⟩
theorem wpI_okW {k : Kn α β} {q : Pn β} : @WpI _ (.ok a s) ⟨fun a s => @WpI _ (k.run a s) q⟩ = @WpI _ (k.run a s) q := wpI_ok
theorem wp_ok : Wp (.ok a s) Q = Q a s := wpI_ok
theorem wp_bind {Q : β → S → Prop} : Wp (r.bind f) Q = Wp r fun a s => Wp (f a s) Q := by
  unfold Wp
  rw [bind_bnd, wpI_bnd]
theorem Wp.imp (h : Wp r Q) (q : ∀ a s, Q a s → Q' a s) : Wp r Q' := by
  cases r with
  | ok a s => exact wpOk (q a s h.h)
  | xc _ _ => exact h.h.elim
  | no => exact h.h.elim
theorem wp_eq (h : Wp r fun a' s' => a' = a ∧ s' = s) : r = .ok a s := by
  cases r with
  | ok b t => obtain ⟨rfl, rfl⟩ := h.h; rfl
  | xc _ _ => exact h.h.elim
  | no => exact h.h.elim
end
theorem rw_ok {v : RV} {gl : Glo} {P : RV → Glo → Prop} : Rw (.ok v gl) P = P v gl := propext ⟨fun h => h.h, fun h => ⟨h⟩⟩
theorem rw_xc {x : Xc} {gl : Glo} {P : RV → Glo → Prop} : Rw (.xc x gl) P = False := propext ⟨fun h => h.h, fun h => h.elim⟩
theorem rw_no {P : RV → Glo → Prop} : Rw .no P = False := propext ⟨fun h => h.h, fun h => h.elim⟩
theorem Rw.imp {r : RR} {P P' : RV → Glo → Prop} (h : Rw r P) (q : ∀ v gl, P v gl → P' v gl) : Rw r P' := by
  cases r with
  | ok a s => rw [rw_ok] at h ⊢; exact q a s h
  | xc _ _ => rw [rw_xc] at h; exact h.elim
  | no => rw [rw_no] at h; exact h.elim
theorem rw_eq {r : RR} {v : RV} {gl : Glo} (h : Rw r fun v' gl' => v' = v ∧ gl' = gl) : r = .ok v gl := by
  cases r with
  | ok b t => rw [rw_ok] at h; obtain ⟨rfl, rfl⟩ := h; rfl
  | xc _ _ => rw [rw_xc] at h; exact h.elim
  | no => rw [rw_no] at h; exact h.elim
/-! statements -/
def seqK (g : S → R Fl) (fl : Fl) (s : S) : R Fl :=
  match fl with
  | .nx => g s
  | fl => .ok fl s
theorem fSeq_eq {f g : S → R Fl} {s : S} : fSeq f g s = (f s).bind (seqK g) := rfl
theorem seqK_nx {g : S → R Fl} {s : S} : seqK g .nx s = g s := rfl
theorem seqK_rt {g : S → R Fl} {x : AV} {s : S} : seqK g (.rt x) s = .ok (.rt x) s := rfl
theorem seqK_bk {g : S → R Fl} {s : S} : seqK g .bk s = .ok .bk s := rfl
theorem seqK_ct {g : S → R Fl} {s : S} : seqK g .ct s = .ok .ct s := rfl
def ifK (f g : S → R Fl) (n : Nat) (c : Bool) (s : S) : R Fl := if c then f (s.cut n) else g (s.cut n)
theorem fIfS_eq {t : S → R Bool} {f g : S → R Fl} {s : S} : fIfS t f g s = (t s).bind (ifK f g s.lo.length) := rfl
theorem ifK_t {f g : S → R Fl} {n : Nat} {s : S} : ifK f g n true s = f (s.cut n) := rfl
theorem ifK_f {f g : S → R Fl} {n : Nat} {s : S} : ifK f g n false s = g (s.cut n) := rfl
/-! calls -/
def callK (n : Nat) (f : List AV → Glo → RR) (xs : List AV) (s1 : S) : R AV :=
  if xs.length = n then
    match f (xs.map (globA s1.gl.length)) (s1.gl ++ s1.lo) with
    | .ok rv gl' =>
      let s2 : S := { s1 with gl := gl'.take s1.gl.length, lo := gl'.drop s1.gl.length }
      match rv with
      | .d x => .ok (.d x) s2
      | .g k => .ok (if k < s1.gl.length then .g k else .l (k - s1.gl.length)) s2
      | .f c => .ok (.l s2.lo.length) (s2.push c)
    | .xc x gl' => .xc x { s1 with gl := gl'.take s1.gl.length, lo := gl'.drop s1.gl.length }
    | .no => .no
  else .no
theorem fCall_eq {n : Nat} {f : List AV → Glo → RR} {args : S → R (List AV)} {s : S} : fCall n f args s = (args s).bind (callK n f) := rfl
/-- a call by what it comes to -/
theorem wp_call {n : Nat} {f : List AV → Glo → RR} {xs : List AV} {s : S} {P : RV → Glo → Prop} {Q : AV → S → Prop} (h : Rw (f (xs.map (globA s.gl.length)) (s.gl ++ s.lo)) P) (hl : xs.length = n := by rfl)
    (hd : ∀ x gl', P (.d x) gl' → Q (.d x) { s with gl := gl'.take s.gl.length, lo := gl'.drop s.gl.length } := by intro _ _ h; cases h)
    (hg : ∀ k gl', P (.g k) gl' → Q (if k < s.gl.length then .g k else .l (k - s.gl.length)) { s with gl := gl'.take s.gl.length, lo := gl'.drop s.gl.length } := by intro _ _ h; cases h)
    (hf : ∀ c gl', P (.f c) gl' → Q (.l (gl'.drop s.gl.length).length) { s with gl := gl'.take s.gl.length, lo := gl'.drop s.gl.length ++ [some c] } := by intro _ _ h; cases h) : Wp (callK n f xs s) Q := by
  unfold callK
  rw [if_pos hl]
  cases z : f (xs.map (globA s.gl.length)) (s.gl ++ s.lo) with
  | no => rw [z, rw_no] at h; exact h.elim
  | xc _ _ => rw [z, rw_xc] at h; exact h.elim
  | ok rv gl' =>
    rw [z, rw_ok] at h
    cases rv with
    | d x => exact wpOk (hd x gl' h)
    | g k => exact wpOk (hg k gl' h)
    | f c => exact wpOk (hf c gl' h)
/-- it comes to data; to a new cell -/
structure RwD (r : RR) (P : PyData → Glo → Prop) : Prop where
  h : Rw r fun v gl => match v with | .d x => P x gl | _ => False
structure RwF (r : RR) (P : Cel → Glo → Prop) : Prop where
  h : Rw r fun v gl => match v with | .f x => P x gl | _ => False
theorem rwD_def {r : RR} {P : PyData → Glo → Prop} : RwD r P = Rw r fun v gl => match v with | .d x => P x gl | _ => False := propext ⟨fun h => h.h, fun h => ⟨h⟩⟩
theorem rwF_def {r : RR} {P : Cel → Glo → Prop} : RwF r P = Rw r fun v gl => match v with | .f x => P x gl | _ => False := propext ⟨fun h => h.h, fun h => ⟨h⟩⟩
theorem RwD.imp {r : RR} {P P' : PyData → Glo → Prop} (h : RwD r P) (q : ∀ v gl, P v gl → P' v gl) : RwD r P' := by
  rw [rwD_def] at h ⊢
  refine Rw.imp h fun v gl h => ?_
  cases v with
  | d x => exact q x gl h
  | g k => exact h
  | f c => exact h
theorem RwF.imp {r : RR} {P P' : Cel → Glo → Prop} (h : RwF r P) (q : ∀ v gl, P v gl → P' v gl) : RwF r P' := by
  rw [rwF_def] at h ⊢
  refine Rw.imp h fun v gl h => ?_
  cases v with
  | f x => exact q x gl h
  | g k => exact h
  | d c => exact h
theorem RwD.ex {r : RR} {P : PyData → Glo → Prop} (h : RwD r P) : ∃ x gl, r = .ok (.d x) gl ∧ P x gl := by
  rw [rwD_def] at h
  cases r with
  | ok v gl =>
    rw [rw_ok] at h
    cases v with
    | d x => exact ⟨x, gl, rfl, h⟩
    | g k => exact h.elim
    | f c => exact h.elim
  | xc _ _ => rw [rw_xc] at h; exact h.elim
  | no => rw [rw_no] at h; exact h.elim
theorem RwF.ex {r : RR} {P : Cel → Glo → Prop} (h : RwF r P) : ∃ x gl, r = .ok (.f x) gl ∧ P x gl := by
  rw [rwF_def] at h
  cases r with
  | ok v gl =>
    rw [rw_ok] at h
    cases v with
    | f x => exact ⟨x, gl, rfl, h⟩
    | g k => exact h.elim
    | d c => exact h.elim
  | xc _ _ => rw [rw_xc] at h; exact h.elim
  | no => rw [rw_no] at h; exact h.elim
theorem rwD_ok {x : PyData} {gl : Glo} {P : PyData → Glo → Prop} (h : P x gl) : RwD (.ok (.d x) gl) P := by rw [rwD_def, rw_ok]; exact h
theorem rwF_ok {x : Cel} {gl : Glo} {P : Cel → Glo → Prop} (h : P x gl) : RwF (.ok (.f x) gl) P := by rw [rwF_def, rw_ok]; exact h
theorem wp_callD {n : Nat} {f : List AV → Glo → RR} {xs : List AV} {s : S} {P : PyData → Glo → Prop} {Q : AV → S → Prop} (h : RwD (f (xs.map (globA s.gl.length)) (s.gl ++ s.lo)) P)
    (hd : ∀ x gl', P x gl' → Q (.d x) { s with gl := gl'.take s.gl.length, lo := gl'.drop s.gl.length }) (hl : xs.length = n := by rfl) : Wp (callK n f xs s) Q := by
  rw [rwD_def] at h
  exact wp_call h hl (fun x gl' h => hd x gl' h) (fun _ _ h => h.elim) (fun _ _ h => h.elim)
theorem wp_callF {n : Nat} {f : List AV → Glo → RR} {xs : List AV} {s : S} {P : Cel → Glo → Prop} {Q : AV → S → Prop} (h : RwF (f (xs.map (globA s.gl.length)) (s.gl ++ s.lo)) P)
    (hf : ∀ c gl', P c gl' → Q (.l (gl'.drop s.gl.length).length) { s with gl := gl'.take s.gl.length, lo := gl'.drop s.gl.length ++ [some c] }) (hl : xs.length = n := by rfl) : Wp (callK n f xs s) Q := by
  rw [rwF_def] at h
  exact wp_call h hl (fun _ _ h => h.elim) (fun _ _ h => h.elim) (fun x gl' h => hf x gl' h)
/-- a call that is known, of data -/
theorem callK_d {n : Nat} {f : List AV → Glo → RR} {xs : List AV} {s : S} {x : PyData} (h : f (xs.map (globA s.gl.length)) (s.gl ++ s.lo) = .ok (.d x) (s.gl ++ s.lo)) (hl : xs.length = n := by rfl) : callK n f xs s = .ok (.d x) s := by
  unfold callK
  rw [if_pos hl, h]
  simp
theorem callK_f {n : Nat} {f : List AV → Glo → RR} {xs : List AV} {s : S} {c : Cel} (h : f (xs.map (globA s.gl.length)) (s.gl ++ s.lo) = .ok (.f c) (s.gl ++ s.lo)) (hl : xs.length = n := by rfl) : callK n f xs s = .ok (.l s.lo.length) (s.push c) := by
  unfold callK
  rw [if_pos hl, h]
  simp [S.push]
/-! a body -/
def runP (P : RV → Glo → Prop) (fl : Fl) (s : S) : Prop :=
  match fl with
  | .rt (.d y) => P (.d y) s.gl
  | .rt (.g k) => P (.g k) s.gl
  | .rt (.l k) => match (s.lo[k]?).join with
    | some c => P (.f c) s.gl
    | none => False
  | .nx => P (.d .none) s.gl
  | _ => False
theorem rw_run {n : Nat} {b : S → R Fl} {xs : List AV} {gl : Glo} {P : RV → Glo → Prop} (h : Wp (b ⟨xs.map some ++ List.replicate (n - xs.length) none, gl, []⟩) (runP P)) : Rw (run n b xs gl) P := by
  unfold run
  cases z : b ⟨xs.map some ++ List.replicate (n - xs.length) none, gl, []⟩ with
  | no => rw [z] at h; exact h.h.elim
  | xc _ _ => rw [z] at h; exact h.h.elim
  | ok fl s =>
    rw [z] at h
    have h : runP P fl s := h.h
    cases fl with
    | nx => exact ⟨h⟩
    | bk => exact h.elim
    | ct => exact h.elim
    | rt x =>
      cases x with
      | d y => exact ⟨h⟩
      | g k => exact ⟨h⟩
      | l k =>
        unfold runP at h
        dsimp only at h
        show Rw (match (s.lo[k]?).join with | some c => .ok (.f c) s.gl | none => .no) P
        cases q : (s.lo[k]?).join with
        | none => rw [q] at h; exact h.elim
        | some c => rw [q] at h; exact ⟨h⟩
def runD (P : PyData → Glo → Prop) (fl : Fl) (s : S) : Prop :=
  match fl with
  | .rt (.d y) => P y s.gl
  | .nx => P .none s.gl
  | _ => False
def runF (P : Cel → Glo → Prop) (fl : Fl) (s : S) : Prop :=
  match fl with
  | .rt (.l k) => match (s.lo[k]?).join with
    | some c => P c s.gl
    | none => False
  | _ => False
theorem rwD_run {n : Nat} {b : S → R Fl} {xs : List AV} {gl : Glo} {P : PyData → Glo → Prop} (h : Wp (b ⟨xs.map some ++ List.replicate (n - xs.length) none, gl, []⟩) (runD P)) : RwD (run n b xs gl) P := ⟨rw_run (h.imp fun fl s h => by
  cases fl with
  | nx => exact h
  | bk => exact h.elim
  | ct => exact h.elim
  | rt x => cases x with
    | d y => exact h
    | g k => exact h.elim
    | l k => exact h.elim)⟩
theorem rwF_run {n : Nat} {b : S → R Fl} {xs : List AV} {gl : Glo} {P : Cel → Glo → Prop} (h : Wp (b ⟨xs.map some ++ List.replicate (n - xs.length) none, gl, []⟩) (runF P)) : RwF (run n b xs gl) P := ⟨rw_run (h.imp fun fl s h => by
  cases fl with
  | nx => exact h.elim
  | bk => exact h.elim
  | ct => exact h.elim
  | rt x => cases x with
    | d y => exact h.elim
    | g k => exact h.elim
    | l k => exact h)⟩
theorem runD_d {P : PyData → Glo → Prop} {y : PyData} {s : S} : runD P (.rt (.d y)) s = P y s.gl := rfl
theorem runD_nx {P : PyData → Glo → Prop} {s : S} : runD P .nx s = P .none s.gl := rfl
theorem runF_l {P : Cel → Glo → Prop} {k : Nat} {s : S} : runF P (.rt (.l k)) s = (match (s.lo[k]?).join with | some c => P c s.gl | none => False) := rfl
theorem rwD_eq {r : RR} {x : PyData} {gl : Glo} (h : RwD r fun x' gl' => x' = x ∧ gl' = gl) : r = .ok (.d x) gl := by
  obtain ⟨y, g, rfl, rfl, rfl⟩ := h.ex
  rfl
theorem rwF_eq {r : RR} {c : Cel} {gl : Glo} (h : RwF r fun x' gl' => x' = c ∧ gl' = gl) : r = .ok (.f c) gl := by
  obtain ⟨y, g, rfl, rfl, rfl⟩ := h.ex
  rfl
/-- a call that is known -/
theorem wp_callE {n : Nat} {f : List AV → Glo → RR} {xs : List AV} {s : S} {x : PyData} {Q : AV → S → Prop} (h : ∀ gl, f (xs.map (globA s.gl.length)) gl = .ok (.d x) gl) (hQ : Q (.d x) s) (hl : xs.length = n := by rfl) : Wp (callK n f xs s) Q := by
  rw [callK_d (h _) hl]
  exact wpOk hQ
theorem runP_d {P : RV → Glo → Prop} {y : PyData} {s : S} : runP P (.rt (.d y)) s = P (.d y) s.gl := rfl
theorem runP_g {P : RV → Glo → Prop} {k : Nat} {s : S} : runP P (.rt (.g k)) s = P (.g k) s.gl := rfl
theorem runP_nx {P : RV → Glo → Prop} {s : S} : runP P .nx s = P (.d .none) s.gl := rfl
theorem runP_l {P : RV → Glo → Prop} {k : Nat} {c : Cel} {s : S} (h : s.lo[k]? = some (some c)) : runP P (.rt (.l k)) s = P (.f c) s.gl := by
  unfold runP
  dsimp only
  rw [h]; rfl
/-! loops -/
def turnP (Q : Fl → S → Prop) (N : S → Prop) (fl : Fl) (s : S) : Prop :=
  match fl with
  | .nx => N s
  | .ct => N s
  | .bk => Q .nx s
  | .rt x => Q (.rt x) s
theorem turnP_nx {Q : Fl → S → Prop} {N : S → Prop} {s : S} : turnP Q N .nx s = N s := rfl
theorem turnP_ct {Q : Fl → S → Prop} {N : S → Prop} {s : S} : turnP Q N .ct s = N s := rfl
theorem turnP_bk {Q : Fl → S → Prop} {N : S → Prop} {s : S} : turnP Q N .bk s = Q .nx s := rfl
theorem turnP_rt {Q : Fl → S → Prop} {N : S → Prop} {x : AV} {s : S} : turnP Q N (.rt x) s = Q (.rt x) s := rfl
theorem wp_forD {t : PyData → S → Option S} {b : S → R Fl} {Q : Fl → S → Prop} (I : List PyData → S → Prop) (step : ∀ d ds s, I (d :: ds) s → ∃ s1, t d s = some s1 ∧ Wp (b s1) (turnP Q (I ds))) (hend : ∀ s, I [] s → Q .nx s) : ∀ (ds : List PyData) (s : S), I ds s → Wp (forD t b ds s) Q
  | [], s, h => wpOk (hend s h)
  | d :: ds, s, h => by
    obtain ⟨s1, h1, h2⟩ := step d ds s h
    rw [forD, h1]
    dsimp only
    rw [wp_bind]
    refine h2.imp fun fl s2 h => ?_
    cases fl with
    | nx => exact wp_forD I step hend ds s2 h
    | ct => exact wp_forD I step hend ds s2 h
    | bk => exact wpOk h
    | rt x => exact wpOk h
theorem runFor_ds {l : List PyData} {t : PyData → S → Option S} {b : S → R Fl} {s : S} : runFor (.ds l) t b s = forD t b l s := rfl
theorem wp_while {t : S → R Bool} {b : S → R Fl} {Q : Fl → S → Prop} (I : Nat → S → Prop) (step : ∀ n s, I n s → Wp (t s) fun c s1 => if c then ∃ m, n = m + 1 ∧ Wp (b (s1.cut s.lo.length)) (turnP Q (I m)) else Q .nx (s1.cut s.lo.length)) :
    ∀ (n k : Nat) (s : S), n < k → I n s → Wp (whileG t b k s) Q
  | n, 0, s, hk, h => absurd hk (Nat.not_lt_zero n)
  | n, k + 1, s, hk, h => by
    rw [whileG, wp_bind]
    refine (step n s h).imp fun c s1 h => ?_
    cases c with
    | false => exact wpOk h
    | true =>
      rw [if_pos rfl] at h ⊢
      obtain ⟨m, hm, h2⟩ := h
      rw [wp_bind]
      refine h2.imp fun fl s2 h => ?_
      cases fl with
      | nx => exact wp_while I step m k s2 (by omega) h
      | ct => exact wp_while I step m k s2 (by omega) h
      | bk => exact wpOk h
      | rt x => exact wpOk h
/-- a comprehension, item by item -/
theorem lcD_eq2 {turn : PyData → S → R Unit} {sl : List (Option AV)} {gl lo : Glo} {g : PyData → List PyData} : ∀ (ds acc : List PyData), (∀ d ∈ ds, ∀ acc : List PyData, acc.length + (g d).length ≤ sizeLine → turn d ⟨sl, gl, lo ++ [some (.lst acc)]⟩ = .ok () ⟨sl, gl, lo ++ [some (.lst (acc ++ g d))]⟩) → acc.length + (ds.flatMap g).length ≤ sizeLine →
    lcD turn ds ⟨sl, gl, lo ++ [some (.lst acc)]⟩ = .ok () ⟨sl, gl, lo ++ [some (.lst (acc ++ ds.flatMap g))]⟩
  | [], acc, _, _ => by simp [lcD]
  | d :: ds, acc, h, hl => by
    rw [lcD, h d List.mem_cons_self acc (by simp at hl; omega), bind_ok]
    rw [lcD_eq2 ds (acc ++ g d) (fun e he => h e (List.mem_cons_of_mem _ he)) (by simp at hl ⊢; omega)]
    simp
theorem flatMap_one {α β : Type} {f : α → β} : ∀ {l : List α}, l.flatMap (fun x => [f x]) = l.map f
  | [] => rfl
  | a :: l => by simp [flatMap_one (l := l)]
/-- a comprehension without a test -/
theorem wp_lc1 {turn : PyData → S → R Unit} {sl : List (Option AV)} {gl : Glo} (lo : Glo) (g : PyData → PyData) {ds : List PyData} {Q : Unit → S → Prop} (h : ∀ d ∈ ds, ∀ acc : List PyData, acc.length < 16777216 → turn d ⟨sl, gl, lo ++ [some (.lst acc)]⟩ = .ok () ⟨sl, gl, lo ++ [some (.lst (acc ++ [g d]))]⟩) (hl : ds.length ≤ 16777216)
    (hQ : Q () ⟨sl, gl, lo ++ [some (.lst (ds.map g))]⟩) : Wp (lcD turn ds ⟨sl, gl, lo ++ [some (.lst [])]⟩) Q := by
  have h2 := lcD_eq2 (turn := turn) (sl := sl) (gl := gl) (lo := lo) (g := fun d => [g d]) ds [] (fun d hd acc ha => h d hd acc (by have : acc.length + 1 ≤ sizeLine := ha; unfold sizeLine at this; omega)) (by rw [flatMap_one, List.length_map]; unfold sizeLine; simpa using hl)
  rw [h2, List.nil_append, flatMap_one]
  exact wpOk hQ
theorem wp_lc {turn : PyData → S → R Unit} {sl : List (Option AV)} {gl : Glo} (lo : Glo) (g : PyData → List PyData) {ds : List PyData} {Q : Unit → S → Prop} (h : ∀ d ∈ ds, ∀ acc : List PyData, acc.length + (g d).length ≤ sizeLine → turn d ⟨sl, gl, lo ++ [some (.lst acc)]⟩ = .ok () ⟨sl, gl, lo ++ [some (.lst (acc ++ g d))]⟩) (hl : (ds.flatMap g).length ≤ sizeLine)
    (hQ : Q () ⟨sl, gl, lo ++ [some (.lst (ds.flatMap g))]⟩) : Wp (lcD turn ds ⟨sl, gl, lo ++ [some (.lst [])]⟩) Q := by
  rw [lcD_eq2 ds [] h (by simpa using hl)]
  exact wpOk hQ
theorem runLc_ds {l : List PyData} {turn : PyData → S → R Unit} {s : S} : runLc (.ds l) turn s = lcD turn l s := rfl
/-! slots and cells -/
theorem fV_eq {i : Nat} {s : S} : fV i s = match s.sl[i]? with | some (some x) => .ok x s | _ => .no := rfl
theorem rd_d {s : S} {x : PyData} : rd s (.d x) = some x := rfl
theorem take_set {gl lo : Glo} {k : Nat} {c : Option Cel} (h : k < gl.length) : ((gl ++ lo).set k c).take gl.length = gl.set k c := by
  rw [List.set_append_left _ _ h, List.take_left' (by simp)]
theorem drop_set {gl lo : Glo} {k : Nat} {c : Option Cel} (h : k < gl.length) : ((gl ++ lo).set k c).drop gl.length = lo := by
  rw [List.set_append_left _ _ h, List.drop_left' (by simp)]
theorem take_set0 {gl : Glo} {k : Nat} {c : Option Cel} : (gl.set k c).take gl.length = gl.set k c := List.take_of_length_le (by rw [List.length_set]; exact Nat.le_refl _)
theorem drop_set0 {gl : Glo} {k : Nat} {c : Option Cel} : (gl.set k c).drop gl.length = [] := List.drop_of_length_le (by rw [List.length_set]; exact Nat.le_refl _)
def rngOk (j : Int) : Prop := -(2 ^ 62) ≤ j ∧ j < 2 ^ 62
theorem rngOk_nat {j : Nat} (h : j ≤ 1000000000) : rngOk (j : Int) := by unfold rngOk; omega
theorem rngOk_int {j : Int} (h1 : -1000000000 ≤ j) (h2 : j ≤ 1000000000) : rngOk j := by unfold rngOk; omega
def rng1K (xs : List AV) (s1 : S) : R Iv := match intsA xs with
  | some [j] => if -(2 ^ 62) ≤ j ∧ j < 2 ^ 62 then .ok (.ds (rngL 0 j.toNat)) s1 else .no
  | _ => .no
theorem fRng1_eq {f : S → R (List AV)} {s : S} : fRng1 f s = (f s).bind rng1K := rfl
theorem rng1K_ok {j : Int} {s : S} (h : rngOk j) : rng1K [.d (.int j)] s = .ok (.ds (rngL 0 j.toNat)) s := by
  exact if_pos h
def rng2K (xs : List AV) (s1 : S) : R Iv := match intsA xs with
  | some [i, j] => if -(2 ^ 62) ≤ i ∧ i < 2 ^ 62 ∧ -(2 ^ 62) ≤ j ∧ j < 2 ^ 62 then .ok (.ds (rngL i (j - i).toNat)) s1 else .no
  | _ => .no
theorem fRng2_eq {f : S → R (List AV)} {s : S} : fRng2 f s = (f s).bind rng2K := rfl
theorem rng2K_ok {i j : Int} {s : S} (h : rngOk i) (h2 : rngOk j) : rng2K [.d (.int i), .d (.int j)] s = .ok (.ds (rngL i (j - i).toNat)) s := by
  exact if_pos ⟨h.1, h.2, h2.1, h2.2⟩
def isL : Option AV → Bool
  | some (.l _) => true
  | _ => false
theorem tidy_drop {sl : List (Option AV)} {gl lo : Glo} (h : sl.any isL = false) : S.tidy ⟨sl, gl, lo⟩ = ⟨sl, gl, []⟩ := by
  have h1 : ∀ x ∈ sl, isL x = false := by simpa using h
  have hk : keeps ⟨sl, gl, lo⟩ = [] := by
    unfold keeps
    rw [List.filter_eq_nil_iff]
    intro k _ hk
    obtain ⟨x, hx, hu⟩ := List.any_eq_true.mp hk
    have := h1 x hx
    match x, this, hu with
    | some (.l j), this, hu => cases this
    | some (.d _), _, hu => cases hu
    | some (.g _), _, hu => cases hu
    | none, _, hu => cases hu
  have hm : sl.map (ren []) = sl := by
    conv => rhs; rw [← List.map_id sl]
    refine List.map_congr_left fun x hx => ?_
    have := h1 x hx
    match x, this with
    | some (.l j), this => cases this
    | some (.d _), _ => rfl
    | some (.g _), _ => rfl
    | none, _ => rfl
  cases lo with
  | nil => rfl
  | cons c lo =>
    show S.pack ⟨sl, gl, c :: lo⟩ = _
    unfold S.pack
    rw [hk, hm]
    rfl
theorem eqD_int {i j : Int} : eqD (.int i) (.int j) = .d (.bool (decide (i = j))) := by
  have : PyData.eqv (.int i) (.int j) = decide (i = j) := by
    show (i == j) = _
    by_cases h : i = j <;> simp [h]
  unfold eqD
  rw [this]; rfl
theorem neD_int {i j : Int} : neD (.int i) (.int j) = .d (.bool (!decide (i = j))) := by
  have : PyData.eqv (.int i) (.int j) = decide (i = j) := by
    show (i == j) = _
    by_cases h : i = j <;> simp [h]
  unfold neD
  rw [this]; rfl
theorem sizeLine_eq : sizeLine = 16777216 := rfl
/-- a slot that holds nothing, or data -/
def jk (x : Option PyData) : Option AV := x.map AV.d
theorem uses_jk {x : Option PyData} {k : Nat} : uses k (jk x) = false := by cases x <;> rfl
theorem ren_jk {x : Option PyData} {ks : List Nat} : ren ks (jk x) = jk x := by cases x <;> rfl
theorem isL_jk {x : Option PyData} : isL (jk x) = false := by cases x <;> rfl
theorem unl_jk {x : Option PyData} {k : Nat} {ds : List PyData} : unl k ds (jk x) = jk x := by cases x <;> rfl
theorem jk_none : jk none = none := rfl
theorem jk_some {d : PyData} : jk (some d) = some (.d d) := rfl
/-- a statement that goes on -/
def nxP (P : S → Prop) (fl : Fl) (s : S) : Prop :=
  match fl with
  | .nx => P s
  | _ => False
theorem nxP_nx {P : S → Prop} {s : S} : nxP P .nx s = P s := rfl
theorem wp_seq {f g : S → R Fl} {s : S} {P : S → Prop} {Q : Fl → S → Prop} (h : Wp (f s) (nxP P)) (hP : ∀ s1, P s1 → Wp (g s1) Q) : Wp (fSeq f g s) Q := by
  rw [fSeq_eq, wp_bind]
  refine h.imp fun fl s1 h => ?_
  cases fl with
  | nx => exact hP s1 h
  | bk => exact h.elim
  | ct => exact h.elim
  | rt x => exact h.elim
theorem wp_turn {f : S → R Fl} {s : S} {P N : S → Prop} {Q : Fl → S → Prop} (h : Wp (f s) (nxP P)) (hP : ∀ s1, P s1 → N s1) : Wp (f s) (turnP Q N) := h.imp fun fl s1 h => by
  cases fl with
  | nx => exact hP s1 h
  | bk => exact h.elim
  | ct => exact h.elim
  | rt x => exact h.elim
theorem wp_nxP {f : S → R Fl} {s : S} {P N : S → Prop} (h : Wp (f s) (nxP P)) (hP : ∀ s1, P s1 → N s1) : Wp (f s) (nxP N) := h.imp fun fl s1 h => by
  cases fl with
  | nx => exact hP s1 h
  | bk => exact h.elim
  | ct => exact h.elim
  | rt x => exact h.elim
/-- so many turns -/
theorem wp_range {t : PyData → S → Option S} {b : S → R Fl} {P : S → Prop} (I : Nat → S → Prop) {n : Nat} (step : ∀ (i : Nat) (d : PyData) s, i < n → I i s → ∃ s1, t d s = some s1 ∧ Wp (b s1) (nxP (I (i + 1)))) (hend : ∀ s, I n s → P s) {j : Int} {s : S} (hj : (rngL j n).length = n) (h : I 0 s) : Wp (forD t b (rngL j n) s) (nxP P) := by
  refine wp_forD (fun ds s => ds.length ≤ n ∧ I (n - ds.length) s) (fun d ds s ⟨hl, hI⟩ => ?_) (fun s ⟨_, hI⟩ => hend s hI) _ _ ⟨by omega, by rw [hj, Nat.sub_self]; exact h⟩
  simp only [List.length_cons] at hl hI
  obtain ⟨s1, h1, h2⟩ := step _ d s (by omega) hI
  refine ⟨s1, h1, wp_turn h2 fun s2 h => ⟨by omega, ?_⟩⟩
  rw [show n - (ds.length + 1) + 1 = n - ds.length by omega] at h
  exact h
end Fx

/-! ### draws -/
namespace Fx
open PySem PySem.Spec PyProof.Rows L2
local macro_rules | `(tactic| simp_arith [$ts,*]) => `(tactic| try simp -implicitDefEqProofs [↓bind_bnd, bnd_ok, bnd_xc, bnd_no, ↓wp_def, wpI_okW, wpI_ok, wpI_bnd, fSeq_eq, seqK_nx, seqK_rt, seqK_bk, seqK_ct, fIfS_eq, ifK_t, ifK_f, fCall_eq, runP_d, runP_g, runP_nx, runD_d, runD_nx, runF_l, nxP_nx, turnP_nx, turnP_ct, turnP_bk, turnP_rt, runFor_ds, runLc_ds,
      tidy_nil, cut_nil, tidy_drop, isL, S.tidy, S.pack, keeps, uses, ren, List.range, List.range.loop, List.idxOf, List.findIdx, List.findIdx.go, S.cut, fNx, fRet, fRetN, fExpr, fSet, fPar, fPar3, fAug, fUn, fBk, fCt, fPut, fFor, fIt, ivOf, fRng1_eq, fRng2_eq, rng1K_ok, rng2K_ok, fEnum, fB, fT, fAnd, fOr, fNot, fAndV, fOrV, fNotV, fIf, fChain, f1, f2, fV, fC, fNil, fCons, fTup, fLst, fStar, toD1, toDs, tru, truD,
      fN, n1, n2, p1, p2, rd, gv, gIx, isDic, cellOf, gTimes, fMt, tyOf, gIsi, tyN, subTy, S.push, S.put, S.at, tgName, tgNil, tgCons, tgTup, intsA, isND, isBF, sizeLine_eq, take_set0, drop_set0, globA, lcTurn, wipeS, noX, snocAt, tYesF, eqD_int, neD_int, lenD, minusD, gtD, ltD, leD, geD, uses_jk, ren_jk, isL_jk, unl_jk, S.frz, unl, fSl, fP, fNoP, fLc, plusD, $ts,*])
section
variable [Zz]
structure CupB (a b : Int) : Prop where
  ha : 0 ≤ a
  hb : 0 ≤ b
  lt : b < 2 ^ 32
abbrev cup (a b : Int) : Option Cel := some (.lst [.int a, .int b])
theorem log_small {m : Int} (hm : 1 ≤ m) (hm2 : m ≤ 100000) : m.natAbs.log2 < 9000 := by
  have : m.natAbs < 2 ^ 17 := by omega
  have := (Nat.log2_lt (n := m.natAbs) (k := 17) (by omega)).mpr this
  omega
theorem roll_ok0 {gl : Glo} {k : Nat} {a b m : Int} (h : gl[k]? = some (cup a b)) (hc : CupB a b) (hm : 1 ≤ m) (hm2 : m ≤ 1000) :
    RwD (f_law_roll [.g k, .d (.int m)] gl) fun v gl' => ∃ r a' b', v = .int r ∧ gl' = gl.set k (cup a' b') ∧ CupB a' b' ∧ 0 ≤ r ∧ r < m := by
  have h2 := log_small hm (by omega)
  have hm0 : 0 < m := by omega
  have hk : k < gl.length := (List.getElem?_eq_some_iff.mp h).1
  have hs : ∀ c, (gl.set k c)[k]? = some c := fun c => by rw [List.getElem?_set_self hk]
  obtain ⟨ha, hb, lt⟩ := hc
  refine rwD_run ?_
  by_cases q : 0 < a
  · simp_arith [b_law_roll, h, gtD, q, ixD, atI, ixN, int1D, modD, hm0, divD, h2, putA, putI]
    exact ⟨_, _, rfl, ⟨Int.ediv_nonneg ha (by omega), hb, lt⟩, Int.emod_nonneg _ (by omega), Int.emod_lt_of_pos _ (by omega)⟩
  · have e1 : (b * 30971 + 7927) % 2147483549 < 2 ^ 32 := by have := Int.emod_lt_of_pos (b * 30971 + 7927) (show (0 : Int) < 2147483549 by decide); omega
    have e2 : 0 ≤ (b * 30971 + 7927) % 2147483549 := Int.emod_nonneg _ (by decide)
    have e3 : (-18446744073709551616 : Int) < (b * 30971 + 7927) % 2147483549 := by omega
    have e4 : (b * 30971 + 7927) % 2147483549 < (18446744073709551616 : Int) := by omega
    simp_arith [b_law_roll, h, gtD, q, ixD, atI, ixN, int1D, modD, hm0, divD, h2, putA, putI, timesD, plusD, hs, e3, e4, show Nat.log2 769 < 9000 by decide +kernel]
    exact ⟨_, _, rfl, ⟨ha, e2, e1⟩, Int.emod_nonneg _ (by omega), Int.emod_lt_of_pos _ (by omega)⟩
/-- the cell that is drawn from -/
def CupAt (gl : Glo) (k : Nat) : Prop := ∃ a b, gl[k]? = some (cup a b) ∧ CupB a b
/-- drawn from it, nothing else -/
def Cs (gl : Glo) (k : Nat) (gl' : Glo) : Prop := ∃ a b, gl' = gl.set k (cup a b) ∧ CupB a b
theorem CupAt.lt {gl : Glo} {k : Nat} (h : CupAt gl k) : k < gl.length := by
  obtain ⟨a, b, h, _⟩ := h
  exact (List.getElem?_eq_some_iff.mp h).1
theorem CupAt.app {gl lo : Glo} {k : Nat} (h : CupAt gl k) : CupAt (gl ++ lo) k := by
  have hk := h.lt
  obtain ⟨a, b, h, hc⟩ := h
  exact ⟨a, b, by rw [List.getElem?_append_left hk]; exact h, hc⟩
theorem Cs.len {gl gl' : Glo} {k : Nat} (h : Cs gl k gl') : gl'.length = gl.length := by
  obtain ⟨a, b, rfl, _⟩ := h
  exact List.length_set
theorem Cs.at {gl gl' : Glo} {k : Nat} (h : Cs gl k gl') (hk : k < gl.length) : CupAt gl' k := by
  obtain ⟨a, b, rfl, hc⟩ := h
  exact ⟨a, b, by rw [List.getElem?_set_self hk], hc⟩
theorem Cs.trans {g0 g1 g2 : Glo} {k : Nat} (h : Cs g0 k g1) (h2 : Cs g1 k g2) : Cs g0 k g2 := by
  obtain ⟨a, b, rfl, _⟩ := h
  obtain ⟨c, d, rfl, hc⟩ := h2
  exact ⟨c, d, List.set_set .., hc⟩
theorem Cs.refl {gl : Glo} {k : Nat} (h : CupAt gl k) : Cs gl k gl := by
  obtain ⟨a, b, h, hc⟩ := h
  refine ⟨a, b, ?_, hc⟩
  apply List.ext_getElem?
  intro i
  rw [List.getElem?_set]
  split
  · rename_i e
    subst e
    rw [h]
    simp [(List.getElem?_eq_some_iff.mp h).1]
  · rfl
theorem Cs.frame {gl lo gl' : Glo} {k : Nat} (h : Cs (gl ++ lo) k gl') (hk : k < gl.length) : ∃ g1, gl' = g1 ++ lo ∧ Cs gl k g1 := by
  obtain ⟨a, b, rfl, hc⟩ := h
  exact ⟨gl.set k (cup a b), List.set_append_left _ _ hk, a, b, rfl, hc⟩
theorem take_at {g1 gl lo : Glo} (h : g1.length = gl.length) : (g1 ++ lo).take gl.length = g1 := by rw [← h]; simp
theorem drop_at {g1 gl lo : Glo} (h : g1.length = gl.length) : (g1 ++ lo).drop gl.length = lo := by rw [← h]; simp
/-- a call of a def that draws -/
theorem wp_draw {n : Nat} {f : List AV → Glo → RR} {xs : List AV} {sl : List (Option AV)} {gl lo : Glo} {k : Nat} {P : PyData → Prop} {Q : AV → S → Prop} (hk : CupAt gl k) (h : RwD (f (xs.map (globA gl.length)) (gl ++ lo)) fun x gl' => Cs (gl ++ lo) k gl' ∧ P x)
    (hQ : ∀ x g1, Cs gl k g1 → P x → CupAt g1 k → Q (.d x) ⟨sl, g1, lo⟩) (hl : xs.length = n := by rfl) : Wp (callK n f xs ⟨sl, gl, lo⟩) Q := wp_callD (s := ⟨sl, gl, lo⟩) h (fun x gl' h => by
  obtain ⟨h1, h2⟩ := h
  obtain ⟨g1, rfl, hc⟩ := h1.frame hk.lt
  have := hQ x g1 hc h2 (hc.at hk.lt)
  rw [← take_at (lo := lo) hc.len, ← drop_at (lo := lo) hc.len] at this
  simpa [take_at hc.len, drop_at hc.len] using this) hl
theorem roll_ok {gl : Glo} {k : Nat} {m : Int} (h : CupAt gl k) (hm : 1 ≤ m) (hm2 : m ≤ 1000) : RwD (f_law_roll [.g k, .d (.int m)] gl) fun x gl' => Cs gl k gl' ∧ ∃ r, x = .int r ∧ 0 ≤ r ∧ r < m := by
  obtain ⟨a, b, h, hc⟩ := h
  exact (roll_ok0 h hc hm hm2).imp fun x gl' ⟨r, a', b', e1, e2, e3, e4, e5⟩ => ⟨⟨a', b', e2, e3⟩, r, e1, e4, e5⟩
theorem wp_roll {sl : List (Option AV)} {gl lo : Glo} {k : Nat} {m : Int} {Q : AV → S → Prop} (h : CupAt gl k) (hm : 1 ≤ m) (hm2 : m ≤ 1000) (hQ : ∀ r g1, Cs gl k g1 → CupAt g1 k → 0 ≤ r → r < m → Q (.d (.int r)) ⟨sl, g1, lo⟩) : Wp (callK 2 f_law_roll [.g k, .d (.int m)] ⟨sl, gl, lo⟩) Q :=
  wp_draw h (roll_ok h.app hm hm2) fun x g1 hc ⟨r, e, h0, h1⟩ hk => by subst e; exact hQ r g1 hc hk h0 h1
/-- one of the things in a list that was handed in, or that is data -/
theorem some_g0 {gl : Glo} {k j : Nat} {a b : Int} {xs : List PyData} (h : gl[k]? = some (cup a b)) (hj : gl[j]? = some (some (.lst xs))) (hjk : j ≠ k) (hc : CupB a b) (hm : 1 ≤ xs.length) (hm2 : xs.length ≤ 1000) :
    RwD (f_law_some [.g k, .g j] gl) fun x gl' => ∃ a' b', gl' = gl.set k (cup a' b') ∧ CupB a' b' ∧ x ∈ xs := by
  have hk : k < gl.length := (List.getElem?_eq_some_iff.mp h).1
  refine rwD_run ?_
  simp_arith [b_law_some, hj, lenD]
  refine wp_callD (roll_ok0 (by simpa [globA] using h) hc (by omega) (by omega)) fun x gl' hx => ?_
  obtain ⟨r, a', b', rfl, rfl, hc', h0, h1⟩ := hx
  have hj' : (gl.set k (cup a' b'))[j]? = some (some (.lst xs)) := by rw [List.getElem?_set, if_neg (fun z => hjk z.symm)]; exact hj
  have hr : r.toNat < xs.length := by omega
  have hx : xs[r.toNat]? = some xs[r.toNat] := List.getElem?_eq_getElem hr
  simp_arith [hj', ixD, atI, ixN, h0, h1, hx, List.take_of_length_le, List.drop_of_length_le]
  exact ⟨_, _, rfl, hc'⟩
theorem some_d0 {gl : Glo} {k : Nat} {a b : Int} {xs : List PyData} (h : gl[k]? = some (cup a b)) (hc : CupB a b) (hm : 1 ≤ xs.length) (hm2 : xs.length ≤ 1000) :
    RwD (f_law_some [.g k, .d (.list xs)] gl) fun x gl' => ∃ a' b', gl' = gl.set k (cup a' b') ∧ CupB a' b' ∧ x ∈ xs := by
  have hk : k < gl.length := (List.getElem?_eq_some_iff.mp h).1
  refine rwD_run ?_
  simp_arith [b_law_some, lenD]
  refine wp_callD (roll_ok0 (by simpa [globA] using h) hc (by omega) (by omega)) fun x gl' hx => ?_
  obtain ⟨r, a', b', rfl, rfl, hc', h0, h1⟩ := hx
  have hr : r.toNat < xs.length := by omega
  have hx : xs[r.toNat]? = some xs[r.toNat] := List.getElem?_eq_getElem hr
  simp_arith [ixD, atI, ixN, h0, h1, hx, List.take_of_length_le, List.drop_of_length_le]
  exact ⟨_, _, rfl, hc'⟩
theorem wp_some {sl : List (Option AV)} {gl : Glo} (lo : Glo) {k : Nat} {xs : List PyData} {Q : AV → S → Prop} (h : CupAt gl k) (hm : 1 ≤ xs.length) (hm2 : xs.length ≤ 1000) (hQ : ∀ x g1, Cs gl k g1 → CupAt g1 k → x ∈ xs → Q (.d x) ⟨sl, g1, lo ++ [some (.lst xs)]⟩) : Wp (callK 2 f_law_some [.g k, .l lo.length] ⟨sl, gl, lo ++ [some (.lst xs)]⟩) Q := by
  refine wp_draw (P := (· ∈ xs)) h ?_ (fun x g1 hc hx hk => hQ x g1 hc hk hx)
  have hk := h.lt
  obtain ⟨a, b, h1, hc⟩ := h.app (lo := lo ++ [some (.lst xs)])
  refine (some_g0 (j := gl.length + lo.length) (xs := xs) h1 ?_ (by omega) hc hm hm2).imp fun x gl' ⟨a', b', e1, e2, e3⟩ => ⟨⟨a', b', e1, e2⟩, e3⟩
  rw [← List.append_assoc, List.getElem?_append_right (by simp)]
  simp
theorem wp_someD {sl : List (Option AV)} {gl lo : Glo} {k : Nat} {xs : List PyData} {Q : AV → S → Prop} (h : CupAt gl k) (hm : 1 ≤ xs.length) (hm2 : xs.length ≤ 1000) (hQ : ∀ x g1, Cs gl k g1 → CupAt g1 k → x ∈ xs → Q (.d x) ⟨sl, g1, lo⟩) : Wp (callK 2 f_law_some [.g k, .d (.list xs)] ⟨sl, gl, lo⟩) Q := by
  refine wp_draw (P := (· ∈ xs)) h ?_ (fun x g1 hc hx hk => hQ x g1 hc hk hx)
  obtain ⟨a, b, h1, hc⟩ := h.app (lo := lo)
  exact (some_d0 h1 hc hm hm2).imp fun x gl' ⟨a', b', e1, e2, e3⟩ => ⟨⟨a', b', e1, e2⟩, e3⟩
theorem cup_ok {gl : Glo} {ns : List Int} (hb : ∀ z ∈ ns, Builtin.Int.intBits z ≤ 1048576) (hl : ns.length ≤ 63) : RwF (f_law_cup [.d (.list (ns.map .int))] gl) fun c gl' => ∃ a b, some c = cup a b ∧ CupB a b ∧ gl' = gl := by
  refine rwF_run ?_
  have hl2 : ns.length + 1 ≤ 16777216 := by omega
  cases ns with
  | nil =>
    simp_arith [b_law_cup, lstD, plusD, ixD, atI, ixN, absD, geD, powD, int1D, timesD, modD]
    exact ⟨0, 2148, ⟨rfl, rfl⟩, by decide, by decide, by decide⟩
  | cons n l =>
    have hl3 : l.length + 1 ≤ 16777216 := by simp at hl2; omega
    have hl4 : l.length + 1 + 1 ≤ 16777216 := by simp at hl2; omega
    have hl5 : (0 : Int) < (l.length : Int) + 1 + 1 := by omega
    have hz : 0 ≤ (if n < 0 then -n else n) := by split <;> omega
    have e1 : ∀ z : Int, 0 ≤ (z * 241 + 2017) % 2077503403 + 131 := fun z => by have := Int.emod_nonneg (z * 241 + 2017) (show (2077503403 : Int) ≠ 0 by decide); omega
    have e2 : ∀ z : Int, (z * 241 + 2017) % 2077503403 + 131 < 2 ^ 32 := fun z => by have := Int.emod_lt_of_pos (z * 241 + 2017) (show (0 : Int) < 2077503403 by decide); omega
    simp_arith [b_law_cup, lstD, plusD, ixD, atI, ixN, absD, geD, powD, int1D, timesD, modD, hl3, hl4, hl5]
    generalize (if n < 0 then -n else n) = z at hz
    by_cases q : 1000000000000000000 ≤ z
    · simp_arith [q, divD, timesD, modD, int1D, plusD, show Nat.log2 41 < 9000 by decide +kernel]
      exact ⟨_, _, ⟨rfl, rfl⟩, Int.ediv_nonneg hz (by decide), e1 z, e2 z⟩
    · simp_arith [q, divD, timesD, modD, int1D, plusD]
      exact ⟨_, _, ⟨rfl, rfl⟩, by decide, e1 z, e2 z⟩
end
end Fx


/-! ### statement by statement; slots of which nothing is asked -/
namespace Fx
open PySem PySem.Spec PyProof.Rows L2
section
variable [Zz]
/-- a draw from the cell at the front of the law's own -/
theorem wp_drawL {n : Nat} {f : List AV → Glo → RR} {xs ys : List AV} {sl : List (Option AV)} {lo : Glo} {a b : Int} {P : PyData → Prop} {Q : AV → S → Prop} (h : RwD (f ys (cup a b :: lo)) fun x gl' => Cs (cup a b :: lo) 0 gl' ∧ P x)
    (hQ : ∀ x a' b', CupB a' b' → P x → Q (.d x) ⟨sl, [], cup a' b' :: lo⟩) (hy : xs.map (globA 0) = ys := by rfl) (hl : xs.length = n := by rfl) : Wp (callK n f xs ⟨sl, [], cup a b :: lo⟩) Q := wp_callD (s := ⟨sl, [], cup a b :: lo⟩) (hy ▸ h) (fun x gl' h => by
  obtain ⟨⟨a', b', rfl, hc⟩, hx⟩ := h
  exact hQ x a' b' hc hx) hl
theorem cupAt_cons {a b : Int} {lo : Glo} (h : CupB a b) : CupAt (cup a b :: lo) 0 := ⟨a, b, rfl, h⟩
theorem flatMap_nil' {α β : Type} : ∀ l : List α, l.flatMap (fun _ => ([] : List β)) = []
  | [] => rfl
  | _ :: l => by simp [flatMap_nil' l]
/-- a comprehension that finds nothing -/
theorem wp_lcNil {turn : PyData → S → R Unit} {sl : List (Option AV)} {gl : Glo} (lo : Glo) {ds : List PyData} {Q : Unit → S → Prop} (h : ∀ d ∈ ds, turn d ⟨sl, gl, lo ++ [some (.lst [])]⟩ = .ok () ⟨sl, gl, lo ++ [some (.lst [])]⟩)
    (hQ : Q () ⟨sl, gl, lo ++ [some (.lst [])]⟩) : Wp (lcD turn ds ⟨sl, gl, lo ++ [some (.lst [])]⟩) Q := by
  have key : ∀ l : List PyData, (∀ d ∈ l, d ∈ ds) → lcD turn l ⟨sl, gl, lo ++ [some (.lst [])]⟩ = .ok () ⟨sl, gl, lo ++ [some (.lst [])]⟩ := fun l => by
    induction l with
    | nil => intro _; rfl
    | cons d l ih =>
      intro hm
      rw [lcD, h d (hm d List.mem_cons_self), bind_ok]
      exact ih fun e he => hm e (List.mem_cons_of_mem _ he)
  rw [key ds fun d hd => hd]
  exact wpOk hQ
/-- rows that do not ask what was drawn: by the kernel -/
def chkT : R Fl → Bool
  | .ok (.rt (.d (.bool true))) s => s.gl.isEmpty
  | _ => false
theorem chkT_wp {r : R Fl} (h : chkT r = true) : Wp r (runD fun x gl => x = .bool true ∧ gl = []) := by
  unfold chkT at h
  split at h
  · rename_i s
    exact wpOk ⟨rfl, by simpa using h⟩
  · cases h
end
end Fx

namespace Bk
open PySem PySem.Spec PyProof.Rows L2
open Evl (Ex Ev EvT EvL EvU EvA)
/-- sorted(d), d a dict with roads as keys -/
def rSortDT (K : PySem.W.Frag) : List V → Hp → VK → Prop := fun xs H Q => ∃ (a : Addr) (kvs : List (List Key × V)) (rs : List (List Int)), xs = [.ref a] ∧ Rd H a (.dT kvs) ∧
    kvs.map (·.1) = rs.map (·.map Sum.inl) ∧ (∀ r t, rs = r :: t → r = []) ∧ ∀ ys p, Rds H ys (rs.mergeSort leR) → H p = none → Q (.ref p) (upd H p (.lst ys))
theorem vis_first (b : Bu) (r : List Int) (t : List (List Int)) (h : (vis b).map (·.1) = r :: t) : r = [] := by
  cases b with
  | tip => simp [vis] at h; exact h.1
  | knot c bs => simp [vis] at h; exact h.1
/-- a comprehension over a list that is met when it is reached -/
theorem lc_at {K : PySem.W.Frag} {σ : L2.St} {H : Hp} {tl : TE} {g : TG} {tt : TT} {te : TE} {vs : List Nat} {Q : VK} (h : tl σ H fun x H1 => tLc (iList K (tC x)) g tt te vs σ H1 Q) : tLc (iList K tl) g tt te vs σ H Q := h
theorem ret_at {K : PySem.W.Frag} {σ : L2.St} {H : Hp} {tl : TE} {g : TG} {tt : TT} {te : TE} {vs : List Nat} {D : Ends} (h : tl σ H fun x H1 => tLc (iList K (tC x)) g tt te vs σ H1 D.rt) : tRet (tLc (iList K tl) g tt te vs) D σ H := h
theorem for_at {K : PySem.W.Frag} {σ : L2.St} {H : Hp} {tl : TE} {g : TG} {tb : TS} {D : Ends} (h : tl σ H fun x H1 => tFor (iList K (tC x)) g tb D σ H1) : tFor (iList K tl) g tb D σ H := h
theorem given_succ (n : Nat) (f : Nat → Bool) (v : Nat → V) : Evl.given (n + 1) f v = (if f 0 = true then [v 0] else []) ++ Evl.given n (fun i => f (i + 1)) (fun i => v (i + 1)) := by
  unfold Evl.given
  rw [List.range_succ_eq_map, List.filter_cons, List.filter_map]
  by_cases h : f 0 = true
  · simp [h, Function.comp_def]
  · simp [h, Function.comp_def]
theorem given_rds {K : PySem.W.Frag} {H : Hp} : ∀ {ys : List V} {ps : List Rb}, Rds H ys (ps.map (·.1)) → DpAll K H (Evl.given ys.length (fun i => isTip (ps.getD i ([], .tip)).2) (fun i => ys.getD i .non)) (((ps.filter fun p => isTip p.2).map (·.1)).map enc)
  | [], [], _ => .nil
  | [], _ :: _, h => by have := h.len; simp at this
  | _ :: _, [], h => by have := h.len; simp at this
  | y :: ys, p :: ps, h => by
    cases h with
    | cons h1 h2 =>
      obtain ⟨b, rfl, hb⟩ := h1
      have ih := given_rds (K := K) (ys := ys) (ps := ps) h2
      rw [List.length_cons, given_succ, List.filter_cons]
      have e : (fun i => isTip ((p :: ps).getD (i + 1) ([], .tip)).2) = fun i => isTip (ps.getD i ([], .tip)).2 := by funext i; rw [List.getD_cons_succ]
      have e2 : (fun i => (V.ref b :: ys).getD (i + 1) .non) = fun i => ys.getD i .non := by funext i; rw [List.getD_cons_succ]
      rw [e, e2]
      by_cases c : isTip p.2 = true
      · have c0 : isTip ((p :: ps).getD 0 ([], .tip)).2 = true := c
        rw [if_pos c0, if_pos c]
        exact .cons (dp_road hb) ih
      · have c0 : ¬ isTip ((p :: ps).getD 0 ([], .tip)).2 = true := c
        rw [if_neg c0, if_neg c]
        exact ih
theorem isTip_sound (b : Bu) : PyData.eqv (toD b) (.tuple []) = isTip b := by rw [isTip_eqv]; cases b <;> rfl
theorem given_len_countP (n : Nat) (f : Nat → Bool) (v : Nat → V) : (Evl.given n f v).length = ((List.range n).countP fun i => f i) := by
  unfold Evl.given
  rw [List.length_map, List.countP_eq_length_filter]
theorem range_countP {α : Type} (d : α) (f : α → Bool) : ∀ l : List α, (List.range l.length).countP (fun i => f (l.getD i d)) = l.countP f
  | [] => rfl
  | x :: l => by
    rw [List.length_cons, List.range_succ_eq_map, List.countP_cons, List.countP_cons, List.countP_map]
    have ih := range_countP d f l
    have e : ((fun i => f ((x :: l).getD i d)) ∘ Nat.succ) = fun i => f (l.getD i d) := by funext i; show f ((x :: l).getD (i + 1) d) = _; rw [List.getD_cons_succ]
    rw [e, ih]
    rfl
mutual
theorem pre_ok : ∀ (b : Bu), okB b = true → ∀ p ∈ pre b, okB p.2 = true ∧ dep p.2 ≤ dep b
  | .tip, h, p, hp => by
    have : p = ([], .tip) := by simpa [pre] using hp
    subst this
    exact ⟨rfl, Nat.le_refl _⟩
  | .knot c bs, h, p, hp => by
    rw [pre] at hp
    rcases List.mem_cons.mp hp with e | e
    · subst e; exact ⟨h, Nat.le_refl _⟩
    · have := preL_ok 0 bs (okB_knot h).2.2 p e
      exact ⟨this.1, by show _ ≤ deps bs + 1; omega⟩
theorem preL_ok : ∀ (i : Nat) (bs : List Bu), okBs bs = true → ∀ p ∈ preL i bs, okB p.2 = true ∧ dep p.2 ≤ deps bs
  | _, [], _, p, hp => by simp [preL] at hp
  | i, b :: bs, h, p, hp => by
    have h' : okB b = true ∧ okBs bs = true := by simpa [okBs] using h
    rw [preL] at hp
    rw [deps]
    rcases List.mem_append.mp hp with e | e
    · obtain ⟨q, hq, rfl⟩ := List.mem_map.mp e
      have := pre_ok b h'.1 q hq
      exact ⟨this.1, by show dep q.2 ≤ _; omega⟩
    · have := preL_ok (i + 1) bs h'.2 p e
      exact ⟨this.1, by omega⟩
end
section
variable {P : Program} {w : World} {K : PySem.W.Frag} {mg : Str → Option Value} {base : Heap}
def spTips (K : PySem.W.Frag) : Sp := fun vs H Q _ => ∃ (v : V) (b : Bu), vs = [v] ∧ Dp K H v (toD b) ∧ Dr b ∧ ∀ p H' us, H p = none → Ex H H' → H' p = some (.lst us) → DpAll K H' us ((tr b).map enc) → Q (.ref p) H'
def spKnots (K : PySem.W.Frag) : Sp := fun vs H Q _ => ∃ (v : V) (b : Bu), vs = [v] ∧ Dp K H v (toD b) ∧ Dr b ∧ ∀ H', Ex H H' → Q (.int (knots b : Nat)) H'
def spDepths (K : PySem.W.Frag) : Sp := fun vs H Q _ => ∃ (v : V) (b : Bu), vs = [v] ∧ Dp K H v (toD b) ∧ Dr b ∧ ∀ p H', H p = none → Ex H H' → H' p = some (.lst (((tr b).map fun r => ((r.length : Nat) : Int)).map V.int)) → Q (.ref p) H'
end
end Bk

namespace Bk
open PySem PySem.Spec PyProof.Rows L2
open Evl (Ex Ev EvT EvL EvU EvA)
theorem shaped_enc (r : List Int) : SeqAt.shaped (enc r) = true := by
  have := depth_enc r
  show ((enc r).canLay0 && decide ((enc r).depth ≤ 64)) = true
  have e : (enc r).canLay0 = true := by simp [enc, PyData.canLay0, lay_ints]
  rw [e, decide_eq_true (by omega)]
  rfl
theorem eqv_enc_nil (r : List Int) : PyData.eqv (enc r) (.tuple []) = r.isEmpty := by
  cases r with
  | nil => simp [enc, PyData.eqv, PyData.eqvAll]
  | cons i r => simp [enc, PyData.eqv, PyData.eqvAll]
section
variable {P : Program} {w : World} {K : PySem.W.Frag} {mg : Str → Option Value} {base : Heap}
def spPut (K : PySem.W.Frag) (n : Nat) : Sp := fun vs H Q _ => ∃ (v rv gv : V) (b g : Bu) (r : List Int), vs = [v, rv, gv] ∧ Dp K H v (toD b) ∧ Dp K H rv (enc r) ∧ Dp K H gv (toD g) ∧ okB b = true ∧ inB b r ∧ r.length ≤ n ∧
  ∀ x H', Ex H H' → Dp K H' x (toD (putB b r g)) → Q x H'
def spGrownL (K : PySem.W.Frag) : Sp := fun vs H Q _ => ∃ (v gv : V) (b g : Bu), vs = [v, gv] ∧ Dp K H v (toD b) ∧ Dp K H gv (toD g) ∧ Dr b ∧ okB g = true ∧ ∀ x H', Ex H H' → Dp K H' x (toD (grow b g)) → Q x H'
end
end Bk

namespace Bk
open PySem PySem.Spec PyProof.Rows L2
open Evl (Ex Ev EvT EvL EvU EvA)
theorem q_par {i j : Nat} {ta : TA} {x y : V} {D : Ends} {σ : L2.St} {H : Hp} {tz : TS} (h : EvA ta σ H [x, y]) (k : ∀ H1, Ex H H1 → tz D ((σ.set i (some x)).set j (some y)) H1) : tSeq (tPar i j ta) tz D σ H :=
  h H (Ex.refl H) _ fun H1 e => ⟨x, y, rfl, k H1 e⟩
theorem s_par {i j : Nat} {ta : TA} {x y : V} {D : Ends} {σ : L2.St} {H : Hp} (h : EvA ta σ H [x, y]) (k : ∀ H1, Ex H H1 → D.nx ((σ.set i (some x)).set j (some y)) H1) : tPar i j ta D σ H :=
  h H (Ex.refl H) _ fun H1 e => ⟨x, y, rfl, k H1 e⟩
theorem Can.dr {b : Bu} {gs : List Bu} (C : Can b gs) (i : Nat) : Dr (growAll b (gs.take i)) := by
  have hou : ∀ g ∈ gs, okB g = true := fun g hg => (C.hg g hg).ok
  have hok : okB (growAll b (gs.take i)) = true := ok_growAll C.hb.ok fun z hz => hou z (List.mem_of_mem_take hz)
  have h2 : growAll (growAll b (gs.take i)) (gs.drop i) = growAll b gs := by unfold growAll; rw [← List.foldl_append, List.take_append_drop]
  have h1 := dep_growAll (gs := gs.drop i) hok fun z hz => hou z (List.mem_of_mem_drop hz)
  have h3 := size_growAll (gs := gs.drop i) hok fun z hz => hou z (List.mem_of_mem_drop hz)
  rw [h2] at h1 h3
  exact ⟨hok, Nat.le_trans h1 C.deep, by have := C.few; omega⟩
section
variable {P : Program} {w : World} {K : PySem.W.Frag} {mg : Str → Option Value} {base : Heap}
theorem ed_grownL {σ : L2.St} {H : Hp} {ta : TA} {E : XK} {b g : Bu} (hD : Dr b) (hg : okB g = true) (h : EvAD K ta σ H [toD b, toD g]) : EvD K (tCall (spGrownL K) [] E ta) σ H (toD (grow b g)) :=
  ed_call h fun vs H1 e1 hvs R r => by
    cases hvs with
    | cons h1 h2 =>
      cases h2 with
      | cons h3 h4 =>
        cases h4
        exact ⟨_, _, b, g, rfl, h1, h3, hD, hg, r⟩
def spBushOfL (K : PySem.W.Frag) : Sp := fun vs H Q _ => ∃ (r : V) (gs : List Bu), vs = [r] ∧ Dp K H r (.tuple (gs.map toD)) ∧ Can .tip gs ∧ ∀ x H', Ex H H' → Dp K H' x (toD (growAll .tip gs)) → Q x H'
def spYearsL (K : PySem.W.Frag) : Sp := fun vs H Q _ => ∃ (v r : V) (b : Bu) (gs : List Bu), vs = [v, r] ∧ Dp K H v (toD b) ∧ Dp K H r (.tuple (gs.map toD)) ∧ Can b gs ∧ ∀ x H', Ex H H' → Dp K H' x (.list ((yrs b gs gs.length).map toD)) → Q x H'
def spSizes (K : PySem.W.Frag) : Sp := fun vs H Q _ => ∃ (r : V) (gs : List Bu), vs = [r] ∧ Dp K H r (.tuple (gs.map toD)) ∧ (∀ g ∈ gs, Dr g) ∧ gs.length ≤ 13 ∧ ∀ p H', H p = none → Ex H H' → H' p = some (.tup (ints4 (ctrs .tip gs))) → Q (.ref p) H'
end
end Bk

namespace Bk
open PySem PySem.Spec PyProof.Rows L2
open Evl (Ex Ev EvT EvL EvU EvA)
theorem log2_bits {z : Int} {n : Nat} (h : Builtin.Int.intBits z ≤ n) : z.natAbs.log2 ≤ n := by
  unfold Builtin.Int.intBits at h
  split at h
  · rename_i hz
    have : z.natAbs = 0 := by simpa using hz
    rw [this]
    exact Nat.zero_le _
  · omega
theorem ev_int {σ : L2.St} {H : Hp} {te : TE} {i : Int} (h : Ev te σ H (.int i)) : Ev (tCB (fun xs H Q => (∃ i, xs = [V.int i] ∧ Q (.int i) H) ∨ ∃ k, xs = [V.bl k] ∧ Q (.int (if k then 1 else 0)) H) (tCons te tNil)) σ H (.int i) :=
  Evl.ev_cb (Evl.ea_cons h Evl.ea_nil) fun H1 _ _ q => .inl ⟨i, rfl, q H1 (Ex.refl H1)⟩
theorem ev_mod {σ : L2.St} {H : Hp} {ta tb : TE} {i j : Int} (ha : Ev ta σ H (.int i)) (hb : Ev tb σ H (.int j)) (h : 0 < j) : Ev (tOp (rI (fun _ j => 0 < j) fun i j => .int (i % j)) ta tb) σ H (.int (i % j)) :=
  Evl.ev_op ha hb (Evl.rv_I (C := fun _ j => 0 < j) (g := fun i j => .int (i % j)) h)
theorem ev_add {σ : L2.St} {H : Hp} {ta tb : TE} {i j : Int} (ha : Ev ta σ H (.int i)) (hb : Ev tb σ H (.int j)) : Ev (tOp (rI0 fun i j => .int (i + j)) ta tb) σ H (.int (i + j)) :=
  Evl.ev_op ha hb (Evl.rv_I0 (g := fun i j => .int (i + j)))
theorem ev_mul {σ : L2.St} {H : Hp} {ta tb : TE} {i j : Int} (ha : Ev ta σ H (.int i)) (hb : Ev tb σ H (.int j)) (h : CMul i j) : Ev (tOp (rI CMul fun i j => .int (i * j)) ta tb) σ H (.int (i * j)) :=
  Evl.ev_op ha hb (Evl.rv_I (C := CMul) (g := fun i j => .int (i * j)) h)
theorem ev_fdiv {σ : L2.St} {H : Hp} {ta tb : TE} {i j : Int} (ha : Ev ta σ H (.int i)) (hb : Ev tb σ H (.int j)) (h : CDiv i j) : Ev (tOp (rI CDiv fun i j => .int (i / j)) ta tb) σ H (.int (i / j)) :=
  Evl.ev_op ha hb (Evl.rv_I (C := CDiv) (g := fun i j => .int (i / j)) h)
section
variable {P : Program} {w : World} {K : PySem.W.Frag} {mg : Str → Option Value} {base : Heap}
def spCup (K : PySem.W.Frag) : Sp := fun vs H Q _ => ∃ (a : Addr) (ns : List Int), vs = [.ref a] ∧ SqL K H a (ns.map V.int) ∧ ns.length ≤ 63 ∧ (∀ z ∈ ns, Builtin.Int.intBits z ≤ 1048576) ∧ ∀ c H', H c = none → Ex H H' → Cup H' c → Q (.ref c) H'
def spRoll : Sp := fun vs H Q _ => ∃ (c : Addr) (m : Int), vs = [.ref c, .int m] ∧ Cup H c ∧ 1 ≤ m ∧ m ≤ 1000 ∧ ∀ (r : Int) H', 0 ≤ r → r < m → ExB c H H' → Cup H' c → Q (.int r) H'
end
end Bk

namespace Bk
open PySem PySem.Spec PyProof.Rows L2
open Evl (Ex Ev EvT EvL EvU EvA)
theorem et_eqI {σ : L2.St} {H : Hp} {te : TE} {i j : Int} (h : Ev te σ H (.int i)) : EvT (tTest (tOp rEq te (tC (.int j)))) σ H (decide (i = j)) := by
  have := Evl.et_test (Evl.ev_op h (Evl.ev_c (v := .int j)) (Evl.rv_eq (x := .int i) (y := .int j) rfl))
  refine Evl.et_is this ?_
  by_cases e : i = j
  · subst e; simp
  · rw [decide_eq_false e, decide_eq_false (fun x => e (V.int.inj x))]
theorem decV {i j : Int} : decide (V.int i = V.int j) = decide (i = j) := by
  by_cases e : i = j
  · subst e; simp
  · rw [decide_eq_false e, decide_eq_false (fun x => e (V.int.inj x))]
theorem q_forRm {D : Ends} {σ : L2.St} {H : Hp} {tu tz : TS} {ta : TA} {j : Nat} {n : Int} (h : EvA ta σ H [.int n]) (hn : -1 ≤ n ∧ n ≤ 100000) (Pv : Nat → L2.St → Hp → Prop) (h0 : ∀ H1, Ex H H1 → Pv 0 σ H1)
    (hs : ∀ (i : Nat) σ' H', (i : Int) < n → Pv i σ' H' → tu { D with nx := Pv (i + 1), ct := Pv (i + 1), bk := tz D } (σ'.set j (some (.int (i : Int)))) H') (hd : ∀ σ' H', Pv n.toNat σ' H' → tz D σ' H') : tSeq (tFor (iRng1 ta) (gName j) tu) tz D σ H :=
  s_forRm (D := { D with nx := tz D }) h hn Pv h0 hs hd
theorem lay_tups {bs : List Bu} (h : okBs bs = true) (hd : deps bs ≤ 60) : SeqAt.shaped (.tuple (bs.map toD)) = true := by
  have h1 := lay_map h
  have h2 := depth_toDs bs
  rw [toDs_map] at h2
  show ((PyData.tuple (bs.map toD)).canLay0 && decide ((PyData.tuple (bs.map toD)).depth ≤ 64)) = true
  have e1 : (PyData.tuple (bs.map toD)).canLay0 = true := by simp only [PyData.canLay0]; exact h1
  have e2 : (PyData.tuple (bs.map toD)).depth ≤ 64 := by simp only [PyData.depth]; omega
  rw [e1, decide_eq_true e2]
  rfl
theorem eqv_tup0 (ds : List PyData) : PyData.eqv (.tuple ds) (.tuple []) = ds.isEmpty := by
  cases ds with
  | nil => simp [PyData.eqv, PyData.eqvAll]
  | cons d ds => simp [PyData.eqv, PyData.eqvAll]
/-- drawn bushes: as many knots, at most four branches -/
structure Rn (k : Nat) (b : Bu) : Prop where
  ok : okB b = true
  kn : knots b ≤ k
  tp : tips b ≤ 1 + 3 * knots b
  dp : dep b ≤ knots b
theorem Rn.tip (k : Nat) : Rn k .tip := ⟨rfl, Nat.zero_le _, by decide, by decide⟩
theorem Rn.knot {c L k : Nat} {bs : List Bu} (h1 : 97 ≤ c) (h2 : c ≤ 122) (hm1 : 1 ≤ bs.length) (hm4 : bs.length ≤ 4) (hb : ∀ b ∈ bs, Rn L b) (hk : bs.length * L + 1 ≤ k) : Rn k (.knot c bs) := by
  have e1 : knotss bs ≤ bs.length * L ∧ tipss bs ≤ bs.length + 3 * knotss bs ∧ deps bs ≤ knotss bs ∧ okBs bs = true := by
    clear hm1 hm4 hk
    induction bs with
    | nil => exact ⟨Nat.zero_le _, Nat.zero_le _, Nat.zero_le _, rfl⟩
    | cons b bs ih =>
      obtain ⟨i1, i2, i3, i4⟩ := ih fun x hx => hb x (List.mem_cons_of_mem _ hx)
      have B := hb b List.mem_cons_self
      have b1 := B.kn
      have b2 := B.tp
      have b3 := B.dp
      simp only [knotss, tipss, deps, okBs, List.length_cons, B.ok, i4, Bool.and_self, Nat.succ_mul]
      refine ⟨by omega, by omega, by omega, trivial⟩
  obtain ⟨i1, i2, i3, i4⟩ := e1
  have e3 : bs.length ≤ 6 := by omega
  refine ⟨?_, by show knotss bs + 1 ≤ k; omega, by show tipss bs ≤ 1 + 3 * (knotss bs + 1); omega, by show deps bs + 1 ≤ knotss bs + 1; omega⟩
  simp [okB, h1, h2, hm1, e3, i4]
section
variable {P : Program} {w : World} {K : PySem.W.Frag} {mg : Str → Option Value} {base : Heap}
theorem roll_c {σ : L2.St} {H : Hp} {c : Addr} {tm : TE} {m : Int} {E : XK} {Q : VK} (h0 : σ[0]? = some (some (.ref c))) (hm : Ev tm σ H (.int m)) (hc : Cup H c) (h1 : 1 ≤ m) (h2 : m ≤ 1000)
    (k : ∀ (r : Int) H2, 0 ≤ r → r < m → ExB c H H2 → Cup H2 c → Q (.int r) H2) : tCall spRoll [] E (tCons (tVar 0) (tCons tm tNil)) σ H Q :=
  ⟨_, h0, hm H (Ex.refl H) _ fun H1 e1 => ⟨c, m, rfl, hc.ex e1, h1, h2, fun r H2 a b eb hc2 => k r H2 a b ((ExB.of e1).trans eb) hc2⟩⟩
def spSome : Sp := fun vs H Q _ => ∃ (c l : Addr) (xs : List V), vs = [.ref c, .ref l] ∧ Cup H c ∧ H l = some (.lst xs) ∧ l ≠ c ∧ 1 ≤ xs.length ∧ xs.length ≤ 1000 ∧ ∀ v H', v ∈ xs → ExB c H H' → Cup H' c → Q v H'
/-- one of some new things -/
theorem some_c {σ : L2.St} {H : Hp} {c : Addr} {ta : TA} {xs : List V} {E : XK} {Q : VK} (h0 : σ[0]? = some (some (.ref c))) (ha : EvA ta σ H xs) (hc : Cup H c) (h1 : 1 ≤ xs.length) (h2 : xs.length ≤ 1000)
    (k : ∀ v H2, v ∈ xs → ExB c H H2 → Cup H2 c → Q v H2) : tCall spSome [] E (tCons (tVar 0) (tCons (tLst ta) tNil)) σ H Q :=
  ⟨_, h0, ha H (Ex.refl H) _ fun H1 e1 => ⟨Evl.sz_of (by omega), fun l hl => by
    have hc1 := hc.ex e1
    have e2 : Ex H1 (upd H1 l (.lst xs)) := ex_new hl
    exact ⟨c, l, xs, rfl, hc1.ex e2, upd_same, hc1.ne hl, h1, h2, fun v H' hv eb hc' => k v H' hv ((ExB.of (e1.trans e2)).trans eb) hc'⟩⟩⟩
def spBush (K : PySem.W.Frag) (n : Nat) : Sp := fun vs H Q _ => ∃ (c : Addr) (k : Nat), vs = [.ref c, .int (k : Int)] ∧ Cup H c ∧ k ≤ n ∧ n ≤ 60 ∧ ∀ (r : V) (b : Bu) H', Rn k b → Dp K H' r (toD b) → ExB c H H' → Cup H' c → Q r H'
end
end Bk

namespace Bk
open PySem PySem.Spec PyProof.Rows L2
open Evl (Ex Ev EvT EvL EvU EvA)
theorem ed_val {K : PySem.W.Frag} {σ : L2.St} {H : Hp} {x : V} {d : PyData} (h : Dp K H x d) : EvD K (tC x) σ H d := fun H1 a R r => r x H1 (Ex.refl H1) (Dp.ex a _ _ h)
theorem cat_vals {K : PySem.W.Frag} {H : Hp} {x y : V} {ds es : List PyData} {R : VK} (hx : Dp K H x (.tuple ds)) (hy : Dp K H y (.tuple es)) (hz : ds.length + es.length ≤ 100000) (k : ∀ v H2, Ex H H2 → Dp K H2 v (.tuple (ds ++ es)) → R v H2) : rCatA K x y H R :=
  ed_cat (σ := []) (ed_val hx) (ed_val hy) hz H (Ex.refl H) R k
theorem rep_vals {K : PySem.W.Frag} {H : Hp} {x : V} {ds : List PyData} {k : Nat} {R : VK} (hx : Dp K H x (.tuple ds)) (hn : ds ≠ []) (h1 : 1 ≤ k) (h2 : k ≤ 1000) (hz : ds.length ≤ 1000) (kk : ∀ v H2, Ex H H2 → Dp K H2 v (.tuple (List.replicate k ds).flatten) → R v H2) : rRepT1 K x (.int (k : Int)) H R :=
  ed_rep (σ := []) (ed_val hx) (Evl.ev_c (v := .int (k : Int))) hn h1 h2 hz H (Ex.refl H) R kk
theorem forR_at {σ : L2.St} {H : Hp} {te : TE} {g : TG} {tb : TS} {D : Ends} (h : te σ H fun x H1 => tFor (iRng1 (tCons (tC x) tNil)) g tb D σ H1) : tFor (iRng1 (tCons te tNil)) g tb D σ H := h
theorem q_un2 {K : PySem.W.Frag} {σ : L2.St} {H : Hp} {te : TE} {d e : PyData} {D : Ends} {tz : TS} {i j : Nat} (h : EvD K te σ H (.tuple [d, e])) (k : ∀ x y H1, Ex H H1 → Dp K H1 x d → Dp K H1 y e → tz D ((σ.set i (some x)).set j (some y)) H1) :
    tSeq (tAsg te (gTup K 2 (gCons (gName i) (gCons (gName j) gNil)))) tz D σ H := h H (Ex.refl H) _ fun v H1 e1 hv => by
  obtain ⟨a, xs, rfl, hs, ha⟩ := dp_tup hv
  cases ha with
  | cons d1 d2 =>
    cases d2 with
    | cons d2 d3 =>
      cases d3
      exact ⟨a, _, rfl, hs, rfl, _, _, rfl, _, _, rfl, rfl, k _ _ H1 e1 d1 d2⟩
theorem q_lstD {K : PySem.W.Frag} {σ : L2.St} {H : Hp} {ta : TA} {ds : List PyData} {D : Ends} {tz : TS} {i : Nat} (h : EvAD K ta σ H ds) (hl : ds.length ≤ 100000)
    (k : ∀ l H1 vs, H l = none → Ex H H1 → H1 l = some (.lst vs) → DpAll K H1 vs ds → tz D (σ.set i (some (.ref l))) H1) : tSeq (tAsg (tLst ta) (gName i)) tz D σ H :=
  h H (Ex.refl H) _ fun vs H1 e hv => ⟨Evl.sz_of (by rw [DpAll.len hv]; exact hl), fun l hl2 => k l _ vs (Evl.fresh_back e hl2) (e.trans (ex_new hl2)) upd_same (DpAll.ex (ex_new hl2) _ _ hv)⟩
theorem flat_tips : ∀ k : Nat, (List.replicate k [toD .tip]).flatten = (List.replicate k Bu.tip).map toD
  | 0 => rfl
  | k + 1 => by rw [List.replicate_succ, List.replicate_succ, List.flatten_cons, flat_tips k]; rfl
def rnB (k : Nat) (b : Bu) : Bool := okB b && decide (knots b ≤ k) && decide (tips b ≤ 1 + 3 * knots b) && decide (dep b ≤ knots b)
theorem rnB_of {k : Nat} {b : Bu} (h : rnB k b = true) : Rn k b := by
  unfold rnB at h
  simp only [Bool.and_eq_true, decide_eq_true_eq] at h
  exact ⟨h.1.1.1, h.1.1.2, h.1.2, h.2⟩
def kA : Bu := .knot 97 [.tip]
def kF : Bu := .knot 102 [.tip, .tip]
def kB : Bu := .knot 98 [.tip]
def knownBs : List Bu := [kA, kF, kB, .knot 102 [kA, .tip], .knot 102 [.tip, kA], .knot 102 [kF, .tip], .knot 103 [.tip, .tip, .tip], .knot 102 [kA, kA], .knot 102 [kB, kA], .knot 97 [kF]]
theorem known_rn : ∀ b ∈ knownBs, Rn 4 b := by
  have : knownBs.all (rnB 4) = true := by decide +kernel
  intro b hb
  exact rnB_of (List.all_eq_true.mp this b hb)
theorem Rn.dr {k : Nat} {b : Bu} (h : Rn k b) (hk : k ≤ 60) : Dr b := ⟨h.ok, by have := h.dp; have := h.kn; omega, by have := h.tp; have := h.kn; omega⟩
theorem dpAll_mem {K : PySem.W.Frag} {H : Hp} {vs : List V} {bs : List Bu} {v : V} (h : DpAll K H vs (bs.map toD)) (hv : v ∈ vs) : ∃ b ∈ bs, Dp K H v (toD b) := by
  obtain ⟨i, hi⟩ := List.getElem?_of_mem hv
  obtain ⟨b, hb, hd⟩ := dpAll_map h hi
  exact ⟨b, List.mem_of_getElem? hb, hd⟩
section
variable {P : Program} {w : World} {K : PySem.W.Frag} {mg : Str → Option Value} {base : Heap}
def spGrowth (K : PySem.W.Frag) : Sp := fun vs H Q _ => ∃ (c : Addr) (m : Nat), vs = [.ref c, .int (m : Int)] ∧ m ≤ 4 ∧ Cup H c ∧ ∀ (r : V) (b : Bu) H', Rn 4 b → Dp K H' r (toD b) → ExB c H H' → Cup H' c → Q r H'
def spKnown (K : PySem.W.Frag) : Sp := fun vs H Q _ => ∃ (c : Addr), vs = [.ref c] ∧ Cup H c ∧ ∀ (r : V) (b : Bu) H', Rn 4 b → Dp K H' r (toD b) → ExB c H H' → Cup H' c → Q r H'
end
end Bk

/-! ### bushes that are drawn -/
namespace Fx
open PySem PySem.Spec PyProof.Rows L2
local macro_rules | `(tactic| simp_arith [$ts,*]) => `(tactic| try simp -implicitDefEqProofs [↓bind_bnd, bnd_ok, bnd_xc, bnd_no, ↓wp_def, wpI_okW, wpI_ok, wpI_bnd, fSeq_eq, seqK_nx, seqK_rt, seqK_bk, seqK_ct, fIfS_eq, ifK_t, ifK_f, fCall_eq, runP_d, runP_g, runP_nx, runD_d, runD_nx, runF_l, nxP_nx, turnP_nx, turnP_ct, turnP_bk, turnP_rt, runFor_ds, runLc_ds,
      tidy_nil, cut_nil, tidy_drop, isL, S.tidy, S.pack, keeps, uses, ren, List.range, List.range.loop, List.idxOf, List.findIdx, List.findIdx.go, S.cut, fNx, fRet, fRetN, fExpr, fSet, fPar, fPar3, fAug, fUn, fBk, fCt, fPut, fFor, fIt, ivOf, fRng1_eq, fRng2_eq, rng1K_ok, rng2K_ok, fEnum, fB, fT, fAnd, fOr, fNot, fAndV, fOrV, fNotV, fIf, fChain, f1, f2, fV, fC, fNil, fCons, fTup, fLst, fStar, toD1, toDs, tru, truD,
      fN, n1, n2, p1, p2, rd, gv, gIx, isDic, cellOf, gTimes, fMt, tyOf, gIsi, tyN, subTy, S.push, S.put, S.at, tgName, tgNil, tgCons, tgTup, intsA, isND, isBF, sizeLine_eq, take_set0, drop_set0, globA, lcTurn, wipeS, noX, snocAt, tYesF, eqD_int, neD_int, lenD, minusD, gtD, ltD, leD, geD, uses_jk, ren_jk, isL_jk, unl_jk, S.frz, unl, fSl, fP, fNoP, fLc, plusD, $ts,*])
open Bk (Bu toD okB dep knots tips enc Rn)
section
variable [Zz]
theorem letter_of {x : PyData} (hx : x ∈ [PyData.str "a", .str "a", .str "b", .str "c", .str "f", .str "z"]) : ∃ c : Nat, x = .str ⟨#[c]⟩ ∧ 97 ≤ c ∧ c ≤ 122 := by
  simp only [List.mem_cons, List.not_mem_nil, or_false] at hx
  rcases hx with rfl | rfl | rfl | rfl | rfl | rfl
  · exact ⟨97, rfl, by decide, by decide⟩
  · exact ⟨97, rfl, by decide, by decide⟩
  · exact ⟨98, rfl, by decide, by decide⟩
  · exact ⟨99, rfl, by decide, by decide⟩
  · exact ⟨102, rfl, by decide, by decide⟩
  · exact ⟨122, rfl, by decide, by decide⟩
theorem many_of {y : PyData} (hy : y ∈ [PyData.int 1, .int 1, .int 2, .int 2, .int 2, .int 3, .int 4]) : ∃ j : Nat, y = .int (j : Int) ∧ 1 ≤ j ∧ j ≤ 4 := by
  simp only [List.mem_cons, List.not_mem_nil, or_false] at hy
  rcases hy with h | h | h | h | h | h | h
  · exact ⟨1, h, by decide, by decide⟩
  · exact ⟨1, h, by decide, by decide⟩
  · exact ⟨2, h, by decide, by decide⟩
  · exact ⟨2, h, by decide, by decide⟩
  · exact ⟨2, h, by decide, by decide⟩
  · exact ⟨3, h, by decide, by decide⟩
  · exact ⟨4, h, by decide, by decide⟩
theorem rn_all {L : Nat} {bs : List Bu} (h : ∀ b ∈ bs, Rn L b) (hL : L ≤ 60) : Bk.okBs bs = true ∧ Bk.deps bs ≤ 60 := by
  induction bs with
  | nil => exact ⟨rfl, by decide⟩
  | cons b bs ih =>
    obtain ⟨h1, h2⟩ := ih fun x hx => h x (List.mem_cons_of_mem _ hx)
    have hb := h b List.mem_cons_self
    refine ⟨by simp [Bk.okBs, hb.ok, h1], ?_⟩
    have := hb.dp
    have := hb.kn
    simp only [Bk.deps]
    omega
theorem ne_tup0 {bs : List Bu} (h : Bk.okBs bs = true) (hd : Bk.deps bs ≤ 60) : neD (.tuple (bs.map toD)) (.tuple []) = .d (.bool (!bs.isEmpty)) := by
  unfold neD
  rw [Bk.lay_tups h hd, Bk.shaped_tup0, Bk.eqv_tup0]
  simp
theorem bush_ok : ∀ (f m : Nat) {gl : Glo} {k : Nat}, m < f → CupAt gl k → m ≤ 60 → RwD (n_law_bush f [.g k, .d (.int m)] gl) fun x gl' => Cs gl k gl' ∧ ∃ t, x = toD t ∧ Rn m t
  | 0, m, gl, k, hm, h, h60 => absurd hm (Nat.not_lt_zero m)
  | f + 1, m, gl, k, hm, h, h60 => by
    unfold n_law_bush
    refine rwD_run ?_
    by_cases h0 : m = 0
    · subst h0
      simp_arith [b_law_bush, eqD_int]
      exact ⟨.refl h, .tip, rfl, Rn.tip 0⟩
    · have h0' : ¬ ((m : Int) = 0) := by omega
      simp_arith [b_law_bush, eqD_int, h0, h0']
      refine wp_roll h (by decide) (by decide) fun r g1 c1 h1 r0 r1 => ?_
      by_cases hr : r = 0
      · simp_arith [eqD_int, hr]
        exact ⟨c1, .tip, rfl, Rn.tip m⟩
      · simp_arith [eqD_int, hr]
        refine wp_some [] h1 (by decide) (by decide) fun x g2 c2 h2 hx => ?_
        simp_arith []
        refine wp_some [_] h2 (by decide) (by decide) fun y g3 c3 h3 hy => ?_
        simp_arith []
        simp_arith [minusD]
        refine wp_roll h3 (by decide) (by decide) fun r2 g4 c4 h4 r20 r21 => ?_
        simp_arith [eqD_int]
        obtain ⟨c, hxe, hcl, hcu⟩ := letter_of hx
        obtain ⟨j, hye, hj1, hj4⟩ := many_of hy
        subst hxe
        subst hye
        have hj5 : rngOk (j : Int) := rngOk_nat (by omega)
        simp_arith [hj5]
        have hm1 : (m : Int) - 1 = ((m - 1 : Nat) : Int) := by omega
        have hL : (m - 1) / j < f := Nat.lt_of_le_of_lt (Nat.div_le_self _ _) (by omega)
        have hL60 : (m - 1) / j ≤ 60 := Nat.le_trans (Nat.div_le_self _ _) (by omega)
        have hj0 : (0 : Int) < (j : Int) := by omega
        have hjl : (j : Int).natAbs.log2 < 9000 := log_small (by omega) (by omega)
        refine wp_forD (fun ds s => ∃ (bs : List Bu) (g5 : Glo) (e7 e8 : Option AV), s = ⟨[some (.g k), some (.d (.int (m : Int))), some (.d (.str ⟨#[c]⟩)), some (.d (.int (j : Int))), some (.d (.tuple (bs.map toD))), some (.d (.int ((m : Int) - 1))), some (.d (.bool (decide (r2 = 0)))), e7, e8], g5, []⟩ ∧
          bs.length + ds.length = j ∧ (∀ b ∈ bs, Rn ((m - 1) / j) b) ∧ Cs gl k g5 ∧ CupAt g5 k) ?_ ?_ _ _ ⟨[], g4, none, none, rfl, by simp [rngL], by simp, ((c1.trans c2).trans c3).trans c4, h4⟩
        · rintro d ds s ⟨bs, g5, e7, e8, rfl, hlen, hbs, hcs, hcu5⟩
          simp only [List.length_cons] at hlen
          have hbs4 : bs.length ≤ 4 := by omega
          have hokd := rn_all hbs hL60
          have hne := ne_tup0 hokd.1 hokd.2
          refine ⟨_, rfl, ?_⟩
          have fin : ∀ (t : Bu) (g6 : Glo), Rn ((m - 1) / j) t → Cs gl k g6 → CupAt g6 k → ∃ (bs_1 : List Bu) (g5 : Glo), (bs.map toD ++ [toD t] = bs_1.map toD ∧ g6 = g5) ∧ bs_1.length + ds.length = j ∧ (∀ b ∈ bs_1, Rn ((m - 1) / j) b) ∧ Cs gl k g5 ∧ CupAt g5 k := fun t g6 ht hc6 hk6 => by
            refine ⟨bs ++ [t], g6, ⟨by simp, rfl⟩, by simp; omega, ?_, hc6, hk6⟩
            intro b hb
            rcases List.mem_append.mp hb with hb | hb
            · exact hbs b hb
            · have : b = t := by simpa using hb
              rw [this]; exact ht
          have hl16 : bs.length + 1 ≤ 16777216 := by omega
          have hdiv : divD (.int ((m : Int) - 1)) (.int (j : Int)) = .d (.int (((m - 1) / j : Nat) : Int)) := by
            unfold divD
            rw [hm1]
            dsimp only
            rw [if_pos ⟨hj0, hjl⟩]
            rfl
          have drw : ∀ sl : List (Option AV), ∀ Q : AV → S → Prop, (∀ t g6, Rn ((m - 1) / j) t → Cs gl k g6 → CupAt g6 k → Q (.d (toD t)) ⟨sl, g6, []⟩) → Wp (callK 2 (n_law_bush f) [.g k, .d (.int (((m - 1) / j : Nat) : Int))] ⟨sl, g5, []⟩) Q := fun sl Q hQ =>
            wp_draw (P := fun x => ∃ t, x = toD t ∧ Rn ((m - 1) / j) t) hcu5 (bush_ok f ((m - 1) / j) hL hcu5.app hL60) fun x g1 hc ⟨t, hx, ht⟩ hk1 => by
              subst hx
              exact hQ t g1 ht (hcs.trans hc) hk1
          by_cases q2 : r2 = 0
          · cases bs with
            | nil =>
              have hne0 : neD (.tuple []) (.tuple []) = .d (.bool false) := by simpa using hne
              simp_arith [q2, hne0, hdiv]
              refine drw _ _ fun t g6 ht hc6 hk6 => ?_
              simp_arith [plusD, q2]
              simpa using fin t g6 ht hc6 hk6
            | cons b0 bs =>
              have hne0 : neD (.tuple (toD b0 :: bs.map toD)) (.tuple []) = .d (.bool true) := by simpa using hne
              have hl17 : bs.length + 1 + 1 ≤ 16777216 := by simpa using hl16
              have hl18 : (0 : Int) < (bs.length : Int) + 1 := by omega
              simp_arith [q2, hne0, ixD, atI, ixN, plusD, hl17, hl18]
              simpa using fin b0 g5 (hbs b0 List.mem_cons_self) hcs hcu5
          · simp_arith [q2, hdiv]
            refine drw _ _ fun t g6 ht hc6 hk6 => ?_
            simp_arith [plusD, hl16, q2]
            exact fin t g6 ht hc6 hk6
        · rintro s ⟨bs, g5, e7, e8, rfl, hlen, hbs, hcs, hcu5⟩
          have hl16 : 1 + bs.length ≤ 16777216 := by simp at hlen; omega
          simp_arith [plusD, hl16]
          refine ⟨hcs, .knot c bs, ?_, Rn.knot hcl hcu (by simp at hlen; omega) (by simp at hlen; omega) hbs ?_⟩
          · simp [toD, Bk.toDs_map]
          · have : bs.length = j := by simpa using hlen
            rw [this, Nat.mul_comm]
            have := Nat.div_mul_le_self (m - 1) j
            omega
end
end Fx

/-! ### what is a bush: level by level, and part by part -/
namespace Fx
open PySem PySem.Spec PyProof.Rows L2
local macro_rules | `(tactic| simp_arith [$ts,*]) => `(tactic| try simp -implicitDefEqProofs [↓bind_bnd, bnd_ok, bnd_xc, bnd_no, ↓wp_def, wpI_okW, wpI_ok, wpI_bnd, fSeq_eq, seqK_nx, seqK_rt, seqK_bk, seqK_ct, fIfS_eq, ifK_t, ifK_f, fCall_eq, runP_d, runP_g, runP_nx, runD_d, runD_nx, runF_l, nxP_nx, turnP_nx, turnP_ct, turnP_bk, turnP_rt, runFor_ds, runLc_ds,
      tidy_nil, cut_nil, tidy_drop, isL, S.tidy, S.pack, keeps, uses, ren, List.range, List.range.loop, List.idxOf, List.findIdx, List.findIdx.go, S.cut, fNx, fRet, fRetN, fExpr, fSet, fPar, fPar3, fAug, fUn, fBk, fCt, fPut, fFor, fIt, ivOf, fRng1_eq, fRng2_eq, rng1K_ok, rng2K_ok, fEnum, fB, fT, fAnd, fOr, fNot, fAndV, fOrV, fNotV, fIf, fChain, f1, f2, fV, fC, fNil, fCons, fTup, fLst, fStar, toD1, toDs, tru, truD,
      fN, n1, n2, p1, p2, rd, gv, gIx, isDic, cellOf, gTimes, fMt, tyOf, gIsi, tyN, subTy, S.push, S.put, S.at, tgName, tgNil, tgCons, tgTup, intsA, isND, isBF, sizeLine_eq, take_set0, drop_set0, globA, lcTurn, wipeS, noX, snocAt, tYesF, eqD_int, neD_int, lenD, minusD, gtD, ltD, leD, geD, uses_jk, ren_jk, isL_jk, unl_jk, S.frz, unl, fSl, fP, fNoP, fLc, plusD, $ts,*])
section
variable [Zz]
def lettr (z : Str) : Bool := decide (z.length = 1) && (!decide (z.cps.toList < ("a" : Str).cps.toList) && !decide (("z" : Str).cps.toList < z.cps.toList))
def isLet : PyData → Bool
  | .str z => lettr z
  | _ => false
/-- what can be asked here: texts are no longer than texts may be, no dicts -/
def ask1 : PyData → Bool
  | .dict _ => false
  | .str z => decide (z.length ≤ 16777216) && SeqAt.shaped (.str z)
  | _ => true
theorem is_letter_eq {x : PyData} (h : ask1 x = true) (gl : Glo) : f_is_letter [.d x] gl = .ok (.d (.bool (isLet x))) gl := by
  refine rwD_eq (rwD_run ?_)
  cases x with
  | str z =>
    simp only [ask1, Bool.and_eq_true, decide_eq_true_eq] at h
    have qi : ((z.length : Int) = 1) = (z.length = 1) := propext (by omega)
    by_cases q : z.length = 1
    · by_cases q2 : z.cps < (Str.ofString "a").cps
      · simp_arith [b_is_letter, h.1, isLet, lettr, q, q2]
      · simp_arith [b_is_letter, h.1, isLet, lettr, q, q2]
    · simp_arith [b_is_letter, h.1, isLet, lettr, qi, q]
  | dict _ => cases h
  | none => simp_arith [b_is_letter, isLet]
  | bool _ => simp_arith [b_is_letter, isLet]
  | int _ => simp_arith [b_is_letter, isLet]
  | list _ => simp_arith [b_is_letter, isLet]
  | tuple _ => simp_arith [b_is_letter, isLet]
def hf : PyData → Bool
  | .tuple [] => true
  | .tuple (x :: bs) => decide (1 ≤ bs.length) && decide (bs.length ≤ 6) && isLet x
  | _ => false
def kids : PyData → List PyData
  | .tuple (_ :: bs) => bs
  | _ => []
mutual
def nice : PyData → Bool
  | .dict _ => false
  | .str z => ask1 (.str z)
  | .list ds => niceA ds
  | .tuple ds => niceA ds
  | _ => true
def niceA : List PyData → Bool
  | [] => true
  | d :: ds => nice d && niceA ds
end
theorem nice_ask {x : PyData} (h : nice x = true) : ask1 x = true := by
  cases x <;> first | rfl | exact h | cases h
theorem niceA_mem : ∀ {ds : List PyData} {d : PyData}, niceA ds = true → d ∈ ds → nice d = true
  | e :: ds, d, h, hm => by
    simp only [niceA, Bool.and_eq_true] at h
    rcases List.mem_cons.mp hm with q | q
    · rw [q]; exact h.1
    · exact niceA_mem h.2 q
theorem has_form_eq {x : PyData} (h : nice x = true) (gl : Glo) : f_has_form [.d x] gl = .ok (.d (.bool (hf x))) gl := by
  refine rwD_eq (rwD_run ?_)
  cases x with
  | tuple xs =>
    cases xs with
    | nil => simp_arith [b_has_form, hf]
    | cons y bs =>
      simp only [nice, niceA, Bool.and_eq_true] at h
      have e0 : ¬ ((bs.length : Int) + 1 = 0) := by omega
      have e1 : (0 : Int) < (bs.length : Int) + 1 := by omega
      have hle := is_letter_eq (nice_ask h.1)
      have c2 : (2 ≤ (bs.length : Int) + 1) = (1 ≤ bs.length) := propext (by omega)
      have c7 : ((bs.length : Int) + 1 ≤ 7) = (bs.length ≤ 6) := propext (by omega)
      by_cases q1 : 1 ≤ bs.length
      · by_cases q2 : bs.length ≤ 6
        · simp_arith [b_has_form, hf, e0, e1, ixD, atI, ixN, plusD, callK, hle, c2, c7, q1, q2]
        · simp_arith [b_has_form, hf, e0, e1, ixD, atI, ixN, plusD, callK, hle, c2, c7, q1, q2]
      · simp_arith [b_has_form, hf, e0, e1, ixD, atI, ixN, plusD, callK, hle, c2, c7, q1]
  | dict _ => cases h
  | none => simp_arith [b_has_form, hf]
  | bool _ => simp_arith [b_has_form, hf]
  | int _ => simp_arith [b_has_form, hf]
  | list _ => simp_arith [b_has_form, hf]
  | str _ => simp_arith [b_has_form, hf]
mutual
/-- how many parts there are, or 1000 -/
def lib : Nat → PyData → Nat
  | d, .tuple [] => if 60 < d then 1000 else 1
  | d, .tuple (x :: bs) => if 60 < d then 1000 else if 1 ≤ bs.length ∧ bs.length ≤ 6 ∧ isLet x = true then (if 1 + libs (d + 1) bs < 1000 then 1 + libs (d + 1) bs else 1000) else 1000
  | _, _ => 1000
def libs : Nat → List PyData → Nat
  | _, [] => 0
  | d, b :: bs => lib d b + libs d bs
end
theorem sum_libs (d : Nat) : ∀ bs : List PyData, intsOf (bs.map fun b => PyData.int (lib d b : Nat)) = some (bs.map fun b => ((lib d b : Nat) : Int)) ∧ (bs.map fun b => ((lib d b : Nat) : Int)).sum = ((libs d bs : Nat) : Int)
  | [] => ⟨rfl, rfl⟩
  | b :: bs => by
    obtain ⟨h1, h2⟩ := sum_libs d bs
    refine ⟨by simp [intsOf, h1], ?_⟩
    simp only [List.map_cons, List.sum_cons, h2, libs]
    omega
theorem law_is_bush_eq : ∀ (f d : Nat) (v : PyData) (gl : Glo), 62 ≤ f + d → 1 ≤ f → d ≤ 61 → nice v = true → n_law_is_bush f [.d v, .d (.int (d : Nat))] gl = .ok (.d (.int (lib d v : Nat))) gl
  | 0, d, v, gl, h1, h2, h3, hn => absurd h2 (by decide)
  | f + 1, d, v, gl, h1, h2, h3, hn => by
    unfold n_law_is_bush
    refine rwD_eq (rwD_run ?_)
    cases v with
    | tuple xs =>
      have c60 : ((60 : Int) < (d : Int)) = (60 < d) := propext (by omega)
      by_cases q : 60 < d
      · cases xs <;> simp_arith [b_law_is_bush, lib, c60, q]
      · cases xs with
        | nil => simp_arith [b_law_is_bush, lib, c60, q]
        | cons x bs =>
          simp only [nice, niceA, Bool.and_eq_true] at hn
          have e0 : ¬ ((bs.length : Int) + 1 = 0) := by omega
          have e1 : (0 : Int) < (bs.length : Int) + 1 := by omega
          have c2 : (2 ≤ (bs.length : Int) + 1) = (1 ≤ bs.length) := propext (by omega)
          have c7 : ((bs.length : Int) + 1 ≤ 7) = (bs.length ≤ 6) := propext (by omega)
          by_cases q1 : 1 ≤ bs.length
          · by_cases q2 : bs.length ≤ 6
            · have ih : ∀ b ∈ bs, ∀ gl, n_law_is_bush f [.d b, .d (.int ((d : Int) + 1))] gl = .ok (.d (.int (lib (d + 1) b : Nat))) gl := fun b hb gl => law_is_bush_eq f (d + 1) b gl (by omega) (by omega) (by omega) (niceA_mem hn.2 hb)
              cases x with
              | str z =>
                have hz := nice_ask hn.1
                simp only [ask1, Bool.and_eq_true, decide_eq_true_eq] at hz
                have qi : ((z.length : Int) = 1) = (z.length = 1) := propext (by omega)
                by_cases qz : z.length = 1
                · by_cases q3 : z.cps < (Str.ofString "a").cps
                  · simp_arith [b_law_is_bush, lib, c60, q, e0, e1, c2, c7, q1, q2, ixD, atI, ixN, isLet, lettr, hz.1, qi, qz, q3]
                  · by_cases q4 : (Str.ofString "z").cps < z.cps
                    · simp_arith [b_law_is_bush, lib, c60, q, e0, e1, c2, c7, q1, q2, ixD, atI, ixN, isLet, lettr, hz.1, qi, qz, q3, q4]
                    · simp_arith [b_law_is_bush, lib, c60, q, e0, e1, c2, c7, q1, q2, ixD, atI, ixN, isLet, lettr, hz.1, qi, qz, q3, q4, plusD, fLc, fSl, fP, fNoP, slD, cutL, HT.sIx]
                      refine wp_lc1 [] (fun b => .int (lib (d + 1) b : Nat)) (fun b hb acc ha => ?_) (by omega) ?_
                      · simp_arith [plusD, callK, ih b hb, ha]
                      · have hs := sum_libs (d + 1) bs
                        simp_arith [sumD, hs.1, hs.2, min2D, plusD, lib, q, q1, q2, isLet, lettr, qz, q3, q4]
                        split <;> split <;> omega
                · simp_arith [b_law_is_bush, lib, c60, q, e0, e1, c2, c7, q1, q2, ixD, atI, ixN, isLet, lettr, hz.1, qi, qz]
              | dict _ => simp [nice] at hn
              | none => simp_arith [b_law_is_bush, lib, c60, q, e0, e1, c2, c7, q1, q2, ixD, atI, ixN, isLet]
              | bool _ => simp_arith [b_law_is_bush, lib, c60, q, e0, e1, c2, c7, q1, q2, ixD, atI, ixN, isLet]
              | int _ => simp_arith [b_law_is_bush, lib, c60, q, e0, e1, c2, c7, q1, q2, ixD, atI, ixN, isLet]
              | list _ => simp_arith [b_law_is_bush, lib, c60, q, e0, e1, c2, c7, q1, q2, ixD, atI, ixN, isLet]
              | tuple _ => simp_arith [b_law_is_bush, lib, c60, q, e0, e1, c2, c7, q1, q2, ixD, atI, ixN, isLet]
            · simp_arith [b_law_is_bush, lib, c60, q, e0, e1, c2, c7, q1, q2, ixD, atI, ixN]
          · simp_arith [b_law_is_bush, lib, c60, q, e0, e1, c2, c7, q1, ixD, atI, ixN]
    | dict _ => cases hn
    | none => simp_arith [b_law_is_bush, lib]
    | bool _ => simp_arith [b_law_is_bush, lib]
    | int _ => simp_arith [b_law_is_bush, lib]
    | list _ => simp_arith [b_law_is_bush, lib]
    | str _ => simp_arith [b_law_is_bush, lib]
end
end Fx

/-! ### is_bush: level by level -/
namespace Fx
open PySem PySem.Spec PyProof.Rows L2
local macro_rules | `(tactic| simp_arith [$ts,*]) => `(tactic| try simp -implicitDefEqProofs [↓bind_bnd, bnd_ok, bnd_xc, bnd_no, ↓wp_def, wpI_okW, wpI_ok, wpI_bnd, fSeq_eq, seqK_nx, seqK_rt, seqK_bk, seqK_ct, fIfS_eq, ifK_t, ifK_f, fCall_eq, runP_d, runP_g, runP_nx, runD_d, runD_nx, runF_l, nxP_nx, turnP_nx, turnP_ct, turnP_bk, turnP_rt, runFor_ds, runLc_ds,
      tidy_nil, cut_nil, tidy_drop, isL, S.tidy, S.pack, keeps, uses, ren, List.range, List.range.loop, List.idxOf, List.findIdx, List.findIdx.go, S.cut, fNx, fRet, fRetN, fExpr, fSet, fPar, fPar3, fAug, fUn, fBk, fCt, fPut, fFor, fIt, ivOf, fRng1_eq, fRng2_eq, rng1K_ok, rng2K_ok, fEnum, fB, fT, fAnd, fOr, fNot, fAndV, fOrV, fNotV, fIf, fChain, f1, f2, fV, fC, fNil, fCons, fTup, fLst, fStar, toD1, toDs, tru, truD,
      fN, n1, n2, p1, p2, rd, gv, gIx, isDic, cellOf, gTimes, fMt, tyOf, gIsi, tyN, subTy, S.push, S.put, S.at, tgName, tgNil, tgCons, tgTup, intsA, isND, isBF, sizeLine_eq, take_set0, drop_set0, globA, lcTurn, wipeS, noX, snocAt, tYesF, eqD_int, neD_int, lenD, minusD, gtD, ltD, leD, geD, uses_jk, ren_jk, isL_jk, unl_jk, S.frz, unl, fSl, fP, fNoP, fLc, plusD, $ts,*])
section
variable [Zz]
def isB : Nat → Nat → List PyData → Bool
  | 0, _, level => level.isEmpty
  | n + 1, p, level => if 400 < p + level.length || !(level.all hf) then false else isB n (p + level.length) (level.flatMap kids)
theorem kids_len {x : PyData} (h : hf x = true) : (kids x).length ≤ 6 := by
  cases x with
  | tuple xs =>
    cases xs with
    | nil => simp [kids]
    | cons y bs =>
      simp only [hf, Bool.and_eq_true, decide_eq_true_eq] at h
      exact h.1.2
  | _ => simp [kids]
theorem kids_nice {x : PyData} (h : nice x = true) : niceA (kids x) = true := by
  cases x with
  | tuple xs =>
    cases xs with
    | nil => rfl
    | cons y bs =>
      simp only [nice, niceA, Bool.and_eq_true] at h
      exact h.2
  | _ => rfl
theorem niceA_app : ∀ {a b : List PyData}, niceA (a ++ b) = (niceA a && niceA b)
  | [], b => by simp [niceA]
  | x :: a, b => by simp [niceA, niceA_app, Bool.and_assoc]
theorem kids_all : ∀ {level : List PyData}, level.all hf = true → niceA level = true → (level.flatMap kids).length ≤ 6 * level.length ∧ niceA (level.flatMap kids) = true
  | [], _, _ => ⟨by simp, rfl⟩
  | x :: l, h, hn => by
    simp only [List.all_cons, Bool.and_eq_true] at h
    simp only [niceA, Bool.and_eq_true] at hn
    obtain ⟨h1, h2⟩ := kids_all h.2 hn.2
    have := kids_len h.1
    refine ⟨by simp only [List.flatMap_cons, List.length_append, List.length_cons]; omega, ?_⟩
    rw [List.flatMap_cons, niceA_app, kids_nice hn.1, h2]; rfl
theorem bools_map (f : PyData → Bool) : ∀ l : List PyData, boolsOf (l.map fun x => PyData.bool (f x)) = some (l.map f)
  | [] => rfl
  | x :: l => by simp [boolsOf, bools_map f l]
theorem is_bush_eq {v : PyData} (hv : nice v = true) (gl : Glo) : f_is_bush [.d v] gl = .ok (.d (.bool (isB 61 0 [v]))) gl := by
  refine rwD_eq (rwD_run ?_)
  simp_arith [b_is_bush, plusD, rngOk_int (j := 61) (by decide) (by decide)]
  refine wp_forD (fun ds s => ∃ (p : Nat) (level : List PyData) (e3 : Option AV), s = ⟨[some (.d v), some (.d (.int (p : Nat))), some (.l 0), e3, none, none], gl, [some (.lst level)]⟩ ∧
    niceA level = true ∧ level.length ≤ 2400 ∧ p ≤ 400 ∧ isB ds.length p level = isB 61 0 [v]) ?_ ?_ _ _ ⟨0, [v], none, rfl, by simp [niceA, hv], by simp, by decide, by simp [rngL]⟩
  · rintro d ds s ⟨p, level, e3, rfl, hn, hlen, hp, hB⟩
    refine ⟨_, rfl, ?_⟩
    have hB : isB (ds.length + 1) p level = isB 61 0 [v] := hB
    rw [isB] at hB
    have c400 : ((400 : Int) < (p : Int) + (level.length : Int)) = (400 < p + level.length) := propext (by omega)
    by_cases q : 400 < p + level.length
    · rw [if_pos (by simp [q])] at hB
      simp_arith [iplusD, c400, q, hB.symm]
    · have hl4 : level.length ≤ 400 := by omega
      have hall := bools_map hf level
      simp_arith [iplusD, c400, q, fLc, S.frz, unl]
      refine wp_lc1 [none] (fun x => .bool (hf x)) (fun x hx acc ha => ?_) (by omega) ?_
      · have := has_form_eq (niceA_mem hn hx)
        simp_arith [callK, this, ha]
      · by_cases qa : level.all hf = true
        · rw [if_neg (by simp [q, qa])] at hB
          obtain ⟨k1, k2⟩ := kids_all qa hn
          have k3 : (level.flatMap kids).length ≤ 16777216 := by omega
          simp_arith [allD, hall, qa, fLc2]
          refine wp_lc [none] kids (fun x hx acc ha => ?_) (by unfold sizeLine; exact k3) ?_
          · have hxt : ∃ y bs, x = .tuple [] ∨ x = .tuple (y :: bs) := by
              have hfx := List.all_eq_true.mp qa x hx
              cases x with
              | tuple xs =>
                cases xs with
                | nil => exact ⟨.none, [], .inl rfl⟩
                | cons y bs => exact ⟨y, bs, .inr rfl⟩
              | _ => cases hfx
            have hin : ∀ (bs acc : List PyData) (a b c d e f : Option AV), acc.length + bs.length ≤ sizeLine → lcD (lcTurn 1 (tgName 5) tYesF (fV 5) [5]) bs ⟨[a, b, c, d, e, f], gl, [none, some (.lst acc)]⟩ = .ok () ⟨[a, b, c, d, e, f], gl, [none, some (.lst (acc ++ bs))]⟩ := fun bs acc a b c d e f hl => by
              have := lcD_eq2 (turn := lcTurn 1 (tgName 5) tYesF (fV 5) [5]) (sl := [a, b, c, d, e, f]) (gl := gl) (lo := [none]) (g := fun d => [d]) bs acc (fun x _ acc ha => by
                have ha : acc.length < 16777216 := by have ha : acc.length + 1 ≤ sizeLine := ha; unfold sizeLine at ha; omega
                simp_arith [ha]) (by rw [flatMap_one, List.map_id']; exact hl)
              rw [flatMap_one, List.map_id'] at this
              exact this
            obtain ⟨y, bs, rfl | rfl⟩ := hxt
            · simp_arith [lcTurn2, fSl, fP, fNoP, slD, cutL, HT.sIx, backTo', kids, lcD]
            · have hl : acc.length + bs.length ≤ sizeLine := ha
              simp_arith [lcTurn2, fSl, fP, fNoP, slD, cutL, HT.sIx, backTo', kids, hin bs acc _ _ _ _ _ _ hl]
          · simp_arith []
            exact ⟨p + level.length, level.flatMap kids, by simp, k2, by omega, by omega, hB⟩
        · have qa : level.all hf = false := by simpa using qa
          rw [if_pos (by simp [qa])] at hB
          simp_arith [allD, hall, qa, hB.symm]
  · rintro s ⟨p, level, e3, rfl, hn, hlen, hp, hB⟩
    have hB : level.isEmpty = isB 61 0 [v] := hB
    simp_arith [hB]
/-! the two are one -/
theorem lib_pos : ∀ (d : Nat) (v : PyData), 1 ≤ lib d v
  | d, .tuple [] => by unfold lib; split <;> omega
  | d, .tuple (x :: bs) => by unfold lib; split; · omega
                              split; · split <;> omega
                              omega
  | d, .none => by simp [lib]
  | d, .bool _ => by simp [lib]
  | d, .int _ => by simp [lib]
  | d, .str _ => by simp [lib]
  | d, .list _ => by simp [lib]
  | d, .dict _ => by simp [lib]
theorem libs_pos (d : Nat) : ∀ level : List PyData, level.length ≤ libs d level
  | [] => by simp [libs]
  | v :: l => by
    have := lib_pos d v
    have := libs_pos d l
    simp only [libs, List.length_cons]
    omega
theorem libs_app (d : Nat) : ∀ a b : List PyData, libs d (a ++ b) = libs d a + libs d b
  | [], b => by simp [libs]
  | x :: a, b => by simp [libs, libs_app d a b]; omega
/-- of a form: itself and its branches -/
theorem lib_form {d : Nat} {v : PyData} (hd : d ≤ 60) (h : hf v = true) : lib d v = (if 1 + libs (d + 1) (kids v) < 1000 then 1 + libs (d + 1) (kids v) else 1000) := by
  cases v with
  | tuple xs =>
    cases xs with
    | nil => simp [lib, kids, libs]; omega
    | cons y bs =>
      simp only [hf, Bool.and_eq_true, decide_eq_true_eq] at h
      unfold lib
      rw [if_neg (by omega), if_pos ⟨h.1.1, h.1.2, h.2⟩]
      rfl
  | _ => cases h
theorem lib_noform {d : Nat} {v : PyData} (h : hf v = false) : lib d v = 1000 := by
  cases v with
  | tuple xs =>
    cases xs with
    | nil => cases h
    | cons y bs =>
      unfold lib
      split
      · rfl
      · rw [if_neg]
        rintro ⟨h1, h2, h3⟩
        simp [hf, h1, h2, h3] at h
  | _ => rfl
theorem libs_le {d : Nat} (hd : d ≤ 60) : ∀ {level : List PyData} {c : Nat}, level.all hf = true → c ≤ 400 → (libs d level ≤ c ↔ level.length + libs (d + 1) (level.flatMap kids) ≤ c)
  | [], c, _, _ => by simp [libs]
  | v :: l, c, h, hc => by
    simp only [List.all_cons, Bool.and_eq_true] at h
    have e := lib_form hd h.1
    simp only [libs, List.flatMap_cons, libs_app, List.length_cons]
    by_cases q : 1 + libs (d + 1) (kids v) < 1000
    · rw [if_pos q] at e
      rw [e]
      by_cases q2 : 1 + libs (d + 1) (kids v) ≤ c
      · have ih := libs_le hd (level := l) (c := c - (1 + libs (d + 1) (kids v))) h.2 (by omega)
        omega
      · omega
    · rw [if_neg q] at e
      rw [e]
      omega
theorem isB_eq : ∀ (n d p : Nat) (level : List PyData), d + n = 61 → p ≤ 400 → isB n p level = decide (p + libs d level ≤ 400)
  | 0, d, p, level, hd, hp => by
    unfold isB
    cases level with
    | nil => simp [libs, hp]
    | cons v l =>
      have : lib d v = 1000 := by
        have hd : d = 61 := by omega
        subst hd
        cases v with
        | tuple xs => cases xs <;> simp [lib]
        | _ => simp [lib]
      simp [libs, this]; omega
  | n + 1, d, p, level, hd, hp => by
    unfold isB
    by_cases q : 400 < p + level.length
    · have := libs_pos d level
      rw [if_pos (by simp [q])]
      exact (decide_eq_false (by omega)).symm
    · by_cases qa : level.all hf = true
      · rw [if_neg (by simp [q, qa]), isB_eq n (d + 1) _ _ (by omega) (by omega)]
        have := libs_le (d := d) (by omega) (level := level) (c := 400 - p) qa (by omega)
        exact decide_eq_decide.mpr (by omega)
      · have qa : level.all hf = false := by simpa using qa
        rw [if_pos (by simp [qa])]
        obtain ⟨v, hv, hf'⟩ : ∃ v ∈ level, hf v = false := by simpa using qa
        have hle : ∀ l : List PyData, v ∈ l → 1000 ≤ libs d l := fun l => by
          induction l with
          | nil => intro h; cases h
          | cons w l ih =>
            intro h
            simp only [libs]
            rcases List.mem_cons.mp h with e | e
            · rw [← e, lib_noform hf']; omega
            · have := ih e; omega
        have := hle level hv
        exact (decide_eq_false (by omega)).symm
theorem is_bush_lib {v : PyData} (hv : nice v = true) (gl : Glo) : f_is_bush [.d v] gl = .ok (.d (.bool (decide (lib 0 v ≤ 400)))) gl := by
  rw [is_bush_eq hv, isB_eq 61 0 0 [v] rfl (by decide)]
  simp [libs]
theorem law_is_bush_lib {v : PyData} (hv : nice v = true) (gl : Glo) : f_law_is_bush [.d v, .d (.int 0)] gl = .ok (.d (.int (lib 0 v : Nat))) gl := law_is_bush_eq 64 0 v gl (by decide) (by decide) (by decide) hv
end
end Fx

/-! ### things put in at roads -/
namespace Fx
open PySem PySem.Spec PyProof.Rows L2
local macro_rules | `(tactic| simp_arith [$ts,*]) => `(tactic| try simp -implicitDefEqProofs [↓bind_bnd, bnd_ok, bnd_xc, bnd_no, ↓wp_def, wpI_okW, wpI_ok, wpI_bnd, fSeq_eq, seqK_nx, seqK_rt, seqK_bk, seqK_ct, fIfS_eq, ifK_t, ifK_f, fCall_eq, runP_d, runP_g, runP_nx, runD_d, runD_nx, runF_l, nxP_nx, turnP_nx, turnP_ct, turnP_bk, turnP_rt, runFor_ds, runLc_ds,
      tidy_nil, cut_nil, tidy_drop, isL, S.tidy, S.pack, keeps, uses, ren, List.range, List.range.loop, List.idxOf, List.findIdx, List.findIdx.go, S.cut, fNx, fRet, fRetN, fExpr, fSet, fPar, fPar3, fAug, fUn, fBk, fCt, fPut, fFor, fIt, ivOf, fRng1_eq, fRng2_eq, rng1K_ok, rng2K_ok, fEnum, fB, fT, fAnd, fOr, fNot, fAndV, fOrV, fNotV, fIf, fChain, f1, f2, fV, fC, fNil, fCons, fTup, fLst, fStar, toD1, toDs, tru, truD,
      fN, n1, n2, p1, p2, rd, gv, gIx, isDic, cellOf, gTimes, fMt, tyOf, gIsi, tyN, subTy, S.push, S.put, S.at, tgName, tgNil, tgCons, tgTup, intsA, isND, isBF, sizeLine_eq, take_set0, drop_set0, globA, lcTurn, wipeS, noX, snocAt, tYesF, eqD_int, neD_int, lenD, minusD, gtD, ltD, leD, geD, uses_jk, ren_jk, isL_jk, unl_jk, S.frz, unl, fSl, fP, fNoP, fLc, plusD, $ts,*])
open Bk (Bu toD okB dep knots tips enc Rn inB inL)
section
variable [Zz]
def putT : Bu → List Int → PyData → PyData
  | _, [], x => x
  | .tip, _ :: _, _ => .tuple []
  | .knot c bs, i :: r, x => .tuple (.str ⟨#[c]⟩ :: (bs.map toD).set i.toNat (putT (bs.getD i.toNat .tip) r x))
theorem eqD_enc {r : List Int} : eqD (enc r) (.tuple []) = .d (.bool r.isEmpty) := by
  unfold eqD
  rw [Bk.shaped_enc, Bk.shaped_tup0, Bk.eqv_enc_nil]
  rfl
theorem sIx_n {n d k : Nat} : HT.sIx n d (some (k : Int)) = min k n := by
  unfold HT.sIx
  simp
  omega
theorem okBs_get : ∀ {bs : List Bu} {j : Nat} {b : Bu}, Bk.okBs bs = true → bs[j]? = some b → okB b = true
  | [], _, _, _, h => by simp at h
  | x :: bs, 0, b, ho, h => by
    simp only [Bk.okBs, Bool.and_eq_true] at ho
    have : x = b := by simpa using h
    rw [← this]; exact ho.1
  | x :: bs, j + 1, b, ho, h => by
    simp only [Bk.okBs, Bool.and_eq_true] at ho
    exact okBs_get ho.2 (by simpa using h)
theorem okB_knot {c : Nat} {bs : List Bu} (h : okB (.knot c bs) = true) : 97 ≤ c ∧ c ≤ 122 ∧ 1 ≤ bs.length ∧ bs.length ≤ 6 ∧ Bk.okBs bs = true := by
  simpa [okB, Bool.and_eq_true, and_assoc] using h
theorem put_eq : ∀ (r : List Int) (f : Nat) (t : Bu) (x : PyData) (gl : Glo), r.length < f → inB t r → okB t = true → n_law_put_v1 f [.d (toD t), .d (enc r), .d x] gl = .ok (.d (putT t r x)) gl
  | _, 0, t, x, gl, hf, _, _ => absurd hf (Nat.not_lt_zero _)
  | [], f + 1, t, x, gl, hf, _, _ => by
    unfold n_law_put_v1
    refine rwD_eq (rwD_run ?_)
    simp_arith [b_law_put_v1, eqD_enc, putT]
  | i :: r, f + 1, .tip, x, gl, hf, hi, _ => by simp [inB] at hi
  | i :: r, f + 1, .knot c bs, x, gl, hf, hi, ho => by
    obtain ⟨hi0, hL⟩ := hi
    obtain ⟨b, hb, hin⟩ := Bk.inL_get hL
    obtain ⟨j, rfl⟩ : ∃ j : Nat, i = (j : Int) := ⟨i.toNat, by omega⟩
    obtain ⟨-, -, hl1, hl6, hos⟩ := okB_knot ho
    rw [Int.toNat_natCast] at hb
    have hj : j < bs.length := (List.getElem?_eq_some_iff.mp hb).1
    have ih := fun gl => put_eq r f b x gl (by simp at hf; omega) hin (okBs_get hos hb)
    have e1 : (j : Int) + 1 = ((j + 1 : Nat) : Int) := by omega
    have e2 : (j : Int) + 1 + 1 = ((j + 2 : Nat) : Int) := by omega
    have hd : toD (.knot c bs) = .tuple (.str ⟨#[c]⟩ :: bs.map toD) := by rw [toD, Bk.toDs_map]
    have s1 : slD none (some ((j : Int) + 1)) (.tuple (.str ⟨#[c]⟩ :: bs.map toD)) = .d (.tuple (.str ⟨#[c]⟩ :: (bs.map toD).take j)) := by
      rw [e1]; simp only [slD, cutL, sIx_n]
      simp [HT.sIx]
    have s2 : slD (some ((j : Int) + 1 + 1)) none (.tuple (.str ⟨#[c]⟩ :: bs.map toD)) = .d (.tuple ((bs.map toD).drop (j + 1))) := by
      rw [e2]; simp only [slD, cutL, sIx_n]
      simp [HT.sIx]
      have hmn : min (j + 2) (bs.length + 1) = j + 2 := by omega
      rw [hmn, List.drop_succ_cons, List.take_of_length_le (by simp)]
    have s3 : slD (some 1) none (enc ((j : Int) :: r)) = .d (enc r) := by
      show slD (some ((1 : Nat) : Int)) none (enc ((j : Int) :: r)) = _
      simp only [slD, cutL, enc, sIx_n]
      simp [HT.sIx, List.take_of_length_le]
    have i1 : ixD (.tuple (.str ⟨#[c]⟩ :: bs.map toD)) (.int ((j : Int) + 1)) = .d (toD b) := by
      have h0 : (0 : Int) ≤ (j : Int) + 1 := by omega
      have h1 : (j : Int) + 1 < (((PyData.str ⟨#[c]⟩ :: bs.map toD).length : Nat) : Int) := by simp; omega
      have h2 : (PyData.str ⟨#[c]⟩ :: bs.map toD)[((j : Int) + 1).toNat]? = some (toD b) := by
        have : ((j : Int) + 1).toNat = j + 1 := by omega
        rw [this]
        simp [hb]
      unfold ixD atI ixN
      dsimp only
      rw [if_pos h0, if_pos h1]
      show (match (PyData.str ⟨#[c]⟩ :: bs.map toD)[((j : Int) + 1).toNat]? with | some d => Rs.d d | none => Rs.no) = _
      rw [h2]
    have i2 : ixD (enc ((j : Int) :: r)) (.int 0) = .d (.int (j : Int)) := by simp [ixD, enc, atI, ixN]
    unfold n_law_put_v1
    refine rwD_eq (rwD_run ?_)
    rw [hd]
    have hm1 : min j bs.length ≤ 16777214 := by omega
    have hm2 : j ≤ 16777214 := by omega
    have hm3 : min j bs.length + 1 + 1 + (bs.length - (j + 1)) ≤ 16777216 := by omega
    have hg : bs[j]?.getD Bu.tip = b := by rw [hb]; rfl
    simp_arith [b_law_put_v1, eqD_enc, i2, plusD, fSl, fP, fNoP, s1, s2, s3, i1, callK, ih, putT, hm1, hm2, hm3]
    rw [hg, List.set_eq_take_append_cons_drop, if_pos (by simpa using hj)]
/-! parts -/
theorem drB_of {b : Bu} (h : Bk.Dr b) : drB b = true := by
  unfold drB
  rw [h.ok, decide_eq_true h.dep, decide_eq_true h.few]; rfl
def kvsT (t : Bu) : List (PyData × PyData) := (Bk.vis t).map fun p => (enc p.1, toD p.2)
theorem parts_eq {t : Bu} (h : Bk.Dr t) (gl : Glo) : f_law_parts [.d (toD t)] gl = .ok (.f (.dit (kvsT t))) gl := by
  have hf : Bk.fzA ((kvsT t).map (·.2)) = true := fzA_of fun d hd => by
    unfold kvsT at hd
    rw [List.map_map] at hd
    obtain ⟨p, _, rfl⟩ := List.mem_map.mp hd
    exact Bk.fz_toD p.2
  have e : ((visD (toD t)).map fun p => (enc p.1, p.2)) = kvsT t := by
    rw [visD_toD, List.map_map]; rfl
  unfold f_law_parts newF datas datas partsC
  simp [buOf_toD, drB_of h, e, hf]
theorem intKeys_kvs (t : Bu) : intKeys (kvsT t) = some ((Bk.vis t).map (·.1)) := by
  unfold kvsT
  have key : ∀ l : List (List Int × Bu), intKeys (l.map fun p => (enc p.1, toD p.2)) = some (l.map (·.1)) := fun l => by
    induction l with
    | nil => rfl
    | cons p l ih =>
      have hi : ∀ r : List Int, intsOf (r.map PyData.int) = some r := fun r => by
        induction r with
        | nil => rfl
        | cons i r ih => simp [intsOf, ih]
      simp only [List.map_cons]
      show (match intsOf (p.1.map PyData.int), intKeys (l.map fun p => (enc p.1, toD p.2)) with | some r, some rs => some (r :: rs) | _, _ => none) = _
      rw [hi, ih]
  exact key _
theorem vis_head (t : Bu) : ∃ l, (Bk.vis t).map (·.1) = [] :: l := by
  cases t with
  | tip => exact ⟨[], by simp [Bk.vis]⟩
  | knot c bs => exact ⟨_, by simp [Bk.vis]; rfl⟩
/-- the roads of a bush in order -/
def rdsT (t : Bu) : List (List Int) := (Bk.pre t).map (·.1)
theorem isort_vis (t : Bu) : isortR ((Bk.vis t).map (·.1)) = rdsT t := by rw [isortR_eq]; exact Bk.sort_vis t
/-- sorted(d), where d is a cell -/
theorem sorted_eq {t : Bu} {x : AV} {s : S} (h : cellOf s x = some (.dit (kvsT t))) : gSorted [x] s = .ok (.l s.lo.length) (s.push (.lst ((rdsT t).map enc))) := by
  obtain ⟨l, hl⟩ := vis_head t
  unfold gSorted
  dsimp only
  rw [h]
  dsimp only
  rw [intKeys_kvs, hl]
  dsimp only
  rw [if_pos rfl, ← hl, isort_vis]
/-- what stands at a road -/
theorem find_kvs {t : Bu} {r : List Int} {p : Bu} (h : (r, p) ∈ Bk.vis t) : findD (kvsT t) (enc r) = some (toD p) := by
  have hn := Bk.nodup_vis t
  unfold kvsT
  have hk : ∀ r : List Int, keysOf (r.map PyData.int) = some (r.map Sum.inl) := fun r => by
    induction r with
    | nil => rfl
    | cons i r ih => simp [keysOf, keyOf, ih]
  have hinj : ∀ a b : List Int, ((a.map Sum.inl : List Key) = b.map Sum.inl) ↔ a = b := fun a => by
    induction a with
    | nil => intro b; cases b <;> simp
    | cons i a ih => intro b; cases b with
      | nil => simp
      | cons j b => simp [ih]
  have key : ∀ l : List (List Int × Bu), (l.map (·.1)).Nodup → (r, p) ∈ l → findD (l.map fun p => (enc p.1, toD p.2)) (enc r) = some (toD p) := fun l => by
    induction l with
    | nil => intro _ h; cases h
    | cons q l ih =>
      intro hn hm
      simp only [List.map_cons, List.nodup_cons] at hn
      unfold findD at ih ⊢
      simp only [List.map_cons, List.find?_cons]
      simp only [enc, hk]
      rw [show decide ((q.1.map Sum.inl : List Key) = r.map Sum.inl) = decide (q.1 = r) from decide_eq_decide.mpr (hinj _ _)]
      rcases List.mem_cons.mp hm with z | z
      · subst z
        simp
      · have hne : ¬ q.1 = r := fun z2 => hn.1 (by rw [z2]; exact List.mem_map.mpr ⟨_, z, rfl⟩)
        rw [decide_eq_false hne]
        have := ih hn.2 z
        simp only [enc, hk] at this
        exact this
  exact key _ hn h
end
end Fx

/-! ### tips, knots, depths -/
namespace Fx
open PySem PySem.Spec PyProof.Rows L2
local macro_rules | `(tactic| simp_arith [$ts,*]) => `(tactic| try simp -implicitDefEqProofs [↓bind_bnd, bnd_ok, bnd_xc, bnd_no, ↓wp_def, wpI_okW, wpI_ok, wpI_bnd, fSeq_eq, seqK_nx, seqK_rt, seqK_bk, seqK_ct, fIfS_eq, ifK_t, ifK_f, fCall_eq, runP_d, runP_g, runP_nx, runD_d, runD_nx, runF_l, nxP_nx, turnP_nx, turnP_ct, turnP_bk, turnP_rt, runFor_ds, runLc_ds,
      tidy_nil, cut_nil, tidy_drop, isL, S.tidy, S.pack, keeps, uses, ren, List.range, List.range.loop, List.idxOf, List.findIdx, List.findIdx.go, S.cut, fNx, fRet, fRetN, fExpr, fSet, fPar, fPar3, fAug, fUn, fBk, fCt, fPut, fFor, fIt, ivOf, fRng1_eq, fRng2_eq, rng1K_ok, rng2K_ok, fEnum, fB, fT, fAnd, fOr, fNot, fAndV, fOrV, fNotV, fIf, fChain, f1, f2, fV, fC, fNil, fCons, fTup, fLst, fStar, toD1, toDs, tru, truD,
      fN, n1, n2, p1, p2, rd, gv, gIx, isDic, cellOf, gTimes, fMt, tyOf, gIsi, tyN, subTy, S.push, S.put, S.at, tgName, tgNil, tgCons, tgTup, intsA, isND, isBF, sizeLine_eq, take_set0, drop_set0, globA, lcTurn, wipeS, noX, snocAt, tYesF, eqD_int, neD_int, lenD, minusD, gtD, ltD, leD, geD, uses_jk, ren_jk, isL_jk, unl_jk, S.frz, unl, fSl, fP, fNoP, fLc, plusD, $ts,*])
open Bk (Bu toD okB dep knots tips enc Rn inB inL)
section
variable [Zz]
theorem ask_kvs {t : Bu} {r : List Int} {p : Bu} (h : (r, p) ∈ Bk.vis t) : ask (.dit (kvsT t)) (enc r) = some (some (toD p)) := by
  have hk : ∀ r : List Int, keysOf (r.map PyData.int) = some (r.map Sum.inl) := fun r => by
    induction r with
    | nil => rfl
    | cons i r ih => simp [keysOf, keyOf, ih]
  have := find_kvs h
  unfold ask
  simp only [enc, hk] at this ⊢
  rw [this]
theorem eqD_tip {p : Bu} (h : okB p = true) (hd : dep p ≤ 60) : eqD (toD p) (.tuple []) = .d (.bool (Bk.isTip p)) := by
  unfold eqD
  rw [Bk.shaped_toD h hd, Bk.shaped_tup0, Bk.isTip_sound]
  rfl
theorem neD_tip {p : Bu} (h : okB p = true) (hd : dep p ≤ 60) : neD (toD p) (.tuple []) = .d (.bool (!Bk.isTip p)) := by
  unfold neD
  rw [Bk.shaped_toD h hd, Bk.shaped_tup0, Bk.isTip_sound]
  rfl
mutual
theorem vis_ok : ∀ (t : Bu) (r : List Int) (p : Bu), (r, p) ∈ Bk.vis t → okB t = true → okB p = true ∧ dep p ≤ dep t ∧ inB t r ∧ r.length ≤ dep t
  | .tip, r, p, h, ho => by
    simp only [Bk.vis, List.mem_cons, List.not_mem_nil, or_false, Prod.mk.injEq] at h
    obtain ⟨rfl, rfl⟩ := h
    exact ⟨ho, Nat.le_refl _, by simp [inB], Nat.zero_le _⟩
  | .knot c bs, r, p, h, ho => by
    simp only [Bk.vis, List.mem_cons, Prod.mk.injEq] at h
    rcases h with ⟨rfl, rfl⟩ | h
    · exact ⟨ho, Nat.le_refl _, by simp [inB], Nat.zero_le _⟩
    · obtain ⟨-, -, -, -, hos⟩ := okB_knot ho
      obtain ⟨j, r', rfl, h1, h2, h3, h4⟩ := visL_ok 0 bs r p h hos
      refine ⟨h1, by simp only [dep]; omega, ⟨by omega, ?_⟩, by simp only [List.length_cons, dep]; omega⟩
      simpa using h3
theorem visL_ok : ∀ (i : Nat) (bs : List Bu) (r : List Int) (p : Bu), (r, p) ∈ Bk.visL i bs → Bk.okBs bs = true → ∃ (j : Nat) (r' : List Int), r = ((i + j : Nat) : Int) :: r' ∧ okB p = true ∧ dep p ≤ Bk.deps bs ∧ inL bs j r' ∧ r'.length ≤ Bk.deps bs
  | _, [], r, p, h, _ => by simp [Bk.visL] at h
  | i, b :: bs, r, p, h, ho => by
    simp only [Bk.okBs, Bool.and_eq_true] at ho
    simp only [Bk.visL, List.mem_append, List.mem_map] at h
    rcases h with h | ⟨⟨r', p'⟩, h, e⟩
    · obtain ⟨j, r', rfl, h1, h2, h3, h4⟩ := visL_ok (i + 1) bs r p h ho.2
      refine ⟨j + 1, r', by rw [show i + 1 + j = i + (j + 1) by omega], h1, by simp only [Bk.deps]; omega, by simpa [inL] using h3, by simp only [Bk.deps]; omega⟩
    · simp only [Bk.at1, Prod.mk.injEq] at e
      obtain ⟨rfl, rfl⟩ := e
      obtain ⟨h1, h2, h3, h4⟩ := vis_ok b r' p' h ho.1
      exact ⟨0, r', rfl, h1, by simp only [Bk.deps]; omega, by simpa [inL] using h3, by simp only [Bk.deps]; omega⟩
end
/-- the tips' roads -/
theorem tips_flat (t : Bu) (g : PyData → List PyData) (hg : ∀ r p, (r, p) ∈ Bk.pre t → g (enc r) = if Bk.isTip p = true then [enc r] else []) : ((rdsT t).map enc).flatMap g = (Bk.tr t).map enc := by
  rw [← Bk.pre_tips]
  unfold rdsT
  have key : ∀ l : List (List Int × Bu), (∀ r p, (r, p) ∈ l → g (enc r) = if Bk.isTip p = true then [enc r] else []) → ((l.map (·.1)).map enc).flatMap g = ((l.filter (fun p => Bk.isTip p.2)).map (·.1)).map enc := fun l => by
    induction l with
    | nil => intro _; rfl
    | cons q l ih =>
      intro h
      have h1 := h q.1 q.2 List.mem_cons_self
      have h2 := ih fun r p hm => h r p (List.mem_cons_of_mem _ hm)
      simp only [List.map_cons, List.flatMap_cons, h2, h1, List.filter_cons]
      by_cases z : Bk.isTip q.2 = true <;> simp [z]
  exact key _ hg
def tipG (t : Bu) (d : PyData) : List PyData := match findD (kvsT t) d with
  | some p => if PyData.eqv p (.tuple []) then [d] else []
  | none => []
theorem tipG_eq {t : Bu} {r : List Int} {p : Bu} (h : (r, p) ∈ Bk.vis t) : tipG t (enc r) = if Bk.isTip p = true then [enc r] else [] := by
  unfold tipG
  rw [find_kvs h]
  dsimp only
  rw [Bk.isTip_sound]
theorem tips_eq {t : Bu} (h : Bk.Dr t) (gl : Glo) : f_law_tips [.d (toD t)] gl = .ok (.f (.lst ((Bk.tr t).map enc))) gl := by
  refine rwF_eq (rwF_run ?_)
  have hp := parts_eq h
  have hlen : (rdsT t).length ≤ 1000 := by unfold rdsT; rw [List.length_map, Bk.pre_len]; exact h.few
  simp_arith [b_law_tips, callK, hp, fLc]
  rw [sorted_eq (t := t) rfl]
  simp_arith [S.frz, unl]
  have hfl := tips_flat t (tipG t) fun r p hm => tipG_eq ((Bk.vis_perm t).mem_iff.mpr hm)
  have htr : ((Bk.tr t).map enc).length ≤ 16777216 := by rw [List.length_map, Bk.tr_len]; have := h.few; omega
  refine wp_lc [some (.dit (kvsT t)), none] (tipG t) (fun d hd acc ha => ?_) (by rw [hfl]; unfold sizeLine; exact htr) ?_
  · obtain ⟨r, hr, rfl⟩ := List.mem_map.mp hd
    obtain ⟨⟨r', p⟩, hm, rfl⟩ := List.mem_map.mp hr
    have hv := (Bk.vis_perm t).mem_iff.mpr hm
    obtain ⟨o1, o2, o3, o4⟩ := vis_ok t r' p hv h.ok
    have ha2 := ask_kvs hv
    have he := eqD_tip o1 (Nat.le_trans o2 h.dep)
    rw [tipG_eq hv] at ha ⊢
    by_cases z : Bk.isTip p = true
    · have ha : acc.length < 16777216 := by simp [z] at ha; unfold sizeLine at ha; omega
      simp_arith [gGet, ha2, he, z, ha]
    · simp_arith [gGet, ha2, he, z, backTo']
  · rw [hfl]
    simp_arith []
theorem depths_eq {t : Bu} (h : Bk.Dr t) (gl : Glo) : f_law_depths [.d (toD t)] gl = .ok (.f (.lst ((Bk.tr t).map fun r => PyData.int (r.length : Nat)))) gl := by
  refine rwF_eq (rwF_run ?_)
  have hp := tips_eq h
  have htr : (Bk.tr t).length ≤ 16777216 := by rw [Bk.tr_len]; have := h.few; omega
  simp_arith [b_law_depths, callK, hp, fLc, S.frz, unl]
  have hm : ((Bk.tr t).map enc).map (fun d => PyData.int (match d with | .tuple xs => (xs.length : Nat) | _ => 0)) = (Bk.tr t).map fun r => PyData.int (r.length : Nat) := by
    rw [List.map_map]
    refine List.map_congr_left fun r _ => ?_
    simp [enc]
  refine wp_lc1 [none] (fun d => PyData.int (match d with | .tuple xs => (xs.length : Nat) | _ => 0)) (fun d hd acc ha => ?_) (by simpa using htr) ?_
  · obtain ⟨r, hr, rfl⟩ := List.mem_map.mp hd
    simp_arith [enc, ha]
  · rw [hm]
    simp_arith []
theorem knots_ok {t : Bu} (h : Bk.Dr t) : ∃ n : Nat, n ≤ 1000 ∧ ∀ gl : Glo, f_law_knots [.d (toD t)] gl = .ok (.d (.int (n : Nat))) gl := by
  have hp := parts_eq h
  have key : ∀ l : List PyData, (l.flatMap fun p => if PyData.eqv p (.tuple []) then [] else [p]).length ≤ l.length := fun l => by
    induction l with
    | nil => simp
    | cons p l ih =>
      simp only [List.flatMap_cons, List.length_append, List.length_cons]
      have h1 : (if PyData.eqv p (.tuple []) = true then [] else [p]).length ≤ 1 := by split <;> simp
      omega
  refine ⟨(((kvsT t).map (·.2)).flatMap fun p => if PyData.eqv p (.tuple []) then [] else [p]).length, ?_, fun gl => rwD_eq (rwD_run ?_)⟩
  · refine Nat.le_trans (key _) ?_
    unfold kvsT
    rw [List.length_map, List.length_map, Bk.vis_len]
    exact h.few
  · simp_arith [b_law_knots, callK, hp, fLc, fVals, S.frz, unl]
    have hb : ((kvsT t).map (·.2)).length ≤ 1000 := by
      unfold kvsT
      rw [List.length_map, List.length_map, Bk.vis_len]
      exact h.few
    refine wp_lc [some (.dit (kvsT t)), none] (fun p => if PyData.eqv p (.tuple []) then [] else [p]) (fun d hd acc ha => ?_) (by unfold sizeLine; exact Nat.le_trans (key _) (by omega)) ?_
    · unfold kvsT at hd
      rw [List.map_map] at hd
      obtain ⟨⟨r, p⟩, hm, rfl⟩ := List.mem_map.mp hd
      obtain ⟨o1, o2, o3, o4⟩ := vis_ok t r p hm h.ok
      have he := neD_tip o1 (Nat.le_trans o2 h.dep)
      simp only [Function.comp] at ha ⊢
      rw [Bk.isTip_sound] at ha ⊢
      by_cases z : Bk.isTip p = true
      · simp_arith [he, z, backTo']
      · have ha : acc.length < 16777216 := by simp [z] at ha; unfold sizeLine at ha; omega
        simp_arith [he, z, ha]
    · simp_arith []
end
end Fx

/-! ### drawn growths, rows, near bushes -/
namespace Fx
open PySem PySem.Spec PyProof.Rows L2
local macro_rules | `(tactic| simp_arith [$ts,*]) => `(tactic| try simp -implicitDefEqProofs [↓bind_bnd, bnd_ok, bnd_xc, bnd_no, ↓wp_def, wpI_okW, wpI_ok, wpI_bnd, fSeq_eq, seqK_nx, seqK_rt, seqK_bk, seqK_ct, fIfS_eq, ifK_t, ifK_f, fCall_eq, runP_d, runP_g, runP_nx, runD_d, runD_nx, runF_l, nxP_nx, turnP_nx, turnP_ct, turnP_bk, turnP_rt, runFor_ds, runLc_ds,
      tidy_nil, cut_nil, tidy_drop, isL, S.tidy, S.pack, keeps, uses, ren, List.range, List.range.loop, List.idxOf, List.findIdx, List.findIdx.go, S.cut, fNx, fRet, fRetN, fExpr, fSet, fPar, fPar3, fAug, fUn, fBk, fCt, fPut, fFor, fIt, ivOf, fRng1_eq, fRng2_eq, rng1K_ok, rng2K_ok, fEnum, fB, fT, fAnd, fOr, fNot, fAndV, fOrV, fNotV, fIf, fChain, f1, f2, fV, fC, fNil, fCons, fTup, fLst, fStar, toD1, toDs, tru, truD,
      fN, n1, n2, p1, p2, rd, gv, gIx, isDic, cellOf, gTimes, fMt, tyOf, gIsi, tyN, subTy, S.push, S.put, S.at, tgName, tgNil, tgCons, tgTup, intsA, isND, isBF, sizeLine_eq, take_set0, drop_set0, globA, lcTurn, wipeS, noX, snocAt, tYesF, eqD_int, neD_int, lenD, minusD, gtD, ltD, leD, geD, uses_jk, ren_jk, isL_jk, unl_jk, S.frz, unl, fSl, fP, fNoP, fLc, plusD, $ts,*])
open Bk (Bu toD okB dep knots tips enc Rn inB inL)
section
variable [Zz]
/-- a growth that is drawn, as data -/
theorem bush_wp {sl : List (Option AV)} {gl lo : Glo} {k m : Nat} {Q : AV → S → Prop} (h : CupAt gl k) (hm : m ≤ 60) (hQ : ∀ t g1, Cs gl k g1 → CupAt g1 k → Rn m t → Q (.d (toD t)) ⟨sl, g1, lo⟩) : Wp (callK 2 f_law_bush [.g k, .d (.int (m : Nat))] ⟨sl, gl, lo⟩) Q :=
  wp_draw (P := fun x => ∃ t, x = toD t ∧ Rn m t) h (bush_ok 64 m (by omega) h.app hm) fun x g1 hc ⟨t, hx, ht⟩ hk => by
    subst hx
    exact hQ t g1 hc hk ht
theorem neD_rn {t : Bu} {m : Nat} (h : Rn m t) (hm : m ≤ 60) : neD (toD t) (.tuple []) = .d (.bool (!Bk.isTip t)) := neD_tip h.ok (by have := h.dp; have := h.kn; omega)
theorem growth_ok {gl : Glo} {k : Nat} (h : CupAt gl k) : RwD (f_law_growth [.g k, .d (.int 4)] gl) fun x gl' => Cs gl k gl' ∧ ∃ t, x = toD t ∧ Rn 4 t := by
  refine rwD_run ?_
  simp_arith [b_law_growth]
  refine bush_wp (m := 4) h (by decide) fun t g1 c1 h1 ht => ?_
  have hne := neD_rn ht (by decide)
  by_cases z : Bk.isTip t = true
  · simp_arith [hne, z]
    refine wp_some [] h1 (by decide) (by decide) fun x g2 c2 h2 hx => ?_
    simp_arith []
    refine wp_roll h2 (by decide) (by decide) fun r g3 c3 h3 r0 r1 => ?_
    have hx2 : ∃ c : Nat, x = .str ⟨#[c]⟩ ∧ 97 ≤ c ∧ c ≤ 122 := by
      simp only [List.mem_cons, List.not_mem_nil, or_false] at hx
      rcases hx with rfl | rfl
      · exact ⟨97, rfl, by decide, by decide⟩
      · exact ⟨98, rfl, by decide, by decide⟩
    obtain ⟨c, rfl, hc1, hc2⟩ := hx2
    obtain ⟨j, rfl⟩ : ∃ j : Nat, r = (j : Int) := ⟨r.toNat, by omega⟩
    have t1 : timesD (.tuple [.tuple []]) (.int (1 + (j : Int))) = .d (.tuple (List.replicate (j + 1) (.tuple []))) := by
      have e : ((1 : Int) + (j : Int)).toNat = j + 1 := by omega
      have hcond : [PyData.tuple []] ≠ [] ∧ (1 : Int) ≤ 1 + (j : Int) ∧ (1 : Int) + (j : Int) ≤ 1000 ∧ [PyData.tuple []].length ≤ 1000 := ⟨by simp, by omega, by omega, by simp⟩
      unfold timesD
      dsimp only
      rw [if_pos hcond, e]
      simp
    have hl : 1 + (j + 1) ≤ 16777216 := by omega
    simp_arith [plusD, t1, hl]
    refine ⟨(c1.trans c2).trans c3, .knot c (List.replicate (j + 1) .tip), ?_, ?_⟩
    · rw [toD, Bk.toDs_map]
      simp [toD]
    · refine Rn.knot (L := 0) hc1 hc2 (by simp) (by simp; omega) (fun b hb => ?_) (by omega)
      rw [(List.mem_replicate.mp hb).2]
      exact Rn.tip 0
  · simp_arith [hne, z]
    exact ⟨c1, t, rfl, ht⟩
theorem known_ok {gl : Glo} {k : Nat} (h : CupAt gl k) : RwD (f_law_known [.g k] gl) fun x gl' => Cs gl k gl' ∧ ∃ t, x = toD t ∧ Rn 4 t := by
  refine rwD_run ?_
  simp_arith [b_law_known]
  refine wp_some [] h (by simp) (by simp) fun x g1 c1 h1 hx => ?_
  simp_arith []
  refine ⟨c1, ?_⟩
  have key : ∀ d : PyData, (match buOf d with | some b => Bk.rnB 4 b | none => false) = true → ∃ t, d = toD t ∧ Rn 4 t := fun d hd => by
    cases q : buOf d with
    | none => rw [q] at hd; cases hd
    | some b =>
      rw [q] at hd
      exact ⟨b, buOf_some d b q, Bk.rnB_of hd⟩
  simp only [List.mem_cons, List.not_mem_nil, or_false] at hx
  rcases hx with rfl | rfl | rfl | rfl | rfl | rfl | rfl | rfl | rfl | rfl <;> exact key _ (by decide +kernel)
theorem ints_map (l : List (List Int)) : intsOf (l.map fun r => PyData.int (r.length : Nat)) = some (l.map fun r => ((r.length : Nat) : Int)) := by
  induction l with
  | nil => rfl
  | cons r l ih => simp [intsOf, ih]
theorem minD_some {l : List (List Int)} (h : l ≠ []) : ∃ n : Int, minD (.list (l.map fun r => PyData.int (r.length : Nat))) = .d (.int n) := by
  cases l with
  | nil => exact absurd rfl h
  | cons r l =>
    have := ints_map (r :: l)
    unfold minD
    dsimp only
    rw [this]
    exact ⟨_, rfl⟩
theorem maxD_some {l : List (List Int)} (h : l ≠ []) : ∃ n : Int, maxD (.list (l.map fun r => PyData.int (r.length : Nat))) = .d (.int n) := by
  cases l with
  | nil => exact absurd rfl h
  | cons r l =>
    have := ints_map (r :: l)
    unfold maxD
    dsimp only
    rw [this]
    exact ⟨_, rfl⟩
theorem sizes_ok {gs : List Bu} (h : ∀ g ∈ gs, Bk.Dr g) (gl : Glo) : RwD (f_law_sizes_v1 [.d (.tuple (gs.map toD))] gl) fun x gl' => gl' = gl ∧ ∃ a b c d : Int, x = .tuple [.int a, .int b, .int c, .int d] := by
  refine rwD_run ?_
  simp_arith [b_law_sizes_v1]
  refine wp_forD (fun ds s => ∃ (hs : List Bu) (a b c d : Int) (e5 : Option AV) (e6 : Option AV) (lo : Glo), ds = hs.map toD ∧ (∀ g ∈ hs, Bk.Dr g) ∧ s = ⟨[some (.d (.tuple (gs.map toD))), some (.d (.int a)), some (.d (.int b)), some (.d (.int c)), some (.d (.int d)), e5, e6], gl, lo⟩ ∧ ((lo = [] ∧ e6 = none) ∨ ∃ cl, lo = [cl] ∧ e6 = some (.l 0)) ∧ isL e5 = false) ?_ ?_ _ _ ⟨gs, _, _, _, _, _, _, _, rfl, h, rfl, .inl ⟨rfl, rfl⟩, rfl⟩
  · rintro x ds s ⟨hs, a, b, c, d, e5, e6, lo, hd, hdr, rfl, hlo, h5⟩
    cases hs with
    | nil => cases hd
    | cons g hs =>
      simp only [List.map_cons, List.cons.injEq] at hd
      obtain ⟨rfl, rfl⟩ := hd
      have hg := hdr g List.mem_cons_self
      have hne : Bk.tr g ≠ [] := fun z => by
        have := Bk.tr_len g
        rw [z] at this
        have := Bk.tips_pos hg.ok
        simp at *
        omega
      obtain ⟨mn, hmn⟩ := minD_some hne
      obtain ⟨mx, hmx⟩ := maxD_some hne
      obtain ⟨n, hn1, hn⟩ := knots_ok hg
      have hde := depths_eq hg
      have ht : (Bk.tr g).length ≤ 1000 := by rw [Bk.tr_len]; have := hg.few; omega
      have n1 : (-18446744073709551616 : Int) < (n : Int) := by omega
      have n2 : (n : Int) < (18446744073709551616 : Int) := by omega
      have n3 : (-18446744073709551616 : Int) < ((Bk.tr g).length : Int) := by omega
      have n4 : ((Bk.tr g).length : Int) < (18446744073709551616 : Int) := by omega
      have m1 : ∀ b : Int, timesD (.int b) (.int (n : Int)) = .d (.int (b * n)) := fun b => by
        unfold timesD
        dsimp only
        rw [if_pos (.inr (.inl ⟨n1, n2⟩))]
      have m2 : ∀ b : Int, timesD (.int b) (.int ((Bk.tr g).length : Int)) = .d (.int (b * (Bk.tr g).length)) := fun b => by
        unfold timesD
        dsimp only
        rw [if_pos (.inr (.inl ⟨n3, n4⟩))]
      refine ⟨_, rfl, ?_⟩
      rcases hlo with ⟨rfl, rfl⟩ | ⟨cl, rfl, rfl⟩
      · simp_arith [callK, hde, hn, m1, m2, hmn, hmx, plusD]
        exact ⟨hs, rfl, fun g hg => hdr g (List.mem_cons_of_mem _ hg), _, _, _, _, _, _, _, ⟨⟨rfl, rfl, rfl, rfl, rfl, rfl⟩, rfl⟩, .inr ⟨⟨_, rfl⟩, rfl⟩, rfl⟩
      · simp_arith [callK, hde, hn, m1, m2, hmn, hmx, plusD]
        exact ⟨hs, rfl, fun g hg => hdr g (List.mem_cons_of_mem _ hg), _, _, _, _, _, _, _, ⟨⟨rfl, rfl, rfl, rfl, rfl, rfl⟩, rfl⟩, .inr ⟨⟨_, rfl⟩, rfl⟩, rfl⟩
  · rintro s ⟨hs, a, b, c, d, e5, e6, lo, hd, hdr, rfl, hlo, h5⟩
    simp_arith []
theorem wp_pick {sl : List (Option AV)} {gl : Glo} {k : Nat} {r : Int} {Q : AV → S → Prop} (h : CupAt gl k) (hQ : ∀ t g1, Cs gl k g1 → CupAt g1 k → Rn 4 t → Q (.d (toD t)) ⟨sl, g1, []⟩) :
    Wp (if r = 0 then R.ok (.d (.tuple [])) ⟨sl, gl, []⟩ else if r < 5 then callK 1 f_law_known [.g k] ⟨sl, gl, []⟩ else callK 2 f_law_growth [.g k, .d (.int 4)] ⟨sl, gl, []⟩) Q := by
  split
  · exact wpOk (hQ .tip gl (.refl h) h (Rn.tip 4))
  · split
    · exact wp_draw (P := fun x => ∃ t, x = toD t ∧ Rn 4 t) h (known_ok h.app) fun x g1 hc ⟨t, hx, ht⟩ hk => by subst hx; exact hQ t g1 hc hk ht
    · exact wp_draw (P := fun x => ∃ t, x = toD t ∧ Rn 4 t) h (growth_ok h.app) fun x g1 hc ⟨t, hx, ht⟩ hk => by subst hx; exact hQ t g1 hc hk ht
theorem row_ok {gl : Glo} {k : Nat} (h : CupAt gl k) : RwD (f_law_row [.g k, .d (.int 4), .d (.int 60)] gl) fun x gl' => Cs gl k gl' ∧ ∃ gs : List Bu, x = .tuple (gs.map toD) ∧ gs.length ≤ 4 ∧ ∀ g ∈ gs, Rn 4 g := by
  refine rwD_run ?_
  simp_arith [b_law_row, plusD]
  refine wp_roll h (by decide) (by decide) fun r g1 c1 h1 r0 r1 => ?_
  obtain ⟨j, rfl⟩ : ∃ j : Nat, r = (j : Int) := ⟨r.toNat, by omega⟩
  have hj : rngOk (j : Int) := rngOk_nat (by omega)
  have hj4 : j ≤ 4 := by omega
  simp_arith [hj]
  refine wp_forD (fun ds s => ∃ (gs : List Bu) (g2 : Glo) (e4 e5 e6 e7 e8 e9 e10 : Option AV), s = ⟨[some (.g k), some (.d (.int 4)), some (.d (.int 60)), some (.d (.tuple (gs.map toD))), e4, e5, e6, e7, e8, e9, e10], g2, []⟩ ∧
    gs.length + ds.length ≤ 4 ∧ (∀ g ∈ gs, Rn 4 g) ∧ Cs gl k g2 ∧ CupAt g2 k) ?_ ?_ _ _ ⟨[], g1, _, _, _, _, _, _, _, rfl, by simpa [rngL] using hj4, by simp, c1, h1⟩
  · rintro d ds s ⟨gs, g2, e4, e5, e6, e7, e8, e9, e10, rfl, hlen, hrn, c2, h2⟩
    simp only [List.length_cons] at hlen
    refine ⟨_, rfl, ?_⟩
    have hl : gs.length + 1 ≤ 16777216 := by omega
    simp_arith []
    refine wp_roll h2 (by decide) (by decide) fun r2 g3 c3 h3 r20 r21 => ?_
    simp_arith []
    refine wp_pick h3 fun t g4 c4 h4 ht => ?_
    have hdr : ∀ g ∈ gs ++ [t], Bk.Dr g := fun g hg => by
      rcases List.mem_append.mp hg with hg | hg
      · exact (hrn g hg).dr (by decide)
      · have : g = t := by simpa using hg
        rw [this]; exact ht.dr (by decide)
    have hsz := sizes_ok hdr
    rw [List.map_append] at hsz
    simp_arith [plusD, hl]
    refine wp_callD (hsz _) ?_
    rintro x gl' ⟨rfl, a, b, c, d', rfl⟩
    have ok1 : ∃ gs' : List Bu, gs.map toD ++ [toD t] = gs'.map toD ∧ gs'.length + ds.length ≤ 4 ∧ ∀ g ∈ gs', Rn 4 g := ⟨gs ++ [t], by simp, by simp; omega, fun g hg => by
      rcases List.mem_append.mp hg with hg | hg
      · exact hrn g hg
      · have : g = t := by simpa using hg
        rw [this]; exact ht⟩
    have ok2 : gs.length + ds.length ≤ 4 := by omega
    have c5 := (c2.trans c3).trans c4
    obtain ⟨gs', o1, o2, o3⟩ := ok1
    by_cases q1 : a + b ≤ 60
    · by_cases q2 : d' ≤ 60
      · simp_arith [plusD, q1, q2, hl]
        exact ⟨gs', g4, ⟨o1, rfl⟩, o2, o3, c5, h4⟩
      · simp_arith [plusD, q1, q2, hl]
        exact ⟨gs, g4, ⟨rfl, rfl⟩, ok2, hrn, c5, h4⟩
    · simp_arith [plusD, q1, hl]
      exact ⟨gs, g4, ⟨rfl, rfl⟩, ok2, hrn, c5, h4⟩
  · rintro s ⟨gs, g2, e4, e5, e6, e7, e8, e9, e10, rfl, hlen, hrn, c2, h2⟩
    simp_arith []
    exact ⟨c2, gs, rfl, by simpa using hlen, hrn⟩
end
end Fx

/-! ### bushes near drawn ones -/
namespace Fx
open PySem PySem.Spec PyProof.Rows L2
local macro_rules | `(tactic| simp_arith [$ts,*]) => `(tactic| try simp -implicitDefEqProofs [↓bind_bnd, bnd_ok, bnd_xc, bnd_no, ↓wp_def, wpI_okW, wpI_ok, wpI_bnd, fSeq_eq, seqK_nx, seqK_rt, seqK_bk, seqK_ct, fIfS_eq, ifK_t, ifK_f, fCall_eq, runP_d, runP_g, runP_nx, runD_d, runD_nx, runF_l, nxP_nx, turnP_nx, turnP_ct, turnP_bk, turnP_rt, runFor_ds, runLc_ds,
      tidy_nil, cut_nil, tidy_drop, isL, S.tidy, S.pack, keeps, uses, ren, List.range, List.range.loop, List.idxOf, List.findIdx, List.findIdx.go, S.cut, fNx, fRet, fRetN, fExpr, fSet, fPar, fPar3, fAug, fUn, fBk, fCt, fPut, fFor, fIt, ivOf, fRng1_eq, fRng2_eq, rng1K_ok, rng2K_ok, fEnum, fB, fT, fAnd, fOr, fNot, fAndV, fOrV, fNotV, fIf, fChain, f1, f2, fV, fC, fNil, fCons, fTup, fLst, fStar, toD1, toDs, tru, truD,
      fN, n1, n2, p1, p2, rd, gv, gIx, isDic, cellOf, gTimes, fMt, tyOf, gIsi, tyN, subTy, S.push, S.put, S.at, tgName, tgNil, tgCons, tgTup, intsA, isND, isBF, sizeLine_eq, take_set0, drop_set0, globA, lcTurn, wipeS, noX, snocAt, tYesF, eqD_int, neD_int, lenD, minusD, gtD, ltD, leD, geD, uses_jk, ren_jk, isL_jk, unl_jk, S.frz, unl, fSl, fP, fNoP, fLc, plusD, $ts,*])
open Bk (Bu toD okB dep knots tips enc Rn inB inL)
section
variable [Zz]
mutual
theorem nice_toD : ∀ t : Bu, okB t = true → nice (toD t) = true
  | .tip, _ => by simp [toD, nice, niceA]
  | .knot c bs, h => by
    obtain ⟨h1, h2, -, -, h5⟩ := okB_knot h
    have hs : SeqAt.shaped (.str ⟨#[c]⟩) = true := by
      have : PyData.canLay0 (.str ⟨#[c]⟩) = true := by
        have := Bk.lay_toD (.knot c bs) h
        rw [toD] at this
        simp only [PyData.canLay0, PyData.canLayAll0, Bool.and_eq_true] at this
        simpa only [PyData.canLay0] using this.1
      show (PyData.canLay0 (.str ⟨#[c]⟩) && decide ((PyData.str ⟨#[c]⟩).depth ≤ 64)) = true
      rw [this]; rfl
    rw [toD]
    simp only [nice, niceA, ask1, Bool.and_eq_true]
    refine ⟨⟨?_, hs⟩, nice_toDs bs h5⟩
    exact decide_eq_true (by show 1 ≤ 16777216; decide)
theorem nice_toDs : ∀ bs : List Bu, Bk.okBs bs = true → niceA (Bk.toDs bs) = true
  | [], _ => by simp [Bk.toDs, niceA]
  | b :: bs, h => by
    simp only [Bk.okBs, Bool.and_eq_true] at h
    simp only [Bk.toDs, niceA, Bool.and_eq_true]
    exact ⟨nice_toD b h.1, nice_toDs bs h.2⟩
end
theorem niceA_of : ∀ {ds : List PyData}, (∀ d ∈ ds, nice d = true) → niceA ds = true
  | [], _ => rfl
  | d :: ds, h => by
    simp only [niceA, Bool.and_eq_true]
    exact ⟨h d List.mem_cons_self, niceA_of fun e he => h e (List.mem_cons_of_mem _ he)⟩
theorem nice_put : ∀ (r : List Int) (t : Bu) (x : PyData), okB t = true → nice x = true → inB t r → nice (putT t r x) = true
  | [], t, x, _, hx, _ => by simpa [putT] using hx
  | i :: r, .tip, x, _, _, hi => by simp [inB] at hi
  | i :: r, .knot c bs, x, ho, hx, hi => by
    obtain ⟨hi0, hL⟩ := hi
    obtain ⟨b, hb, hin⟩ := Bk.inL_get hL
    obtain ⟨-, -, -, -, hos⟩ := okB_knot ho
    have hn := nice_toD _ ho
    rw [toD, Bk.toDs_map] at hn
    simp only [nice, niceA, Bool.and_eq_true] at hn
    have hg : bs.getD i.toNat .tip = b := by rw [List.getD_eq_getElem?_getD, hb]; rfl
    simp only [putT, nice, niceA, Bool.and_eq_true, hg]
    refine ⟨hn.1, niceA_of fun d hd => ?_⟩
    rcases List.mem_or_eq_of_mem_set hd with h | h
    · exact niceA_mem hn.2 h
    · rw [h]; exact nice_put r b x (okBs_get hos hb) hx hin
theorem near_ok {gl : Glo} {k : Nat} {t : Bu} (h : CupAt gl k) (hd : Bk.Dr t) : RwD (f_law_near_bush_v1 [.g k, .d (toD t)] gl) fun x gl' => Cs gl k gl' ∧ nice x = true := by
  refine rwD_run ?_
  have hp := parts_eq hd
  have hlen : (rdsT t).length ≤ 1000 := by unfold rdsT; rw [List.length_map, Bk.pre_len]; exact hd.few
  have hpos : 1 ≤ (rdsT t).length := by unfold rdsT; rw [List.length_map, Bk.pre_len]; have := Bk.tips_pos hd.ok; omega
  have hpk : ∀ s : S, callK 1 f_law_parts [.d (toD t)] s = .ok (.l s.lo.length) (s.push (.dit (kvsT t))) := fun s => callK_f (hp _)
  simp_arith [b_law_near_bush_v1, hpk]
  rw [sorted_eq (t := t) rfl]
  simp_arith []
  refine wp_some [] h (by simpa using hpos) (by simpa using (by omega : (rdsT t).length ≤ 1000)) fun x g1 c1 h1 hx => ?_
  obtain ⟨r, hr, rfl⟩ := List.mem_map.mp hx
  obtain ⟨⟨r', p⟩, hm, rfl⟩ := List.mem_map.mp hr
  have hv := (Bk.vis_perm t).mem_iff.mpr hm
  obtain ⟨o1, o2, o3, o4⟩ := vis_ok t r' p hv hd.ok
  have hpd : dep p ≤ 60 := Nat.le_trans o2 hd.dep
  have ha2 := ask_kvs hv
  have he := eqD_tip o1 hpd
  have hputk : ∀ (x : PyData) (s : S), callK 3 f_law_put_v1 [.d (toD t), .d (enc r'), .d x] s = .ok (.d (putT t r' x)) s := fun x s => callK_d (put_eq r' 64 t x _ (by have := hd.dep; omega) o3 hd.ok)
  have fin : ∀ x, nice x = true → nice (putT t r' x) = true := fun x hx => nice_put r' t x hd.ok hx o3
  simp_arith [hpk, gGet, ha2]
  refine wp_roll h1 (by decide) (by decide) fun w g2 c2 h2 w0 w1 => ?_
  have c12 := c1.trans c2
  have bsh : ∀ (sl : List (Option AV)) (lo : Glo) (Q : AV → S → Prop), (∀ b g3, Cs gl k g3 → CupAt g3 k → Rn 2 b → Q (.d (toD b)) ⟨sl, g3, lo⟩) → Wp (callK 2 f_law_bush [.g k, .d (.int 2)] ⟨sl, g2, lo⟩) Q := fun sl lo Q hQ => bush_wp (m := 2) h2 (by decide) fun b g3 c3 h3 hb => hQ b g3 (c12.trans c3) h3 hb
  by_cases q0 : w = 0
  · simp_arith [q0]
    refine bsh _ _ _ fun b g3 c3 h3 hb => ?_
    simp_arith [hputk]
    exact ⟨c3, fin _ (nice_toD b hb.ok)⟩
  · by_cases qt : Bk.isTip p = true
    · simp_arith [q0, he, qt]
      refine bsh _ _ _ fun b g3 c3 h3 hb => ?_
      simp_arith [hputk]
      exact ⟨c3, fin _ (nice_toD b hb.ok)⟩
    · obtain ⟨c, bs, rfl⟩ : ∃ c bs, p = .knot c bs := by
        cases p with
        | tip => exact absurd rfl qt
        | knot c bs => exact ⟨c, bs, rfl⟩
      obtain ⟨-, -, l1, l6, hos⟩ := okB_knot o1
      have hp0 : toD (.knot c bs) = .tuple (.str ⟨#[c]⟩ :: bs.map toD) := by rw [toD, Bk.toDs_map]
      have hn0 := nice_toD _ o1
      rw [hp0] at hn0 he
      simp only [nice, niceA, Bool.and_eq_true] at hn0
      have qt' : Bk.isTip (.knot c bs) = false := by simpa using qt
      rw [qt'] at he
      rw [hp0]
      have s1 : slD (some 1) none (.tuple (.str ⟨#[c]⟩ :: bs.map toD)) = .d (.tuple (bs.map toD)) := by
        show slD (some ((1 : Nat) : Int)) none _ = _
        simp only [slD, cutL, sIx_n]
        simp [HT.sIx, List.take_of_length_le]
      have s2 : slD none (some 1) (.tuple (.str ⟨#[c]⟩ :: bs.map toD)) = .d (.tuple [.str ⟨#[c]⟩]) := by
        show slD none (some ((1 : Nat) : Int)) _ = _
        simp only [slD, cutL, sIx_n]
        simp [HT.sIx]
      have s3 : slD none (some 7) (.tuple (.str ⟨#[c]⟩ :: (bs.map toD ++ [.tuple []]))) = .d (.tuple ((.str ⟨#[c]⟩ :: (bs.map toD ++ [.tuple []])).take 7)) := by
        show slD none (some ((7 : Nat) : Int)) _ = _
        simp only [slD, cutL, sIx_n]
        simp [HT.sIx]
        by_cases q7 : bs.length ≤ 5
        · rw [List.take_of_length_le (by simp; omega), List.take_of_length_le (by simp; omega)]
        · rw [show min 7 (bs.length + 1 + 1) = 7 by omega]; rfl
      have hl1 : 1 + bs.length ≤ 16777216 := by omega
      have hl2 : bs.length + 1 + 1 ≤ 16777216 := by omega
      by_cases q1 : w = 1
      · simp_arith [q0, he, q1]
        refine wp_some [_] h2 (by decide) (by decide) fun x g3 c3 h3 hx => ?_
        have hxn : nice x = true := by
          simp only [List.mem_cons, List.not_mem_nil, or_false] at hx
          rcases hx with rfl | rfl | rfl <;> decide +kernel
        simp_arith [fSl, fP, fNoP, s1, plusD, hl1, hputk]
        exact ⟨c12.trans c3, fin _ (by simp only [nice, niceA, Bool.and_eq_true]; exact ⟨hxn, hn0.2⟩)⟩
      · by_cases q2 : w = 2
        · simp_arith [q0, he, q1, q2, fSl, fP, fNoP, s2, rev1D, plusD, hl1, hputk]
          refine ⟨c12, fin _ ?_⟩
          simp only [nice, niceA, Bool.and_eq_true]
          exact ⟨hn0.1, niceA_of fun d hd => niceA_mem hn0.2 (by simpa using hd)⟩
        · simp_arith [q0, he, q1, q2, fSl, fP, fNoP, s3, plusD, hl2, hputk]
          refine ⟨c12, fin _ ?_⟩
          simp only [nice, niceA, Bool.and_eq_true]
          refine ⟨hn0.1, niceA_of fun d hd => ?_⟩
          rcases List.mem_append.mp (List.mem_of_mem_take hd) with h | h
          · exact niceA_mem hn0.2 h
          · have : d = .tuple [] := by simpa using h
            rw [this]; rfl
end
end Fx

/-! ### the law's own questions -/
namespace Fx
open PySem PySem.Spec PyProof.Rows L2
local macro_rules | `(tactic| simp_arith [$ts,*]) => `(tactic| try simp -implicitDefEqProofs [↓bind_bnd, bnd_ok, bnd_xc, bnd_no, ↓wp_def, wpI_okW, wpI_ok, wpI_bnd, fSeq_eq, seqK_nx, seqK_rt, seqK_bk, seqK_ct, fIfS_eq, ifK_t, ifK_f, fCall_eq, runP_d, runP_g, runP_nx, runD_d, runD_nx, runF_l, nxP_nx, turnP_nx, turnP_ct, turnP_bk, turnP_rt, runFor_ds, runLc_ds,
      tidy_nil, cut_nil, tidy_drop, isL, S.tidy, S.pack, keeps, uses, ren, List.range, List.range.loop, List.idxOf, List.findIdx, List.findIdx.go, S.cut, fNx, fRet, fRetN, fExpr, fSet, fPar, fPar3, fAug, fUn, fBk, fCt, fPut, fFor, fIt, ivOf, fRng1_eq, fRng2_eq, rng1K_ok, rng2K_ok, fEnum, fB, fT, fAnd, fOr, fNot, fAndV, fOrV, fNotV, fIf, fChain, f1, f2, fV, fC, fNil, fCons, fTup, fLst, fStar, toD1, toDs, tru, truD,
      fN, n1, n2, p1, p2, rd, gv, gIx, isDic, cellOf, gTimes, fMt, tyOf, gIsi, tyN, subTy, S.push, S.put, S.at, tgName, tgNil, tgCons, tgTup, intsA, isND, isBF, sizeLine_eq, take_set0, drop_set0, globA, lcTurn, wipeS, noX, snocAt, tYesF, eqD_int, neD_int, lenD, minusD, gtD, ltD, leD, geD, uses_jk, ren_jk, isL_jk, unl_jk, S.frz, unl, fSl, fP, fNoP, fLc, plusD, $ts,*])
open Bk (Bu toD okB dep knots tips enc Rn inB inL)
section
variable [Zz]
theorem eqv_str (z : Str) : PyData.eqv (.str z) (.str z) = true := by
  show (z == z) = true
  simp
theorem shT : SeqAt.shaped (.str (Str.ofString "True")) = true := by decide +kernel
theorem shF : SeqAt.shaped (.str (Str.ofString "False")) = true := by decide +kernel
theorem eqTT : eqD (.str (Str.ofString "True")) (.str (Str.ofString "True")) = .d (.bool true) := by unfold eqD; rw [shT, eqv_str]; rfl
theorem eqFF : eqD (.str (Str.ofString "False")) (.str (Str.ofString "False")) = .d (.bool true) := by unfold eqD; rw [shF, eqv_str]; rfl
theorem neTT : neD (.str (Str.ofString "True")) (.str (Str.ofString "True")) = .d (.bool false) := by unfold neD; rw [shT, eqv_str]; rfl
theorem neFF : neD (.str (Str.ofString "False")) (.str (Str.ofString "False")) = .d (.bool false) := by unfold neD; rw [shF, eqv_str]; rfl
theorem right_eq {v : PyData} (hv : nice v = true) (gl : Glo) : f_law_right_v1 [.d v] gl = .ok (.d (.bool true)) gl := by
  refine rwD_eq (rwD_run ?_)
  have h1 := is_bush_lib hv
  have h2 := law_is_bush_lib hv
  have hk1 : ∀ s, callK 1 f_is_bush [.d v] s = .ok (.d (.bool (decide (lib 0 v ≤ 400)))) s := fun s => callK_d (h1 _)
  have hk2 : ∀ s, callK 2 f_law_is_bush [.d v, .d (.int 0)] s = .ok (.d (.int (lib 0 v : Nat))) s := fun s => callK_d (h2 _)
  have c400 : ((lib 0 v : Int) ≤ 400) = (lib 0 v ≤ 400) := propext (by omega)
  by_cases q : lib 0 v ≤ 400
  · simp_arith [b_law_right_v1, hk1, hk2, c400, q, gRepr, reprD, eqTT, eqFF]
  · simp_arith [b_law_right_v1, hk1, hk2, c400, q, gRepr, reprD, eqTT, eqFF]
theorem odd_ok {gl : Glo} {k : Nat} (h : CupAt gl k) : RwD (f_law_odd [.g k] gl) fun x gl' => Cs gl k gl' ∧ nice x = true := by
  refine rwD_run ?_
  simp_arith [b_law_odd, timesD, S.frz, unl, plusD, fSl, fP, fNoP, slD, cutL, HT.sIx, List.replicate]
  refine wp_some [_, _] h (by simp) (by simp) fun x g1 c1 h1 hx => ?_
  simp_arith []
  refine ⟨c1, ?_⟩
  refine List.all_eq_true.mp (?_ : List.all _ nice = true) x hx
  decide +kernel
theorem growths_eq {ds : List PyData} (h : niceA ds = true) (hl : ds.length ≤ 12) (gl : Glo) : f_are_growths [.d (.tuple ds)] gl = .ok (.d (.bool (ds.all fun v => decide (lib 0 v ≤ 400)))) gl := by
  refine rwD_eq (rwD_run ?_)
  have hl2 : ¬ ((12 : Int) < (ds.length : Int)) := by omega
  have hl3 : ¬ (12 < ds.length) := by omega
  simp_arith [b_are_growths, hl2, hl3, fLc]
  refine wp_lc1 [] (fun v => .bool (decide (lib 0 v ≤ 400))) (fun v hv acc ha => ?_) (by omega) ?_
  · have hk1 : ∀ s, callK 1 f_is_bush [.d v] s = .ok (.d (.bool (decide (lib 0 v ≤ 400)))) s := fun s => callK_d (is_bush_lib (niceA_mem h hv) _)
    simp_arith [hk1, ha]
  · have hb := bools_map (fun v => decide (lib 0 v ≤ 400)) ds
    simp_arith [allD, hb]
end
end Fx

/-! ### the law's turn -/
namespace Fx
open PySem PySem.Spec PyProof.Rows L2
local macro_rules | `(tactic| simp_arith [$ts,*]) => `(tactic| try simp -implicitDefEqProofs [↓bind_bnd, bnd_ok, bnd_xc, bnd_no, ↓wp_def, wpI_okW, wpI_ok, wpI_bnd, fSeq_eq, seqK_nx, seqK_rt, seqK_bk, seqK_ct, fIfS_eq, ifK_t, ifK_f, fCall_eq, runP_d, runP_g, runP_nx, runD_d, runD_nx, runF_l, nxP_nx, turnP_nx, turnP_ct, turnP_bk, turnP_rt, runFor_ds, runLc_ds,
      tidy_nil, cut_nil, tidy_drop, isL, S.tidy, S.pack, keeps, uses, ren, List.range, List.range.loop, List.idxOf, List.findIdx, List.findIdx.go, S.cut, fNx, fRet, fRetN, fExpr, fSet, fPar, fPar3, fAug, fUn, fBk, fCt, fPut, fFor, fIt, ivOf, fRng1_eq, fRng2_eq, rng1K_ok, rng2K_ok, fEnum, fB, fT, fAnd, fOr, fNot, fAndV, fOrV, fNotV, fIf, fChain, f1, f2, fV, fC, fNil, fCons, fTup, fLst, fStar, toD1, toDs, tru, truD,
      fN, n1, n2, p1, p2, rd, gv, gIx, isDic, cellOf, gTimes, fMt, tyOf, gIsi, tyN, subTy, S.push, S.put, S.at, tgName, tgNil, tgCons, tgTup, intsA, isND, isBF, sizeLine_eq, take_set0, drop_set0, globA, lcTurn, wipeS, noX, snocAt, tYesF, eqD_int, neD_int, lenD, minusD, gtD, ltD, leD, geD, uses_jk, ren_jk, isL_jk, unl_jk, S.frz, unl, fSl, fP, fNoP, fLc, plusD, $ts,*])
open Bk (Bu toD okB dep knots tips enc Rn inB inL)
section
variable [Zz]
theorem isLet_c {c : Nat} (h1 : 97 ≤ c) (h2 : c ≤ 122) : isLet (.str ⟨#[c]⟩) = true := by
  have e1 := Bk.le_lo h1
  have e2 := Bk.le_hi h2
  show lettr ⟨#[c]⟩ = true
  unfold lettr
  rw [Bool.and_eq_true, Bool.and_eq_true]
  exact ⟨rfl, e1, e2⟩
mutual
theorem lib_toD : ∀ (t : Bu) (d : Nat), okB t = true → d + dep t ≤ 60 → knots t + tips t < 1000 → lib d (toD t) = knots t + tips t
  | .tip, d, _, hd, _ => by
    have : ¬ 60 < d := by omega
    simp [toD, lib, knots, tips, this]
  | .knot c bs, d, ho, hd, hk => by
    obtain ⟨h1, h2, h3, h4, h5⟩ := okB_knot ho
    simp only [dep] at hd
    simp only [knots, tips] at hk ⊢
    have ih := libs_toDs bs (d + 1) h5 (by omega) (by omega)
    have hlen : (Bk.toDs bs).length = bs.length := by rw [Bk.toDs_map, List.length_map]
    rw [toD, lib, if_neg (by omega), if_pos ⟨by omega, by omega, isLet_c h1 h2⟩, ih, if_pos (by omega)]
    omega
theorem libs_toDs : ∀ (bs : List Bu) (d : Nat), Bk.okBs bs = true → d + Bk.deps bs ≤ 60 → Bk.knotss bs + Bk.tipss bs < 1000 → libs d (Bk.toDs bs) = Bk.knotss bs + Bk.tipss bs
  | [], d, _, _, _ => by simp [Bk.toDs, libs, Bk.knotss, Bk.tipss]
  | b :: bs, d, ho, hd, hk => by
    simp only [Bk.okBs, Bool.and_eq_true] at ho
    simp only [Bk.deps] at hd
    simp only [Bk.knotss, Bk.tipss] at hk ⊢
    rw [Bk.toDs, libs, lib_toD b d ho.1 (by omega) (by omega), libs_toDs bs d ho.2 (by omega) (by omega)]
    omega
end
theorem lib_rn {m : Nat} {t : Bu} (h : Rn m t) (hm : m ≤ 20) : lib 0 (toD t) ≤ 400 := by
  have h1 := h.kn
  have h2 := h.tp
  have h3 := h.dp
  rw [lib_toD t 0 h.ok (by omega) (by omega)]
  omega
theorem growths_list {ds : List PyData} {gl : Glo} {k : Nat} (h : gl[k]? = some (some (.lst ds))) : f_are_growths [.g k] gl = .ok (.d (.bool false)) gl := by
  refine rwD_eq (rwD_run ?_)
  simp_arith [b_are_growths, h]
theorem bush8 {a b : Int} {lo : Glo} (hc : CupB a b) : RwD (f_law_bush [.g 0, .d (.int 8)] (cup a b :: lo)) fun x gl' => Cs (cup a b :: lo) 0 gl' ∧ ∃ t, x = toD t ∧ Rn 8 t := bush_ok 64 8 (by decide) (cupAt_cons hc) (by decide)
theorem near8 {a b : Int} {lo : Glo} {t : Bu} (hc : CupB a b) (hd : Bk.Dr t) : RwD (f_law_near_bush_v1 [.g 0, .d (toD t)] (cup a b :: lo)) fun x gl' => Cs (cup a b :: lo) 0 gl' ∧ nice x = true := near_ok (cupAt_cons hc) hd
theorem odd8 {a b : Int} {lo : Glo} (hc : CupB a b) : RwD (f_law_odd [.g 0] (cup a b :: lo)) fun x gl' => Cs (cup a b :: lo) 0 gl' ∧ nice x = true := odd_ok (cupAt_cons hc)
theorem row8 {a b : Int} {lo : Glo} (hc : CupB a b) : RwD (f_law_row [.g 0, .d (.int 4), .d (.int 60)] (cup a b :: lo)) fun x gl' => Cs (cup a b :: lo) 0 gl' ∧ ∃ gs : List Bu, x = .tuple (gs.map toD) ∧ gs.length ≤ 4 ∧ ∀ g ∈ gs, Rn 4 g := row_ok (cupAt_cons hc)
section
variable {d0 d x : PyData} {x3 x4 x5 : Option PyData} {a b : Int} {t : Bu}
theorem st0 (hc : CupB a b) : Wp (q_law_v1_1_0 ⟨[some (.d d0), some (.l 0), some (.d d), jk x3, jk x4, jk x5, none, none, none, none], [], [cup a b]⟩)
    (nxP fun s => ∃ t a' b', Rn 8 t ∧ CupB a' b' ∧ s = ⟨[some (.d d0), some (.l 0), some (.d d), some (.d (toD t)), jk x4, jk x5, none, none, none, none], [], [cup a' b']⟩) := by
  simp_arith [q_law_v1_1_0]
  have hb8 := bush8 (lo := []) hc
  refine wp_drawL (P := fun x => ∃ t, x = toD t ∧ Rn 8 t) hb8 fun x a1 b1 hc1 ⟨t, hx, ht⟩ => ?_
  subst hx
  simp_arith [uses_jk, ren_jk, nxP_nx]
  exact ⟨t, ht, a1, b1, hc1, by cases x4 <;> cases x5 <;> simp [jk]⟩
theorem st1 (hc : CupB a b) (ht : Rn 8 t) : Wp (q_law_v1_1_1 ⟨[some (.d d0), some (.l 0), some (.d d), some (.d (toD t)), jk x4, jk x5, none, none, none, none], [], [cup a b]⟩)
    (nxP fun s => ∃ a' b', CupB a' b' ∧ s = ⟨[some (.d d0), some (.l 0), some (.d d), some (.d (toD t)), jk x4, jk x5, none, none, none, none], [], [cup a' b']⟩) := by
  have htn := nice_toD t ht.ok
  have htl := lib_rn ht (by decide)
  have hdr : Bk.Dr t := ht.dr (by decide)
  have k1 : ∀ s, callK 1 f_is_bush [.d (toD t)] s = .ok (.d (.bool true)) s := fun s => by rw [callK_d (is_bush_lib htn _), decide_eq_true htl]
  simp_arith [q_law_v1_1_1, k1]
  have hn := near8 (lo := []) hc hdr
  refine wp_drawL (P := fun x => nice x = true) hn fun x a2 b2 hc2 hx => ?_
  have k2 : ∀ s, callK 1 f_law_right_v1 [.d x] s = .ok (.d (.bool true)) s := fun s => callK_d (right_eq hx _)
  simp_arith [k2, nxP_nx]
  exact hc2
theorem st2 (hc : CupB a b) : Wp (q_law_v1_1_2 ⟨[some (.d d0), some (.l 0), some (.d d), some (.d (toD t)), jk x4, jk x5, none, none, none, none], [], [cup a b]⟩)
    (nxP fun s => ∃ o a' b', nice o = true ∧ CupB a' b' ∧ s = ⟨[some (.d d0), some (.l 0), some (.d d), some (.d (toD t)), some (.d o), jk x5, none, none, none, none], [], [cup a' b']⟩) := by
  simp_arith [q_law_v1_1_2]
  have ho := odd8 (lo := []) hc
  refine wp_drawL (P := fun x => nice x = true) ho fun o a1 b1 hc1 ho1 => ?_
  simp_arith [uses_jk, ren_jk, nxP_nx]
  exact ⟨o, ho1, a1, b1, hc1, by cases x5 <;> simp [jk]⟩
theorem st3 {o : PyData} (hc : CupB a b) (ht : Rn 8 t) (ho : nice o = true) : Wp (q_law_v1_1_3 ⟨[some (.d d0), some (.l 0), some (.d d), some (.d (toD t)), some (.d o), jk x5, none, none, none, none], [], [cup a b]⟩)
    (nxP fun s => ∃ a' b', CupB a' b' ∧ s = ⟨[some (.d d0), some (.l 0), some (.d d), some (.d (toD t)), some (.d o), jk x5, none, none, none, none], [], [cup a' b']⟩) := by
  have hdr : Bk.Dr t := ht.dr (by decide)
  have k3 : ∀ s, callK 1 f_law_right_v1 [.d o] s = .ok (.d (.bool true)) s := fun s => callK_d (right_eq ho _)
  have k4 : ∀ s : S, callK 1 f_law_parts [.d (toD t)] s = .ok (.l s.lo.length) (s.push (.dit (kvsT t))) := fun s => callK_f (parts_eq hdr _)
  have hlen : (rdsT t).length ≤ 1000 := by unfold rdsT; rw [List.length_map, Bk.pre_len]; exact hdr.few
  have hpos : 1 ≤ (rdsT t).length := by unfold rdsT; rw [List.length_map, Bk.pre_len]; have := Bk.tips_pos hdr.ok; omega
  simp_arith [q_law_v1_1_3, k3, k4]
  rw [sorted_eq (t := t)]
  rotate_left
  · rfl
  simp_arith []
  have hs := some_g0 (gl := cup a b :: [some (.dit (kvsT t)), some (.lst ((rdsT t).map enc))]) (k := 0) (j := 2) (a := a) (b := b) (xs := (rdsT t).map enc) rfl rfl (by decide) hc (by simpa using hpos) (by simpa using hlen)
  have hs : RwD (f_law_some [.g 0, .g 2] (cup a b :: [some (.dit (kvsT t)), some (.lst ((rdsT t).map enc))])) fun x gl' => Cs (cup a b :: [some (.dit (kvsT t)), some (.lst ((rdsT t).map enc))]) 0 gl' ∧ x ∈ (rdsT t).map enc := hs.imp fun x gl' ⟨a', b', e1, e2, e3⟩ => ⟨⟨a', b', e1, e2⟩, e3⟩
  refine wp_drawL (P := fun x => x ∈ (rdsT t).map enc) hs fun x a1 b1 hc1 hx => ?_
  obtain ⟨r, hr, rfl⟩ := List.mem_map.mp hx
  obtain ⟨⟨r', p⟩, hm, rfl⟩ := List.mem_map.mp hr
  have hv := (Bk.vis_perm t).mem_iff.mpr hm
  obtain ⟨o1, o2, o3, o4⟩ := vis_ok t r' p hv hdr.ok
  have k5 : ∀ (s : S), callK 3 f_law_put_v1 [.d (toD t), .d (enc r'), .d o] s = .ok (.d (putT t r' o)) s := fun s => callK_d (put_eq r' 64 t o _ (by have := hdr.dep; omega) o3 hdr.ok)
  have k6 : ∀ s, callK 1 f_law_right_v1 [.d (putT t r' o)] s = .ok (.d (.bool true)) s := fun s => callK_d (right_eq (nice_put r' t o hdr.ok ho o3) _)
  simp_arith [k5, k6, nxP_nx]
  exact hc1
theorem st4 {o : PyData} (hc : CupB a b) : Wp (q_law_v1_1_4 ⟨[some (.d d0), some (.l 0), some (.d d), some (.d (toD t)), some (.d o), jk x5, none, none, none, none], [], [cup a b]⟩)
    (nxP fun s => ∃ (gs : List Bu) (a' b' : Int), gs.length ≤ 4 ∧ (∀ g ∈ gs, Rn 4 g) ∧ CupB a' b' ∧ s = ⟨[some (.d d0), some (.l 0), some (.d d), some (.d (toD t)), some (.d o), some (.d (.tuple (gs.map toD))), none, none, none, none], [], [cup a' b']⟩) := by
  simp_arith [q_law_v1_1_4]
  have hr := row8 (lo := []) hc
  refine wp_drawL (P := fun x => ∃ gs : List Bu, x = .tuple (gs.map toD) ∧ gs.length ≤ 4 ∧ ∀ g ∈ gs, Rn 4 g) hr fun x a1 b1 hc1 ⟨gs, hx, h1, h2⟩ => ?_
  subst hx
  simp_arith [uses_jk, ren_jk, nxP_nx]
  exact ⟨gs, h1, h2, a1, b1, hc1, by simp⟩
theorem st5 {o : PyData} {gs : List Bu} (h1 : gs.length ≤ 4) (h2 : ∀ g ∈ gs, Rn 4 g) : Wp (q_law_v1_1_5 ⟨[some (.d d0), some (.l 0), some (.d d), some (.d (toD t)), some (.d o), some (.d (.tuple (gs.map toD))), none, none, none, none], [], [cup a b]⟩)
    (nxP fun s => s = ⟨[some (.d d0), some (.l 0), some (.d d), some (.d (toD t)), some (.d o), some (.d (.tuple (gs.map toD))), none, none, none, none], [], [cup a b]⟩) := by
  have hn : niceA (gs.map toD) = true := niceA_of fun d hd => by
    obtain ⟨g, hg, rfl⟩ := List.mem_map.mp hd
    exact nice_toD g (h2 g hg).ok
  have hall : ((gs.map toD).all fun v => decide (lib 0 v ≤ 400)) = true := List.all_eq_true.mpr fun d hd => by
    obtain ⟨g, hg, rfl⟩ := List.mem_map.mp hd
    exact decide_eq_true (lib_rn (h2 g hg) (by decide))
  have k1 : ∀ s : S, callK 1 f_are_growths [.d (.tuple (gs.map toD))] s = .ok (.d (.bool true)) s := fun s => by rw [callK_d (growths_eq hn (by simpa using (by omega : gs.length ≤ 12)) _), hall]
  have k2 : callK 1 f_are_growths [.l 1] ⟨[some (.d d0), some (.l 0), some (.d d), some (.d (toD t)), some (.d o), some (.d (.tuple (gs.map toD))), none, none, none, none], [], [cup a b, some (.lst (gs.map toD))]⟩ = .ok (.d (.bool false)) ⟨[some (.d d0), some (.l 0), some (.d d), some (.d (toD t)), some (.d o), some (.d (.tuple (gs.map toD))), none, none, none, none], [], [cup a b, some (.lst (gs.map toD))]⟩ := callK_d (growths_list (k := 1) rfl)
  simp_arith [q_law_v1_1_5, k1, lstD, k2, nxP_nx]
theorem st6 {o : PyData} {gs : List Bu} (ho : nice o = true) (h1 : gs.length ≤ 4) (h2 : ∀ g ∈ gs, Rn 4 g) : Wp (q_law_v1_1_6 ⟨[some (.d d0), some (.l 0), some (.d d), some (.d (toD t)), some (.d o), some (.d (.tuple (gs.map toD))), none, none, none, none], [], [cup a b]⟩)
    (nxP fun s => s = ⟨[some (.d d0), some (.l 0), some (.d d), some (.d (toD t)), some (.d o), some (.d (.tuple (gs.map toD))), none, none, none, none], [], [cup a b]⟩) := by
  have hn : niceA (gs.map toD ++ [o]) = true := niceA_of fun d hd => by
    rcases List.mem_append.mp hd with hd | hd
    · obtain ⟨g, hg, rfl⟩ := List.mem_map.mp hd
      exact nice_toD g (h2 g hg).ok
    · have : d = o := by simpa using hd
      rw [this]; exact ho
  have hall : ((gs.map toD ++ [o]).all fun v => decide (lib 0 v ≤ 400)) = decide (lib 0 o ≤ 400) := by
    have : ((gs.map toD).all fun v => decide (lib 0 v ≤ 400)) = true := List.all_eq_true.mpr fun d hd => by
      obtain ⟨g, hg, rfl⟩ := List.mem_map.mp hd
      exact decide_eq_true (lib_rn (h2 g hg) (by decide))
    rw [List.all_append, this]
    simp
  have k1 : ∀ s : S, callK 1 f_are_growths [.d (.tuple (gs.map toD ++ [o]))] s = .ok (.d (.bool (decide (lib 0 o ≤ 400)))) s := fun s => by rw [callK_d (growths_eq hn (by simpa using (by omega : gs.length + 1 ≤ 12)) _), hall]
  have hk2 : ∀ s, callK 2 f_law_is_bush [.d o, .d (.int 0)] s = .ok (.d (.int (lib 0 o : Nat))) s := fun s => callK_d (law_is_bush_lib ho _)
  have c400 : ((lib 0 o : Int) ≤ 400) = (lib 0 o ≤ 400) := propext (by omega)
  have hl : gs.length + 1 ≤ 16777216 := by omega
  by_cases q : lib 0 o ≤ 400
  · simp_arith [q_law_v1_1_6, plusD, hl, k1, hk2, c400, q, gRepr, reprD, neTT, neFF, nxP_nx]
  · simp_arith [q_law_v1_1_6, plusD, hl, k1, hk2, c400, q, gRepr, reprD, neTT, neFF, nxP_nx]
theorem turn (hc : CupB a b) : Wp (q_law_v1_1_b ⟨[some (.d d0), some (.l 0), some (.d d), jk x3, jk x4, jk x5, none, none, none, none], [], [cup a b]⟩)
    (nxP fun s => ∃ y3 y4 y5 a' b', CupB a' b' ∧ s = ⟨[some (.d d0), some (.l 0), some (.d d), some (.d y3), some (.d y4), some (.d y5), none, none, none, none], [], [cup a' b']⟩) := by
  unfold q_law_v1_1_b
  refine wp_seq (st0 hc) ?_
  rintro _ ⟨t, a, b, ht, hc, rfl⟩
  refine wp_seq (st1 hc ht) ?_
  rintro _ ⟨a, b, hc, rfl⟩
  refine wp_seq (st2 hc) ?_
  rintro _ ⟨o, a, b, ho, hc, rfl⟩
  refine wp_seq (st3 hc ht ho) ?_
  rintro _ ⟨a, b, hc, rfl⟩
  refine wp_seq (st4 hc) ?_
  rintro _ ⟨gs, a, b, h1, h2, hc, rfl⟩
  refine wp_seq (st5 h1 h2) ?_
  rintro _ rfl
  refine wp_nxP (st6 ho h1 h2) ?_
  rintro _ rfl
  exact ⟨_, _, _, a, b, hc, rfl⟩
end
end
end Fx

namespace Bk
open PySem PySem.Spec PyProof.Rows L2
open Evl (Ex Ev EvT EvL EvU EvA)
theorem forq_at {K : PySem.W.Frag} {σ : L2.St} {H : Hp} {tl : TE} {g : TG} {tb tz : TS} {D : Ends} (h : tl σ H fun x H1 => tSeq (tFor (iList K (tC x)) g tb) tz D σ H1) : tSeq (tFor (iList K tl) g tb) tz D σ H := h
def chB : Nat → Bu
  | 0 => .tip
  | n + 1 => .knot 115 [chB n]
def wideB : Bu := .knot 103 [.tip, .tip, .tip, .tip, .tip, .tip]
def bigB : Bu := growAll .tip [wideB, wideB, wideB]
def big2 : Bu := puts wideB bigB ((tr bigB).take 23)
def greatN (n : Nat) : Bu := putB big2 [5, 5, 5] (chB n)
abbrev greatB : Bu := greatN 3
mutual
def inC : Bu → List Int → Bool
  | _, [] => true
  | .tip, _ :: _ => false
  | .knot _ bs, i :: r => decide (0 ≤ i) && inCL bs i.toNat r
def inCL : List Bu → Nat → List Int → Bool
  | [], _, _ => false
  | b :: _, 0, r => inC b r
  | _ :: bs, n + 1, r => inCL bs n r
end
mutual
theorem inC_of : ∀ (b : Bu) (r : List Int), inC b r = true → inB b r
  | .tip, [], _ => by rw [inB]; trivial
  | .knot _ _, [], _ => by rw [inB]; trivial
  | .tip, _ :: _, h => by simp [inC] at h
  | .knot c bs, i :: r, h => by
    rw [inC, Bool.and_eq_true, decide_eq_true_eq] at h
    rw [inB]
    exact ⟨h.1, inCL_of bs i.toNat r h.2⟩
theorem inCL_of : ∀ (bs : List Bu) (n : Nat) (r : List Int), inCL bs n r = true → inL bs n r
  | [], _, _, h => by simp [inCL] at h
  | b :: _, 0, r, h => by rw [inL]; exact inC_of b r (by simpa [inCL] using h)
  | _ :: bs, n + 1, r, h => by rw [inL]; exact inCL_of bs n r (by simpa [inCL] using h)
end
def goodB (b : Bu) : Bool := okB b && decide (knots b + tips b ≤ 400) && decide (dep b ≤ 60)
theorem goodB_of {b : Bu} (h : goodB b = true) : Good b := by
  unfold goodB at h
  simp only [Bool.and_eq_true, decide_eq_true_eq] at h
  exact ⟨h.1.1, h.1.2, h.2⟩
def canB (b : Bu) (gs : List Bu) : Bool := goodB b && gs.all goodB && decide (gs.length ≤ 12) && decide (knots (growAll b gs) + tips (growAll b gs) ≤ 400) && decide (dep (growAll b gs) ≤ 60)
theorem canB_of {b : Bu} {gs : List Bu} (h : canB b gs = true) : Can b gs := by
  unfold canB at h
  simp only [Bool.and_eq_true, decide_eq_true_eq, List.all_eq_true] at h
  exact ⟨goodB_of h.1.1.1.1, fun g hg => goodB_of (h.1.1.1.2 g hg), h.1.1.2, h.1.2, h.2⟩
theorem can_big : Can .tip [wideB, wideB, wideB] := canB_of (by decide +kernel)
theorem last_big : (tr bigB).getLast? = some [5, 5, 5] := by decide +kernel
theorem in_big2 : inB big2 [5, 5, 5] := inC_of _ _ (by decide +kernel)
theorem ok_big2 : okB big2 = true := by decide +kernel
theorem good_great : Good greatB := goodB_of (by decide +kernel)
theorem can_great : Can greatB [.tip, .tip] := canB_of (by decide +kernel)
theorem Can.pre {b : Bu} {gs : List Bu} (C : Can b gs) (i : Nat) : Can b (gs.take i) := by
  have hou : ∀ g ∈ gs, okB g = true := fun g hg => (C.hg g hg).ok
  have hok : okB (growAll b (gs.take i)) = true := ok_growAll C.hb.ok fun z hz => hou z (List.mem_of_mem_take hz)
  have h2 : growAll (growAll b (gs.take i)) (gs.drop i) = growAll b gs := by unfold growAll; rw [← List.foldl_append, List.take_append_drop]
  have h1 := dep_growAll (gs := gs.drop i) hok fun z hz => hou z (List.mem_of_mem_drop hz)
  have h3 := size_growAll (gs := gs.drop i) hok fun z hz => hou z (List.mem_of_mem_drop hz)
  rw [h2] at h1 h3
  refine ⟨C.hb, fun g hg => C.hg g (List.mem_of_mem_take hg), ?_, Nat.le_trans h3 C.few, Nat.le_trans h1 C.deep⟩
  rw [List.length_take]
  have := C.n
  omega
theorem shaped_lst {bs : List Bu} (h : okBs bs = true) (hd : deps bs ≤ 60) : SeqAt.shaped (.list (bs.map toD)) = true := by
  have h1 := lay_map h
  have h2 := depth_toDs bs
  rw [toDs_map] at h2
  show ((PyData.list (bs.map toD)).canLay0 && decide ((PyData.list (bs.map toD)).depth ≤ 64)) = true
  have e1 : (PyData.list (bs.map toD)).canLay0 = true := by simp only [PyData.canLay0]; exact h1
  have e2 : (PyData.list (bs.map toD)).depth ≤ 64 := by simp only [PyData.depth]; omega
  rw [e1, decide_eq_true e2]
  rfl
theorem eqv_lst (bs : List Bu) : PyData.eqv (.list (bs.map toD)) (.list (bs.map toD)) = true := by
  have := (eqv_toDs bs bs).mpr rfl
  rw [toDs_map] at this
  simpa [PyData.eqv] using this
theorem yrs_dr {b : Bu} {gs : List Bu} (C : Can b gs) (n : Nat) : okBs (yrs b gs n) = true ∧ deps (yrs b gs n) ≤ 60 := by
  constructor
  · refine okBs_of fun x hx => ?_
    obtain ⟨i, _, rfl⟩ := List.mem_map.mp hx
    exact (C.dr i).ok
  · refine deps_le fun x hx => ?_
    obtain ⟨i, _, rfl⟩ := List.mem_map.mp hx
    exact (C.dr i).dep
section
variable {P : Program} {w : World} {K : PySem.W.Frag} {mg : Str → Option Value} {base : Heap}
def spChain (K : PySem.W.Frag) : Sp := fun vs H Q _ => ∃ (n : Nat), vs = [.int (n : Int)] ∧ n ≤ 60 ∧ ∀ (r : V) H', Ex H H' → Dp K H' r (toD (chB n)) → Q r H'
theorem ed_put {σ : L2.St} {H : Hp} {ta : TA} {E : XK} {b g : Bu} {r : List Int} {n : Nat} (ho : okB b = true) (hi : inB b r) (hl : r.length ≤ n) (h : EvAD K ta σ H [toD b, enc r, toD g]) : EvD K (tCall (spPut K n) [] E ta) σ H (toD (putB b r g)) :=
  ed_call h fun vs H1 e1 hvs R rr => by
    cases hvs with
    | cons h1 h2 =>
      cases h2 with
      | cons h3 h4 =>
        cases h4 with
        | cons h5 h6 =>
          cases h6
          exact ⟨_, _, _, b, g, r, rfl, h1, h3, h5, ho, hi, hl, rr⟩
def spGreat (K : PySem.W.Frag) : Sp := fun vs H Q _ => ∃ n : Nat, vs = [.int (n : Int)] ∧ n ≤ 60 ∧ ∀ (r : V) H', Ex H H' → Dp K H' r (toD (greatN n)) → Q r H'
end
end Bk

/-! ### bushes grown, chains, great ones: the laws' own helpers -/
namespace Fx
open PySem PySem.Spec PyProof.Rows L2
local macro_rules | `(tactic| simp_arith [$ts,*]) => `(tactic| try simp -implicitDefEqProofs [↓bind_bnd, bnd_ok, bnd_xc, bnd_no, ↓wp_def, wpI_okW, wpI_ok, wpI_bnd, fSeq_eq, seqK_nx, seqK_rt, seqK_bk, seqK_ct, fIfS_eq, ifK_t, ifK_f, fCall_eq, runP_d, runP_g, runP_nx, runD_d, runD_nx, runF_l, nxP_nx, turnP_nx, turnP_ct, turnP_bk, turnP_rt, runFor_ds, runLc_ds,
      tidy_nil, cut_nil, tidy_drop, isL, S.tidy, S.pack, keeps, uses, ren, List.range, List.range.loop, List.idxOf, List.findIdx, List.findIdx.go, S.cut, fNx, fRet, fRetN, fExpr, fSet, fPar, fPar3, fAug, fUn, fBk, fCt, fPut, fFor, fIt, ivOf, fRng1_eq, fRng2_eq, rng1K_ok, rng2K_ok, fEnum, fB, fT, fAnd, fOr, fNot, fAndV, fOrV, fNotV, fIf, fChain, f1, f2, fV, fC, fNil, fCons, fTup, fLst, fStar, toD1, toDs, tru, truD,
      fN, n1, n2, p1, p2, rd, gv, gIx, isDic, cellOf, gTimes, fMt, tyOf, gIsi, tyN, subTy, S.push, S.put, S.at, tgName, tgNil, tgCons, tgTup, intsA, isND, isBF, sizeLine_eq, take_set0, drop_set0, globA, lcTurn, wipeS, noX, snocAt, tYesF, eqD_int, neD_int, lenD, minusD, gtD, ltD, leD, geD, uses_jk, ren_jk, isL_jk, unl_jk, S.frz, unl, fSl, fP, fNoP, fLc, plusD, $ts,*])
local macro_rules | `(tactic| simp_arith! [$ts,*]) => `(tactic| ((try simp -implicitDefEqProofs [↓bind_bnd, bnd_ok, bnd_xc, bnd_no, ↓wp_def, wpI_okW, fSeq_eq, seqK_nx, seqK_rt, seqK_bk, seqK_ct, fIfS_eq, ifK_t, ifK_f, fCall_eq, runFor_ds, runLc_ds, tidy_nil, cut_nil, tidy_drop, isL, S.tidy, S.pack, keeps, uses, ren, List.range, List.range.loop, List.idxOf, List.findIdx, List.findIdx.go, S.cut, fNx, fRet, fRetN, fExpr, fSet, fPar, fPar3, fAug, fUn, fBk, fCt, fPut, fFor, fIt, ivOf, fRng1_eq, fRng2_eq, rng1K_ok, rng2K_ok, fEnum, fB, fT, fAnd, fOr, fNot, fAndV, fOrV, fNotV, fIf, fChain, f1, f2, fV, fC, fNil, fCons, fTup, fLst, fStar, toD1, toDs, tru, truD, fN, n1, n2, p1, p2, rd, gv, gIx, isDic, cellOf, gTimes, fMt, tyOf, gIsi, tyN, subTy, S.push, S.put, S.at, tgName, tgNil, tgCons, tgTup, intsA, isND, isBF, sizeLine_eq, take_set0, drop_set0, globA, lcTurn, wipeS, noX, snocAt, tYesF, eqD_int, neD_int, lenD, minusD, gtD, ltD, leD, geD, uses_jk, ren_jk, isL_jk, unl_jk, S.frz, unl, fSl, fP, fNoP, fLc, plusD, $ts,*]); try simp -implicitDefEqProofs only [wpI_bnd]))
open Bk (Bu toD okB dep knots tips enc Rn inB inL putB putL grow growAll goes puts tr Dr Good Can)
section
variable [Zz]
theorem putT_toD (g : Bu) : ∀ (r : List Int) (t : Bu), inB t r → putT t r (toD g) = toD (putB t r g)
  | [], t, _ => by cases t <;> simp [putT, putB]
  | i :: r, .tip, h => by simp [inB] at h
  | i :: r, .knot c bs, h => by
    obtain ⟨h0, hL⟩ := h
    obtain ⟨b, hb, hin⟩ := Bk.inL_get hL
    have hg : bs.getD i.toNat .tip = b := by rw [List.getD_eq_getElem?_getD, hb]; rfl
    have hlt := (List.getElem?_eq_some_iff.mp hb).1
    rw [putT, hg, putT_toD g r b hin, putB, Bk.putL_eq hb, toD, Bk.toDs_map, List.map_append, List.map_cons, List.map_take, List.map_drop, List.set_eq_take_append_cons_drop, if_pos (by simpa using hlt)]
theorem putB_eq {t g : Bu} {r : List Int} (hl : r.length ≤ 60) (hi : inB t r) (ho : okB t = true) (gl : Glo) : f_law_put_v1 [.d (toD t), .d (enc r), .d (toD g)] gl = .ok (.d (toD (putB t r g))) gl := by
  rw [← putT_toD g r t hi]
  exact put_eq r 64 t (toD g) gl (by omega) hi ho
theorem goes_cons {g x : Bu} {r : List Int} {rs : List (List Int)} (h : goes g x (r :: rs)) : inB x r ∧ goes g (putB x r g) rs := h
/-- so many put in, one behind the other -/
theorem puts_wp {g : Bu} (hg : okB g = true) {t : PyData → S → Option S} {b : S → R Fl} {Q : Fl → S → Prop} (st : Bu → Option PyData → S) (step : ∀ x e r, okB x = true → inB x r → r.length ≤ 60 → ∃ s1, t (enc r) (st x e) = some s1 ∧ Wp (b s1) (nxP fun s => s = st (putB x r g) (some (enc r)))) :
    ∀ (rs : List (List Int)) (x : Bu) (e : Option PyData), okB x = true → (∀ r ∈ rs, r.length ≤ 60) → goes g x rs → (∀ e, Q .nx (st (puts g x rs) e)) → Wp (forD t b (rs.map enc) (st x e)) Q
  | [], x, e, _, _, _, hQ => wpOk (hQ e)
  | r :: rs, x, e, ho, hl, hgo, hQ => by
    obtain ⟨h1, h2⟩ := goes_cons hgo
    obtain ⟨s1, e1, w1⟩ := step x e r ho h1 (hl r List.mem_cons_self)
    rw [List.map_cons, forD, e1]
    dsimp only
    rw [wp_bind]
    refine w1.imp fun fl s h => ?_
    cases fl with
    | nx =>
      have h : s = st (putB x r g) (some (enc r)) := h
      subst h
      exact puts_wp hg st step rs (putB x r g) _ (Bk.ok_put hg x r ho) (fun r hr => hl r (List.mem_cons_of_mem _ hr)) h2 hQ
    | bk => exact h.elim
    | ct => exact h.elim
    | rt x => exact h.elim
theorem law_grown_eq {t g : Bu} (h : Dr t) (hg : okB g = true) (gl : Glo) : f_law_grown_v1 [.d (toD t), .d (toD g)] gl = .ok (.d (toD (grow t g))) gl := by
  refine rwD_eq (rwD_run ?_)
  have k1 : ∀ s : S, callK 1 f_law_tips [.d (toD t)] s = .ok (.l s.lo.length) (s.push (.lst ((tr t).map enc))) := fun s => callK_f (tips_eq h _)
  simp_arith [b_law_grown_v1, k1]
  refine puts_wp hg (fun x e => ⟨[some (.d (toD x)), some (.d (toD g)), jk e], gl, []⟩) (fun x e r ho hi hl => ⟨_, rfl, ?_⟩) (tr t) t none h.ok (fun r hr => Nat.le_trans (Bk.tr_dep t r hr) h.dep) (Bk.puts_tr g t).2 fun e => ?_
  · have k2 : ∀ s : S, callK 3 f_law_put_v1 [.d (toD x), .d (enc r), .d (toD g)] s = .ok (.d (toD (putB x r g))) s := fun s => callK_d (putB_eq hl hi ho _)
    simp_arith [k2]
    rfl
  · rw [(Bk.puts_tr g t).1]
    simp_arith []
theorem law_bush_of_eq {gs : List Bu} (C : Can .tip gs) (gl : Glo) : f_law_bush_of_v1 [.d (.tuple (gs.map toD))] gl = .ok (.d (toD (growAll .tip gs))) gl := by
  refine rwD_eq (rwD_run ?_)
  simp_arith! [b_law_bush_of_v1]
  refine wp_forD (fun ds s => ∃ (i : Nat) (e : Option PyData), i ≤ gs.length ∧ ds = (gs.drop i).map toD ∧ s = ⟨[some (.d (.tuple (gs.map toD))), some (.d (toD (growAll .tip (gs.take i)))), jk e], gl, []⟩) ?_ ?_ _ _ ⟨0, none, Nat.zero_le _, rfl, rfl⟩
  · rintro d ds s ⟨i, e, hi, hd, rfl⟩
    have hlt : i < gs.length := by
      rcases Nat.lt_or_ge i gs.length with h | h
      · exact h
      · rw [List.drop_of_length_le h] at hd; cases hd
    rw [List.drop_eq_getElem_cons hlt, List.map_cons, List.cons.injEq] at hd
    obtain ⟨rfl, rfl⟩ := hd
    have hdr := Bk.Can.dr C i
    have hg : okB gs[i] = true := (C.hg _ (List.getElem_mem hlt)).ok
    have k1 : ∀ s : S, callK 2 f_law_grown_v1 [.d (toD (growAll .tip (gs.take i))), .d (toD gs[i])] s = .ok (.d (toD (growAll .tip (gs.take (i + 1))))) s := fun s => by
      rw [List.take_succ_eq_append_getElem hlt, Bk.growAll_snoc]
      exact callK_d (law_grown_eq hdr hg _)
    refine ⟨_, rfl, ?_⟩
    simp_arith! [k1]
    exact wpOk ⟨i + 1, some (toD gs[i]), by omega, rfl, rfl⟩
  · rintro s ⟨i, e, hi, hd, rfl⟩
    have : gs.length ≤ i := by
      have := congrArg List.length hd
      simp at this; omega
    simp_arith! []
    rw [List.take_of_length_le this]
    exact wpOk ⟨rfl, rfl⟩
theorem strS : Str.ofString "s" = ⟨#[115]⟩ := by decide +kernel
theorem strG : Str.ofString "g" = ⟨#[103]⟩ := by decide +kernel
theorem law_chain_eq {n : Nat} (h : n ≤ 1000) (gl : Glo) : f_law_chain [.d (.int (n : Int))] gl = .ok (.d (toD (Bk.chB n))) gl := by
  refine rwD_eq (rwD_run ?_)
  have hr : rngOk (n : Int) := rngOk_nat (by omega)
  simp_arith! [b_law_chain, hr]
  have e0 : toD (Bk.chB 0) = .tuple [] := by rw [Bk.chB, toD]
  refine wp_forD (fun ds s => ∃ (i : Nat) (e : Option PyData), i + ds.length = n ∧ s = ⟨[some (.d (.int (n : Int))), some (.d (toD (Bk.chB i))), jk e], gl, []⟩) ?_ ?_ _ _ ⟨0, none, by simp [rngL], by rw [e0]; rfl⟩
  · rintro d ds s ⟨i, e, hi, rfl⟩
    have hi : i + 1 + ds.length = n := by simp at hi; omega
    have e1 : toD (Bk.chB (i + 1)) = .tuple [.str "s", toD (Bk.chB i)] := by
      rw [Bk.chB, toD, Bk.toDs, Bk.toDs, strS]
    refine ⟨_, rfl, ?_⟩
    simp_arith! []
    refine wpOk ⟨i + 1, some d, hi, ?_⟩
    rw [e1]
    rfl
  · rintro s ⟨i, e, hi, rfl⟩
    obtain rfl : i = n := by simpa using hi
    simp_arith! []
    exact wpOk ⟨rfl, rfl⟩
theorem tr_ok {t : Bu} (h : Dr t) {r : List Int} (hr : r ∈ tr t) : inB t r ∧ r.length ≤ 60 := by
  have h1 := Bk.tr_dep t r hr
  have h2 := h.dep
  refine ⟨?_, by omega⟩
  rw [← Bk.pre_tips] at hr
  obtain ⟨⟨r', p⟩, hm, rfl⟩ := List.mem_map.mp hr
  have hv := (Bk.vis_perm t).mem_iff.mpr (List.mem_filter.mp hm).1
  exact (vis_ok t r' p hv h.ok).2.2.1
theorem goes_take {g x : Bu} {rs : List (List Int)} (h : goes g x rs) (n : Nat) : goes g x (rs.take n) := by
  have := (Bk.goes_app g (rs.take n) (rs.drop n) x).mp (by rw [List.take_append_drop]; exact h)
  exact this.1
theorem len_big : (tr Bk.bigB).length = 216 := by decide +kernel
theorem law_great_eq {n : Nat} (h : n ≤ 1000) (gl : Glo) : f_law_great [.d (.int (n : Int))] gl = .ok (.d (toD (Bk.greatN n))) gl := by
  refine rwD_eq (rwD_run ?_)
  have w : toD Bk.wideB = .tuple [.str "g", .tuple [], .tuple [], .tuple [], .tuple [], .tuple [], .tuple []] := by simp [Bk.wideB, toD, Bk.toDs, strG]
  have t1 : timesD (.tuple [.tuple []]) (.int 6) = .d (.tuple [.tuple [], .tuple [], .tuple [], .tuple [], .tuple [], .tuple []]) := rfl
  have k1 : ∀ s : S, callK 1 f_law_bush_of_v1 [.d (.tuple [toD Bk.wideB, toD Bk.wideB, toD Bk.wideB])] s = .ok (.d (toD Bk.bigB)) s := fun s => callK_d (law_bush_of_eq Bk.can_big _)
  have gb : Good Bk.bigB := Bk.goodB_of (by decide +kernel)
  have hdr : Dr Bk.bigB := Bk.Good.dr gb
  have k2 : ∀ s : S, callK 1 f_law_tips [.d (toD Bk.bigB)] s = .ok (.l s.lo.length) (s.push (.lst ((tr Bk.bigB).map enc))) := fun s => callK_f (tips_eq hdr _)
  have hll := len_big
  have hgo := (Bk.puts_tr Bk.wideB Bk.bigB).2
  have h23 : slD none (some 23) (.list ((tr Bk.bigB).map enc)) = .c (.lst (((tr Bk.bigB).take 23).map enc)) := by
    show slD none (some ((23 : Nat) : Int)) _ = _
    simp only [slD, cutL, sIx_n]
    simp [HT.sIx, List.map_take, hll]
  have hlast : ixD (.list ((tr Bk.bigB).map enc)) (.int (-1)) = .d (enc [5, 5, 5]) := by
    have h2 : (tr Bk.bigB)[215]? = some [5, 5, 5] := by
      have := Bk.last_big
      rwa [List.getLast?_eq_getElem?, hll] at this
    have h3 : ((tr Bk.bigB).map enc)[215]? = some (enc [5, 5, 5]) := by rw [List.getElem?_map, h2]; rfl
    have h4 : (tr Bk.bigB)[215] = [5, 5, 5] := (List.getElem?_eq_some_iff.mp h2).2
    unfold ixD atI ixN
    simp [hll, h4]
  rw [w] at k1
  simp_arith! [b_law_great, t1, k1, k2, h23]
  rw [← w]
  refine puts_wp (g := Bk.wideB) (by decide +kernel) (fun x e => ⟨[some (.d (.int (n : Int))), some (.d (toD Bk.wideB)), some (.d (toD x)), some (.l 0), jk e], gl, [some (.lst ((tr Bk.bigB).map enc))]⟩) (fun x e r ho hi hl => ⟨_, rfl, ?_⟩) ((tr Bk.bigB).take 23) Bk.bigB none gb.ok (fun r hr => (tr_ok hdr (List.mem_of_mem_take hr)).2) (goes_take hgo 23) fun e => ?_
  · have k3 : ∀ s : S, callK 3 f_law_put_v1 [.d (toD x), .d (enc r), .d (toD Bk.wideB)] s = .ok (.d (toD (putB x r Bk.wideB))) s := fun s => callK_d (putB_eq hl hi ho _)
    simp_arith! [k3]
    exact wpOk rfl
  · have k4 : ∀ s : S, callK 1 f_law_chain [.d (.int (n : Int))] s = .ok (.d (toD (Bk.chB n))) s := fun s => callK_d (law_chain_eq h _)
    have k5 : ∀ s : S, callK 3 f_law_put_v1 [.d (toD Bk.big2), .d (enc [5, 5, 5]), .d (toD (Bk.chB n))] s = .ok (.d (toD (Bk.greatN n))) s := fun s => callK_d (putB_eq (by decide) Bk.in_big2 Bk.ok_big2 _)
    have hb2 : puts Bk.wideB Bk.bigB ((tr Bk.bigB).take 23) = Bk.big2 := rfl
    simp_arith! [hb2, negD, hlast, k4, k5]
    exact wpOk ⟨rfl, rfl⟩
end
end Fx

/-! ### the law -/
namespace Fx
open PySem PySem.Spec PyProof.Rows L2
local macro_rules | `(tactic| simp_arith! [$ts,*]) => `(tactic| ((try simp -implicitDefEqProofs [↓bind_bnd, bnd_ok, bnd_xc, bnd_no, ↓wp_def, wpI_okW, fSeq_eq, seqK_nx, seqK_rt, seqK_bk, seqK_ct, fIfS_eq, ifK_t, ifK_f, fCall_eq, runFor_ds, runLc_ds, tidy_nil, cut_nil, tidy_drop, isL, S.tidy, S.pack, keeps, uses, ren, List.range, List.range.loop, List.idxOf, List.findIdx, List.findIdx.go, S.cut, fNx, fRet, fRetN, fExpr, fSet, fPar, fPar3, fAug, fUn, fBk, fCt, fPut, fFor, fIt, ivOf, fRng1_eq, fRng2_eq, rng1K_ok, rng2K_ok, fEnum, fB, fT, fAnd, fOr, fNot, fAndV, fOrV, fNotV, fIf, fChain, f1, f2, fV, fC, fNil, fCons, fTup, fLst, fStar, toD1, toDs, tru, truD, fN, n1, n2, p1, p2, rd, gv, gIx, isDic, cellOf, gTimes, fMt, tyOf, gIsi, tyN, subTy, S.push, S.put, S.at, tgName, tgNil, tgCons, tgTup, intsA, isND, isBF, sizeLine_eq, take_set0, drop_set0, globA, lcTurn, wipeS, noX, snocAt, tYesF, eqD_int, neD_int, lenD, minusD, gtD, ltD, leD, geD, uses_jk, ren_jk, isL_jk, unl_jk, S.frz, unl, fSl, fP, fNoP, fLc, plusD, $ts,*]); try simp -implicitDefEqProofs only [wpI_bnd]))
open Bk (Bu toD chB greatN)
section
variable [Zz]
def tailT : S → R Fl := fSeq q_law_v1_2 (fSeq q_law_v1_3 (fSeq q_law_v1_4 (fSeq q_law_v1_5 (fSeq q_law_v1_6 (fSeq q_law_v1_7 q_law_v1_8)))))
def rowA : List PyData := [.tuple [.tuple [], .bool true], .tuple [.tuple [.str "ab", .tuple []], .bool false], .tuple [.tuple [.str "", .tuple []], .bool false]]
def rowB : List PyData := [.tuple [.tuple [.str "f"], .bool false], .tuple [.tuple [.str "f", .tuple [], .str "s"], .bool false], .tuple [.tuple [.str "F", .tuple []], .bool false], .tuple [toD (chB 60), .bool true], .tuple [toD (chB 61), .bool false], .tuple [.tuple [.str "f", .tuple [], toD (chB 60)], .bool false]]
def rowC : List PyData := [.tuple [toD (greatN 3), .bool true], .tuple [toD (greatN 4), .bool false], .tuple [.tuple [.str "f", .tuple [], .tuple [], .tuple [], .tuple [], .tuple [], .tuple []], .bool true],
  .tuple [.tuple [.str "f", .tuple [], .tuple [], .tuple [], .tuple [], .tuple [], .tuple [], .tuple []], .bool false], .tuple [.tuple [.str "f", .tuple [.str "f", .tuple []], .tuple [.tuple [.str "f"], .tuple []]], .bool false]]
def fV6 : PyData := .tuple [.str "f", .tuple [], .tuple []]
def rowG : List PyData := [.tuple [.tuple [], .bool true], .tuple [.tuple [fV6, .tuple []], .bool true], .tuple [.list [fV6], .bool false], .tuple [.tuple (List.replicate 12 fV6), .bool true], .tuple [.tuple (List.replicate 13 fV6), .bool false], .tuple [.none, .bool false], .tuple [fV6, .bool false], .tuple [.tuple [fV6, .none], .bool false], .tuple [.tuple [toD (greatN 3), toD (greatN 3), toD (greatN 3)], .bool true]]
def isGr : PyData → Bool
  | .tuple ds => decide (ds.length ≤ 12) && ds.all fun v => decide (lib 0 v ≤ 400)
  | _ => false
def okA : PyData → Bool
  | .tuple [v, .bool b] => nice v && (b == decide (lib 0 v ≤ 400))
  | _ => false
def okG : PyData → Bool
  | .tuple [v, .bool b] => nice v && (b == isGr v)
  | _ => false
theorem rows_okA : (rowA ++ rowB ++ rowC).all okA = true := by decide +kernel
theorem rows_okG : rowG.all okG = true := by decide +kernel
theorem growths_any {v : PyData} (h : nice v = true) (gl : Glo) : f_are_growths [.d v] gl = .ok (.d (.bool (isGr v))) gl := by
  cases v with
  | tuple ds =>
    by_cases hl : ds.length ≤ 12
    · have := growths_eq (ds := ds) (by simpa [nice] using h) hl gl
      rw [this, isGr, decide_eq_true hl, Bool.true_and]
    · refine rwD_eq (rwD_run ?_)
      have hl2 : ((12 : Int) < (ds.length : Int)) := by omega
      have hl3 : 12 < ds.length := by omega
      simp_arith! [b_are_growths, hl2, hl3]
      refine wpOk ⟨?_, rfl⟩
      rw [isGr, decide_eq_false hl]; rfl
  | dict _ => cases h
  | none => refine rwD_eq (rwD_run ?_); simp_arith! [b_are_growths]; exact wpOk ⟨rfl, rfl⟩
  | bool _ => refine rwD_eq (rwD_run ?_); simp_arith! [b_are_growths]; exact wpOk ⟨rfl, rfl⟩
  | int _ => refine rwD_eq (rwD_run ?_); simp_arith! [b_are_growths]; exact wpOk ⟨rfl, rfl⟩
  | list _ => refine rwD_eq (rwD_run ?_); simp_arith! [b_are_growths]; exact wpOk ⟨rfl, rfl⟩
  | str _ => refine rwD_eq (rwD_run ?_); simp_arith! [b_are_growths]; exact wpOk ⟨rfl, rfl⟩
section
variable {d0 d2 x3 x4 x5 : PyData} {a b : Int}
theorem tl2 : Wp (q_law_v1_2 ⟨[some (.d d0), some (.l 0), some (.d d2), some (.d x3), some (.d x4), some (.d x5), none, none, none, none], [], [cup a b]⟩)
    (nxP fun s => s = ⟨[some (.d d0), some (.l 0), some (.d d2), some (.d x3), some (.d x4), some (.d x5), some (.l 1), none, none, none], [], [cup a b, some (.lst rowA)]⟩) := by
  simp_arith! [q_law_v1_2]
  exact wpOk rfl
theorem tl3 : Wp (q_law_v1_3 ⟨[some (.d d0), some (.l 0), some (.d d2), some (.d x3), some (.d x4), some (.d x5), some (.l 1), none, none, none], [], [cup a b, some (.lst rowA)]⟩)
    (nxP fun s => s = ⟨[some (.d d0), some (.l 0), some (.d d2), some (.d x3), some (.d x4), some (.d x5), some (.l 1), none, none, none], [], [cup a b, some (.lst (rowA ++ rowB))]⟩) := by
  have k1 : ∀ s : S, callK 1 f_law_chain [.d (.int 60)] s = .ok (.d (toD (chB 60))) s := fun s => callK_d (law_chain_eq (n := 60) (by decide) _)
  have k2 : ∀ s : S, callK 1 f_law_chain [.d (.int 61)] s = .ok (.d (toD (chB 61))) s := fun s => callK_d (law_chain_eq (n := 61) (by decide) _)
  have hl : rowA.length = 3 := rfl
  simp_arith! [q_law_v1_3, k1, k2, hl]
  exact wpOk rfl
theorem tl4 : Wp (q_law_v1_4 ⟨[some (.d d0), some (.l 0), some (.d d2), some (.d x3), some (.d x4), some (.d x5), some (.l 1), none, none, none], [], [cup a b, some (.lst (rowA ++ rowB))]⟩)
    (nxP fun s => s = ⟨[some (.d d0), some (.l 0), some (.d d2), some (.d x3), some (.d x4), some (.d x5), some (.l 1), none, none, none], [], [cup a b, some (.lst (rowA ++ rowB ++ rowC))]⟩) := by
  have k1 : ∀ s : S, callK 1 f_law_great [.d (.int 3)] s = .ok (.d (toD (greatN 3))) s := fun s => callK_d (law_great_eq (n := 3) (by decide) _)
  have k2 : ∀ s : S, callK 1 f_law_great [.d (.int 4)] s = .ok (.d (toD (greatN 4))) s := fun s => callK_d (law_great_eq (n := 4) (by decide) _)
  have hl : rowA.length = 3 := rfl
  have hl2 : rowB.length = 6 := rfl
  have t1 : timesD (.tuple [.tuple []]) (.int 6) = .d (.tuple [.tuple [], .tuple [], .tuple [], .tuple [], .tuple [], .tuple []]) := rfl
  have t2 : timesD (.tuple [.tuple []]) (.int 7) = .d (.tuple [.tuple [], .tuple [], .tuple [], .tuple [], .tuple [], .tuple [], .tuple []]) := rfl
  simp_arith! [q_law_v1_4, k1, k2, hl, hl2, t1, t2]
  refine wpOk ?_
  show (⟨_, _, _⟩ : S) = ⟨_, _, _⟩
  rw [List.append_assoc]
  rfl
theorem okA_of {d : PyData} (h : okA d = true) : ∃ v b, d = .tuple [v, .bool b] ∧ nice v = true ∧ b = decide (lib 0 v ≤ 400) := by
  unfold okA at h
  split at h
  · rename_i v b
    simp only [Bool.and_eq_true, beq_iff_eq] at h
    exact ⟨v, b, rfl, h.1, h.2⟩
  · cases h
theorem okG_of {d : PyData} (h : okG d = true) : ∃ v b, d = .tuple [v, .bool b] ∧ nice v = true ∧ b = isGr v := by
  unfold okG at h
  split at h
  · rename_i v b
    simp only [Bool.and_eq_true, beq_iff_eq] at h
    exact ⟨v, b, rfl, h.1, h.2⟩
  · cases h
theorem ne_reprB (b : Bool) : neD (.str (if b then "True" else "False")) (.str (if b then "True" else "False")) = .d (.bool false) := by
  cases b
  · exact neFF
  · exact neTT
theorem tl5 {rs : List PyData} (hr : rs.all okA = true) : Wp (q_law_v1_5 ⟨[some (.d d0), some (.l 0), some (.d d2), some (.d x3), some (.d x4), some (.d x5), some (.l 1), none, none, none], [], [cup a b, some (.lst rs)]⟩)
    (nxP fun s => ∃ x6, s = ⟨[some (.d d0), some (.l 0), some (.d d2), some (.d x3), some (.d x4), some (.d x5), some (.d x6), none, none, none], [], [cup a b, none]⟩) := by
  simp_arith! [q_law_v1_5]
  refine wp_lcNil [cup a b, none] (fun d hd => ?_) ?_
  · obtain ⟨v, k, rfl, hv, hk⟩ := okA_of (List.all_eq_true.mp hr d hd)
    have k1 : ∀ s : S, callK 1 f_is_bush [.d v] s = .ok (.d (.bool k)) s := fun s => by rw [hk]; exact callK_d (is_bush_lib hv _)
    have k2 : ∀ s : S, callK 1 f_law_right_v1 [.d v] s = .ok (.d (.bool true)) s := fun s => callK_d (right_eq hv _)
    have hn := ne_reprB k
    simp_arith! [k1, k2, gRepr, reprD, hn, backTo']
  · have e0 : neD (.list []) (.list []) = .d (.bool false) := rfl
    simp_arith! [e0]
    exact wpOk ⟨_, rfl⟩
theorem tl6 {x6 : PyData} : Wp (q_law_v1_6 ⟨[some (.d d0), some (.l 0), some (.d d2), some (.d x3), some (.d x4), some (.d x5), some (.d x6), none, none, none], [], [cup a b, none]⟩)
    (nxP fun s => s = ⟨[some (.d d0), some (.l 0), some (.d d2), some (.d x3), some (.d x4), some (.d x5), some (.d x6), some (.d fV6), none, none], [], [cup a b]⟩) := by
  simp_arith! [q_law_v1_6]
  exact wpOk rfl
theorem tl7 {x6 : PyData} : Wp (q_law_v1_7 ⟨[some (.d d0), some (.l 0), some (.d d2), some (.d x3), some (.d x4), some (.d x5), some (.d x6), some (.d fV6), none, none], [], [cup a b]⟩)
    (nxP fun s => s = ⟨[some (.d d0), some (.l 0), some (.d d2), some (.d x3), some (.d x4), some (.d x5), some (.l 1), some (.d fV6), none, none], [], [cup a b, some (.lst rowG)]⟩) := by
  have k1 : ∀ s : S, callK 1 f_law_great [.d (.int 3)] s = .ok (.d (toD (greatN 3))) s := fun s => callK_d (law_great_eq (n := 3) (by decide) _)
  have t1 : timesD (.tuple [fV6]) (.int 12) = .d (.tuple (List.replicate 12 fV6)) := rfl
  have t2 : timesD (.tuple [fV6]) (.int 13) = .d (.tuple (List.replicate 13 fV6)) := rfl
  have t3 : timesD (.tuple [toD (greatN 3)]) (.int 3) = .d (.tuple [toD (greatN 3), toD (greatN 3), toD (greatN 3)]) := by
    unfold timesD
    dsimp only
    rw [if_pos ⟨by simp, by decide, by decide, by simp⟩]
    rfl
  simp_arith! [q_law_v1_7, k1, t1, t2, t3]
  exact wpOk rfl
theorem tl8 {rs : List PyData} (hr : rs.all okG = true) : Wp (q_law_v1_8 ⟨[some (.d d0), some (.l 0), some (.d d2), some (.d x3), some (.d x4), some (.d x5), some (.l 1), some (.d fV6), none, none], [], [cup a b, some (.lst rs)]⟩)
    (runD fun x gl => x = .bool true ∧ gl = []) := by
  simp_arith! [q_law_v1_8]
  refine wp_lcNil [cup a b, none] (fun d hd => ?_) ?_
  · obtain ⟨v, k, rfl, hv, hk⟩ := okG_of (List.all_eq_true.mp hr d hd)
    have k1 : ∀ s : S, callK 1 f_are_growths [.d v] s = .ok (.d (.bool k)) s := fun s => by rw [hk]; exact callK_d (growths_any hv _)
    have hn := ne_reprB k
    simp_arith! [k1, gRepr, reprD, hn, backTo']
  · have e0 : eqD (.list []) (.list []) = .d (.bool true) := rfl
    simp_arith! [e0]
    exact wpOk ⟨rfl, rfl⟩
theorem tail_ok : Wp (tailT ⟨[some (.d d0), some (.l 0), some (.d d2), some (.d x3), some (.d x4), some (.d x5), none, none, none, none], [], [cup a b]⟩) (runD fun x gl => x = .bool true ∧ gl = []) := by
  unfold tailT
  refine wp_seq tl2 ?_
  rintro _ rfl
  refine wp_seq tl3 ?_
  rintro _ rfl
  refine wp_seq tl4 ?_
  rintro _ rfl
  refine wp_seq (tl5 rows_okA) ?_
  rintro _ ⟨x6, rfl⟩
  refine wp_seq tl6 ?_
  rintro _ rfl
  refine wp_seq tl7 ?_
  rintro _ rfl
  exact tl8 rows_okG
end
theorem law_ok {ns : List Int} (hl : ns.length ≤ 63) (hb : ∀ z ∈ ns, Builtin.Int.intBits z ≤ 1048576) : f_law_v1 [.d (.list (ns.map .int))] [] = .ok (.d (.bool true)) [] := by
  refine rwD_eq (rwD_run ?_)
  unfold b_law_v1
  have h0 : Wp (q_law_v1_0 ⟨[some (.d (.list (ns.map .int))), none, none, none, none, none, none, none, none, none], [], []⟩)
      (nxP fun s => ∃ a b, CupB a b ∧ s = ⟨[some (.d (.list (ns.map .int))), some (.l 0), none, none, none, none, none, none, none, none], [], [cup a b]⟩) := by
    simp_arith! [q_law_v1_0]
    refine wp_callF (cup_ok hb hl) ?_
    rintro cc gl' ⟨a, b, hce, hcb, rfl⟩
    obtain rfl : cc = .lst [.int a, .int b] := by simpa using hce
    simp_arith! []
    exact wpOk ⟨a, b, hcb, rfl⟩
  refine wp_seq h0 ?_
  rintro _ ⟨a, b, hc, rfl⟩
  have h1 : Wp (q_law_v1_1 ⟨[some (.d (.list (ns.map .int))), some (.l 0), none, none, none, none, none, none, none, none], [], [cup a b]⟩)
      (nxP fun s => ∃ y2 y3 y4 y5 a b, CupB a b ∧ s = ⟨[some (.d (.list (ns.map .int))), some (.l 0), some (.d y2), some (.d y3), some (.d y4), some (.d y5), none, none, none, none], [], [cup a b]⟩) := by
    simp_arith! [q_law_v1_1, rngOk_int (j := 6) (by decide) (by decide)]
    refine wp_range (fun i s => ∃ x2 x3 x4 x5 a b, CupB a b ∧ s = ⟨[some (.d (.list (ns.map .int))), some (.l 0), jk x2, jk x3, jk x4, jk x5, none, none, none, none], [], [cup a b]⟩ ∧ (i = 0 ∨ ∃ y2 y3 y4 y5, x2 = some y2 ∧ x3 = some y3 ∧ x4 = some y4 ∧ x5 = some y5)) (n := 6) ?_ ?_ rfl ⟨none, none, none, none, a, b, hc, rfl, .inl rfl⟩
    · rintro i d s _ ⟨x2, x3, x4, x5, a, b, hc, rfl, _⟩
      refine ⟨_, rfl, wp_nxP (turn hc) ?_⟩
      rintro _ ⟨y3, y4, y5, a', b', hc', rfl⟩
      exact ⟨some _, some y3, some y4, some y5, a', b', hc', rfl, .inr ⟨_, _, _, _, rfl, rfl, rfl, rfl⟩⟩
    · rintro s ⟨x2, x3, x4, x5, a, b, hc, rfl, h | ⟨y2, y3, y4, y5, rfl, rfl, rfl, rfl⟩⟩
      · cases h
      · exact ⟨y2, y3, y4, y5, a, b, hc, rfl⟩
  refine wp_seq h1 ?_
  rintro _ ⟨y2, y3, y4, y5, a, b, hc, rfl⟩
  exact tail_ok
end
end Fx

namespace Bk
open PySem PySem.Spec PyProof.Rows L2
theorem ok_law {P : Program} {w : World} {K : PySem.W.Frag} {mg : Str → Option Value} {base : Heap} (T : Tx K mg) : FnG P w K mg base CX0 69 T.a_law T.d_law P_law (Fx.spLaw K) := Fx.law_of (xr := fun _ _ _ _ => False) (Fx.ok_law T) fun ns hl hb => Fx.law_ok hl hb
end Bk
namespace Bk
open PySem PySem.Spec PyProof.Rows L2
/-! ### what the top has written, the head -/
theorem all_mk {l : PySem.W.OpenLaw} {w : World} {K : PySem.W.Frag} {h : Heap} {mg : Str → Option Value} {fa : Addr} (X : K.In h) (G : h.Ns mainGlobals mg) (hfa : mg "law" = some (.ref fa))
    {f0 f1 f2 f3 f4 f5 f6 f7 f8 f9 f10 f11 f12 f13 f14 f15 f16 f17 f18 f19 f20 f21 f22 f23 f24 f25 : Addr} {od0 an0 od1 an1 od2 an2 od3 an3 od4 an4 od5 an5 od6 an6 od7 an7 od8 an8 od9 an9 od10 an10 od11 an11 od12 an12 od13 an13 od14 an14 od15 an15 od16 an16 od17 an17 od18 an18 od19 an19 od20 an20 od21 an21 od22 an22 od23 an23 od24 an24 od25 an25 : Option Addr} {sl0 sl1 sl2 sl3 sl4 sl5 sl6 sl7 sl8 sl9 sl10 sl11 sl12 sl13 sl14 sl15 sl16 sl17 sl18 sl19 sl20 sl21 sl22 sl23 sl24 sl25 : Array (Option Value)} {oc0 kV0 dc0 pm0 cd0 ct0 oc1 kV1 dc1 pm1 cd1 ct1 oc2 kV2 dc2 pm2 cd2 ct2 oc3 kV3 dc3 pm3 cd3 ct3 oc4 kV4 dc4 pm4 cd4 ct4 oc5 kV5 dc5 pm5 cd5 ct5 oc6 kV6 dc6 pm6 cd6 ct6 oc7 kV7 dc7 pm7 cd7 ct7 oc8 kV8 dc8 pm8 cd8 ct8 oc9 kV9 dc9 pm9 cd9 ct9 oc10 kV10 dc10 pm10 cd10 ct10 oc11 kV11 dc11 pm11 cd11 ct11 oc12 kV12 dc12 pm12 cd12 ct12 oc13 kV13 dc13 pm13 cd13 ct13 oc14 kV14 dc14 pm14 cd14 ct14 oc15 kV15 dc15 pm15 cd15 ct15 oc16 kV16 dc16 pm16 cd16 ct16 oc17 kV17 dc17 pm17 cd17 ct17 oc18 kV18 dc18 pm18 cd18 ct18 oc19 kV19 dc19 pm19 cd19 ct19 oc20 kV20 dc20 pm20 cd20 ct20 oc21 kV21 dc21 pm21 cd21 ct21 oc22 kV22 dc22 pm22 cd22 ct22 oc23 kV23 dc23 pm23 cd23 ct23 oc24 kV24 dc24 pm24 cd24 ct24 oc25 kV25 dc25 pm25 cd25 ct25 : Value}
    {tk0 tk1 tk2 tk3 : Tok}
    (a0 : PySem.W.nsIn K mainGlobals "is_letter" = some (some (.ref f0))) (l0 : K.lookup f0 = some ⟨oc0, od0, .func (PySem.W.fnOf "is_letter" "is_letter" (defArgs s_is_letter) (defBody s_is_letter) (defScope s_is_letter) .none kV0 dc0 pm0 an0 cd0 ct0), sl0⟩) (c0 : PySem.W.codeIn K cd0 "is_letter" = true) (k0 : PySem.W.keepIn K (.ref f0) = true)
    (a1 : PySem.W.nsIn K mainGlobals "_has_form" = some (some (.ref f1))) (l1 : K.lookup f1 = some ⟨oc1, od1, .func (PySem.W.fnOf "_has_form" "_has_form" (defArgs s_has_form) (defBody s_has_form) (defScope s_has_form) .none kV1 dc1 pm1 an1 cd1 ct1), sl1⟩) (c1 : PySem.W.codeIn K cd1 "_has_form" = true) (k1 : PySem.W.keepIn K (.ref f1) = true)
    (a2 : PySem.W.nsIn K mainGlobals "is_bush" = some (some (.ref f2))) (l2 : K.lookup f2 = some ⟨oc2, od2, .func (PySem.W.fnOf "is_bush" "is_bush" (defArgs s_is_bush) (defBody s_is_bush) (defScope s_is_bush) .none kV2 dc2 pm2 an2 cd2 ct2), sl2⟩) (c2 : PySem.W.codeIn K cd2 "is_bush" = true) (k2 : PySem.W.keepIn K (.ref f2) = true)
    (a3 : PySem.W.nsIn K mainGlobals "are_growths" = some (some (.ref f3))) (l3 : K.lookup f3 = some ⟨oc3, od3, .func (PySem.W.fnOf "are_growths" "are_growths" (defArgs s_are_growths) (defBody s_are_growths) (defScope s_are_growths) .none kV3 dc3 pm3 an3 cd3 ct3), sl3⟩) (c3 : PySem.W.codeIn K cd3 "are_growths" = true) (k3 : PySem.W.keepIn K (.ref f3) = true)
    (a4 : PySem.W.nsIn K mainGlobals "_law_cup" = some (some (.ref f4))) (l4 : K.lookup f4 = some ⟨oc4, od4, .func (PySem.W.fnOf "_law_cup" "_law_cup" (defArgs s_law_cup) (defBody s_law_cup) (defScope s_law_cup) .none kV4 dc4 pm4 an4 cd4 ct4), sl4⟩) (c4 : PySem.W.codeIn K cd4 "_law_cup" = true) (k4 : PySem.W.keepIn K (.ref f4) = true)
    (a5 : PySem.W.nsIn K mainGlobals "_law_roll" = some (some (.ref f5))) (l5 : K.lookup f5 = some ⟨oc5, od5, .func (PySem.W.fnOf "_law_roll" "_law_roll" (defArgs s_law_roll) (defBody s_law_roll) (defScope s_law_roll) .none kV5 dc5 pm5 an5 cd5 ct5), sl5⟩) (c5 : PySem.W.codeIn K cd5 "_law_roll" = true) (k5 : PySem.W.keepIn K (.ref f5) = true)
    (a6 : PySem.W.nsIn K mainGlobals "_law_some" = some (some (.ref f6))) (l6 : K.lookup f6 = some ⟨oc6, od6, .func (PySem.W.fnOf "_law_some" "_law_some" (defArgs s_law_some) (defBody s_law_some) (defScope s_law_some) .none kV6 dc6 pm6 an6 cd6 ct6), sl6⟩) (c6 : PySem.W.codeIn K cd6 "_law_some" = true) (k6 : PySem.W.keepIn K (.ref f6) = true)
    (a7 : PySem.W.nsIn K mainGlobals "_law_parts" = some (some (.ref f7))) (l7 : K.lookup f7 = some ⟨oc7, od7, .func (PySem.W.fnOf "_law_parts" "_law_parts" (defArgs s_law_parts) (defBody s_law_parts) (defScope s_law_parts) .none kV7 dc7 pm7 an7 cd7 ct7), sl7⟩) (c7 : PySem.W.codeIn K cd7 "_law_parts" = true) (k7 : PySem.W.keepIn K (.ref f7) = true)
    (a8 : PySem.W.nsIn K mainGlobals "_law_tips" = some (some (.ref f8))) (l8 : K.lookup f8 = some ⟨oc8, od8, .func (PySem.W.fnOf "_law_tips" "_law_tips" (defArgs s_law_tips) (defBody s_law_tips) (defScope s_law_tips) .none kV8 dc8 pm8 an8 cd8 ct8), sl8⟩) (c8 : PySem.W.codeIn K cd8 "_law_tips" = true) (k8 : PySem.W.keepIn K (.ref f8) = true)
    (a9 : PySem.W.nsIn K mainGlobals "_law_knots" = some (some (.ref f9))) (l9 : K.lookup f9 = some ⟨oc9, od9, .func (PySem.W.fnOf "_law_knots" "_law_knots" (defArgs s_law_knots) (defBody s_law_knots) (defScope s_law_knots) .none kV9 dc9 pm9 an9 cd9 ct9), sl9⟩) (c9 : PySem.W.codeIn K cd9 "_law_knots" = true) (k9 : PySem.W.keepIn K (.ref f9) = true)
    (a10 : PySem.W.nsIn K mainGlobals "_law_put" = some (some (.ref f10))) (l10 : K.lookup f10 = some ⟨oc10, od10, .func (PySem.W.fnOf "_law_put" "_law_put" (defArgs s_law_put) (defBody s_law_put) (defScope s_law_put) .none kV10 dc10 pm10 an10 cd10 ct10), sl10⟩) (c10 : PySem.W.codeIn K cd10 "_law_put" = true) (k10 : PySem.W.keepIn K (.ref f10) = true)
    (a11 : PySem.W.nsIn K mainGlobals "_law_grown" = some (some (.ref f11))) (l11 : K.lookup f11 = some ⟨oc11, od11, .func (PySem.W.fnOf "_law_grown" "_law_grown" (defArgs s_law_grown) (defBody s_law_grown) (defScope s_law_grown) .none kV11 dc11 pm11 an11 cd11 ct11), sl11⟩) (c11 : PySem.W.codeIn K cd11 "_law_grown" = true) (k11 : PySem.W.keepIn K (.ref f11) = true)
    (a12 : PySem.W.nsIn K mainGlobals "_law_bush_of" = some (some (.ref f12))) (l12 : K.lookup f12 = some ⟨oc12, od12, .func (PySem.W.fnOf "_law_bush_of" "_law_bush_of" (defArgs s_law_bush_of) (defBody s_law_bush_of) (defScope s_law_bush_of) .none kV12 dc12 pm12 an12 cd12 ct12), sl12⟩) (c12 : PySem.W.codeIn K cd12 "_law_bush_of" = true) (k12 : PySem.W.keepIn K (.ref f12) = true)
    (a13 : PySem.W.nsIn K mainGlobals "_law_depths" = some (some (.ref f13))) (l13 : K.lookup f13 = some ⟨oc13, od13, .func (PySem.W.fnOf "_law_depths" "_law_depths" (defArgs s_law_depths) (defBody s_law_depths) (defScope s_law_depths) .none kV13 dc13 pm13 an13 cd13 ct13), sl13⟩) (c13 : PySem.W.codeIn K cd13 "_law_depths" = true) (k13 : PySem.W.keepIn K (.ref f13) = true)
    (a14 : PySem.W.nsIn K mainGlobals "_law_sizes" = some (some (.ref f14))) (l14 : K.lookup f14 = some ⟨oc14, od14, .func (PySem.W.fnOf "_law_sizes" "_law_sizes" (defArgs s_law_sizes) (defBody s_law_sizes) (defScope s_law_sizes) .none kV14 dc14 pm14 an14 cd14 ct14), sl14⟩) (c14 : PySem.W.codeIn K cd14 "_law_sizes" = true) (k14 : PySem.W.keepIn K (.ref f14) = true)
    (a15 : PySem.W.nsIn K mainGlobals "_law_bush" = some (some (.ref f15))) (l15 : K.lookup f15 = some ⟨oc15, od15, .func (PySem.W.fnOf "_law_bush" "_law_bush" (defArgs s_law_bush) (defBody s_law_bush) (defScope s_law_bush) .none kV15 dc15 pm15 an15 cd15 ct15), sl15⟩) (c15 : PySem.W.codeIn K cd15 "_law_bush" = true) (k15 : PySem.W.keepIn K (.ref f15) = true)
    (a16 : PySem.W.nsIn K mainGlobals "_law_growth" = some (some (.ref f16))) (l16 : K.lookup f16 = some ⟨oc16, od16, .func (PySem.W.fnOf "_law_growth" "_law_growth" (defArgs s_law_growth) (defBody s_law_growth) (defScope s_law_growth) .none kV16 dc16 pm16 an16 cd16 ct16), sl16⟩) (c16 : PySem.W.codeIn K cd16 "_law_growth" = true) (k16 : PySem.W.keepIn K (.ref f16) = true)
    (a17 : PySem.W.nsIn K mainGlobals "_law_known" = some (some (.ref f17))) (l17 : K.lookup f17 = some ⟨oc17, od17, .func (PySem.W.fnOf "_law_known" "_law_known" (defArgs s_law_known) (defBody s_law_known) (defScope s_law_known) .none kV17 dc17 pm17 an17 cd17 ct17), sl17⟩) (c17 : PySem.W.codeIn K cd17 "_law_known" = true) (k17 : PySem.W.keepIn K (.ref f17) = true)
    (a18 : PySem.W.nsIn K mainGlobals "_law_row" = some (some (.ref f18))) (l18 : K.lookup f18 = some ⟨oc18, od18, .func (PySem.W.fnOf "_law_row" "_law_row" (defArgs s_law_row) (defBody s_law_row) (defScope s_law_row) .none kV18 dc18 pm18 an18 cd18 ct18), sl18⟩) (c18 : PySem.W.codeIn K cd18 "_law_row" = true) (k18 : PySem.W.keepIn K (.ref f18) = true)
    (a19 : PySem.W.nsIn K mainGlobals "_law_near_bush" = some (some (.ref f19))) (l19 : K.lookup f19 = some ⟨oc19, od19, .func (PySem.W.fnOf "_law_near_bush" "_law_near_bush" (defArgs s_law_near_bush) (defBody s_law_near_bush) (defScope s_law_near_bush) .none kV19 dc19 pm19 an19 cd19 ct19), sl19⟩) (c19 : PySem.W.codeIn K cd19 "_law_near_bush" = true) (k19 : PySem.W.keepIn K (.ref f19) = true)
    (a20 : PySem.W.nsIn K mainGlobals "_law_chain" = some (some (.ref f20))) (l20 : K.lookup f20 = some ⟨oc20, od20, .func (PySem.W.fnOf "_law_chain" "_law_chain" (defArgs s_law_chain) (defBody s_law_chain) (defScope s_law_chain) .none kV20 dc20 pm20 an20 cd20 ct20), sl20⟩) (c20 : PySem.W.codeIn K cd20 "_law_chain" = true) (k20 : PySem.W.keepIn K (.ref f20) = true)
    (a21 : PySem.W.nsIn K mainGlobals "_law_great" = some (some (.ref f21))) (l21 : K.lookup f21 = some ⟨oc21, od21, .func (PySem.W.fnOf "_law_great" "_law_great" (defArgs s_law_great) (defBody s_law_great) (defScope s_law_great) .none kV21 dc21 pm21 an21 cd21 ct21), sl21⟩) (c21 : PySem.W.codeIn K cd21 "_law_great" = true) (k21 : PySem.W.keepIn K (.ref f21) = true)
    (a22 : PySem.W.nsIn K mainGlobals "_law_is_bush" = some (some (.ref f22))) (l22 : K.lookup f22 = some ⟨oc22, od22, .func (PySem.W.fnOf "_law_is_bush" "_law_is_bush" (defArgs s_law_is_bush) (defBody s_law_is_bush) (defScope s_law_is_bush) .none kV22 dc22 pm22 an22 cd22 ct22), sl22⟩) (c22 : PySem.W.codeIn K cd22 "_law_is_bush" = true) (k22 : PySem.W.keepIn K (.ref f22) = true)
    (a23 : PySem.W.nsIn K mainGlobals "_law_odd" = some (some (.ref f23))) (l23 : K.lookup f23 = some ⟨oc23, od23, .func (PySem.W.fnOf "_law_odd" "_law_odd" (defArgs s_law_odd) (defBody s_law_odd) (defScope s_law_odd) .none kV23 dc23 pm23 an23 cd23 ct23), sl23⟩) (c23 : PySem.W.codeIn K cd23 "_law_odd" = true) (k23 : PySem.W.keepIn K (.ref f23) = true)
    (a24 : PySem.W.nsIn K mainGlobals "_law_right" = some (some (.ref f24))) (l24 : K.lookup f24 = some ⟨oc24, od24, .func (PySem.W.fnOf "_law_right" "_law_right" (defArgs s_law_right) (defBody s_law_right) (defScope s_law_right) .none kV24 dc24 pm24 an24 cd24 ct24), sl24⟩) (c24 : PySem.W.codeIn K cd24 "_law_right" = true) (k24 : PySem.W.keepIn K (.ref f24) = true)
    (a25 : PySem.W.nsIn K mainGlobals "law" = some (some (.ref f25))) (l25 : K.lookup f25 = some ⟨oc25, od25, .func (PySem.W.fnOf "law" "law" (defArgs s_law) (defBody s_law) (defScope s_law) .none kV25 dc25 pm25 an25 cd25 ct25), sl25⟩) (c25 : PySem.W.codeIn K cd25 "law" = true) (k25 : PySem.W.keepIn K (.ref f25) = true)
    (m0 : PySem.W.nsIn K mainGlobals "MOST_BRANCHES" = some (some (.int 6 tk0)))
    (m1 : PySem.W.nsIn K mainGlobals "MOST_PARTS" = some (some (.int 400 tk1)))
    (m2 : PySem.W.nsIn K mainGlobals "MOST_DEPTH" = some (some (.int 60 tk2)))
    (m3 : PySem.W.nsIn K mainGlobals "MOST_GROWTHS" = some (some (.int 12 tk3)))
    (z0 : PySem.W.nsIn K mainGlobals "abs" = some none)
    (z1 : PySem.W.nsIn K mainGlobals "all" = some none)
    (z2 : PySem.W.nsIn K mainGlobals "int" = some none)
    (z3 : PySem.W.nsIn K mainGlobals "isinstance" = some none)
    (z4 : PySem.W.nsIn K mainGlobals "len" = some none)
    (z5 : PySem.W.nsIn K mainGlobals "list" = some none)
    (z6 : PySem.W.nsIn K mainGlobals "max" = some none)
    (z7 : PySem.W.nsIn K mainGlobals "min" = some none)
    (z8 : PySem.W.nsIn K mainGlobals "range" = some none)
    (z9 : PySem.W.nsIn K mainGlobals "repr" = some none)
    (z10 : PySem.W.nsIn K mainGlobals "sorted" = some none)
    (z11 : PySem.W.nsIn K mainGlobals "str" = some none)
    (z12 : PySem.W.nsIn K mainGlobals "sum" = some none)
    (z13 : PySem.W.nsIn K mainGlobals "tuple" = some none)
    : ∃ fd : FuncData, (∀ (s : Shared) (v : Value), BindsTo s fd ⟨[v], []⟩ [("_law_script", v)]) ∧ ∀ base : Heap, K.In base → base.Ns mainGlobals mg → FnG l.prog w K mg base CX0 69 fa fd ["_law_script"] (Fx.spLaw K) := by
  have e := hfa.symm.trans (PySem.W.mg_of X G a25)
  cases e
  have F0 := fun_mk (st := s_is_letter) l0 c0 k0
  have b0 := F0.binds (ps := P_is_letter) fun _ _ _ _ _ _ us hl => match us, hl with | [_], _ => rfl
  have F1 := fun_mk (st := s_has_form) l1 c1 k1
  have b1 := F1.binds (ps := P_has_form) fun _ _ _ _ _ _ us hl => match us, hl with | [_], _ => rfl
  have F2 := fun_mk (st := s_is_bush) l2 c2 k2
  have b2 := F2.binds (ps := P_is_bush) fun _ _ _ _ _ _ us hl => match us, hl with | [_], _ => rfl
  have F3 := fun_mk (st := s_are_growths) l3 c3 k3
  have b3 := F3.binds (ps := P_are_growths) fun _ _ _ _ _ _ us hl => match us, hl with | [_], _ => rfl
  have F4 := fun_mk (st := s_law_cup) l4 c4 k4
  have b4 := F4.binds (ps := P_law_cup) fun _ _ _ _ _ _ us hl => match us, hl with | [_], _ => rfl
  have F5 := fun_mk (st := s_law_roll) l5 c5 k5
  have b5 := F5.binds (ps := P_law_roll) fun _ _ _ _ _ _ us hl => match us, hl with | [_, _], _ => rfl
  have F6 := fun_mk (st := s_law_some) l6 c6 k6
  have b6 := F6.binds (ps := P_law_some) fun _ _ _ _ _ _ us hl => match us, hl with | [_, _], _ => rfl
  have F7 := fun_mk (st := s_law_parts) l7 c7 k7
  have b7 := F7.binds (ps := P_law_parts) fun _ _ _ _ _ _ us hl => match us, hl with | [_], _ => rfl
  have F8 := fun_mk (st := s_law_tips) l8 c8 k8
  have b8 := F8.binds (ps := P_law_tips) fun _ _ _ _ _ _ us hl => match us, hl with | [_], _ => rfl
  have F9 := fun_mk (st := s_law_knots) l9 c9 k9
  have b9 := F9.binds (ps := P_law_knots) fun _ _ _ _ _ _ us hl => match us, hl with | [_], _ => rfl
  have F10 := fun_mk (st := s_law_put) l10 c10 k10
  have b10 := F10.binds (ps := P_law_put) fun _ _ _ _ _ _ us hl => match us, hl with | [_, _, _], _ => rfl
  have F11 := fun_mk (st := s_law_grown) l11 c11 k11
  have b11 := F11.binds (ps := P_law_grown) fun _ _ _ _ _ _ us hl => match us, hl with | [_, _], _ => rfl
  have F12 := fun_mk (st := s_law_bush_of) l12 c12 k12
  have b12 := F12.binds (ps := P_law_bush_of) fun _ _ _ _ _ _ us hl => match us, hl with | [_], _ => rfl
  have F13 := fun_mk (st := s_law_depths) l13 c13 k13
  have b13 := F13.binds (ps := P_law_depths) fun _ _ _ _ _ _ us hl => match us, hl with | [_], _ => rfl
  have F14 := fun_mk (st := s_law_sizes) l14 c14 k14
  have b14 := F14.binds (ps := P_law_sizes) fun _ _ _ _ _ _ us hl => match us, hl with | [_], _ => rfl
  have F15 := fun_mk (st := s_law_bush) l15 c15 k15
  have b15 := F15.binds (ps := P_law_bush) fun _ _ _ _ _ _ us hl => match us, hl with | [_, _], _ => rfl
  have F16 := fun_mk (st := s_law_growth) l16 c16 k16
  have b16 := F16.binds (ps := P_law_growth) fun _ _ _ _ _ _ us hl => match us, hl with | [_, _], _ => rfl
  have F17 := fun_mk (st := s_law_known) l17 c17 k17
  have b17 := F17.binds (ps := P_law_known) fun _ _ _ _ _ _ us hl => match us, hl with | [_], _ => rfl
  have F18 := fun_mk (st := s_law_row) l18 c18 k18
  have b18 := F18.binds (ps := P_law_row) fun _ _ _ _ _ _ us hl => match us, hl with | [_, _, _], _ => rfl
  have F19 := fun_mk (st := s_law_near_bush) l19 c19 k19
  have b19 := F19.binds (ps := P_law_near_bush) fun _ _ _ _ _ _ us hl => match us, hl with | [_, _], _ => rfl
  have F20 := fun_mk (st := s_law_chain) l20 c20 k20
  have b20 := F20.binds (ps := P_law_chain) fun _ _ _ _ _ _ us hl => match us, hl with | [_], _ => rfl
  have F21 := fun_mk (st := s_law_great) l21 c21 k21
  have b21 := F21.binds (ps := P_law_great) fun _ _ _ _ _ _ us hl => match us, hl with | [_], _ => rfl
  have F22 := fun_mk (st := s_law_is_bush) l22 c22 k22
  have b22 := F22.binds (ps := P_law_is_bush) fun _ _ _ _ _ _ us hl => match us, hl with | [_, _], _ => rfl
  have F23 := fun_mk (st := s_law_odd) l23 c23 k23
  have b23 := F23.binds (ps := P_law_odd) fun _ _ _ _ _ _ us hl => match us, hl with | [_], _ => rfl
  have F24 := fun_mk (st := s_law_right) l24 c24 k24
  have b24 := F24.binds (ps := P_law_right) fun _ _ _ _ _ _ us hl => match us, hl with | [_], _ => rfl
  have F25 := fun_mk (st := s_law) l25 c25 k25
  have b25 := F25.binds (ps := P_law) fun _ _ _ _ _ _ us hl => match us, hl with | [_], _ => rfl
  let T : Tx K mg := {
    a_is_letter := f0, d_is_letter := _, F_is_letter := F0, g_is_letter := PySem.W.mg_of X G a0, b_is_letter := b0,
    a_has_form := f1, d_has_form := _, F_has_form := F1, g_has_form := PySem.W.mg_of X G a1, b_has_form := b1,
    a_is_bush := f2, d_is_bush := _, F_is_bush := F2, g_is_bush := PySem.W.mg_of X G a2, b_is_bush := b2,
    a_are_growths := f3, d_are_growths := _, F_are_growths := F3, g_are_growths := PySem.W.mg_of X G a3, b_are_growths := b3,
    a_law_cup := f4, d_law_cup := _, F_law_cup := F4, g_law_cup := PySem.W.mg_of X G a4, b_law_cup := b4,
    a_law_roll := f5, d_law_roll := _, F_law_roll := F5, g_law_roll := PySem.W.mg_of X G a5, b_law_roll := b5,
    a_law_some := f6, d_law_some := _, F_law_some := F6, g_law_some := PySem.W.mg_of X G a6, b_law_some := b6,
    a_law_parts := f7, d_law_parts := _, F_law_parts := F7, g_law_parts := PySem.W.mg_of X G a7, b_law_parts := b7,
    a_law_tips := f8, d_law_tips := _, F_law_tips := F8, g_law_tips := PySem.W.mg_of X G a8, b_law_tips := b8,
    a_law_knots := f9, d_law_knots := _, F_law_knots := F9, g_law_knots := PySem.W.mg_of X G a9, b_law_knots := b9,
    a_law_put := f10, d_law_put := _, F_law_put := F10, g_law_put := PySem.W.mg_of X G a10, b_law_put := b10,
    a_law_grown := f11, d_law_grown := _, F_law_grown := F11, g_law_grown := PySem.W.mg_of X G a11, b_law_grown := b11,
    a_law_bush_of := f12, d_law_bush_of := _, F_law_bush_of := F12, g_law_bush_of := PySem.W.mg_of X G a12, b_law_bush_of := b12,
    a_law_depths := f13, d_law_depths := _, F_law_depths := F13, g_law_depths := PySem.W.mg_of X G a13, b_law_depths := b13,
    a_law_sizes := f14, d_law_sizes := _, F_law_sizes := F14, g_law_sizes := PySem.W.mg_of X G a14, b_law_sizes := b14,
    a_law_bush := f15, d_law_bush := _, F_law_bush := F15, g_law_bush := PySem.W.mg_of X G a15, b_law_bush := b15,
    a_law_growth := f16, d_law_growth := _, F_law_growth := F16, g_law_growth := PySem.W.mg_of X G a16, b_law_growth := b16,
    a_law_known := f17, d_law_known := _, F_law_known := F17, g_law_known := PySem.W.mg_of X G a17, b_law_known := b17,
    a_law_row := f18, d_law_row := _, F_law_row := F18, g_law_row := PySem.W.mg_of X G a18, b_law_row := b18,
    a_law_near_bush := f19, d_law_near_bush := _, F_law_near_bush := F19, g_law_near_bush := PySem.W.mg_of X G a19, b_law_near_bush := b19,
    a_law_chain := f20, d_law_chain := _, F_law_chain := F20, g_law_chain := PySem.W.mg_of X G a20, b_law_chain := b20,
    a_law_great := f21, d_law_great := _, F_law_great := F21, g_law_great := PySem.W.mg_of X G a21, b_law_great := b21,
    a_law_is_bush := f22, d_law_is_bush := _, F_law_is_bush := F22, g_law_is_bush := PySem.W.mg_of X G a22, b_law_is_bush := b22,
    a_law_odd := f23, d_law_odd := _, F_law_odd := F23, g_law_odd := PySem.W.mg_of X G a23, b_law_odd := b23,
    a_law_right := f24, d_law_right := _, F_law_right := F24, g_law_right := PySem.W.mg_of X G a24, b_law_right := b24,
    a_law := fa, d_law := _, F_law := F25, g_law := PySem.W.mg_of X G a25, b_law := b25,
    c_MOST_BRANCHES := ⟨_, PySem.W.mg_of X G m0⟩,
    c_MOST_PARTS := ⟨_, PySem.W.mg_of X G m1⟩,
    c_MOST_DEPTH := ⟨_, PySem.W.mg_of X G m2⟩,
    c_MOST_GROWTHS := ⟨_, PySem.W.mg_of X G m3⟩,
    z_abs := PySem.W.mg_none_of X G z0,
    z_all := PySem.W.mg_none_of X G z1,
    z_int := PySem.W.mg_none_of X G z2,
    z_isinstance := PySem.W.mg_none_of X G z3,
    z_len := PySem.W.mg_none_of X G z4,
    z_list := PySem.W.mg_none_of X G z5,
    z_max := PySem.W.mg_none_of X G z6,
    z_min := PySem.W.mg_none_of X G z7,
    z_range := PySem.W.mg_none_of X G z8,
    z_repr := PySem.W.mg_none_of X G z9,
    z_sorted := PySem.W.mg_none_of X G z10,
    z_str := PySem.W.mg_none_of X G z11,
    z_sum := PySem.W.mg_none_of X G z12,
    z_tuple := PySem.W.mg_none_of X G z13 }
  exact ⟨_, fun s v => .of_eq rfl, fun base _ _ => ok_law T⟩
end Bk
open PySem PySem.W PyProof.Rows
set_option maxHeartbeats 0 in
theorem PySem.Challenge.cw_tipwoods_k06_whole_what_are_bushes_holds : PySem.Challenge.rw_tipwoods_k06_whole_what_are_bushes.Holds := by
  w_on; o_law; k_head; (case hw => w_witness2)
  k_fill
  refine PySem.W.walk_ofBG (l := PySem.Challenge.rw_tipwoods_k06_whole_what_are_bushes) (n := 63) (k := 69) (x := "_law_script") (CX := fun _ => L2.CX0) (sp := fun w => Fx.spLaw _) rfl (by decide) rfl ⟨rfl, by decide, by decide⟩ (fun w h Y => PySem.W.kIn_of Y) ?F (fun _ _ a ns hl hb _ hS => ⟨a, ns, rfl, hS, hl, hb, fun _ => rfl⟩)
  case F =>
    intro w mg fa h KX G hmg
    refine' Bk.all_mk KX G hmg ?a0 ?l0 ?c0 ?k0 ?a1 ?l1 ?c1 ?k1 ?a2 ?l2 ?c2 ?k2 ?a3 ?l3 ?c3 ?k3 ?a4 ?l4 ?c4 ?k4 ?a5 ?l5 ?c5 ?k5 ?a6 ?l6 ?c6 ?k6 ?a7 ?l7 ?c7 ?k7 ?a8 ?l8 ?c8 ?k8 ?a9 ?l9 ?c9 ?k9 ?a10 ?l10 ?c10 ?k10 ?a11 ?l11 ?c11 ?k11 ?a12 ?l12 ?c12 ?k12 ?a13 ?l13 ?c13 ?k13 ?a14 ?l14 ?c14 ?k14 ?a15 ?l15 ?c15 ?k15 ?a16 ?l16 ?c16 ?k16 ?a17 ?l17 ?c17 ?k17 ?a18 ?l18 ?c18 ?k18 ?a19 ?l19 ?c19 ?k19 ?a20 ?l20 ?c20 ?k20 ?a21 ?l21 ?c21 ?k21 ?a22 ?l22 ?c22 ?k22 ?a23 ?l23 ?c23 ?k23 ?a24 ?l24 ?c24 ?k24 ?a25 ?l25 ?c25 ?k25 ?m0 ?m1 ?m2 ?m3 ?z0 ?z1 ?z2 ?z3 ?z4 ?z5 ?z6 ?z7 ?z8 ?z9 ?z10 ?z11 ?z12 ?z13
    (case a0 => k_is)
    (case l0 => k_is)
    (case c0 => k_is)
    (case k0 => k_is)
    (case a1 => k_is)
    (case l1 => k_is)
    (case c1 => k_is)
    (case k1 => k_is)
    (case a2 => k_is)
    (case l2 => k_is)
    (case c2 => k_is)
    (case k2 => k_is)
    (case a3 => k_is)
    (case l3 => k_is)
    (case c3 => k_is)
    (case k3 => k_is)
    (case a4 => k_is)
    (case l4 => k_is)
    (case c4 => k_is)
    (case k4 => k_is)
    (case a5 => k_is)
    (case l5 => k_is)
    (case c5 => k_is)
    (case k5 => k_is)
    (case a6 => k_is)
    (case l6 => k_is)
    (case c6 => k_is)
    (case k6 => k_is)
    (case a7 => k_is)
    (case l7 => k_is)
    (case c7 => k_is)
    (case k7 => k_is)
    (case a8 => k_is)
    (case l8 => k_is)
    (case c8 => k_is)
    (case k8 => k_is)
    (case a9 => k_is)
    (case l9 => k_is)
    (case c9 => k_is)
    (case k9 => k_is)
    (case a10 => k_is)
    (case l10 => k_is)
    (case c10 => k_is)
    (case k10 => k_is)
    (case a11 => k_is)
    (case l11 => k_is)
    (case c11 => k_is)
    (case k11 => k_is)
    (case a12 => k_is)
    (case l12 => k_is)
    (case c12 => k_is)
    (case k12 => k_is)
    (case a13 => k_is)
    (case l13 => k_is)
    (case c13 => k_is)
    (case k13 => k_is)
    (case a14 => k_is)
    (case l14 => k_is)
    (case c14 => k_is)
    (case k14 => k_is)
    (case a15 => k_is)
    (case l15 => k_is)
    (case c15 => k_is)
    (case k15 => k_is)
    (case a16 => k_is)
    (case l16 => k_is)
    (case c16 => k_is)
    (case k16 => k_is)
    (case a17 => k_is)
    (case l17 => k_is)
    (case c17 => k_is)
    (case k17 => k_is)
    (case a18 => k_is)
    (case l18 => k_is)
    (case c18 => k_is)
    (case k18 => k_is)
    (case a19 => k_is)
    (case l19 => k_is)
    (case c19 => k_is)
    (case k19 => k_is)
    (case a20 => k_is)
    (case l20 => k_is)
    (case c20 => k_is)
    (case k20 => k_is)
    (case a21 => k_is)
    (case l21 => k_is)
    (case c21 => k_is)
    (case k21 => k_is)
    (case a22 => k_is)
    (case l22 => k_is)
    (case c22 => k_is)
    (case k22 => k_is)
    (case a23 => k_is)
    (case l23 => k_is)
    (case c23 => k_is)
    (case k23 => k_is)
    (case a24 => k_is)
    (case l24 => k_is)
    (case c24 => k_is)
    (case k24 => k_is)
    (case a25 => k_is)
    (case l25 => k_is)
    (case c25 => k_is)
    (case k25 => k_is)
    (case m0 => k_is)
    (case m1 => k_is)
    (case m2 => k_is)
    (case m3 => k_is)
    (case z0 => k_is)
    (case z1 => k_is)
    (case z2 => k_is)
    (case z3 => k_is)
    (case z4 => k_is)
    (case z5 => k_is)
    (case z6 => k_is)
    (case z7 => k_is)
    (case z8 => k_is)
    (case z9 => k_is)
    (case z10 => k_is)
    (case z11 => k_is)
    (case z12 => k_is)
    (case z13 => k_is)
