import PyProof.Rows.All
import Wide.All
import OpenK.AllK
import Wide.FinOn
import Open.SpecLaws
import KE.OsGo
import HandS.ForSpec
import HandS.Evl
import HandS.Walk
import HandS.Conv
import HandS.RevTup
import HandS.CallLocal
import HandS.Zip
import HandS.Rev
import KE.GoesMore
import HandS.HeadHook2
import PySem.Challenge.RW_bridgebids_s01_answers
set_option Elab.async false
set_option linter.all false
set_option maxRecDepth 100000
set_option maxHeartbeats 4000000
namespace Bb
open PySem PySem.Spec PyProof.Rows L2 Evl
open PySem.W (Codec)
def top (i : Nat) : Stmt := PySem.Challenge.pw_bridgebids_s01_answers.main.body.getD i (.Pass ⟨0, 0, 0, 0⟩)
abbrev st_partner : Stmt := top 6
abbrev N_partner : List Str := ["seat"]
abbrev P_partner : List Str := ["seat"]
theorem sc_partner : FnScope N_partner P_partner (defScope st_partner) := ⟨rfl, rfl, rfl, by decide +kernel, rfl, by decide +kernel, by decide +kernel⟩
abbrev st_is_bid : Stmt := top 7
abbrev N_is_bid : List Str := ["call"]
abbrev P_is_bid : List Str := ["call"]
theorem sc_is_bid : FnScope N_is_bid P_is_bid (defScope st_is_bid) := ⟨rfl, rfl, rfl, by decide +kernel, rfl, by decide +kernel, by decide +kernel⟩
abbrev st_a_init : Stmt := inClass (top 8) 0
abbrev N_a_init : List Str := ["self", "dealer"]
abbrev P_a_init : List Str := ["self", "dealer"]
theorem sc_a_init : FnScope N_a_init P_a_init (defScope st_a_init) := ⟨rfl, rfl, rfl, by decide +kernel, rfl, by decide +kernel, by decide +kernel⟩
abbrev st_a_copied : Stmt := inClass (top 8) 1
abbrev N_a_copied : List Str := ["self", "other"]
abbrev P_a_copied : List Str := ["self"]
theorem sc_a_copied : FnScope N_a_copied P_a_copied (defScope st_a_copied) := ⟨rfl, rfl, rfl, by decide +kernel, rfl, by decide +kernel, by decide +kernel⟩
abbrev st_a_make : Stmt := inClass (top 8) 2
abbrev N_a_make : List Str := ["self", "seat", "call"]
abbrev P_a_make : List Str := ["self", "seat", "call"]
theorem sc_a_make : FnScope N_a_make P_a_make (defScope st_a_make) := ⟨rfl, rfl, rfl, by decide +kernel, rfl, by decide +kernel, by decide +kernel⟩
abbrev st_a_on_turn : Stmt := inClass (top 8) 3
abbrev N_a_on_turn : List Str := ["self"]
abbrev P_a_on_turn : List Str := ["self"]
theorem sc_a_on_turn : FnScope N_a_on_turn P_a_on_turn (defScope st_a_on_turn) := ⟨rfl, rfl, rfl, by decide +kernel, rfl, by decide +kernel, by decide +kernel⟩
abbrev st_a_last_bid_made : Stmt := inClass (top 8) 4
abbrev N_a_last_bid_made : List Str := ["self", "seat", "call"]
abbrev P_a_last_bid_made : List Str := ["self"]
theorem sc_a_last_bid_made : FnScope N_a_last_bid_made P_a_last_bid_made (defScope st_a_last_bid_made) := ⟨rfl, rfl, rfl, by decide +kernel, rfl, by decide +kernel, by decide +kernel⟩
abbrev st_a_last_bid : Stmt := inClass (top 8) 5
abbrev N_a_last_bid : List Str := ["self", "found"]
abbrev P_a_last_bid : List Str := ["self"]
theorem sc_a_last_bid : FnScope N_a_last_bid P_a_last_bid (defScope st_a_last_bid) := ⟨rfl, rfl, rfl, by decide +kernel, rfl, by decide +kernel, by decide +kernel⟩
abbrev st_a_last_word : Stmt := inClass (top 8) 6
abbrev N_a_last_word : List Str := ["self", "seat", "call"]
abbrev P_a_last_word : List Str := ["self"]
theorem sc_a_last_word : FnScope N_a_last_word P_a_last_word (defScope st_a_last_word) := ⟨rfl, rfl, rfl, by decide +kernel, rfl, by decide +kernel, by decide +kernel⟩
abbrev st_a_doubled : Stmt := inClass (top 8) 7
abbrev N_a_doubled : List Str := ["self", "word"]
abbrev P_a_doubled : List Str := ["self"]
theorem sc_a_doubled : FnScope N_a_doubled P_a_doubled (defScope st_a_doubled) := ⟨rfl, rfl, rfl, by decide +kernel, rfl, by decide +kernel, by decide +kernel⟩
abbrev st_a_passes : Stmt := inClass (top 8) 8
abbrev N_a_passes : List Str := ["self", "found", "seat", "call"]
abbrev P_a_passes : List Str := ["self"]
theorem sc_a_passes : FnScope N_a_passes P_a_passes (defScope st_a_passes) := ⟨rfl, rfl, rfl, by decide +kernel, rfl, by decide +kernel, by decide +kernel⟩
abbrev st_a_over : Stmt := inClass (top 8) 9
abbrev N_a_over : List Str := ["self", "needed"]
abbrev P_a_over : List Str := ["self"]
theorem sc_a_over : FnScope N_a_over P_a_over (defScope st_a_over) := ⟨rfl, rfl, rfl, by decide +kernel, rfl, by decide +kernel, by decide +kernel⟩
abbrev st_a_faces_last_word : Stmt := inClass (top 8) 10
abbrev N_a_faces_last_word : List Str := ["self", "seat", "word"]
abbrev P_a_faces_last_word : List Str := ["self", "seat"]
theorem sc_a_faces_last_word : FnScope N_a_faces_last_word P_a_faces_last_word (defScope st_a_faces_last_word) := ⟨rfl, rfl, rfl, by decide +kernel, rfl, by decide +kernel, by decide +kernel⟩
abbrev st_a_may_stand : Stmt := inClass (top 8) 11
abbrev N_a_may_stand : List Str := ["self", "seat", "call", "said"]
abbrev P_a_may_stand : List Str := ["self", "seat", "call"]
theorem sc_a_may_stand : FnScope N_a_may_stand P_a_may_stand (defScope st_a_may_stand) := ⟨rfl, rfl, rfl, by decide +kernel, rfl, by decide +kernel, by decide +kernel⟩
abbrev st_a_legal : Stmt := inClass (top 8) 12
abbrev N_a_legal : List Str := ["self", "seat", "call"]
abbrev P_a_legal : List Str := ["self", "seat", "call"]
theorem sc_a_legal : FnScope N_a_legal P_a_legal (defScope st_a_legal) := ⟨rfl, rfl, rfl, by decide +kernel, rfl, by decide +kernel, by decide +kernel⟩
abbrev st_a_first_to_bid : Stmt := inClass (top 8) 13
abbrev N_a_first_to_bid : List Str := ["self", "side", "strain", "seat", "call"]
abbrev P_a_first_to_bid : List Str := ["self", "side", "strain"]
theorem sc_a_first_to_bid : FnScope N_a_first_to_bid P_a_first_to_bid (defScope st_a_first_to_bid) := ⟨rfl, rfl, rfl, by decide +kernel, rfl, by decide +kernel, by decide +kernel⟩
abbrev st_a_contract : Stmt := inClass (top 8) 14
abbrev N_a_contract : List Str := ["self", "found", "bid", "declarer"]
abbrev P_a_contract : List Str := ["self"]
theorem sc_a_contract : FnScope N_a_contract P_a_contract (defScope st_a_contract) := ⟨rfl, rfl, rfl, by decide +kernel, rfl, by decide +kernel, by decide +kernel⟩
abbrev st_ways_behind_bid : Stmt := top 11
abbrev N_ways_behind_bid : List Str := ["higher", "doubled", "passes", "facing", "ways"]
abbrev P_ways_behind_bid : List Str := ["higher", "doubled", "passes", "facing"]
theorem sc_ways_behind_bid : FnScope N_ways_behind_bid P_ways_behind_bid (defScope st_ways_behind_bid) := ⟨rfl, rfl, rfl, by decide +kernel, rfl, by decide +kernel, by decide +kernel⟩
abbrev st_ways_above : Stmt := top 12
abbrev N_ways_above : List Str := ["counted"]
abbrev P_ways_above : List Str := []
theorem sc_ways_above : FnScope N_ways_above P_ways_above (defScope st_ways_above) := ⟨rfl, rfl, rfl, by decide +kernel, rfl, by decide +kernel, by decide +kernel⟩
abbrev st_ways_on : Stmt := top 13
abbrev N_ways_on : List Str := ["auction", "above", "last_bid", "higher", "passes"]
abbrev P_ways_on : List Str := ["auction", "above"]
theorem sc_ways_on : FnScope N_ways_on P_ways_on (defScope st_ways_on) := ⟨rfl, rfl, rfl, by decide +kernel, rfl, by decide +kernel, by decide +kernel⟩
abbrev st_longest_behind_bid : Stmt := top 14
abbrev N_longest_behind_bid : List Str := ["higher", "doubled", "passes", "facing", "behind_pass", "longest"]
abbrev P_longest_behind_bid : List Str := ["higher", "doubled", "passes", "facing"]
theorem sc_longest_behind_bid : FnScope N_longest_behind_bid P_longest_behind_bid (defScope st_longest_behind_bid) := ⟨rfl, rfl, rfl, by decide +kernel, rfl, by decide +kernel, by decide +kernel⟩
abbrev st_longest_above : Stmt := top 15
abbrev N_longest_above : List Str := ["bid", "longest", "lowest"]
abbrev P_longest_above : List Str := ["bid"]
theorem sc_longest_above : FnScope N_longest_above P_longest_above (defScope st_longest_above) := ⟨rfl, rfl, rfl, by decide +kernel, rfl, by decide +kernel, by decide +kernel⟩
abbrev st_longest_on : Stmt := top 16
abbrev N_longest_on : List Str := ["auction", "higher", "passes"]
abbrev P_longest_on : List Str := ["auction"]
theorem sc_longest_on : FnScope N_longest_on P_longest_on (defScope st_longest_on) := ⟨rfl, rfl, rfl, by decide +kernel, rfl, by decide +kernel, by decide +kernel⟩
abbrev st_ways_with : Stmt := top 18
abbrev N_ways_with : List Str := ["auction", "call", "above", "behind"]
abbrev P_ways_with : List Str := ["auction", "call", "above"]
theorem sc_ways_with : FnScope N_ways_with P_ways_with (defScope st_ways_with) := ⟨rfl, rfl, rfl, by decide +kernel, rfl, by decide +kernel, by decide +kernel⟩
abbrev st_ways_before : Stmt := top 19
abbrev N_ways_before : List Str := ["auction", "call", "above", "seat", "ways", "smaller"]
abbrev P_ways_before : List Str := ["auction", "call", "above"]
theorem sc_ways_before : FnScope N_ways_before P_ways_before (defScope st_ways_before) := ⟨rfl, rfl, rfl, by decide +kernel, rfl, by decide +kernel, by decide +kernel⟩
abbrev st_number_of : Stmt := top 20
abbrev N_number_of : List Str := ["auction", "above", "before", "number", "seat", "call"]
abbrev P_number_of : List Str := ["auction"]
theorem sc_number_of : FnScope N_number_of P_number_of (defScope st_number_of) := ⟨rfl, rfl, rfl, by decide +kernel, rfl, by decide +kernel, by decide +kernel⟩
abbrev st_call_at : Stmt := top 21
abbrev N_call_at : List Str := ["auction", "left", "above", "seat", "lowest_bid", "found", "call"]
abbrev P_call_at : List Str := ["auction", "left", "above"]
theorem sc_call_at : FnScope N_call_at P_call_at (defScope st_call_at) := ⟨rfl, rfl, rfl, by decide +kernel, rfl, by decide +kernel, by decide +kernel⟩
abbrev st_auction_with : Stmt := top 22
abbrev N_auction_with : List Str := ["dealer", "number", "above", "auction", "left", "call"]
abbrev P_auction_with : List Str := ["dealer", "number"]
theorem sc_auction_with : FnScope N_auction_with P_auction_with (defScope st_auction_with) := ⟨rfl, rfl, rfl, by decide +kernel, rfl, by decide +kernel, by decide +kernel⟩
abbrev st_w_init : Stmt := inClass (top 27) 0
abbrev N_w_init : List Str := ["self", "seat", "call", "why"]
abbrev P_w_init : List Str := ["self", "seat", "call", "why"]
theorem sc_w_init : FnScope N_w_init P_w_init (defScope st_w_init) := ⟨rfl, rfl, rfl, by decide +kernel, rfl, by decide +kernel, by decide +kernel⟩
abbrev st_p_init : Stmt := inClass (top 28) 0
abbrev N_p_init : List Str := ["self", "dealer", "vulnerability"]
abbrev P_p_init : List Str := ["self", "dealer", "vulnerability"]
theorem sc_p_init : FnScope N_p_init P_p_init (defScope st_p_init) := ⟨rfl, rfl, rfl, by decide +kernel, rfl, by decide +kernel, by decide +kernel⟩
abbrev st_p_copied : Stmt := inClass (top 28) 1
abbrev N_p_copied : List Str := ["self", "other"]
abbrev P_p_copied : List Str := ["self"]
theorem sc_p_copied : FnScope N_p_copied P_p_copied (defScope st_p_copied) := ⟨rfl, rfl, rfl, by decide +kernel, rfl, by decide +kernel, by decide +kernel⟩
abbrev st_p_must_pass : Stmt := inClass (top 28) 2
abbrev N_p_must_pass : List Str := ["self", "seat"]
abbrev P_p_must_pass : List Str := ["self", "seat"]
theorem sc_p_must_pass : FnScope N_p_must_pass P_p_must_pass (defScope st_p_must_pass) := ⟨rfl, rfl, rfl, by decide +kernel, rfl, by decide +kernel, by decide +kernel⟩
abbrev st_p_may_mend : Stmt := inClass (top 28) 3
abbrev N_p_may_mend : List Str := ["self", "seat", "call"]
abbrev P_p_may_mend : List Str := ["self", "seat", "call"]
theorem sc_p_may_mend : FnScope N_p_may_mend P_p_may_mend (defScope st_p_may_mend) := ⟨rfl, rfl, rfl, by decide +kernel, rfl, by decide +kernel, by decide +kernel⟩
abbrev st_p_why_no_call : Stmt := inClass (top 28) 4
abbrev N_p_why_no_call : List Str := ["self", "seat", "call"]
abbrev P_p_why_no_call : List Str := ["self", "seat", "call"]
theorem sc_p_why_no_call : FnScope N_p_why_no_call P_p_why_no_call (defScope st_p_why_no_call) := ⟨rfl, rfl, rfl, by decide +kernel, rfl, by decide +kernel, by decide +kernel⟩
abbrev st_p_take_call : Stmt := inClass (top 28) 5
abbrev N_p_take_call : List Str := ["self", "seat", "call"]
abbrev P_p_take_call : List Str := ["self", "seat", "call"]
theorem sc_p_take_call : FnScope N_p_take_call P_p_take_call (defScope st_p_take_call) := ⟨rfl, rfl, rfl, by decide +kernel, rfl, by decide +kernel, by decide +kernel⟩
abbrev st_p_mending_bid : Stmt := inClass (top 28) 6
abbrev N_p_mending_bid : List Str := ["self", "above"]
abbrev P_p_mending_bid : List Str := ["self"]
theorem sc_p_mending_bid : FnScope N_p_mending_bid P_p_mending_bid (defScope st_p_mending_bid) := ⟨rfl, rfl, rfl, by decide +kernel, rfl, by decide +kernel, by decide +kernel⟩
abbrev st_p_bar : Stmt := inClass (top 28) 7
abbrev N_p_bar : List Str := ["self", "seat"]
abbrev P_p_bar : List Str := ["self", "seat"]
theorem sc_p_bar : FnScope N_p_bar P_p_bar (defScope st_p_bar) := ⟨rfl, rfl, rfl, by decide +kernel, rfl, by decide +kernel, by decide +kernel⟩
abbrev st_p_let_stand : Stmt := inClass (top 28) 8
abbrev N_p_let_stand : List Str := ["self", "seat", "call"]
abbrev P_p_let_stand : List Str := ["self", "seat", "call"]
theorem sc_p_let_stand : FnScope N_p_let_stand P_p_let_stand (defScope st_p_let_stand) := ⟨rfl, rfl, rfl, by decide +kernel, rfl, by decide +kernel, by decide +kernel⟩
abbrev st_p_accept : Stmt := inClass (top 28) 9
abbrev N_p_accept : List Str := ["self"]
abbrev P_p_accept : List Str := ["self"]
theorem sc_p_accept : FnScope N_p_accept P_p_accept (defScope st_p_accept) := ⟨rfl, rfl, rfl, by decide +kernel, rfl, by decide +kernel, by decide +kernel⟩
abbrev st_p_withdraw : Stmt := inClass (top 28) 10
abbrev N_p_withdraw : List Str := ["self", "taken"]
abbrev P_p_withdraw : List Str := ["self"]
theorem sc_p_withdraw : FnScope N_p_withdraw P_p_withdraw (defScope st_p_withdraw) := ⟨rfl, rfl, rfl, by decide +kernel, rfl, by decide +kernel, by decide +kernel⟩
abbrev st_p_held : Stmt := inClass (top 28) 11
abbrev N_p_held : List Str := ["self", "seat"]
abbrev P_p_held : List Str := ["self", "seat"]
theorem sc_p_held : FnScope N_p_held P_p_held (defScope st_p_held) := ⟨rfl, rfl, rfl, by decide +kernel, rfl, by decide +kernel, by decide +kernel⟩
abbrev st_p_told : Stmt := inClass (top 28) 12
abbrev N_p_told : List Str := ["self", "auction", "numbers", "seat"]
abbrev P_p_told : List Str := ["self"]
theorem sc_p_told : FnScope N_p_told P_p_told (defScope st_p_told) := ⟨rfl, rfl, rfl, by decide +kernel, rfl, by decide +kernel, by decide +kernel⟩
abbrev st_p_legals : Stmt := inClass (top 28) 13
abbrev N_p_legals : List Str := ["self", "seat", "found", "call"]
abbrev P_p_legals : List Str := ["self"]
theorem sc_p_legals : FnScope N_p_legals P_p_legals (defScope st_p_legals) := ⟨rfl, rfl, rfl, by decide +kernel, rfl, by decide +kernel, by decide +kernel⟩
abbrev st_call_text : Stmt := top 39
abbrev N_call_text : List Str := ["call", "bid", "letter"]
abbrev P_call_text : List Str := ["call"]
theorem sc_call_text : FnScope N_call_text P_call_text (defScope st_call_text) := ⟨rfl, rfl, rfl, by decide +kernel, rfl, by decide +kernel, by decide +kernel⟩
abbrev st_call_of : Stmt := top 40
abbrev N_call_of : List Str := ["word", "call"]
abbrev P_call_of : List Str := ["word"]
theorem sc_call_of : FnScope N_call_of P_call_of (defScope st_call_of) := ⟨rfl, rfl, rfl, by decide +kernel, rfl, by decide +kernel, by decide +kernel⟩
abbrev st_auction_text : Stmt := top 41
abbrev N_auction_text : List Str := ["auction", "text", "seat", "call"]
abbrev P_auction_text : List Str := ["auction"]
theorem sc_auction_text : FnScope N_auction_text P_auction_text (defScope st_auction_text) := ⟨rfl, rfl, rfl, by decide +kernel, rfl, by decide +kernel, by decide +kernel⟩
abbrev st_words_of : Stmt := top 42
abbrev N_words_of : List Str := ["text", "words", "begin", "place", "byte"]
abbrev P_words_of : List Str := ["text"]
theorem sc_words_of : FnScope N_words_of P_words_of (defScope st_words_of) := ⟨rfl, rfl, rfl, by decide +kernel, rfl, by decide +kernel, by decide +kernel⟩
abbrev st_what_is_wrong : Stmt := top 43
abbrev N_what_is_wrong : List Str := ["auction", "word", "call"]
abbrev P_what_is_wrong : List Str := ["auction", "word"]
theorem sc_what_is_wrong : FnScope N_what_is_wrong P_what_is_wrong (defScope st_what_is_wrong) := ⟨rfl, rfl, rfl, by decide +kernel, rfl, by decide +kernel, by decide +kernel⟩
abbrev st_make_words : Stmt := top 44
abbrev N_make_words : List Str := ["auction", "text", "words", "place", "word", "wrong"]
abbrev P_make_words : List Str := ["auction", "text"]
theorem sc_make_words : FnScope N_make_words P_make_words (defScope st_make_words) := ⟨rfl, rfl, rfl, by decide +kernel, rfl, by decide +kernel, by decide +kernel⟩
abbrev st_numeral : Stmt := top 45
abbrev N_numeral : List Str := ["number", "digit"]
abbrev P_numeral : List Str := ["number"]
theorem sc_numeral : FnScope N_numeral P_numeral (defScope st_numeral) := ⟨rfl, rfl, rfl, by decide +kernel, rfl, by decide +kernel, by decide +kernel⟩
abbrev st_number_told : Stmt := top 46
abbrev N_number_told : List Str := ["text", "number", "byte"]
abbrev P_number_told : List Str := ["text"]
theorem sc_number_told : FnScope N_number_told P_number_told (defScope st_number_told) := ⟨rfl, rfl, rfl, by decide +kernel, rfl, by decide +kernel, by decide +kernel⟩
abbrev st_s_init : Stmt := inClass (top 49) 0
abbrev N_s_init : List Str := ["self"]
abbrev P_s_init : List Str := ["self"]
theorem sc_s_init : FnScope N_s_init P_s_init (defScope st_s_init) := ⟨rfl, rfl, rfl, by decide +kernel, rfl, by decide +kernel, by decide +kernel⟩
abbrev st_s_start : Stmt := inClass (top 49) 1
abbrev N_s_start : List Str := ["self", "dealer", "vulnerability"]
abbrev P_s_start : List Str := ["self", "dealer", "vulnerability"]
theorem sc_s_start : FnScope N_s_start P_s_start (defScope st_s_start) := ⟨rfl, rfl, rfl, by decide +kernel, rfl, by decide +kernel, by decide +kernel⟩
abbrev st_s_now : Stmt := inClass (top 49) 2
abbrev N_s_now : List Str := ["self"]
abbrev P_s_now : List Str := ["self"]
theorem sc_s_now : FnScope N_s_now P_s_now (defScope st_s_now) := ⟨rfl, rfl, rfl, by decide +kernel, rfl, by decide +kernel, by decide +kernel⟩
abbrev st_s_done : Stmt := inClass (top 49) 3
abbrev N_s_done : List Str := ["self"]
abbrev P_s_done : List Str := ["self"]
theorem sc_s_done : FnScope N_s_done P_s_done (defScope st_s_done) := ⟨rfl, rfl, rfl, by decide +kernel, rfl, by decide +kernel, by decide +kernel⟩
abbrev st_s_go_on : Stmt := inClass (top 49) 4
abbrev N_s_go_on : List Str := ["self"]
abbrev P_s_go_on : List Str := ["self"]
theorem sc_s_go_on : FnScope N_s_go_on P_s_go_on (defScope st_s_go_on) := ⟨rfl, rfl, rfl, by decide +kernel, rfl, by decide +kernel, by decide +kernel⟩
abbrev st_answer_deal : Stmt := top 50
abbrev N_answer_deal : List Str := ["session", "plain", "text"]
abbrev P_answer_deal : List Str := ["session", "plain", "text"]
theorem sc_answer_deal : FnScope N_answer_deal P_answer_deal (defScope st_answer_deal) := ⟨rfl, rfl, rfl, by decide +kernel, rfl, by decide +kernel, by decide +kernel⟩
abbrev st_answer_board : Stmt := top 51
abbrev N_answer_board : List Str := ["session", "plain", "text", "dealer", "vulnerability"]
abbrev P_answer_board : List Str := ["session", "plain", "text"]
theorem sc_answer_board : FnScope N_answer_board P_answer_board (defScope st_answer_board) := ⟨rfl, rfl, rfl, by decide +kernel, rfl, by decide +kernel, by decide +kernel⟩
abbrev st_answer_call : Stmt := top 52
abbrev N_answer_call : List Str := ["session", "plain", "text", "refused"]
abbrev P_answer_call : List Str := ["session", "plain", "text"]
theorem sc_answer_call : FnScope N_answer_call P_answer_call (defScope st_answer_call) := ⟨rfl, rfl, rfl, by decide +kernel, rfl, by decide +kernel, by decide +kernel⟩
abbrev st_answer_decide : Stmt := top 53
abbrev N_answer_decide : List Str := ["session", "plain", "text", "position"]
abbrev P_answer_decide : List Str := ["session", "plain", "text"]
theorem sc_answer_decide : FnScope N_answer_decide P_answer_decide (defScope st_answer_decide) := ⟨rfl, rfl, rfl, by decide +kernel, rfl, by decide +kernel, by decide +kernel⟩
abbrev st_answer_undo : Stmt := top 54
abbrev N_answer_undo : List Str := ["session", "plain", "text", "left"]
abbrev P_answer_undo : List Str := ["session", "plain", "text"]
theorem sc_answer_undo : FnScope N_answer_undo P_answer_undo (defScope st_answer_undo) := ⟨rfl, rfl, rfl, by decide +kernel, rfl, by decide +kernel, by decide +kernel⟩
abbrev st_answer_table : Stmt := top 55
abbrev N_answer_table : List Str := ["session", "plain", "text"]
abbrev P_answer_table : List Str := ["session", "plain", "text"]
theorem sc_answer_table : FnScope N_answer_table P_answer_table (defScope st_answer_table) := ⟨rfl, rfl, rfl, by decide +kernel, rfl, by decide +kernel, by decide +kernel⟩
abbrev st_answer_legals : Stmt := top 56
abbrev N_answer_legals : List Str := ["session", "plain", "text"]
abbrev P_answer_legals : List Str := ["session", "plain", "text"]
theorem sc_answer_legals : FnScope N_answer_legals P_answer_legals (defScope st_answer_legals) := ⟨rfl, rfl, rfl, by decide +kernel, rfl, by decide +kernel, by decide +kernel⟩
abbrev st_answer_contract : Stmt := top 57
abbrev N_answer_contract : List Str := ["session", "plain", "text", "auction"]
abbrev P_answer_contract : List Str := ["session", "plain", "text"]
theorem sc_answer_contract : FnScope N_answer_contract P_answer_contract (defScope st_answer_contract) := ⟨rfl, rfl, rfl, by decide +kernel, rfl, by decide +kernel, by decide +kernel⟩
abbrev st_answer_ways : Stmt := top 58
abbrev N_answer_ways : List Str := ["session", "plain", "text"]
abbrev P_answer_ways : List Str := ["session", "plain", "text"]
theorem sc_answer_ways : FnScope N_answer_ways P_answer_ways (defScope st_answer_ways) := ⟨rfl, rfl, rfl, by decide +kernel, rfl, by decide +kernel, by decide +kernel⟩
abbrev st_answer_longest : Stmt := top 59
abbrev N_answer_longest : List Str := ["session", "plain", "text"]
abbrev P_answer_longest : List Str := ["session", "plain", "text"]
theorem sc_answer_longest : FnScope N_answer_longest P_answer_longest (defScope st_answer_longest) := ⟨rfl, rfl, rfl, by decide +kernel, rfl, by decide +kernel, by decide +kernel⟩
abbrev st_answer_number : Stmt := top 60
abbrev N_answer_number : List Str := ["session", "plain", "text", "auction", "number"]
abbrev P_answer_number : List Str := ["session", "plain", "text"]
theorem sc_answer_number : FnScope N_answer_number P_answer_number (defScope st_answer_number) := ⟨rfl, rfl, rfl, by decide +kernel, rfl, by decide +kernel, by decide +kernel⟩
abbrev st_answer_nth : Stmt := top 61
abbrev N_answer_nth : List Str := ["session", "plain", "text", "number", "auction"]
abbrev P_answer_nth : List Str := ["session", "plain", "text"]
theorem sc_answer_nth : FnScope N_answer_nth P_answer_nth (defScope st_answer_nth) := ⟨rfl, rfl, rfl, by decide +kernel, rfl, by decide +kernel, by decide +kernel⟩
abbrev st_answer_text : Stmt := top 62
abbrev N_answer_text : List Str := ["session", "plain", "text"]
abbrev P_answer_text : List Str := ["session", "plain", "text"]
theorem sc_answer_text : FnScope N_answer_text P_answer_text (defScope st_answer_text) := ⟨rfl, rfl, rfl, by decide +kernel, rfl, by decide +kernel, by decide +kernel⟩
abbrev st_answer_look : Stmt := top 63
abbrev N_answer_look : List Str := ["session", "plain", "text"]
abbrev P_answer_look : List Str := ["session", "plain", "text"]
theorem sc_answer_look : FnScope N_answer_look P_answer_look (defScope st_answer_look) := ⟨rfl, rfl, rfl, by decide +kernel, rfl, by decide +kernel, by decide +kernel⟩
abbrev st_answer_read : Stmt := top 64
abbrev N_answer_read : List Str := ["session", "plain", "text", "auction", "found", "seat", "call"]
abbrev P_answer_read : List Str := ["session", "plain", "text"]
theorem sc_answer_read : FnScope N_answer_read P_answer_read (defScope st_answer_read) := ⟨rfl, rfl, rfl, by decide +kernel, rfl, by decide +kernel, by decide +kernel⟩
abbrev st_answer_made : Stmt := top 65
abbrev N_answer_made : List Str := ["session", "plain", "text", "told", "seat", "call"]
abbrev P_answer_made : List Str := ["session", "plain", "text"]
theorem sc_answer_made : FnScope N_answer_made P_answer_made (defScope st_answer_made) := ⟨rfl, rfl, rfl, by decide +kernel, rfl, by decide +kernel, by decide +kernel⟩
abbrev st_answer_named : Stmt := top 66
abbrev N_answer_named : List Str := ["session", "plain", "text", "seat"]
abbrev P_answer_named : List Str := ["session", "plain", "text"]
theorem sc_answer_named : FnScope N_answer_named P_answer_named (defScope st_answer_named) := ⟨rfl, rfl, rfl, by decide +kernel, rfl, by decide +kernel, by decide +kernel⟩
abbrev st_in_ranges : Stmt := top 72
abbrev N_in_ranges : List Str := ["place", "plain", "text", "value", "bounds"]
abbrev P_in_ranges : List Str := ["place", "plain", "text"]
theorem sc_in_ranges : FnScope N_in_ranges P_in_ranges (defScope st_in_ranges) := ⟨rfl, rfl, rfl, by decide +kernel, rfl, by decide +kernel, by decide +kernel⟩
abbrev st_answer_one : Stmt := top 73
abbrev N_answer_one : List Str := ["session", "place", "plain", "text"]
abbrev P_answer_one : List Str := ["session", "place", "plain", "text"]
theorem sc_answer_one : FnScope N_answer_one P_answer_one (defScope st_answer_one) := ⟨rfl, rfl, rfl, by decide +kernel, rfl, by decide +kernel, by decide +kernel⟩
abbrev st_answers : Stmt := top 74
abbrev N_answers : List Str := ["calls", "session", "given", "at", "place", "behind", "plain", "text", "begin", "answer"]
abbrev P_answers : List Str := ["calls"]
theorem sc_answers : FnScope N_answers P_answers (defScope st_answers) := ⟨rfl, rfl, rfl, by decide +kernel, rfl, by decide +kernel, by decide +kernel⟩
structure DOk (K : PySem.W.Frag) (x qual : Str) (st : Stmt) (ps : List Str) (f : Addr) (fd : FuncData) : Prop where
  F : Fun K x qual st f fd
  b : Binds K fd ps []
def rangesL : List (List (Int × Int)) := [[(0, 3), (0, 3)], [(1, 1000000000)], [(0, 3), (0, 37)], [(0, 1)], [(0, 400)], [], [], [], [], [], [], [(0, 3)], [], [(0, 3)], [(0, 3), (0, 3)], [], [(0, 1), (0, 4)]]
structure Txt (K : PySem.W.Frag) (mg : Str → Option Value) (fa : Nat → Addr) (fd : Nat → FuncData) (CA CW CP CS aN aR aA aW aO : Addr) : Prop where
  d_partner : DOk K "partner" "partner" st_partner P_partner (fa 0) (fd 0)
  m_partner : mg "partner" = some (.ref (fa 0))
  d_is_bid : DOk K "is_bid" "is_bid" st_is_bid P_is_bid (fa 1) (fd 1)
  m_is_bid : mg "is_bid" = some (.ref (fa 1))
  d_a_init : DOk K "__init__" "Auction.__init__" st_a_init P_a_init (fa 2) (fd 2)
  d_a_copied : DOk K "copied" "Auction.copied" st_a_copied P_a_copied (fa 3) (fd 3)
  m_a_copied : Meth K CA "copied" (fa 3)
  d_a_make : DOk K "make" "Auction.make" st_a_make P_a_make (fa 4) (fd 4)
  m_a_make : Meth K CA "make" (fa 4)
  d_a_on_turn : DOk K "on_turn" "Auction.on_turn" st_a_on_turn P_a_on_turn (fa 5) (fd 5)
  m_a_on_turn : Meth K CA "on_turn" (fa 5)
  d_a_last_bid_made : DOk K "last_bid_made" "Auction.last_bid_made" st_a_last_bid_made P_a_last_bid_made (fa 6) (fd 6)
  m_a_last_bid_made : Meth K CA "last_bid_made" (fa 6)
  d_a_last_bid : DOk K "last_bid" "Auction.last_bid" st_a_last_bid P_a_last_bid (fa 7) (fd 7)
  m_a_last_bid : Meth K CA "last_bid" (fa 7)
  d_a_last_word : DOk K "last_word" "Auction.last_word" st_a_last_word P_a_last_word (fa 8) (fd 8)
  m_a_last_word : Meth K CA "last_word" (fa 8)
  d_a_doubled : DOk K "doubled" "Auction.doubled" st_a_doubled P_a_doubled (fa 9) (fd 9)
  m_a_doubled : Meth K CA "doubled" (fa 9)
  d_a_passes : DOk K "passes" "Auction.passes" st_a_passes P_a_passes (fa 10) (fd 10)
  m_a_passes : Meth K CA "passes" (fa 10)
  d_a_over : DOk K "over" "Auction.over" st_a_over P_a_over (fa 11) (fd 11)
  m_a_over : Meth K CA "over" (fa 11)
  d_a_faces_last_word : DOk K "faces_last_word" "Auction.faces_last_word" st_a_faces_last_word P_a_faces_last_word (fa 12) (fd 12)
  m_a_faces_last_word : Meth K CA "faces_last_word" (fa 12)
  d_a_may_stand : DOk K "may_stand" "Auction.may_stand" st_a_may_stand P_a_may_stand (fa 13) (fd 13)
  m_a_may_stand : Meth K CA "may_stand" (fa 13)
  d_a_legal : DOk K "legal" "Auction.legal" st_a_legal P_a_legal (fa 14) (fd 14)
  m_a_legal : Meth K CA "legal" (fa 14)
  d_a_first_to_bid : DOk K "first_to_bid" "Auction.first_to_bid" st_a_first_to_bid P_a_first_to_bid (fa 15) (fd 15)
  m_a_first_to_bid : Meth K CA "first_to_bid" (fa 15)
  d_a_contract : DOk K "contract" "Auction.contract" st_a_contract P_a_contract (fa 16) (fd 16)
  m_a_contract : Meth K CA "contract" (fa 16)
  d_ways_behind_bid : DOk K "ways_behind_bid" "ways_behind_bid" st_ways_behind_bid P_ways_behind_bid (fa 17) (fd 17)
  m_ways_behind_bid : mg "ways_behind_bid" = some (.ref (fa 17))
  d_ways_above : DOk K "ways_above" "ways_above" st_ways_above P_ways_above (fa 18) (fd 18)
  m_ways_above : mg "ways_above" = some (.ref (fa 18))
  d_ways_on : DOk K "ways_on" "ways_on" st_ways_on P_ways_on (fa 19) (fd 19)
  m_ways_on : mg "ways_on" = some (.ref (fa 19))
  d_longest_behind_bid : DOk K "longest_behind_bid" "longest_behind_bid" st_longest_behind_bid P_longest_behind_bid (fa 20) (fd 20)
  m_longest_behind_bid : mg "longest_behind_bid" = some (.ref (fa 20))
  d_longest_above : DOk K "longest_above" "longest_above" st_longest_above P_longest_above (fa 21) (fd 21)
  m_longest_above : mg "longest_above" = some (.ref (fa 21))
  d_longest_on : DOk K "longest_on" "longest_on" st_longest_on P_longest_on (fa 22) (fd 22)
  m_longest_on : mg "longest_on" = some (.ref (fa 22))
  d_ways_with : DOk K "ways_with" "ways_with" st_ways_with P_ways_with (fa 23) (fd 23)
  m_ways_with : mg "ways_with" = some (.ref (fa 23))
  d_ways_before : DOk K "ways_before" "ways_before" st_ways_before P_ways_before (fa 24) (fd 24)
  m_ways_before : mg "ways_before" = some (.ref (fa 24))
  d_number_of : DOk K "number_of" "number_of" st_number_of P_number_of (fa 25) (fd 25)
  m_number_of : mg "number_of" = some (.ref (fa 25))
  d_call_at : DOk K "call_at" "call_at" st_call_at P_call_at (fa 26) (fd 26)
  m_call_at : mg "call_at" = some (.ref (fa 26))
  d_auction_with : DOk K "auction_with" "auction_with" st_auction_with P_auction_with (fa 27) (fd 27)
  m_auction_with : mg "auction_with" = some (.ref (fa 27))
  d_w_init : DOk K "__init__" "Waiting.__init__" st_w_init P_w_init (fa 28) (fd 28)
  d_p_init : DOk K "__init__" "Position.__init__" st_p_init P_p_init (fa 29) (fd 29)
  d_p_copied : DOk K "copied" "Position.copied" st_p_copied P_p_copied (fa 30) (fd 30)
  m_p_copied : Meth K CP "copied" (fa 30)
  d_p_must_pass : DOk K "must_pass" "Position.must_pass" st_p_must_pass P_p_must_pass (fa 31) (fd 31)
  m_p_must_pass : Meth K CP "must_pass" (fa 31)
  d_p_may_mend : DOk K "may_mend" "Position.may_mend" st_p_may_mend P_p_may_mend (fa 32) (fd 32)
  m_p_may_mend : Meth K CP "may_mend" (fa 32)
  d_p_why_no_call : DOk K "why_no_call" "Position.why_no_call" st_p_why_no_call P_p_why_no_call (fa 33) (fd 33)
  m_p_why_no_call : Meth K CP "why_no_call" (fa 33)
  d_p_take_call : DOk K "take_call" "Position.take_call" st_p_take_call P_p_take_call (fa 34) (fd 34)
  m_p_take_call : Meth K CP "take_call" (fa 34)
  d_p_mending_bid : DOk K "mending_bid" "Position.mending_bid" st_p_mending_bid P_p_mending_bid (fa 35) (fd 35)
  m_p_mending_bid : Meth K CP "mending_bid" (fa 35)
  d_p_bar : DOk K "bar" "Position.bar" st_p_bar P_p_bar (fa 36) (fd 36)
  m_p_bar : Meth K CP "bar" (fa 36)
  d_p_let_stand : DOk K "let_stand" "Position.let_stand" st_p_let_stand P_p_let_stand (fa 37) (fd 37)
  m_p_let_stand : Meth K CP "let_stand" (fa 37)
  d_p_accept : DOk K "accept" "Position.accept" st_p_accept P_p_accept (fa 38) (fd 38)
  m_p_accept : Meth K CP "accept" (fa 38)
  d_p_withdraw : DOk K "withdraw" "Position.withdraw" st_p_withdraw P_p_withdraw (fa 39) (fd 39)
  m_p_withdraw : Meth K CP "withdraw" (fa 39)
  d_p_held : DOk K "held" "Position.held" st_p_held P_p_held (fa 40) (fd 40)
  m_p_held : Meth K CP "held" (fa 40)
  d_p_told : DOk K "told" "Position.told" st_p_told P_p_told (fa 41) (fd 41)
  m_p_told : Meth K CP "told" (fa 41)
  d_p_legals : DOk K "legals" "Position.legals" st_p_legals P_p_legals (fa 42) (fd 42)
  m_p_legals : Meth K CP "legals" (fa 42)
  d_call_text : DOk K "call_text" "call_text" st_call_text P_call_text (fa 43) (fd 43)
  m_call_text : mg "call_text" = some (.ref (fa 43))
  d_call_of : DOk K "call_of" "call_of" st_call_of P_call_of (fa 44) (fd 44)
  m_call_of : mg "call_of" = some (.ref (fa 44))
  d_auction_text : DOk K "auction_text" "auction_text" st_auction_text P_auction_text (fa 45) (fd 45)
  m_auction_text : mg "auction_text" = some (.ref (fa 45))
  d_words_of : DOk K "words_of" "words_of" st_words_of P_words_of (fa 46) (fd 46)
  m_words_of : mg "words_of" = some (.ref (fa 46))
  d_what_is_wrong : DOk K "what_is_wrong" "what_is_wrong" st_what_is_wrong P_what_is_wrong (fa 47) (fd 47)
  m_what_is_wrong : mg "what_is_wrong" = some (.ref (fa 47))
  d_make_words : DOk K "make_words" "make_words" st_make_words P_make_words (fa 48) (fd 48)
  m_make_words : mg "make_words" = some (.ref (fa 48))
  d_numeral : DOk K "numeral" "numeral" st_numeral P_numeral (fa 49) (fd 49)
  m_numeral : mg "numeral" = some (.ref (fa 49))
  d_number_told : DOk K "number_told" "number_told" st_number_told P_number_told (fa 50) (fd 50)
  m_number_told : mg "number_told" = some (.ref (fa 50))
  d_s_init : DOk K "__init__" "Session.__init__" st_s_init P_s_init (fa 51) (fd 51)
  d_s_start : DOk K "start" "Session.start" st_s_start P_s_start (fa 52) (fd 52)
  m_s_start : Meth K CS "start" (fa 52)
  d_s_now : DOk K "now" "Session.now" st_s_now P_s_now (fa 53) (fd 53)
  m_s_now : Meth K CS "now" (fa 53)
  d_s_done : DOk K "done" "Session.done" st_s_done P_s_done (fa 54) (fd 54)
  m_s_done : Meth K CS "done" (fa 54)
  d_s_go_on : DOk K "go_on" "Session.go_on" st_s_go_on P_s_go_on (fa 55) (fd 55)
  m_s_go_on : Meth K CS "go_on" (fa 55)
  d_answer_deal : DOk K "answer_deal" "answer_deal" st_answer_deal P_answer_deal (fa 56) (fd 56)
  m_answer_deal : mg "answer_deal" = some (.ref (fa 56))
  d_answer_board : DOk K "answer_board" "answer_board" st_answer_board P_answer_board (fa 57) (fd 57)
  m_answer_board : mg "answer_board" = some (.ref (fa 57))
  d_answer_call : DOk K "answer_call" "answer_call" st_answer_call P_answer_call (fa 58) (fd 58)
  m_answer_call : mg "answer_call" = some (.ref (fa 58))
  d_answer_decide : DOk K "answer_decide" "answer_decide" st_answer_decide P_answer_decide (fa 59) (fd 59)
  m_answer_decide : mg "answer_decide" = some (.ref (fa 59))
  d_answer_undo : DOk K "answer_undo" "answer_undo" st_answer_undo P_answer_undo (fa 60) (fd 60)
  m_answer_undo : mg "answer_undo" = some (.ref (fa 60))
  d_answer_table : DOk K "answer_table" "answer_table" st_answer_table P_answer_table (fa 61) (fd 61)
  m_answer_table : mg "answer_table" = some (.ref (fa 61))
  d_answer_legals : DOk K "answer_legals" "answer_legals" st_answer_legals P_answer_legals (fa 62) (fd 62)
  m_answer_legals : mg "answer_legals" = some (.ref (fa 62))
  d_answer_contract : DOk K "answer_contract" "answer_contract" st_answer_contract P_answer_contract (fa 63) (fd 63)
  m_answer_contract : mg "answer_contract" = some (.ref (fa 63))
  d_answer_ways : DOk K "answer_ways" "answer_ways" st_answer_ways P_answer_ways (fa 64) (fd 64)
  m_answer_ways : mg "answer_ways" = some (.ref (fa 64))
  d_answer_longest : DOk K "answer_longest" "answer_longest" st_answer_longest P_answer_longest (fa 65) (fd 65)
  m_answer_longest : mg "answer_longest" = some (.ref (fa 65))
  d_answer_number : DOk K "answer_number" "answer_number" st_answer_number P_answer_number (fa 66) (fd 66)
  m_answer_number : mg "answer_number" = some (.ref (fa 66))
  d_answer_nth : DOk K "answer_nth" "answer_nth" st_answer_nth P_answer_nth (fa 67) (fd 67)
  m_answer_nth : mg "answer_nth" = some (.ref (fa 67))
  d_answer_text : DOk K "answer_text" "answer_text" st_answer_text P_answer_text (fa 68) (fd 68)
  m_answer_text : mg "answer_text" = some (.ref (fa 68))
  d_answer_look : DOk K "answer_look" "answer_look" st_answer_look P_answer_look (fa 69) (fd 69)
  m_answer_look : mg "answer_look" = some (.ref (fa 69))
  d_answer_read : DOk K "answer_read" "answer_read" st_answer_read P_answer_read (fa 70) (fd 70)
  m_answer_read : mg "answer_read" = some (.ref (fa 70))
  d_answer_made : DOk K "answer_made" "answer_made" st_answer_made P_answer_made (fa 71) (fd 71)
  m_answer_made : mg "answer_made" = some (.ref (fa 71))
  d_answer_named : DOk K "answer_named" "answer_named" st_answer_named P_answer_named (fa 72) (fd 72)
  m_answer_named : mg "answer_named" = some (.ref (fa 72))
  d_in_ranges : DOk K "in_ranges" "in_ranges" st_in_ranges P_in_ranges (fa 73) (fd 73)
  m_in_ranges : mg "in_ranges" = some (.ref (fa 73))
  d_answer_one : DOk K "answer_one" "answer_one" st_answer_one P_answer_one (fa 74) (fd 74)
  m_answer_one : mg "answer_one" = some (.ref (fa 74))
  d_answers : DOk K "answers" "answers" st_answers P_answers (fa 75) (fd 75)
  m_answers : mg "answers" = some (.ref (fa 75))
  cl_CA : Cls K CA
  k_Auction : Mk K CA (fa 2)
  c_Auction : mg "Auction" = some (.ref CA)
  cl_CW : Cls K CW
  k_Waiting : Mk K CW (fa 28)
  c_Waiting : mg "Waiting" = some (.ref CW)
  cl_CP : Cls K CP
  k_Position : Mk K CP (fa 29)
  c_Position : mg "Position" = some (.ref CP)
  cl_CS : Cls K CS
  k_Session : Mk K CS (fa 51)
  c_Session : mg "Session" = some (.ref CS)
  n_CA_dealer : NoAttr K CA "dealer"
  n_CA_made : NoAttr K CA "made"
  n_CW_seat : NoAttr K CW "seat"
  n_CW_call : NoAttr K CW "call"
  n_CW_why : NoAttr K CW "why"
  n_CP_auction : NoAttr K CP "auction"
  n_CP_vulnerability : NoAttr K CP "vulnerability"
  n_CP_barred : NoAttr K CP "barred"
  n_CP_once : NoAttr K CP "once"
  n_CP_waiting : NoAttr K CP "waiting"
  n_CP_mending : NoAttr K CP "mending"
  n_CS_positions : NoAttr K CS "positions"
  g_PASS : ∃ t, mg "PASS" = some (.int 0 t)
  g_DOUBLE : ∃ t, mg "DOUBLE" = some (.int 1 t)
  g_REDOUBLE : ∃ t, mg "REDOUBLE" = some (.int 2 t)
  g_FIRST_BID : ∃ t, mg "FIRST_BID" = some (.int 3 t)
  g_CALLS : ∃ t, mg "CALLS" = some (.int 38 t)
  g_HIGHEST_BID : ∃ t, mg "HIGHEST_BID" = some (.int 34 t)
  g_NOTHING : ∃ t, mg "NOTHING" = some (.int 0 t)
  g_TOO_LOW : ∃ t, mg "TOO_LOW" = some (.int 1 t)
  g_OUT_OF_TURN : ∃ t, mg "OUT_OF_TURN" = some (.int 2 t)
  g_BLANK : ∃ t, mg "BLANK" = some (.int 32 t)
  g_ZERO : ∃ t, mg "ZERO" = some (.int 48 t)
  g_NINE : ∃ t, mg "NINE" = some (.int 57 t)
  g_STRAINS : ∃ t, mg "STRAINS" = some (.str "CDHSN" t)
  g_NO_BIDS : mg "NO_BIDS" = some (.ref aN)
  g_RIGHT : ∃ t, mg "RIGHT" = some (.int 0 t)
  g_NO_CALL : ∃ t, mg "NO_CALL" = some (.int 1 t)
  g_NOT_LEGAL : ∃ t, mg "NOT_LEGAL" = some (.int 2 t)
  g_OVER_BEFORE : ∃ t, mg "OVER_BEFORE" = some (.int 3 t)
  g_MOST_DONE : ∃ t, mg "MOST_DONE" = some (.int 320 t)
  g_RANGES : mg "RANGES" = some (.ref aR)
  g_ANSWERERS : mg "ANSWERERS" = some (.ref aA)
  g_WITH_TEXT : mg "WITH_TEXT" = some (.ref aW)
  g_WITHOUT_AUCTION : mg "WITHOUT_AUCTION" = some (.ref aO)
  g_GREATEST_BYTE : ∃ t, mg "GREATEST_BYTE" = some (.int 255 t)
  t_NO_BIDS : ∀ H, SqT K H aN [.str "P", .str "X", .str "XX"]
  t_WITH_TEXT : ∀ H, SqT K H aW [.int 11, .int 13, .int 14]
  t_WITHOUT : ∀ H, SqT K H aO [.int 0, .int 1, .int 11, .int 13, .int 14]
  t_ANSW : ∀ H, SqT K H aA [.ref (fa 56), .ref (fa 57), .ref (fa 58), .ref (fa 59), .ref (fa 60), .ref (fa 61), .ref (fa 62), .ref (fa 63), .ref (fa 64), .ref (fa 65), .ref (fa 66), .ref (fa 67), .ref (fa 68), .ref (fa 69), .ref (fa 70), .ref (fa 71), .ref (fa 72)]
  t_RANGES : ∃ rs : List Addr, (∀ H, SqT K H aR (rs.map .ref)) ∧ Paired (fun r bs => ∃ qs : List Addr, (∀ H, SqT K H r (qs.map .ref)) ∧ Paired (fun q b => ∀ H, SqT K H q [.int b.1, .int b.2]) qs bs) rs rangesL
  b_all : mg "all" = none
  b_enumerate : mg "enumerate" = none
  b_len : mg "len" = none
  b_list : mg "list" = none
  b_max : mg "max" = none
  b_ord : mg "ord" = none
  b_range : mg "range" = none
  b_reversed : mg "reversed" = none
  b_str : mg "str" = none
  b_zip : mg "zip" = none
section
variable {X : Cx}
theorem pe_globI {x : Str} {i : Int} {pos : Pos} (hg : Gl X x) (hm : ∃ t, X.mg x = some (.int i t)) (hd : (x == ("__debug__" : Str)) = false := by decide) : PE X (.Name x pos) (tC (.int i)) := by
  obtain ⟨t, hm⟩ := hm
  exact pe_glob hg hm ⟨_, rfl⟩ hd
theorem pe_globS {x z : Str} {pos : Pos} (hg : Gl X x) (hm : ∃ t, X.mg x = some (.str z t)) (hd : (x == ("__debug__" : Str)) = false := by decide) : PE X (.Name x pos) (tC (.str z)) := by
  obtain ⟨t, hm⟩ := hm
  exact pe_glob hg hm ⟨_, rfl⟩ hd
theorem pe_globR {x : Str} {a : Addr} {pos : Pos} (hg : Gl X x) (hm : X.mg x = some (.ref a)) (hd : (x == ("__debug__" : Str)) = false := by decide) : PE X (.Name x pos) (tC (.ref a)) := pe_glob hg hm rfl hd
end
end Bb
namespace Bb
open PySem PySem.Spec PyProof.Rows L2 Evl
open PySem.W (Codec)
abbrev Mad := List (Nat × Nat)
abbrev iV (n : Nat) : V := .int (n : Int)
/-! ### small words -/
theorem lk_here {k : Str} {v : V} {r : List (Str × V)} : List.lookup k ((k, v) :: r) = some v := by
  have e : (k == k) = true := beq_self_eq_true k
  simp only [List.lookup, e]
theorem lk_past {k g : Str} {v : V} {r : List (Str × V)} (h : (k == g) = false) : List.lookup k ((g, v) :: r) = List.lookup k r := by
  simp only [List.lookup, h]
theorem put_here {f : Str} {v x : V} {r : List (Str × V)} : putF f v ((f, x) :: r) = (f, v) :: r := if_pos rfl
theorem put_past {f g : Str} {v x : V} {r : List (Str × V)} (h : ¬ g = f) : putF f v ((g, x) :: r) = (g, x) :: putF f v r := if_neg h
def EvP (te : TE) (σ : L2.St) (H : Hp) (P : V → Hp → Prop) : Prop := ∀ H1, Ex H H1 → ∀ Q : VK, (∀ v H2, Ex H1 H2 → P v H2 → Q v H2) → te σ H1 Q
def SpP (sp : Sp) (vs : List V) (H : Hp) (P : V → Hp → Prop) : Prop := ∀ H1, Ex H H1 → ∀ Q : VK, (∀ v H2, Ex H1 H2 → P v H2 → Q v H2) → ∀ E : XK, sp vs H1 Q E
def RetP (P : V → Hp → Prop) (H : Hp) (Q : VK) : Prop := ∀ v H2, Ex H H2 → P v H2 → Q v H2
theorem RetP.go {P : V → Hp → Prop} {H H1 : Hp} {Q : VK} (k : RetP P H Q) (e : Ex H H1) {v : V} (h : P v H1) : Q v H1 := k v H1 e h
def Has (C : Addr) (H : Hp) (a : Addr) (m : Str) : Prop := ∃ dx fs, H a = some (.ins C dx fs) ∧ fs.lookup m = none
section
variable {K : PySem.W.Frag} {σ : L2.St} {H H' : Hp} {ta tb te tx : TE} {t u : TT} {x y z v : V} {r : R2} {P : V → Hp → Prop} {D : Ends} {tz : TS} {C a : Addr} {m : Str} {sp : Sp} {E : XK} {tr : TA} {vs : List V}
theorem Has.mono (e : Ex H H') (h : Has C H a m) : Has C H' a m := by
  obtain ⟨dx, fs, h1, h2⟩ := h
  exact ⟨dx, fs, e _ _ h1, h2⟩
theorem EvP.mono (e : Ex H H') (h : EvP te σ H P) : EvP te σ H' P := fun H1 a Q q => h H1 (e.trans a) Q q
theorem evp_of (h : Ev te σ H v) (hp : ∀ H1, Ex H H1 → P v H1) : EvP te σ H P := fun H1 e Q q => h H1 e Q fun H2 e2 => q v H2 e2 (hp H2 (e.trans e2))
theorem evp_L {xs : List V} (h : EvL te σ H xs) (hp : ∀ p H1, Ex H H1 → H p = none → H1 p = some (.lst xs) → P (.ref p) H1) : EvP te σ H P := fun H1 e Q q => h H1 e Q fun p H2 hn e2 h2 => q _ H2 e2 (hp p H2 (e.trans e2) (fresh_back e hn) h2)
theorem evp_U {xs : List V} (h : EvU te σ H xs) (hp : ∀ p H1, Ex H H1 → H1 p = some (.tup xs) → P (.ref p) H1) : EvP te σ H P := fun H1 e Q q => h H1 e Q fun p H2 _ e2 h2 => q _ H2 e2 (hp p H2 (e.trans e2) h2)
theorem ev_ofP (h : EvP te σ H fun w _ => w = v) : Ev te σ H v := fun H1 e Q q => h H1 e Q fun w H2 e2 hw => by
  subst hw
  exact q H2 e2
theorem s_retP (h : EvP te σ H P) (k : ∀ v H1, Ex H H1 → P v H1 → D.rt v H1) : tRet te D σ H := h H (Ex.refl H) _ fun v H1 e p => k v H1 e p
theorem s_asgP {i : Nat} (h : EvP te σ H P) (k : ∀ v H1, Ex H H1 → P v H1 → D.nx (σ.set i (some v)) H1) : tAsg te (gName i) D σ H := h H (Ex.refl H) _ fun v H1 e p => k v H1 e p
theorem q_asgP {i : Nat} (h : EvP te σ H P) (k : ∀ v H1, Ex H H1 → P v H1 → tz D (σ.set i (some v)) H1) : tSeq (tAsg te (gName i)) tz D σ H := h H (Ex.refl H) _ fun v H1 e p => k v H1 e p
theorem ev_fld {dx : Addr} {fs : List (Str × V)} {f : Str} (ho : Ev ta σ H (.ref a)) (h : H a = some (.ins C dx fs)) (c : Cls K C) (n : NoAttr K C f) (l : fs.lookup f = some v) : Ev (tFld K ta f) σ H v := fun H1 e Q q =>
  ho H1 e _ fun H2 e2 => ⟨a, C, dx, fs, v, rfl, e2 _ _ (e _ _ h), c, n, l, q H2 e2⟩
theorem q_setF {dx : Addr} {fs : List (Str × V)} {f : Str} (hv : EvP te σ H P) (hm : ∀ v H1 H2, Ex H1 H2 → P v H1 → P v H2) (ho : Ev ta σ H (.ref a)) (h : H a = some (.ins C dx fs)) (c : Cls K C) (n : NoAttr K C f) (l : fs.length < 1000)
    (k : ∀ v H1, Ex H H1 → P v H1 → tz D σ (upd H1 a (.ins C dx (putF f v fs)))) : tSeq (sFld K ta te f) tz D σ H := hv H (Ex.refl H) _ fun v H1 e1 p => ho H1 e1 _ fun H2 e2 => ⟨a, C, dx, fs, rfl, (e1.trans e2) _ _ h, c, n, l, k v H2 (e1.trans e2) (hm v H1 H2 e2 p)⟩
theorem s_setF {dx : Addr} {fs : List (Str × V)} {f : Str} (hv : EvP te σ H P) (hm : ∀ v H1 H2, Ex H1 H2 → P v H1 → P v H2) (ho : Ev ta σ H (.ref a)) (h : H a = some (.ins C dx fs)) (c : Cls K C) (n : NoAttr K C f) (l : fs.length < 1000)
    (k : ∀ v H1, Ex H H1 → P v H1 → D.nx σ (upd H1 a (.ins C dx (putF f v fs)))) : sFld K ta te f D σ H := q_setF (D := D) (tz := fun D σ H => D.nx σ H) hv hm ho h c n l k
theorem evp_meth (ho : Ev ta σ H (.ref a)) (hi : Has C H a m) (ha : EvA tr σ H vs) (hs : SpP sp (.ref a :: (vs ++ [])) H P) : EvP (tMeth C m sp [] E ta tr) σ H P := fun H1 e Q q =>
  ho H1 e _ fun H2 e2 => by
    obtain ⟨dx, fs, h1, h2⟩ := hi
    exact ⟨a, dx, fs, rfl, e2 _ _ (e _ _ h1), h2, ha H2 (e.trans e2) _ fun H3 e3 => hs H3 ((e.trans e2).trans e3) Q (fun v H4 e4 p => q v H4 ((e2.trans e3).trans e4) p) E⟩
theorem ev_meth (ho : Ev ta σ H (.ref a)) (hi : Has C H a m) (ha : EvA tr σ H vs) (hs : SpV sp (.ref a :: (vs ++ [])) H z) : Ev (tMeth C m sp [] E ta tr) σ H z :=
  ev_ofP (evp_meth ho hi ha fun H1 e Q q E => hs H1 e Q (fun H2 e2 => q _ H2 e2 rfl) E)
theorem evp_call (ha : EvA tr σ H vs) (hs : SpP sp (vs ++ []) H P) : EvP (tCall sp [] E tr) σ H P := fun H1 e Q q =>
  ha H1 e _ fun H2 e2 => hs H2 (e.trans e2) Q (fun v H3 e3 p => q v H3 (e2.trans e3) p) E
theorem evp_op (ha : EvP ta σ H P) (h : ∀ v H1, Ex H H1 → P v H1 → ∃ y, Ev tb σ H1 y ∧ RV r v y H1 z) : Ev (tOp r ta tb) σ H z := fun H1 e Q q =>
  ha H1 e _ fun v H2 e2 p => by
    obtain ⟨y, h1, h2⟩ := h v H2 (e.trans e2) p
    exact h1 H2 (Ex.refl H2) _ fun H3 e3 => h2 H3 e3 Q fun H4 e4 => q H4 ((e2.trans e3).trans e4)
theorem ev_isN (h : Ev ta σ H x) : Ev (tOp (fun x y H Q => y = .non ∧ Q (.bl (decide (x = .non))) H) ta (tC .non)) σ H (.bl (decide (x = .non))) := fun H1 e Q q => h H1 e _ fun H2 e2 => ⟨rfl, q H2 e2⟩
theorem ev_notN (h : Ev ta σ H x) : Ev (tOp (fun x y H Q => y = .non ∧ Q (.bl (!decide (x = .non))) H) ta (tC .non)) σ H (.bl (!decide (x = .non))) := fun H1 e Q q => h H1 e _ fun H2 e2 => ⟨rfl, q H2 e2⟩
theorem ev_isN_P {b : Bool} (h : EvP ta σ H P) (hb : ∀ v H1, P v H1 → decide (v = .non) = b) : Ev (tOp (fun x y H Q => y = .non ∧ Q (.bl (decide (x = .non))) H) ta (tC .non)) σ H (.bl b) := fun H1 e Q q => h H1 e _ fun v H2 e2 p => ⟨rfl, by
  rw [hb v H2 p]
  exact q H2 e2⟩
theorem ev_addN {i j : Nat} (h1 : Ev ta σ H (iV i)) (h2 : Ev tb σ H (iV j)) : Ev (tOp (rI0 fun i j => .int (i + j)) ta tb) σ H (iV (i + j)) := by
  have h := ev_op (z := .int ((i : Int) + (j : Int))) h1 h2 (rv_I0 (g := fun i j => .int (i + j)))
  rw [← Int.natCast_add] at h
  exact h
theorem ev_modN {i : Nat} {j : Nat} (hj : 0 < j) (h1 : Ev ta σ H (iV i)) (h2 : Ev tb σ H (iV j)) : Ev (tOp (rI (fun _ j => 0 < j) fun i j => .int (i % j)) ta tb) σ H (iV (i % j)) := by
  have h := ev_op (z := .int ((i : Int) % (j : Int))) h1 h2 (rv_I (C := fun _ j => 0 < j) (g := fun i j => .int (i % j)) (by exact_mod_cast hj))
  rw [← Int.natCast_emod] at h
  exact h
end
/-! ### an auction in the heap -/
def Tup2 (H : Hp) (v : V) (x : Nat × Nat) : Prop := ∃ t, v = .ref t ∧ H t = some (.tup [iV x.1, iV x.2])
theorem Tup2.mono {H H' : Hp} {v : V} {x : Nat × Nat} (e : Ex H H') (h : Tup2 H v x) : Tup2 H' v x := by
  obtain ⟨t, h1, h2⟩ := h
  exact ⟨t, h1, e _ _ h2⟩
inductive Tups (H : Hp) : List V → Mad → Prop
  | nil : Tups H [] []
  | cons {v : V} {vs : List V} {x : Nat × Nat} {l : Mad} : Tup2 H v x → Tups H vs l → Tups H (v :: vs) (x :: l)
theorem Tups.mono {H H' : Hp} (e : Ex H H') : ∀ {vs : List V} {l : Mad}, Tups H vs l → Tups H' vs l
  | _, _, .nil => .nil
  | _, _, .cons h t => .cons (h.mono e) (t.mono e)
theorem Tups.len {H : Hp} : ∀ {vs : List V} {l : Mad}, Tups H vs l → vs.length = l.length
  | _, _, .nil => rfl
  | _, _, .cons _ t => by rw [List.length_cons, List.length_cons, t.len]
theorem Tups.app {H : Hp} {ws : List V} {k : Mad} (q : Tups H ws k) : ∀ {vs : List V} {l : Mad}, Tups H vs l → Tups H (vs ++ ws) (l ++ k)
  | _, _, .nil => q
  | _, _, .cons h t => .cons h (Tups.app q t)
theorem Tups.get {H : Hp} : ∀ {vs : List V} {l : Mad}, Tups H vs l → ∀ {i : Nat} {v : V}, vs[i]? = some v → ∃ x, l[i]? = some x ∧ Tup2 H v x
  | _, _, .nil, i, v, h => by simp at h
  | _, _, .cons h t, 0, v, e => by
    simp only [List.getElem?_cons_zero, Option.some.injEq] at e
    subst e
    exact ⟨_, by simp, h⟩
  | _, _, .cons h t, i + 1, v, e => by
    rw [List.getElem?_cons_succ] at e
    obtain ⟨x, h1, h2⟩ := t.get e
    exact ⟨x, by rw [List.getElem?_cons_succ]; exact h1, h2⟩
theorem Tups.last {H : Hp} {vs : List V} {l : Mad} (h : Tups H vs l) {x : Nat × Nat} (hl : l.getLast? = some x) : ∃ v, vs.getLast? = some v ∧ Tup2 H v x := by
  rw [List.getLast?_eq_getElem?] at hl ⊢
  rw [h.len]
  have hi : l.length - 1 < vs.length := by
    rw [h.len]
    cases l with
    | nil => simp at hl
    | cons => simp
  obtain ⟨y, h1, h2⟩ := h.get (List.getElem?_eq_getElem hi)
  rw [hl] at h1
  cases h1
  exact ⟨_, List.getElem?_eq_getElem hi, h2⟩
def auF (d : Nat) (m : Addr) : List (Str × V) := [("dealer", iV d), ("made", .ref m)]
structure AucM (C : Addr) (H : Hp) (a m : Addr) (d : Nat) (l : Mad) : Prop where
  obj : ∃ dx, H a = some (.ins C dx (auF d m))
  lst : ∃ vs, H m = some (.lst vs) ∧ Tups H vs l
theorem AucM.mono {C : Addr} {H H' : Hp} {a m : Addr} {d : Nat} {l : Mad} (e : Ex H H') (h : AucM C H a m d l) : AucM C H' a m d l := by
  obtain ⟨⟨dx, h1⟩, vs, h2, h3⟩ := h
  exact ⟨⟨dx, e _ _ h1⟩, vs, e _ _ h2, h3.mono e⟩
theorem auF_dealer (d : Nat) (m : Addr) : (auF d m).lookup ("dealer" : Str) = some (iV d) := lk_here
theorem auF_made (d : Nat) (m : Addr) : (auF d m).lookup ("made" : Str) = some (.ref m) := (lk_past (by decide +kernel)).trans lk_here
theorem auF_no {f : Str} (d : Nat) (m : Addr) (h1 : (f == ("dealer" : Str)) = false := by decide +kernel) (h2 : (f == ("made" : Str)) = false := by decide +kernel) : (auF d m).lookup f = none := (lk_past h1).trans ((lk_past h2).trans rfl)
theorem AucM.has {C : Addr} {H : Hp} {a m : Addr} {d : Nat} {l : Mad} (h : AucM C H a m d l) {f : Str} (h1 : (f == ("dealer" : Str)) = false := by decide +kernel) (h2 : (f == ("made" : Str)) = false := by decide +kernel) : Has C H a f := by
  obtain ⟨⟨dx, h3⟩, _⟩ := h
  exact ⟨dx, _, h3, auF_no d m h1 h2⟩
/-! ### numbers -/
section
variable {K : PySem.W.Frag} {σ : L2.St} {H H' : Hp} {ta tb te tx : TE} {i j : Nat}
theorem et_eqN (h1 : Ev ta σ H (iV i)) (h2 : Ev tb σ H (iV j)) : EvT (tTest (tOp rEq ta tb)) σ H (decide (i = j)) := et_is (et_test (ev_op h1 h2 (rv_eq rfl))) (by
  rw [decide_eq_decide, V.int.injEq]; omega)
theorem et_neN (h1 : Ev ta σ H (iV i)) (h2 : Ev tb σ H (iV j)) : EvT (tTest (tOp rNe ta tb)) σ H (!decide (i = j)) := et_is (et_test (ev_op h1 h2 (rv_ne rfl))) (by
  congr 1; rw [decide_eq_decide, V.int.injEq]; omega)
theorem ev_eqN (h1 : Ev ta σ H (iV i)) (h2 : Ev tb σ H (iV j)) : Ev (tOp rEq ta tb) σ H (.bl (decide (i = j))) := ev_is (ev_op h1 h2 (rv_eq rfl)) (by
  congr 1; rw [decide_eq_decide, V.int.injEq]; omega)
theorem ev_neN (h1 : Ev ta σ H (iV i)) (h2 : Ev tb σ H (iV j)) : Ev (tOp rNe ta tb) σ H (.bl (!decide (i = j))) := ev_is (ev_op h1 h2 (rv_ne rfl)) (by
  congr 2; rw [decide_eq_decide, V.int.injEq]; omega)
theorem ev_I {g : Int → Int → V} {a b : Int} {v : V} (h1 : Ev ta σ H (.int a)) (h2 : Ev tb σ H (.int b)) (e : g a b = v) : Ev (tOp (rI0 g) ta tb) σ H v := ev_is (ev_op h1 h2 rv_I0) e
theorem et_I {p : Int → Int → Bool} {a b : Int} {c : Bool} (h1 : Ev ta σ H (.int a)) (h2 : Ev tb σ H (.int b)) (e : p a b = c) : EvT (tTest (tOp (rI0 fun i j => .bl (p i j)) ta tb)) σ H c := et_test (ev_I h1 h2 (congrArg V.bl e))
theorem ev_subN (hij : j ≤ i) (h1 : Ev ta σ H (iV i)) (h2 : Ev tb σ H (iV j)) : Ev (tOp (rI0 fun i j => .int (i - j)) ta tb) σ H (iV (i - j)) := ev_I h1 h2 (by congr 1; omega)
/-- t[j] of a pair -/
theorem ev_fst {x : Nat × Nat} {v : V} (hv : Tup2 H v x) (h : Ev ta σ H v) : Ev (tOp (rIxT K) ta (tC (.int 0))) σ H (iV x.1) := by
  obtain ⟨t, rfl, ht⟩ := hv
  exact ev_op h ev_c (rv_ixT (st_of ht) rfl)
theorem ev_snd {x : Nat × Nat} {v : V} (hv : Tup2 H v x) (h : Ev ta σ H v) : Ev (tOp (rIxT K) ta (tC (.int 1))) σ H (iV x.2) := by
  obtain ⟨t, rfl, ht⟩ := hv
  exact ev_op h ev_c (rv_ixT (st_of ht) rfl)
theorem atI_last {vs : List V} {v : V} (h : vs.getLast? = some v) : atI vs (-1) = some v := by
  have hl : 0 < vs.length := by
    cases vs with
    | nil => simp at h
    | cons => simp
  unfold atI ixN
  rw [if_neg (by omega), if_pos (by omega)]
  show vs[((-1 : Int) + (vs.length : Int)).toNat]? = some v
  rw [show ((-1 : Int) + (vs.length : Int)).toNat = vs.length - 1 by omega, ← List.getLast?_eq_getElem?]
  exact h
theorem atI_n {vs : List V} {v : V} {i : Nat} (h : vs[i]? = some v) : atI vs (i : Int) = some v := by
  have hl := (List.getElem?_eq_some_iff.mp h).1
  unfold atI ixN
  rw [if_pos (by omega), if_pos (by omega)]
  simpa using h
end
/-! ### loops over the calls made -/
section
variable {K : PySem.W.Frag} {σ : L2.St} {H H' : Hp} {tl : TE} {tu tz : TS} {D : Ends}
theorem g_pair {v : V} {x : Nat × Nat} {i j : Nat} {Q : L2.St → Hp → Prop} (hv : Tup2 H v x) (q : Q ((σ.set i (some (iV x.1))).set j (some (iV x.2))) H) : gTup K 2 (gCons (gName i) (gCons (gName j) gNil)) v σ H Q := by
  obtain ⟨t, rfl, ht⟩ := hv
  exact ⟨t, _, rfl, st_of ht, rfl, _, _, rfl, _, _, rfl, rfl, q⟩
theorem q_forRev {g : TG} {m : Addr} {vs : List V} (h : Ev tl σ H (.ref m)) (hx : SqL K H m vs) (Pv : Nat → L2.St → Hp → Prop) (h0 : ∀ H1, Ex H H1 → Pv 0 σ H1) (hl : ∀ i σ' H', Pv i σ' H' → SqL K H' m vs)
    (hs : ∀ i x σ' H', i < vs.length → vs[vs.length - 1 - i]? = some x → Pv i σ' H' → g x σ' H' fun σ2 H2 => tu { D with nx := Pv (i + 1), ct := Pv (i + 1), bk := tz D } σ2 H2)
    (hd : ∀ σ' H', Pv vs.length σ' H' → tz D σ' H') : tSeq (tFor (iRev K (tCons tl tNil)) g tu) tz D σ H :=
  h H (Ex.refl H) _ fun H1 e => ⟨m, vs, rfl, ex_l e hx, for_it (D := { D with nx := tz D }) (walk_rev (K := K) (a := m) (xs := vs)) Pv (h0 H1 e) (fun i σ' H' _ p => hl i σ' H' p)
    (fun i x σ' H2 H3 hi p y => by
      obtain ⟨rfl, y2⟩ := y
      exact hs i x σ' _ hi y2 p) hd⟩
theorem take_more {α : Type} {l : List α} {i : Nat} {x : α} (h : l[i]? = some x) : l.take (i + 1) = l.take i ++ [x] := by
  rw [List.take_succ, h]
  rfl
theorem at_split {α : Type} {l : List α} {i : Nat} {x : α} (h : l[i]? = some x) : l = l.take i ++ x :: l.drop (i + 1) := by
  obtain ⟨hl, e⟩ := List.getElem?_eq_some_iff.mp h
  rw [← e, ← List.drop_eq_getElem_cons hl, List.take_append_drop]
theorem q_forRevMade {C a m : Addr} {d : Nat} {l : Mad} {i j : Nat} (hA : AucM C H a m d l) (h : Ev tl σ H (.ref m)) (Iv : Mad → L2.St → Prop) (h0 : Iv [] σ)
    (hs : ∀ pre x post σ' H', l.reverse = pre ++ x :: post → Ex H H' → Iv pre σ' → tu { D with nx := fun σ2 H2 => Ex H H2 ∧ Iv (pre ++ [x]) σ2, ct := fun σ2 H2 => Ex H H2 ∧ Iv (pre ++ [x]) σ2, bk := tz D } ((σ'.set i (some (iV x.1))).set j (some (iV x.2))) H')
    (hd : ∀ σ' H', Ex H H' → Iv l.reverse σ' → tz D σ' H') : tSeq (tFor (iRev K (tCons tl tNil)) (gTup K 2 (gCons (gName i) (gCons (gName j) gNil))) tu) tz D σ H := by
  obtain ⟨_, vs, hv, ht⟩ := hA
  refine q_forRev h (sq_of hv) (fun k σ' H' => Ex H H' ∧ Iv (l.reverse.take k) σ') (fun H1 e => ⟨e, h0⟩) (fun k σ' H' p => sq_of (p.1 _ _ hv)) (fun k v σ' H' hk hv2 p => ?_) (fun σ' H' p => hd σ' H' p.1 ?_)
  · obtain ⟨x, hx, hp⟩ := (ht.mono p.1).get hv2
    rw [ht.len] at hx hk
    have hr : l.reverse[k]? = some x := by
      rw [List.getElem?_reverse hk]
      exact hx
    have q := hs _ x _ σ' H' (at_split hr) p.1 p.2
    rw [← take_more hr] at q
    exact g_pair hp q
  · have q := p.2
    rw [ht.len, List.take_of_length_le (by rw [List.length_reverse]; exact Nat.le_refl _)] at q
    exact q
theorem q_forMade {C a m : Addr} {d : Nat} {l : Mad} {i j : Nat} (hA : AucM C H a m d l) (h : Ev tl σ H (.ref m)) (Pv : Mad → L2.St → Hp → Prop) (h0 : ∀ H1, Ex H H1 → Pv [] σ H1) (hx : ∀ pre σ' H', Pv pre σ' H' → Ex H H')
    (hs : ∀ pre x post σ' H', l = pre ++ x :: post → Pv pre σ' H' → tu { D with nx := Pv (pre ++ [x]), ct := Pv (pre ++ [x]), bk := tz D } ((σ'.set i (some (iV x.1))).set j (some (iV x.2))) H')
    (hd : ∀ σ' H', Pv l σ' H' → tz D σ' H') : tSeq (tFor (iList K tl) (gTup K 2 (gCons (gName i) (gCons (gName j) gNil))) tu) tz D σ H := by
  obtain ⟨_, vs, hv, ht⟩ := hA
  refine q_forL h (sq_of hv) (fun k σ' H' => Pv (l.take k) σ' H') (fun H1 e => h0 H1 e) (fun k σ' H' _ p => sq_of (hx _ _ _ p _ _ hv)) (fun k v σ' H' hv2 p => ?_) (fun σ' H' p => hd σ' H' ?_)
  · obtain ⟨x, hxx, hp⟩ := (ht.mono (hx _ _ _ p)).get hv2
    have q := hs _ x _ σ' H' (at_split hxx) p
    rw [← take_more hxx] at q
    exact g_pair hp q
  · have q := p
    rw [ht.len, List.take_of_length_le (Nat.le_refl _)] at q
    exact q
theorem q_forMade2 {H0 : Hp} (e0 : Ex H0 H) {C a m : Addr} {d : Nat} {l : Mad} {i j : Nat} (hA : AucM C H0 a m d l) (h : Ev tl σ H (.ref m)) (Pv : Mad → L2.St → Hp → Prop) (h0 : ∀ H1, Ex H H1 → Pv [] σ H1) (hx : ∀ pre σ' H', Pv pre σ' H' → Ex H0 H')
    (hs : ∀ pre x post σ' H', l = pre ++ x :: post → Pv pre σ' H' → tu { D with nx := Pv (pre ++ [x]), ct := Pv (pre ++ [x]), bk := tz D } ((σ'.set i (some (iV x.1))).set j (some (iV x.2))) H')
    (hd : ∀ σ' H', Pv l σ' H' → tz D σ' H') : tSeq (tFor (iList K tl) (gTup K 2 (gCons (gName i) (gCons (gName j) gNil))) tu) tz D σ H := by
  obtain ⟨_, vs, hv, ht⟩ := hA
  refine q_forL h (sq_of (e0 _ _ hv)) (fun k σ' H' => Pv (l.take k) σ' H') (fun H1 e => h0 H1 e) (fun k σ' H' _ p => sq_of (hx _ _ _ p _ _ hv)) (fun k v σ' H' hv2 p => ?_) (fun σ' H' p => hd σ' H' ?_)
  · obtain ⟨x, hxx, hp⟩ := (ht.mono (hx _ _ _ p)).get hv2
    have q := hs _ x _ σ' H' (at_split hxx) p
    rw [← take_more hxx] at q
    exact g_pair hp q
  · have q := p
    rw [ht.len, List.take_of_length_le (Nat.le_refl _)] at q
    exact q
end
end Bb
namespace Bb
open PySem PySem.Spec PyProof.Rows L2 Evl
open PySem.W (Codec)
/-! ### the words of the specification that the program says by itself -/
def lbI (l : Mad) : Int := match Vbbrac.lastBid l with
  | none => -1
  | some x => (x.2 : Int)
def faces (l : Mad) (s : Nat) : Bool := match Vbbrac.lastWord l with
  | none => false
  | some x => !decide (x.1 % 2 = s % 2)
def OptP (o : Option (Nat × Nat)) (v : V) (H : Hp) : Prop := match o with
  | none => v = .non
  | some x => Tup2 H v x
def optN (o : Option Nat) : V := match o with
  | none => .non
  | some n => iV n
abbrev lbm (l : Mad) : Option (Nat × Nat) := Vbbrac.lastWhere (fun c => decide (3 ≤ c)) l
theorem find_app {α : Type} {p : α → Bool} : ∀ {pre : List α} {x : α} {post : List α}, (∀ y ∈ pre, p y = false) → p x = true → (pre ++ x :: post).find? p = some x
  | [], x, post, _, h => by simp [List.find?, h]
  | y :: r, x, post, h, hx => by
    rw [List.cons_append, List.find?_cons, h y List.mem_cons_self]
    exact find_app (fun z hz => h z (List.mem_cons_of_mem _ hz)) hx
theorem find_no {α : Type} {p : α → Bool} {l : List α} (h : ∀ y ∈ l, p y = false) : l.find? p = none := by
  rw [List.find?_eq_none]
  intro x hx
  rw [h x hx]
  exact Bool.false_ne_true
theorem tw_app {α : Type} {p : α → Bool} : ∀ {pre : List α} {x : α} {post : List α}, (∀ y ∈ pre, p y = true) → p x = false → (pre ++ x :: post).takeWhile p = pre
  | [], x, post, _, h => by simp [List.takeWhile, h]
  | y :: r, x, post, h, hx => by
    rw [List.cons_append, List.takeWhile_cons, h y List.mem_cons_self, if_pos rfl, tw_app (fun z hz => h z (List.mem_cons_of_mem _ hz)) hx]
theorem tw_all {α : Type} {p : α → Bool} : ∀ {l : List α}, (∀ y ∈ l, p y = true) → l.takeWhile p = l
  | [], _ => rfl
  | y :: r, h => by rw [List.takeWhile_cons, h y List.mem_cons_self, if_pos rfl, tw_all fun z hz => h z (List.mem_cons_of_mem _ hz)]
theorem all_snoc {α : Type} {p : α → Prop} {l : List α} {x : α} (h : ∀ y ∈ l, p y) (hx : p x) : ∀ y ∈ l ++ [x], p y := by
  intro y hy
  rcases List.mem_append.mp hy with h1 | h1
  · exact h y h1
  · rw [List.mem_singleton.mp h1]; exact hx
theorem lbI_none {l : Mad} (h : lbm l = none) : lbI l = -1 := by
  unfold lbI Vbbrac.lastBid
  rw [show Vbbrac.lastWhere (fun c => decide (3 ≤ c)) l = none from h]
  rfl
theorem lbm_ge {l : Mad} {x : Nat × Nat} (h : lbm l = some x) : 3 ≤ x.2 := of_decide_eq_true (List.find?_some (p := fun y : Nat × Nat => decide (3 ≤ y.2)) h)
theorem lb_some {l : Mad} {x : Nat × Nat} (h : lbm l = some x) : Vbbrac.lastBid l = some (x.1, x.2 - 3) := by
  unfold Vbbrac.lastBid
  rw [show Vbbrac.lastWhere (fun c => decide (3 ≤ c)) l = some x from h]
  rfl
theorem lb_none {l : Mad} (h : lbm l = none) : Vbbrac.lastBid l = none := by
  unfold Vbbrac.lastBid
  rw [show Vbbrac.lastWhere (fun c => decide (3 ≤ c)) l = none from h]
  rfl
theorem lbI_some {l : Mad} {x : Nat × Nat} (h : lbm l = some x) : lbI l = (x.2 : Int) - 3 := by
  unfold lbI
  rw [lb_some h]
  have := lbm_ge h
  show ((x.2 - 3 : Nat) : Int) = _
  omega
theorem dbl_none {l : Mad} (h : Vbbrac.lastWord l = none) : Vbbrac.doubled l = 0 := by
  unfold Vbbrac.doubled
  rw [h]
theorem dbl_some {l : Mad} {x : Nat × Nat} (h : Vbbrac.lastWord l = some x) : Vbbrac.doubled l = if x.2 = 1 then 1 else if x.2 = 2 then 2 else 0 := by
  unfold Vbbrac.doubled
  rw [h]
/-! ### promises -/
def spPartner : Sp := fun vs H Q _ => ∃ s : Nat, vs = [iV s] ∧ RetV (iV ((s + 2) % 4)) H Q
def spIsBid : Sp := fun vs H Q _ => ∃ c : Nat, vs = [iV c] ∧ RetV (.bl (decide (3 ≤ c))) H Q
/-- a method of an auction that reads only -/
def spAuc (C : Addr) (f : Nat → Mad → V) : Sp := fun vs H Q _ => ∃ a m d l, vs = [.ref a] ∧ AucM C H a m d l ∧ RetV (f d l) H Q
def spAucP (C : Addr) (f : Nat → Mad → V → Hp → Prop) : Sp := fun vs H Q _ => ∃ a m d l, vs = [.ref a] ∧ AucM C H a m d l ∧ RetP (f d l) H Q
def spFaces (C : Addr) : Sp := fun vs H Q _ => ∃ a m d l s, vs = [.ref a, iV s] ∧ AucM C H a m d l ∧ RetV (.bl (faces l s)) H Q
def mayI (l : Mad) (s c : Nat) : Bool := if c = 1 then Vbbrac.mayDouble l s else Vbbrac.mayRedouble l s
def spMay (C : Addr) : Sp := fun vs H Q _ => ∃ a m d l s c, vs = [.ref a, iV s, iV c] ∧ AucM C H a m d l ∧ (c = 1 ∨ c = 2) ∧ RetV (.bl (mayI l s c)) H Q
def spLegal (C : Addr) : Sp := fun vs H Q _ => ∃ a m d l s c, vs = [.ref a, iV s, iV c] ∧ AucM C H a m d l ∧ c ≤ 37 ∧ RetV (.bl (Vbbrac.legal l s c)) H Q
def spFirst (C : Addr) : Sp := fun vs H Q _ => ∃ a m d l s t, vs = [.ref a, iV s, iV t] ∧ AucM C H a m d l ∧ RetV (optN (Vbbrac.firstNamed l s t)) H Q
def conL (l : Mad) : List Nat := match Vbbrac.contract l with
  | none => []
  | some x => [x.1, x.2.1, x.2.2, Vbbrac.nextSeat x.2.2, Vbbrac.partner x.2.2]
def spCon (C : Addr) : Sp := fun vs H Q _ => ∃ a m d l, vs = [.ref a] ∧ AucM C H a m d l ∧ RetL ((conL l).map iV) H Q
section
variable {P : Program} {w : World} {K : PySem.W.Frag} {mg : Str → Option Value} {base : Heap} {fa : Nat → Addr} {fd : Nat → FuncData} {CA CW CP CS aN aR aA aW aO : Addr}
theorem ev_made (T : Txt K mg fa fd CA CW CP CS aN aR aA aW aO) {σ : L2.St} {H : Hp} {ta : TE} {a m : Addr} {d : Nat} {l : Mad} (ho : Ev ta σ H (.ref a)) (h : AucM CA H a m d l) : Ev (tFld K ta "made") σ H (.ref m) := by
  obtain ⟨⟨dx, h1⟩, _⟩ := h
  exact ev_fld ho h1 T.cl_CA T.n_CA_made (auF_made d m)
theorem ev_dealer (T : Txt K mg fa fd CA CW CP CS aN aR aA aW aO) {σ : L2.St} {H : Hp} {ta : TE} {a m : Addr} {d : Nat} {l : Mad} (ho : Ev ta σ H (.ref a)) (h : AucM CA H a m d l) : Ev (tFld K ta "dealer") σ H (iV d) := by
  obtain ⟨⟨dx, h1⟩, _⟩ := h
  exact ev_fld ho h1 T.cl_CA T.n_CA_dealer (auF_dealer d m)
/-! ### calls of them -/
section
variable {σ : L2.St} {H : Hp} {ta tb : TE} {tr : TA} {E : XK} {a m : Addr} {d : Nat} {l : Mad} {s c : Nat}
theorem ev_partner (h : Ev ta σ H (iV s)) : Ev (tCall spPartner [] E (tCons ta tNil)) σ H (iV ((s + 2) % 4)) := ev_call (ea_cons h ea_nil) fun H1 e Q q E => ⟨s, rfl, q⟩
theorem ev_isbid (h : Ev ta σ H (iV c)) : Ev (tCall spIsBid [] E (tCons ta tNil)) σ H (.bl (decide (3 ≤ c))) := ev_call (ea_cons h ea_nil) fun H1 e Q q E => ⟨c, rfl, q⟩
theorem ev_auc {f : Nat → Mad → V} {n : Str} (ho : Ev ta σ H (.ref a)) (h : AucM CA H a m d l) (h1 : (n == ("dealer" : Str)) = false := by decide +kernel) (h2 : (n == ("made" : Str)) = false := by decide +kernel) : Ev (tMeth CA n (spAuc CA f) [] E ta tNil) σ H (f d l) :=
  ev_meth ho (h.has h1 h2) ea_nil fun H1 e Q q E => ⟨a, m, d, l, rfl, h.mono e, q⟩
theorem evp_auc {f : Nat → Mad → V → Hp → Prop} {n : Str} (ho : Ev ta σ H (.ref a)) (h : AucM CA H a m d l) (h1 : (n == ("dealer" : Str)) = false := by decide +kernel) (h2 : (n == ("made" : Str)) = false := by decide +kernel) : EvP (tMeth CA n (spAucP CA f) [] E ta tNil) σ H (f d l) :=
  evp_meth ho (h.has h1 h2) ea_nil fun H1 e Q q E => ⟨a, m, d, l, rfl, h.mono e, q⟩
theorem ev_faces (ho : Ev ta σ H (.ref a)) (h : AucM CA H a m d l) (hs : Ev tb σ H (iV s)) : Ev (tMeth CA "faces_last_word" (spFaces CA) [] E ta (tCons tb tNil)) σ H (.bl (faces l s)) :=
  ev_meth ho h.has (ea_cons hs ea_nil) fun H1 e Q q E => ⟨a, m, d, l, s, rfl, h.mono e, q⟩
theorem ev_may {tc : TE} (ho : Ev ta σ H (.ref a)) (h : AucM CA H a m d l) (hs : Ev tb σ H (iV s)) (hc : Ev tc σ H (iV c)) (hh : c = 1 ∨ c = 2) : Ev (tMeth CA "may_stand" (spMay CA) [] E ta (tCons tb (tCons tc tNil))) σ H (.bl (mayI l s c)) :=
  ev_meth ho h.has (ea_cons hs (ea_cons hc ea_nil)) fun H1 e Q q E => ⟨a, m, d, l, s, c, rfl, h.mono e, hh, q⟩
theorem ev_legal {tc : TE} (ho : Ev ta σ H (.ref a)) (h : AucM CA H a m d l) (hs : Ev tb σ H (iV s)) (hc : Ev tc σ H (iV c)) (hh : c ≤ 37) : Ev (tMeth CA "legal" (spLegal CA) [] E ta (tCons tb (tCons tc tNil))) σ H (.bl (Vbbrac.legal l s c)) :=
  ev_meth ho h.has (ea_cons hs (ea_cons hc ea_nil)) fun H1 e Q q E => ⟨a, m, d, l, s, c, rfl, h.mono e, hh, q⟩
theorem ev_first {tc : TE} {t : Nat} (ho : Ev ta σ H (.ref a)) (h : AucM CA H a m d l) (hs : Ev tb σ H (iV s)) (hc : Ev tc σ H (iV t)) : Ev (tMeth CA "first_to_bid" (spFirst CA) [] E ta (tCons tb (tCons tc tNil))) σ H (optN (Vbbrac.firstNamed l s t)) :=
  ev_meth ho h.has (ea_cons hs (ea_cons hc ea_nil)) fun H1 e Q q E => ⟨a, m, d, l, s, t, rfl, h.mono e, q⟩
theorem el_con (ho : Ev ta σ H (.ref a)) (h : AucM CA H a m d l) : EvL (tMeth CA "contract" (spCon CA) [] E ta tNil) σ H ((conL l).map iV) := fun H1 e Q q =>
  ho H1 e _ fun H2 e2 => by
    obtain ⟨dx, fs, h1, h2⟩ := h.has (f := "contract")
    exact ⟨a, dx, fs, rfl, e2 _ _ (e _ _ h1), h2, a, m, d, l, rfl, h.mono (e.trans e2), fun p H3 hp e3 h3 => q p H3 (fresh_back e2 hp) (e2.trans e3) h3⟩
end
theorem ok_partner (T : Txt K mg fa fd CA CW CP CS aN aR aA aW aO) : FnOk P w K mg base CX0 1 (fa 0) (fd 0) P_partner (spPartner) := by
  refine T.d_partner.F.ok sc_partner (fun vs H Q E h => ?_) (fun cdv A outer s H vs Q E hr h => ⟨_, (pss_one (ps_ret (pe_op op_mod (pe_op op_add (pv 0) pe_int) pe_int))), ?_⟩)
  · obtain ⟨s, rfl, _⟩ := h; rfl
  · obtain ⟨s, rfl, k⟩ := h
    exact s_ret (ev_modN (by decide) (ev_addN (j := 2) (ev_var rfl) ev_c) (j := 4) ev_c) k
theorem ok_is_bid (T : Txt K mg fa fd CA CW CP CS aN aR aA aW aO) : FnOk P w K mg base CX0 1 (fa 1) (fd 1) P_is_bid (spIsBid) := by
  refine T.d_is_bid.F.ok sc_is_bid (fun vs H Q E h => ?_) (fun cdv A outer s H vs Q E hr h => ⟨_, (pss_one (ps_ret (pe_cmpR op_ge (pv 0) (pe_globI rfl T.g_FIRST_BID) (nomark _)))), ?_⟩)
  · obtain ⟨s, rfl, _⟩ := h; rfl
  · obtain ⟨c, rfl, k⟩ := h
    refine s_ret (ev_I (ev_var rfl) ev_c ?_) k
    have : decide ((3 : Int) ≤ (c : Int)) = decide (3 ≤ c) := by
      rw [decide_eq_decide]; omega
    exact congrArg V.bl this
theorem ok_a_on_turn (T : Txt K mg fa fd CA CW CP CS aN aR aA aW aO) : FnOk P w K mg base CX0 1 (fa 5) (fd 5) P_a_on_turn (spAuc CA fun d l => iV (Vbbrac.turn d l)) := by
  refine T.d_a_on_turn.F.ok sc_a_on_turn (fun vs H Q E h => ?_) (fun cdv A outer s H vs Q E hr h => ⟨_, (pss_cons (ps_if (pt_cmpR op_eq (pe_callB call_len_seq (by rfl) T.b_len PySem.boot_len (pa_cons (pe_fld (pv 0) rfl) pa_nil)) pe_int (nomark _)) (pss_one (ps_ret (pe_fld (pv 0) rfl))) pss_nil) (pss_one (ps_ret (pe_op op_mod (pe_op op_add (pe_ix ix_tup (pe_ix ix_list (pe_fld (pv 0) rfl) (pe_un un_neg pe_int) (fun _ _ => rfl)) pe_int (fun _ _ => rfl)) pe_int) pe_int)))), ?_⟩)
  · obtain ⟨a, m, d, l, rfl, _⟩ := h; rfl
  · obtain ⟨a, m, d, l, rfl, hA, k⟩ := h
    have hA0 := hA
    obtain ⟨_, vs, hv, ht⟩ := hA0
    refine q_when (et_eqN (j := 0) (ev_len (ev_made T (ev_var rfl) hA) (sq_of hv)) ev_c) (fun hb H1 e1 => ?_) (fun hb H1 e1 => ?_)
    · have hl : l = [] := by
        have := of_decide_eq_true hb
        rw [ht.len] at this
        exact List.eq_nil_of_length_eq_zero this
      subst hl
      exact s_ret ((ev_dealer T (ev_var rfl) hA).mono e1) fun H2 e2 => k H2 (e1.trans e2)
    · have hl : l.length ≠ 0 := by
        have := of_decide_eq_false hb
        rw [ht.len] at this
        exact this
      obtain ⟨x, hx⟩ : ∃ x, l.getLast? = some x := by
        cases l with
        | nil => exact absurd rfl hl
        | cons y r => exact ⟨_, List.getLast?_eq_some_getLast (List.cons_ne_nil y r)⟩
      obtain ⟨v, h1, h2⟩ := ht.last hx
      have hA1 := hA.mono e1
      refine s_ret (ev_is (ev_modN (i := x.1 + 1) (by decide) (ev_addN (j := 1) (ev_fst (h2.mono e1) (ev_op (ev_made T (ev_var rfl) hA1) (ev_un ev_c ru_neg) (rv_ixL (sq_of (e1 _ _ hv)) (atI_last h1)))) ev_c) (j := 4) ev_c) ?_) fun H2 e2 => k H2 (e1.trans e2)
      show iV ((x.1 + 1) % 4) = iV (Vbbrac.turn d l)
      unfold Vbbrac.turn
      rw [hx]
      rfl
theorem lbm_app {l pre post : Mad} {x : Nat × Nat} (h : l.reverse = pre ++ x :: post) (hp : ∀ y ∈ pre, ¬ 3 ≤ y.2) (hx : 3 ≤ x.2) : lbm l = some x := by
  show (l.reverse.find? fun y => decide (3 ≤ y.2)) = some x
  rw [h]
  exact find_app (fun y hy => decide_eq_false (hp y hy)) (decide_eq_true hx)
theorem lbm_no {l : Mad} (hp : ∀ y ∈ l.reverse, ¬ 3 ≤ y.2) : lbm l = none := find_no fun y hy => decide_eq_false (hp y hy)
theorem lw_app {l pre post : Mad} {x : Nat × Nat} (h : l.reverse = pre ++ x :: post) (hp : ∀ y ∈ pre, y.2 = 0) (hx : x.2 ≠ 0) : Vbbrac.lastWord l = some x := by
  unfold Vbbrac.lastWord Vbbrac.lastWhere
  rw [h]
  exact find_app (fun y hy => decide_eq_false (by have := hp y hy; omega)) (decide_eq_true (by omega))
theorem lw_no {l : Mad} (hp : ∀ y ∈ l.reverse, y.2 = 0) : Vbbrac.lastWord l = none := find_no fun y hy => decide_eq_false (by have := hp y hy; omega)
theorem ok_a_last_bid_made (T : Txt K mg fa fd CA CW CP CS aN aR aA aW aO) : FnOk P w K mg base CX0 2 (fa 6) (fd 6) P_a_last_bid_made (spAucP CA fun _ l => OptP (lbm l)) := by
  refine T.d_a_last_bid_made.F.ok sc_a_last_bid_made (fun vs H Q E h => ?_) (fun cdv A outer s H vs Q E hr h => ⟨_, (pss_cons (ps_for PassesOwn.never rfl (pi_reversed (by rfl) T.b_reversed (pa_cons (pe_fld (pv 0) rfl) pa_nil)) (pg_tup (by rfl) (pgs_cons (pg_name (i := 1) sc_a_last_bid_made.nd rfl (.inl rfl)) (pgs_cons (pg_name (i := 2) sc_a_last_bid_made.nd rfl (.inl rfl)) pgs_nil))) (pss_one (ps_if (pt_val (pe_call (ok_is_bid T) (hr.mono (by decide)) rfl T.m_is_bid T.d_is_bid.F.kp T.d_is_bid.b .nil pass0 (pa_cons (pv 2) pa_nil))) (pss_one (ps_ret (pe_tup (pa_cons (pv 1) (pa_cons (pv 2) pa_nil))))) pss_nil))) (pss_one (ps_ret pe_non))), ?_⟩)
  · obtain ⟨a, m, d, l, rfl, _⟩ := h; rfl
  · obtain ⟨a, m, d, l, rfl, hA, k⟩ := h
    refine q_forRevMade hA (ev_made T (ev_var rfl) hA) (fun pre σ => (∀ y ∈ pre, ¬ 3 ≤ y.2) ∧ ∃ u v, σ = [some (.ref a), u, v]) ⟨by simp, _, _, rfl⟩ ?_ ?_
    · rintro pre x post σ' H' hl e1 ⟨hp, u, v, rfl⟩
      refine s_when (et_B (ev_isbid (c := x.2) (ev_var rfl))) (fun hb H1 e2 => ?_) (fun hb H1 e2 => ?_)
      · refine s_retU (eu_tup (ea_cons (x := iV x.1) (ev_var rfl) (ea_cons (x := iV x.2) (ev_var rfl) ea_nil)) (by show 2 ≤ 100000; decide)) fun p H2 _ e3 h2 => ?_
        refine k _ H2 ((e1.trans e2).trans e3) ?_
        show OptP (lbm l) _ _
        rw [lbm_app hl hp (of_decide_eq_true hb)]
        exact ⟨p, rfl, h2⟩
      · exact ⟨e1.trans e2, all_snoc hp (of_decide_eq_false hb), _, _, rfl⟩
    · rintro σ' H' e1 ⟨hp, u, v, rfl⟩
      refine s_ret ev_c fun H2 e2 => k _ H2 (e1.trans e2) ?_
      show OptP (lbm l) _ _
      rw [lbm_no hp]
      rfl
theorem ok_a_last_bid (T : Txt K mg fa fd CA CW CP CS aN aR aA aW aO) : FnOk P w K mg base CX0 3 (fa 7) (fd 7) P_a_last_bid (spAuc CA fun _ l => .int (lbI l)) := by
  refine T.d_a_last_bid.F.ok sc_a_last_bid (fun vs H Q E h => ?_) (fun cdv A outer s H vs Q E hr h => ⟨_, (pss_cons (ps_set (i := 1) sc_a_last_bid.nd rfl (.inl rfl) (pe_meth0 (pv 0) T.cl_CA T.m_a_last_bid_made (ok_a_last_bid_made T) (hr.mono (by decide)) T.d_a_last_bid_made.b .nil pass0)) (pss_one (ps_ret (pe_ifExp (pt_cmpR op_isN (pv 1) pe_non (nomark _)) (pe_un un_neg pe_int) (pe_op op_sub (pe_ix ix_tup (pv 1) pe_int (fun _ _ => rfl)) (pe_globI rfl T.g_FIRST_BID)))))), ?_⟩)
  · obtain ⟨a, m, d, l, rfl, _⟩ := h; rfl
  · obtain ⟨a, m, d, l, rfl, hA, k⟩ := h
    refine q_asgP (evp_auc (ev_var rfl) hA) fun v H1 e1 hv => ?_
    refine s_ret (ev_if (b := decide (lbm l = none)) (et_test (ev_is (ev_isN (ev_var rfl)) ?_)) (fun hb => ?_) (fun hb => ?_)) fun H2 e2 => k H2 (e1.trans e2)
    · cases e : lbm l with
      | none => rw [e] at hv; rw [show v = .non from hv]; rfl
      | some x => rw [e] at hv; obtain ⟨t, rfl, _⟩ := hv; rfl
    · exact ev_is (ev_un ev_c ru_neg) (congrArg V.int (lbI_none (of_decide_eq_true hb)).symm)
    · cases e : lbm l with
      | none => rw [e] at hb; cases hb
      | some x =>
        rw [e] at hv
        exact ev_I (ev_snd hv (ev_var rfl)) ev_c (congrArg V.int (lbI_some e).symm)
theorem ok_a_last_word (T : Txt K mg fa fd CA CW CP CS aN aR aA aW aO) : FnOk P w K mg base CX0 1 (fa 8) (fd 8) P_a_last_word (spAucP CA fun _ l => OptP (Vbbrac.lastWord l)) := by
  refine T.d_a_last_word.F.ok sc_a_last_word (fun vs H Q E h => ?_) (fun cdv A outer s H vs Q E hr h => ⟨_, (pss_cons (ps_for PassesOwn.never rfl (pi_reversed (by rfl) T.b_reversed (pa_cons (pe_fld (pv 0) rfl) pa_nil)) (pg_tup (by rfl) (pgs_cons (pg_name (i := 1) sc_a_last_word.nd rfl (.inl rfl)) (pgs_cons (pg_name (i := 2) sc_a_last_word.nd rfl (.inl rfl)) pgs_nil))) (pss_one (ps_if (pt_cmpR op_ne (pv 2) (pe_globI rfl T.g_PASS) (nomark _)) (pss_one (ps_ret (pe_tup (pa_cons (pv 1) (pa_cons (pv 2) pa_nil))))) pss_nil))) (pss_one (ps_ret pe_non))), ?_⟩)
  · obtain ⟨a, m, d, l, rfl, _⟩ := h; rfl
  · obtain ⟨a, m, d, l, rfl, hA, k⟩ := h
    refine q_forRevMade hA (ev_made T (ev_var rfl) hA) (fun pre σ => (∀ y ∈ pre, y.2 = 0) ∧ ∃ u v, σ = [some (.ref a), u, v]) ⟨by simp, _, _, rfl⟩ ?_ ?_
    · rintro pre x post σ' H' hl e1 ⟨hp, u, v, rfl⟩
      refine s_when (et_neN (i := x.2) (j := 0) (ev_var rfl) ev_c) (fun hb H1 e2 => ?_) (fun hb H1 e2 => ?_)
      · refine s_retU (eu_tup (ea_cons (x := iV x.1) (ev_var rfl) (ea_cons (x := iV x.2) (ev_var rfl) ea_nil)) (by show 2 ≤ 100000; decide)) fun p H2 _ e3 h2 => ?_
        refine k _ H2 ((e1.trans e2).trans e3) ?_
        show OptP (Vbbrac.lastWord l) _ _
        rw [lw_app hl hp (by simpa using hb)]
        exact ⟨p, rfl, h2⟩
      · exact ⟨e1.trans e2, all_snoc hp (by simpa using hb), _, _, rfl⟩
    · rintro σ' H' e1 ⟨hp, u, v, rfl⟩
      refine s_ret ev_c fun H2 e2 => k _ H2 (e1.trans e2) ?_
      show OptP (Vbbrac.lastWord l) _ _
      rw [lw_no hp]
      rfl
theorem ok_a_doubled (T : Txt K mg fa fd CA CW CP CS aN aR aA aW aO) : FnOk P w K mg base CX0 2 (fa 9) (fd 9) P_a_doubled (spAuc CA fun _ l => iV (Vbbrac.doubled l)) := by
  refine T.d_a_doubled.F.ok sc_a_doubled (fun vs H Q E h => ?_) (fun cdv A outer s H vs Q E hr h => ⟨_, (pss_cons (ps_set (i := 1) sc_a_doubled.nd rfl (.inl rfl) (pe_meth0 (pv 0) T.cl_CA T.m_a_last_word (ok_a_last_word T) (hr.mono (by decide)) T.d_a_last_word.b .nil pass0)) (pss_cons (ps_if (PW.pt (pw_or (pt_cmpR op_isN (pv 1) pe_non (nomark _)) (pw_or1 (pt_val (pe_call (ok_is_bid T) (hr.mono (by decide)) rfl T.m_is_bid T.d_is_bid.F.kp T.d_is_bid.b .nil pass0 (pa_cons (pe_ix ix_tup (pv 1) pe_int (fun _ _ => rfl)) pa_nil)))))) (pss_one (ps_ret pe_int)) pss_nil) (pss_one (ps_ret (pe_ifExp (pt_cmpR op_eq (pe_ix ix_tup (pv 1) pe_int (fun _ _ => rfl)) (pe_globI rfl T.g_REDOUBLE) (nomark _)) pe_int pe_int))))), ?_⟩)
  · obtain ⟨a, m, d, l, rfl, _⟩ := h; rfl
  · obtain ⟨a, m, d, l, rfl, hA, k⟩ := h
    refine q_asgP (evp_auc (ev_var rfl) hA) fun v H1 e1 hv => ?_
    cases e : Vbbrac.lastWord l with
    | none =>
      rw [e] at hv
      obtain rfl : v = .non := hv
      refine q_when (et_or (a := true) (b := true) (et_test (ev_is (ev_isN (ev_var rfl)) rfl)) (fun hb => by cases hb)) (fun hb H2 e2 => ?_) (fun hb H2 e2 => by cases hb)
      exact s_ret (ev_is ev_c (congrArg iV (dbl_none e).symm)) fun H3 e3 => k H3 ((e1.trans e2).trans e3)
    | some x =>
      rw [e] at hv
      have hx : x.2 ≠ 0 := by
        have := of_decide_eq_true (List.find?_some (p := fun y : Nat × Nat => decide (1 ≤ y.2)) e)
        omega
      refine q_when (et_or (a := false) (et_test (ev_is (ev_isN (ev_var rfl)) (by obtain ⟨t, rfl, _⟩ := hv; rfl))) (fun _ => et_B (ev_isbid (ev_snd hv (ev_var rfl))))) (fun hb H2 e2 => ?_) (fun hb H2 e2 => ?_)
      · refine s_ret (ev_is ev_c (congrArg iV ?_)) fun H3 e3 => k H3 ((e1.trans e2).trans e3)
        have : 3 ≤ x.2 := by simpa using hb
        rw [dbl_some e, if_neg (by omega), if_neg (by omega)]
      · have h3 : ¬ 3 ≤ x.2 := by simpa using hb
        refine s_ret (ev_if (v := iV (Vbbrac.doubled l)) (et_eqN (j := 2) (ev_snd (hv.mono e2) (ev_var rfl)) ev_c) (fun hb => ?_) (fun hb => ?_)) fun H3 e3 => k H3 ((e1.trans e2).trans e3)
        · refine ev_is ev_c (congrArg iV ?_)
          rw [dbl_some e, of_decide_eq_true hb]; rfl
        · refine ev_is ev_c (congrArg iV ?_)
          have : ¬ x.2 = 2 := of_decide_eq_false hb
          rw [dbl_some e, if_pos (by omega)]
theorem ok_a_passes (T : Txt K mg fa fd CA CW CP CS aN aR aA aW aO) : FnOk P w K mg base CX0 1 (fa 10) (fd 10) P_a_passes (spAuc CA fun _ l => iV (Vbbrac.passes l)) := by
  refine T.d_a_passes.F.ok sc_a_passes (fun vs H Q E h => ?_) (fun cdv A outer s H vs Q E hr h => ⟨_, (pss_cons (ps_set (i := 1) sc_a_passes.nd rfl (.inl rfl) pe_int) (pss_cons (ps_for PassesOwn.never rfl (pi_reversed (by rfl) T.b_reversed (pa_cons (pe_fld (pv 0) rfl) pa_nil)) (pg_tup (by rfl) (pgs_cons (pg_name (i := 2) sc_a_passes.nd rfl (.inl rfl)) (pgs_cons (pg_name (i := 3) sc_a_passes.nd rfl (.inl rfl)) pgs_nil))) (pss_cons (ps_if (pt_cmpR op_ne (pv 3) (pe_globI rfl T.g_PASS) (nomark _)) (pss_one ps_break) pss_nil) (pss_one (ps_aug (i := 1) sc_a_passes.nd rfl (.inl rfl) pe_int ip_add)))) (pss_one (ps_ret (pv 1))))), ?_⟩)
  · obtain ⟨a, m, d, l, rfl, _⟩ := h; rfl
  · obtain ⟨a, m, d, l, rfl, hA, k⟩ := h
    refine q_asg ev_c fun H1 e1 => ?_
    have hA1 := hA.mono e1
    refine q_forRevMade hA1 (ev_made T (ev_var rfl) hA1) (fun pre σ => (∀ y ∈ pre, (y.2 == 0) = true) ∧ ∃ u v, σ = [some (.ref a), some (iV pre.length), u, v]) ⟨by simp, _, _, rfl⟩ ?_ ?_
    · rintro pre x post σ' H' hl e2 ⟨hp, u, v, rfl⟩
      refine q_when (et_neN (i := x.2) (j := 0) (ev_var rfl) ev_c) (fun hb H2 e3 => ?_) (fun hb H2 e3 => ?_)
      · show tRet (tVar 1) _ _ _
        refine s_ret (ev_is (ev_var rfl) (congrArg iV ?_)) fun H3 e4 => k H3 (((e1.trans e2).trans e3).trans e4)
        show pre.length = (l.reverse.takeWhile fun x => x.2 == 0).length
        rw [hl, tw_app hp (by simpa using hb)]
      · refine s_aug rfl ev_c fun H3 e4 => ⟨(e2.trans e3).trans e4, all_snoc hp (by simpa using hb), some (iV x.1), some (iV x.2), ?_⟩
        rw [List.length_append]
        rfl
    · rintro σ' H' e2 ⟨hp, u, v, rfl⟩
      refine s_ret (ev_is (ev_var rfl) (congrArg iV ?_)) fun H3 e4 => k H3 ((e1.trans e2).trans e4)
      show l.reverse.length = (l.reverse.takeWhile fun x => x.2 == 0).length
      rw [tw_all hp]
theorem over_is (l : Mad) : Vbbrac.over l = decide ((if lbm l = none then 4 else 3) ≤ Vbbrac.passes l) := by
  unfold Vbbrac.over
  cases e : lbm l with
  | none => rw [lb_none e]; rfl
  | some x => rw [lb_some e]; rfl
theorem optP_isN {o : Option (Nat × Nat)} {v : V} {H : Hp} (h : OptP o v H) : decide (v = .non) = decide (o = none) := by
  cases o with
  | none => rw [show v = .non from h]; rfl
  | some x => obtain ⟨t, rfl, _⟩ := h; rfl
theorem ok_a_over (T : Txt K mg fa fd CA CW CP CS aN aR aA aW aO) : FnOk P w K mg base CX0 3 (fa 11) (fd 11) P_a_over (spAuc CA fun _ l => .bl (Vbbrac.over l)) := by
  refine T.d_a_over.F.ok sc_a_over (fun vs H Q E h => ?_) (fun cdv A outer s H vs Q E hr h => ⟨_, (pss_cons (ps_set (i := 1) sc_a_over.nd rfl (.inl rfl) (pe_ifExp (pt_cmpR op_isN (pe_meth0 (pv 0) T.cl_CA T.m_a_last_bid_made (ok_a_last_bid_made T) (hr.mono (by decide)) T.d_a_last_bid_made.b .nil pass0) pe_non (nomark _)) pe_int pe_int)) (pss_one (ps_ret (pe_cmpR op_ge (pe_meth0 (pv 0) T.cl_CA T.m_a_passes (ok_a_passes T) (hr.mono (by decide)) T.d_a_passes.b .nil pass0) (pv 1) (nomark _))))), ?_⟩)
  · obtain ⟨a, m, d, l, rfl, _⟩ := h; rfl
  · obtain ⟨a, m, d, l, rfl, hA, k⟩ := h
    refine q_asg (v := iV (if lbm l = none then 4 else 3)) (ev_if (b := decide (lbm l = none)) (et_test (ev_isN_P (evp_auc (ev_var rfl) hA) fun v H1 hv => optP_isN hv)) (fun hb => ?_) (fun hb => ?_)) fun H1 e1 => ?_
    · rw [if_pos (of_decide_eq_true hb)]; exact ev_c
    · rw [if_neg (of_decide_eq_false hb)]; exact ev_c
    · refine s_ret (ev_is (ev_I (ev_auc (f := fun _ l => iV (Vbbrac.passes l)) (ev_var rfl) (hA.mono e1)) (ev_var rfl) rfl) ?_) fun H2 e2 => k H2 (e1.trans e2)
      show V.bl _ = V.bl (Vbbrac.over l)
      rw [over_is]
      congr 1
      rw [decide_eq_decide]; omega
theorem ok_a_faces_last_word (T : Txt K mg fa fd CA CW CP CS aN aR aA aW aO) : FnOk P w K mg base CX0 2 (fa 12) (fd 12) P_a_faces_last_word (spFaces CA) := by
  refine T.d_a_faces_last_word.F.ok sc_a_faces_last_word (fun vs H Q E h => ?_) (fun cdv A outer s H vs Q E hr h => ⟨_, (pss_cons (ps_set (i := 2) sc_a_faces_last_word.nd rfl (.inl rfl) (pe_meth0 (pv 0) T.cl_CA T.m_a_last_word (ok_a_last_word T) (hr.mono (by decide)) T.d_a_last_word.b .nil pass0)) (pss_one (ps_ret (pe_and (pe_cmpR op_notN (pv 2) pe_non (nomark _)) (pe_one (pe_cmpR op_ne (pe_op op_mod (pe_ix ix_tup (pv 2) pe_int (fun _ _ => rfl)) pe_int) (pe_op op_mod (pv 1) pe_int) (nomark _))))))), ?_⟩)
  · obtain ⟨a, m, d, l, s, rfl, _⟩ := h; rfl
  · obtain ⟨a, m, d, l, s, rfl, hA, k⟩ := h
    refine q_asgP (evp_auc (ev_var rfl) hA) fun v H1 e1 hv => ?_
    refine s_ret (v := .bl (faces l s)) ?_ fun H2 e2 => k H2 (e1.trans e2)
    cases e : Vbbrac.lastWord l with
    | none =>
      rw [e] at hv
      obtain rfl : v = .non := hv
      refine ev_is (ev_andV (a := false) (b := false) (ev_is (ev_notN (ev_var rfl)) rfl) (fun hb => by cases hb)) ?_
      unfold faces
      rw [e]; rfl
    | some x =>
      rw [e] at hv
      refine ev_is (ev_andV (a := true) (ev_is (ev_notN (ev_var rfl)) (by obtain ⟨t, rfl, _⟩ := hv; rfl)) (fun _ => ev_neN (i := x.1 % 2) (j := s % 2) (ev_modN (j := 2) (by decide) (ev_fst hv (ev_var rfl)) ev_c) (ev_modN (j := 2) (by decide) (ev_var rfl) ev_c))) ?_
      unfold faces
      rw [e]; rfl
theorem faces_may {l : Mad} {s c : Nat} (h : faces l s = false) (hc : c = 1 ∨ c = 2) : mayI l s c = false := by
  unfold mayI Vbbrac.mayDouble Vbbrac.mayRedouble
  unfold faces at h
  cases e : Vbbrac.lastWord l with
  | none => simp
  | some x =>
    rw [e] at h
    have h2 : x.1 % 2 = s % 2 := by simpa using h
    simp [Vbbrac.sameSide, h2]
theorem ok_a_may_stand (T : Txt K mg fa fd CA CW CP CS aN aR aA aW aO) : FnOk P w K mg base CX0 3 (fa 13) (fd 13) P_a_may_stand (spMay CA) := by
  refine T.d_a_may_stand.F.ok sc_a_may_stand (fun vs H Q E h => ?_) (fun cdv A outer s H vs Q E hr h => ⟨_, (pss_cons (ps_if (pt_not (pt_val (pe_meth (pv 0) T.cl_CA T.m_a_faces_last_word (ok_a_faces_last_word T) (hr.mono (by decide)) T.d_a_faces_last_word.b .nil pass0 (pa_cons (pv 1) pa_nil)))) (pss_one (ps_ret pe_bl)) pss_nil) (pss_cons (ps_set (i := 3) sc_a_may_stand.nd rfl (.inl rfl) (pe_ix ix_tup (pe_meth0 (pv 0) T.cl_CA T.m_a_last_word (ok_a_last_word T) (hr.mono (by decide)) T.d_a_last_word.b .nil pass0) pe_int (fun _ _ => rfl))) (pss_one (ps_ret (pe_ifExp (pt_cmpR op_eq (pv 2) (pe_globI rfl T.g_DOUBLE) (nomark _)) (pe_call (ok_is_bid T) (hr.mono (by decide)) rfl T.m_is_bid T.d_is_bid.F.kp T.d_is_bid.b .nil pass0 (pa_cons (pv 3) pa_nil)) (pe_cmpR op_eq (pv 3) (pe_globI rfl T.g_DOUBLE) (nomark _))))))), ?_⟩)
  · obtain ⟨a, m, d, l, s, c, rfl, _⟩ := h; rfl
  · obtain ⟨a, m, d, l, s, c, rfl, hA, hc, k⟩ := h
    refine q_when (et_not (et_B (ev_faces (ev_var rfl) hA (ev_var rfl)))) (fun hb H1 e1 => ?_) (fun hb H1 e1 => ?_)
    · refine s_ret ev_c fun H2 e2 => ?_
      have q := k H2 (e1.trans e2)
      rw [faces_may (by simpa using hb) hc] at q
      exact q
    · have hf : faces l s = true := by simpa using hb
      have hA1 := hA.mono e1
      cases e : Vbbrac.lastWord l with
      | none => unfold faces at hf; rw [e] at hf; cases hf
      | some x =>
        refine q_asg (v := iV x.2) (evp_op (evp_auc (f := fun _ l => OptP (Vbbrac.lastWord l)) (ev_var rfl) hA1) fun v H2 e2 hv => ⟨_, ev_c, ?_⟩) fun H2 e2 => ?_
        · rw [e] at hv
          obtain ⟨t, rfl, ht⟩ := hv
          exact rv_ixT (st_of ht) rfl
        · have hs : Vbbrac.sameSide x.1 s = false := by
            unfold faces at hf; rw [e] at hf
            simpa [Vbbrac.sameSide] using hf
          refine s_ret (v := .bl (mayI l s c)) (ev_if (et_eqN (i := c) (j := 1) (ev_var rfl) ev_c) (fun hb2 => ?_) (fun hb2 => ?_)) fun H3 e3 => k H3 ((e1.trans e2).trans e3)
          · refine ev_is (ev_isbid (ev_var rfl)) ?_
            unfold mayI Vbbrac.mayDouble
            rw [if_pos (of_decide_eq_true hb2), e]
            simp [hs]
          · refine ev_is (ev_eqN (i := x.2) (j := 1) (ev_var rfl) ev_c) ?_
            unfold mayI Vbbrac.mayRedouble
            rw [if_neg (of_decide_eq_false hb2), e]
            simp only [hs, Bool.not_false, Bool.and_true]
            congr 1
theorem ok_a_legal (T : Txt K mg fa fd CA CW CP CS aN aR aA aW aO) : FnOk P w K mg base CX0 4 (fa 14) (fd 14) P_a_legal (spLegal CA) := by
  refine T.d_a_legal.F.ok sc_a_legal (fun vs H Q E h => ?_) (fun cdv A outer s H vs Q E hr h => ⟨_, (pss_cons (ps_if (pt_val (pe_meth0 (pv 0) T.cl_CA T.m_a_over (ok_a_over T) (hr.mono (by decide)) T.d_a_over.b .nil pass0)) (pss_one (ps_ret pe_bl)) pss_nil) (pss_cons (ps_if (pt_cmpR op_eq (pv 2) (pe_globI rfl T.g_PASS) (nomark _)) (pss_one (ps_ret pe_bl)) pss_nil) (pss_cons (ps_if (pt_val (pe_call (ok_is_bid T) (hr.mono (by decide)) rfl T.m_is_bid T.d_is_bid.F.kp T.d_is_bid.b .nil pass0 (pa_cons (pv 2) pa_nil))) (pss_one (ps_ret (pe_cmpR op_gt (pe_op op_sub (pv 2) (pe_globI rfl T.g_FIRST_BID)) (pe_meth0 (pv 0) T.cl_CA T.m_a_last_bid (ok_a_last_bid T) (hr.mono (by decide)) T.d_a_last_bid.b .nil pass0) (nomark _)))) pss_nil) (pss_one (ps_ret (pe_meth (pv 0) T.cl_CA T.m_a_may_stand (ok_a_may_stand T) (hr.mono (by decide)) T.d_a_may_stand.b .nil pass0 (pa_cons (pv 1) (pa_cons (pv 2) pa_nil)))))))), ?_⟩)
  · obtain ⟨a, m, d, l, s, c, rfl, _⟩ := h; rfl
  · obtain ⟨a, m, d, l, s, c, rfl, hA, hc, k⟩ := h
    refine q_when (et_B (ev_auc (f := fun _ l => .bl (Vbbrac.over l)) (ev_var rfl) hA)) (fun hb H1 e1 => ?_) (fun hb H1 e1 => ?_)
    · refine s_ret ev_c fun H2 e2 => ?_
      have q := k H2 (e1.trans e2)
      unfold Vbbrac.legal at q
      rw [hb] at q
      exact q
    · have hA1 := hA.mono e1
      refine q_when (et_eqN (i := c) (j := 0) (ev_var rfl) ev_c) (fun hc0 H2 e2 => ?_) (fun hc0 H2 e2 => ?_)
      · refine s_ret ev_c fun H3 e3 => ?_
        have q := k H3 ((e1.trans e2).trans e3)
        unfold Vbbrac.legal at q
        rw [hb, if_pos (of_decide_eq_true hc0)] at q
        exact q
      · have hA2 := hA1.mono e2
        have hc1 := of_decide_eq_false hc0
        refine q_when (et_B (ev_isbid (c := c) (ev_var rfl))) (fun hc3 H3 e3 => ?_) (fun hc3 H3 e3 => ?_)
        · refine s_ret (v := .bl (Vbbrac.legal l s c)) (ev_I (a := (c : Int) - 3) (b := lbI l) (ev_I (ev_var rfl) ev_c rfl) (ev_auc (f := fun _ l => .int (lbI l)) (ev_var rfl) (hA2.mono e3)) ?_) fun H4 e4 => k H4 (((e1.trans e2).trans e3).trans e4)
          have h3 : 3 ≤ c := of_decide_eq_true hc3
          congr 1
          unfold Vbbrac.legal Vbbrac.enough lbI
          rw [hb, if_neg hc1, if_neg (by omega), if_neg (by omega)]
          cases e : Vbbrac.lastBid l with
          | none =>
            simp only [Bool.not_false, Bool.true_and, Bool.and_true]
            rw [decide_eq_decide]; omega
          | some x =>
            simp only [Bool.not_false, Bool.true_and]
            rw [← Bool.decide_and, decide_eq_decide]; omega
        · have h3 : ¬ 3 ≤ c := of_decide_eq_false hc3
          refine s_ret (ev_may (s := s) (c := c) (ev_var rfl) (hA2.mono e3) (ev_var rfl) (ev_var rfl) (by omega)) fun H4 e4 => ?_
          have q := k H4 (((e1.trans e2).trans e3).trans e4)
          unfold Vbbrac.legal at q
          rw [hb, if_neg hc1] at q
          unfold mayI
          by_cases h1 : c = 1
          · rw [if_pos h1] at q ⊢
            exact q
          · rw [if_neg h1, if_pos (by omega)] at q
            rw [if_neg h1]
            exact q
theorem first_app {l pre post : Mad} {x : Nat × Nat} {side t : Nat} (h : l = pre ++ x :: post) (hp : ∀ y ∈ pre, (decide (3 ≤ y.2) && ((y.2 - 3) % 5 == t && y.1 % 2 == side)) = false) (hx : (decide (3 ≤ x.2) && ((x.2 - 3) % 5 == t && x.1 % 2 == side)) = true) : Vbbrac.firstNamed l side t = some x.1 := by
  unfold Vbbrac.firstNamed
  rw [h, find_app (p := fun x : Nat × Nat => decide (3 ≤ x.2) && ((x.2 - 3) % 5 == t && x.1 % 2 == side)) hp hx]
  rfl
theorem first_no {l : Mad} {side t : Nat} (hp : ∀ y ∈ l, (decide (3 ≤ y.2) && ((y.2 - 3) % 5 == t && y.1 % 2 == side)) = false) : Vbbrac.firstNamed l side t = none := by
  unfold Vbbrac.firstNamed
  rw [find_no (p := fun x : Nat × Nat => decide (3 ≤ x.2) && ((x.2 - 3) % 5 == t && x.1 % 2 == side)) hp]
  rfl
theorem ok_a_first_to_bid (T : Txt K mg fa fd CA CW CP CS aN aR aA aW aO) : FnOk P w K mg base CX0 2 (fa 15) (fd 15) P_a_first_to_bid (spFirst CA) := by
  refine T.d_a_first_to_bid.F.ok sc_a_first_to_bid (fun vs H Q E h => ?_) (fun cdv A outer s H vs Q E hr h => ⟨_, (pss_cons (ps_for PassesOwn.never rfl (pi_list (pe_fld (pv 0) rfl)) (pg_tup (by rfl) (pgs_cons (pg_name (i := 3) sc_a_first_to_bid.nd rfl (.inl rfl)) (pgs_cons (pg_name (i := 4) sc_a_first_to_bid.nd rfl (.inl rfl)) pgs_nil))) (pss_one (ps_if (PW.pt (pw_and (pt_val (pe_call (ok_is_bid T) (hr.mono (by decide)) rfl T.m_is_bid T.d_is_bid.F.kp T.d_is_bid.b .nil pass0 (pa_cons (pv 4) pa_nil))) (pw_and (pt_cmpR op_eq (pe_op op_mod (pv 3) pe_int) (pv 1) (nomark _)) (pw_and1 (pt_cmpR op_eq (pe_op op_mod (pe_op op_sub (pv 4) (pe_globI rfl T.g_FIRST_BID)) pe_int) (pv 2) (nomark _)))))) (pss_one (ps_ret (pv 3))) pss_nil))) (pss_one (ps_ret pe_non))), ?_⟩)
  · obtain ⟨a, m, d, l, s, t, rfl, _⟩ := h; rfl
  · obtain ⟨a, m, d, l, s, t, rfl, hA, k⟩ := h
    refine q_forMade hA (ev_made T (ev_var rfl) hA) (fun pre σ H' => Ex H H' ∧ (∀ y ∈ pre, (decide (3 ≤ y.2) && ((y.2 - 3) % 5 == t && y.1 % 2 == s)) = false) ∧ ∃ u v, σ = [some (.ref a), some (iV s), some (iV t), u, v]) (fun H1 e => ⟨e, by simp, _, _, rfl⟩) (fun _ _ _ p => p.1) ?_ ?_
    · rintro pre x post σ' H' hl ⟨e1, hp, u, v, rfl⟩
      refine s_when (b := decide (3 ≤ x.2) && ((decide (x.1 % 2 = s)) && decide ((x.2 - 3) % 5 = t))) (et_and (et_B (ev_isbid (c := x.2) (ev_var rfl))) (fun h3 => et_and (et_eqN (ev_modN (j := 2) (by decide) (ev_var rfl) ev_c) (ev_var rfl)) (fun _ => et_eqN (ev_modN (j := 5) (by decide) (ev_subN (j := 3) (of_decide_eq_true h3) (ev_var rfl) ev_c) ev_c) (ev_var rfl)))) (fun hb H1 e2 => ?_) (fun hb H1 e2 => ?_)
      · refine s_ret (v := iV x.1) (ev_var rfl) fun H2 e3 => ?_
        have q := k H2 ((e1.trans e2).trans e3)
        rw [first_app hl hp (by simp only [Bool.and_eq_true, decide_eq_true_eq, beq_iff_eq] at hb ⊢; omega)] at q
        exact q
      · refine ⟨e1.trans e2, all_snoc hp ?_, _, _, rfl⟩
        simp only [Bool.and_eq_false_iff, decide_eq_false_iff_not, beq_eq_false_iff_ne] at hb ⊢
        omega
    · rintro σ' H' ⟨e1, hp, u, v, rfl⟩
      refine s_ret ev_c fun H2 e3 => ?_
      have q := k H2 (e1.trans e3)
      rw [first_no hp] at q
      exact q
theorem con_none {l : Mad} (h : lbm l = none) : conL l = [] := by
  unfold conL Vbbrac.contract
  rw [lb_none h]
theorem named_last {l : Mad} {x : Nat × Nat} (h : lbm l = some x) : ∃ p, Vbbrac.firstNamed l (x.1 % 2) ((x.2 - 3) % 5) = some p := by
  cases e : Vbbrac.firstNamed l (x.1 % 2) ((x.2 - 3) % 5) with
  | some p => exact ⟨p, rfl⟩
  | none =>
    unfold Vbbrac.firstNamed at e
    rw [Option.map_eq_none_iff, List.find?_eq_none] at e
    have hm : x ∈ l := List.mem_reverse.mp (List.mem_of_find?_eq_some h)
    have := e x hm
    have h3 := lbm_ge h
    simp [h3] at this
theorem con_some {l : Mad} {x : Nat × Nat} {p : Nat} (h : lbm l = some x) (hp : Vbbrac.firstNamed l (x.1 % 2) ((x.2 - 3) % 5) = some p) : conL l = [x.2 - 3, Vbbrac.doubled l, p, (p + 1) % 4, (p + 2) % 4] := by
  unfold conL Vbbrac.contract
  rw [lb_some h]
  show (let x := (x.2 - 3, Vbbrac.doubled l, (Vbbrac.firstNamed l (x.1 % 2) ((x.2 - 3) % 5)).getD x.1); [x.1, x.2.1, x.2.2, Vbbrac.nextSeat x.2.2, Vbbrac.partner x.2.2]) = _
  rw [hp]
  rfl
theorem ok_a_contract (T : Txt K mg fa fd CA CW CP CS aN aR aA aW aO) : FnOk P w K mg base CX0 3 (fa 16) (fd 16) P_a_contract (spCon CA) := by
  refine T.d_a_contract.F.ok sc_a_contract (fun vs H Q E h => ?_) (fun cdv A outer s H vs Q E hr h => ⟨_, (pss_cons (ps_set (i := 1) sc_a_contract.nd rfl (.inl rfl) (pe_meth0 (pv 0) T.cl_CA T.m_a_last_bid_made (ok_a_last_bid_made T) (hr.mono (by decide)) T.d_a_last_bid_made.b .nil pass0)) (pss_cons (ps_if (pt_cmpR op_isN (pv 1) pe_non (nomark _)) (pss_one (ps_ret (pe_lst pa_nil))) pss_nil) (pss_cons (ps_set (i := 2) sc_a_contract.nd rfl (.inl rfl) (pe_op op_sub (pe_ix ix_tup (pv 1) pe_int (fun _ _ => rfl)) (pe_globI rfl T.g_FIRST_BID))) (pss_cons (ps_set (i := 3) sc_a_contract.nd rfl (.inl rfl) (pe_meth (pv 0) T.cl_CA T.m_a_first_to_bid (ok_a_first_to_bid T) (hr.mono (by decide)) T.d_a_first_to_bid.b .nil pass0 (pa_cons (pe_op op_mod (pe_ix ix_tup (pv 1) pe_int (fun _ _ => rfl)) pe_int) (pa_cons (pe_op op_mod (pv 2) pe_int) pa_nil)))) (pss_one (ps_ret (pe_lst (pa_cons (pv 2) (pa_cons (pe_meth0 (pv 0) T.cl_CA T.m_a_doubled (ok_a_doubled T) (hr.mono (by decide)) T.d_a_doubled.b .nil pass0) (pa_cons (pv 3) (pa_cons (pe_op op_mod (pe_op op_add (pv 3) pe_int) pe_int) (pa_cons (pe_call (ok_partner T) (hr.mono (by decide)) rfl T.m_partner T.d_partner.F.kp T.d_partner.b .nil pass0 (pa_cons (pv 3) pa_nil)) pa_nil)))))))))))), ?_⟩)
  · obtain ⟨a, m, d, l, rfl, _⟩ := h; rfl
  · obtain ⟨a, m, d, l, rfl, hA, k⟩ := h
    refine q_asgP (evp_auc (f := fun _ l => OptP (lbm l)) (ev_var rfl) hA) fun v H1 e1 hv => ?_
    have hA1 := hA.mono e1
    cases e : lbm l with
    | none =>
      refine q_when (b := true) (et_test (ev_is (ev_isN (ev_var rfl)) (congrArg V.bl ((optP_isN hv).trans (decide_eq_true e))))) (fun hb H2 e2 => ?_) (fun hb H2 e2 => by cases hb)
      refine s_retL (el_lst (vs := []) ea_nil (by decide)) fun p H3 hp e3 h3 => k p H3 (fresh_back (e1.trans e2) hp) ((e1.trans e2).trans e3) ?_
      rw [con_none e]
      exact h3
    | some x =>
      have hv' : OptP (lbm l) v H1 := hv
      rw [e] at hv'
      refine q_when (b := false) (et_test (ev_is (ev_isN (ev_var rfl)) (congrArg V.bl ((optP_isN hv).trans (decide_eq_false (by rw [e]; exact Option.some_ne_none x)))))) (fun hb H2 e2 => by cases hb) (fun hb H2 e2 => ?_)
      have h3 := lbm_ge e
      refine q_asg (ev_subN (i := x.2) (j := 3) h3 (ev_snd (Tup2.mono e2 hv') (ev_var rfl)) ev_c) fun H3 e3 => ?_
      obtain ⟨p, hp⟩ := named_last e
      have hA3 := (hA1.mono e2).mono e3
      refine q_asg (v := iV p) (ev_is (ev_first (s := x.1 % 2) (t := (x.2 - 3) % 5) (ev_var rfl) hA3 (ev_modN (j := 2) (by decide) (ev_fst (Tup2.mono (e2.trans e3) hv') (ev_var rfl)) ev_c) (ev_modN (j := 5) (by decide) (ev_var rfl) ev_c)) (by rw [hp]; rfl)) fun H4 e4 => ?_
      refine s_retL (el_lst (vs := [iV (x.2 - 3), iV (Vbbrac.doubled l), iV p, iV ((p + 1) % 4), iV ((p + 2) % 4)]) (ea_cons (ev_var rfl) (ea_cons (ev_auc (f := fun _ l => iV (Vbbrac.doubled l)) (ev_var rfl) (hA3.mono e4)) (ea_cons (ev_var rfl) (ea_cons (ev_modN (j := 4) (by decide) (ev_addN (j := 1) (ev_var rfl) ev_c) ev_c) (ea_cons (ev_partner (ev_var rfl)) ea_nil))))) (by show 5 ≤ 100000; decide)) fun p2 H5 hp2 e5 h5 => k p2 H5 (fresh_back (((e1.trans e2).trans e3).trans e4) hp2) ((((e1.trans e2).trans e3).trans e4).trans e5) ?_
      rw [con_some e hp]
      exact h5
end
end Bb
namespace Bb
open PySem PySem.Spec PyProof.Rows L2 Evl
open PySem.W (Codec)
/-- all but what S tells stands as it was -/
def Frm (S : Addr → Prop) (H H' : Hp) : Prop := ∀ b o, H b = some o → ¬ S b → H' b = some o
theorem Frm.refl (S : Addr → Prop) (H : Hp) : Frm S H H := fun _ _ h _ => h
theorem Frm.of {S : Addr → Prop} {H H' : Hp} (e : Ex H H') : Frm S H H' := fun b o h _ => e b o h
theorem Frm.trans {S : Addr → Prop} {H H1 H2 : Hp} (a : Frm S H H1) (b : Frm S H1 H2) : Frm S H H2 := fun x o h n => b x o (a x o h n) n
theorem Frm.ex {S : Addr → Prop} {H0 H H' : Hp} (a : Frm S H H') (e : Ex H0 H) (n : ∀ b, S b → H0 b = none) : Ex H0 H' := fun b o h => a b o (e b o h) fun s => by
  rw [n b s] at h; cases h
theorem Frm.upd {S : Addr → Prop} {H : Hp} {a : Addr} {o : HO} (h : S a) : Frm S H (upd H a o) := fun b u hb n => by
  rw [upd_ne (fun e => n (by rw [e]; exact h))]
  exact hb
theorem ne_kind {H : Hp} {a b : Addr} {o u : HO} (h1 : H a = some o) (h2 : H b = some u) (h : o ≠ u) : a ≠ b := fun e => by
  rw [e, h2] at h1
  exact h (Option.some.inj h1).symm
theorem Tup2.frm {S : Addr → Prop} {H H' : Hp} (f : Frm S H H') (hs : ∀ b, S b → ∀ xs, H b ≠ some (.tup xs)) {v : V} {x : Nat × Nat} (h : Tup2 H v x) : Tup2 H' v x := by
  obtain ⟨t, h1, h2⟩ := h
  exact ⟨t, h1, f _ _ h2 fun s => hs t s _ h2⟩
theorem Tups.frm {S : Addr → Prop} {H H' : Hp} (f : Frm S H H') (hs : ∀ b, S b → ∀ xs, H b ≠ some (.tup xs)) : ∀ {vs : List V} {l : Mad}, Tups H vs l → Tups H' vs l
  | _, _, .nil => .nil
  | _, _, .cons h t => .cons (h.frm f hs) (Tups.frm f hs t)
def spAInit (C : Addr) : Sp := fun vs H Q _ => ∃ (p dx : Addr) (d : Nat), vs = [.ref p, iV d] ∧ H p = some (.ins C dx []) ∧
  ∀ H' m, H m = none → AucM C H' p m d [] → Frm (· = p) H H' → Q .non H'
/-- a new auction -/
def NewA (C : Addr) (H0 : Hp) (d : Nat) (l : Mad) (v : V) (H' : Hp) : Prop := ∃ x m, v = .ref x ∧ H0 x = none ∧ H0 m = none ∧ AucM C H' x m d l
def spACopied (C : Addr) : Sp := fun vs H Q _ => ∃ a m d l, vs = [.ref a] ∧ AucM C H a m d l ∧ RetP (NewA C H d l) H Q
def spMake (C : Addr) : Sp := fun vs H Q _ => ∃ a m d l s c, vs = [.ref a, iV s, iV c] ∧ AucM C H a m d l ∧ l.length < 100000 ∧
  ∀ H', AucM C H' a m d (l ++ [(s, c)]) → Frm (· = m) H H' → Q .non H'
section
variable {P : Program} {w : World} {K : PySem.W.Frag} {mg : Str → Option Value} {base : Heap} {fa : Nat → Addr} {fd : Nat → FuncData} {CA CW CP CS aN aR aA aW aO : Addr}
section
variable {σ : L2.St} {H : Hp} {ta tb tc : TE} {tr : TA} {E : XK} {a m : Addr} {d : Nat} {l : Mad} {s c : Nat} {D : Ends} {tz : TS}
theorem NewA.mono {C : Addr} {H0 H1 H2 : Hp} {v : V} (e : Ex H1 H2) (h : NewA C H0 d l v H1) : NewA C H0 d l v H2 := by
  obtain ⟨x, m, h1, h2, h3, h4⟩ := h
  exact ⟨x, m, h1, h2, h3, h4.mono e⟩
theorem NewA.back {C : Addr} {H H0 H1 : Hp} {v : V} (e : Ex H H0) (h : NewA C H0 d l v H1) : NewA C H d l v H1 := by
  obtain ⟨x, m, h1, h2, h3, h4⟩ := h
  exact ⟨x, m, h1, fresh_back e h2, fresh_back e h3, h4⟩
theorem evp_newA (h : Ev ta σ H (iV d)) : EvP (tMake CA (spAInit CA) [] E (tCons ta tNil)) σ H (NewA CA H d []) := fun H1 e Q q =>
  h H1 e _ fun H2 e2 x dx hx hdx hne => by
    refine ⟨x, dx, d, rfl, upd_same, fun H' m hm hA f => ⟨rfl, ?_⟩⟩
    have hmx : m ≠ x := fun z => by rw [z, upd_same] at hm; cases hm
    have hm2 : H2 m = none := by
      rw [upd_ne hmx] at hm
      by_cases z : m = dx
      · rw [z, upd_same] at hm; cases hm
      · rw [upd_ne z] at hm; exact hm
    have e3 : Ex H2 (upd (upd H2 dx (.own x)) x (.ins CA dx [])) := (Ex.new hdx).trans (Ex.new (by rw [upd_ne (Ne.symm hne)]; exact hx))
    have e4 : Ex H2 H' := f.ex e3 fun b hb => by rw [hb]; exact hx
    exact q _ H' (e2.trans e4) ⟨x, m, rfl, fresh_back (e.trans e2) hx, fresh_back (e.trans e2) hm2, hA⟩
theorem evp_copyA (ho : Ev ta σ H (.ref a)) (h : AucM CA H a m d l) : EvP (tMeth CA "copied" (spACopied CA) [] E ta tNil) σ H (NewA CA H d l) :=
  evp_meth ho h.has ea_nil fun H1 e Q q E => ⟨a, m, d, l, rfl, h.mono e, fun v H2 e2 p => q v H2 e2 (p.back e)⟩
theorem q_make (ho : Ev ta σ H (.ref a)) (h : AucM CA H a m d l) (hl : l.length < 100000) (hs : Ev tb σ H (iV s)) (hc : Ev tc σ H (iV c)) (k : ∀ H1, Frm (· = m) H H1 → AucM CA H1 a m d (l ++ [(s, c)]) → tz D σ H1) :
    tSeq (tDrop (tMeth CA "make" (spMake CA) [] E ta (tCons tb (tCons tc tNil)))) tz D σ H :=
  ho H (Ex.refl H) _ fun H1 e1 => by
    obtain ⟨dx, fs, h1, h2⟩ := h.has (f := "make")
    exact ⟨a, dx, fs, rfl, e1 _ _ h1, h2, (ea_cons hs (ea_cons hc ea_nil)) H1 e1 _ fun H2 e2 => ⟨a, m, d, l, s, c, rfl, h.mono (e1.trans e2), hl, fun H' hA f => k H' (fun b o hb n => f b o ((e1.trans e2) b o hb) n) hA⟩⟩
theorem s_make (ho : Ev ta σ H (.ref a)) (h : AucM CA H a m d l) (hl : l.length < 100000) (hs : Ev tb σ H (iV s)) (hc : Ev tc σ H (iV c)) (k : ∀ H1, Frm (· = m) H H1 → AucM CA H1 a m d (l ++ [(s, c)]) → D.nx σ H1) :
    tDrop (tMeth CA "make" (spMake CA) [] E ta (tCons tb (tCons tc tNil))) D σ H := q_make (D := D) (tz := fun D σ H => D.nx σ H) ho h hl hs hc k
end
theorem ok_a_init (T : Txt K mg fa fd CA CW CP CS aN aR aA aW aO) : FnOk P w K mg base CX0 1 (fa 2) (fd 2) P_a_init (spAInit CA) := by
  refine T.d_a_init.F.ok sc_a_init (fun vs H Q E h => ?_) (fun cdv A outer s H vs Q E hr h => ⟨_, (pss_cons (ps_fld (pv 0) (pv 1) rfl) (pss_one (ps_fld (pv 0) (pe_lst pa_nil) rfl))), ?_⟩)
  · obtain ⟨p, dx, d, rfl, _⟩ := h; rfl
  · obtain ⟨p, dx, d, rfl, hp, k⟩ := h
    refine ⟨_, rfl, _, rfl, p, CA, dx, [], rfl, hp, T.cl_CA, T.n_CA_dealer, (by show 0 < 1000; decide), ?_⟩
    refine ⟨(by show 0 ≤ sizeLine; exact Nat.zero_le _), fun m hm => ⟨_, rfl, p, CA, dx, putF "dealer" (iV d) [], rfl, ?_, T.cl_CA, T.n_CA_made, (by show 1 < 1000; decide), ?_⟩⟩
    · have hmp : p ≠ m := fun z => by rw [← z, upd_same] at hm; cases hm
      rw [upd_ne hmp]; exact upd_same
    · have hmp : p ≠ m := fun z => by rw [← z, upd_same] at hm; cases hm
      refine k _ m ?_ ⟨⟨dx, ?_⟩, [], ?_, .nil⟩ ?_
      · rw [upd_ne (Ne.symm hmp)] at hm; exact hm
      · exact Eq.trans upd_same (congrArg (fun q => some (HO.ins CA dx q)) ((put_past (by decide +kernel)).trans rfl))
      · rw [upd_ne (Ne.symm hmp)]; exact upd_same
      · intro b o hb n
        have hbm : b ≠ m := fun z => by
          rw [upd_ne (Ne.symm hmp), ← z, hb] at hm; cases hm
        rw [upd_ne n, upd_ne hbm, upd_ne n]; exact hb
theorem ok_a_make (T : Txt K mg fa fd CA CW CP CS aN aR aA aW aO) : FnOk P w K mg base CX0 1 (fa 4) (fd 4) P_a_make (spMake CA) := by
  refine T.d_a_make.F.ok sc_a_make (fun vs H Q E h => ?_) (fun cdv A outer s H vs Q E hr h => ⟨_, (pss_one (ps_expr (pe_bm PySem.F.plainAttrs_list PySem.F.slot_list_append PySem.F.type_list_append mt_append (pe_fld (pv 0) rfl) (pa_cons (pe_tup (pa_cons (pv 1) (pa_cons (pv 2) pa_nil))) pa_nil)))), ?_⟩)
  · obtain ⟨a, m, d, l, s, c, rfl, _⟩ := h; rfl
  · obtain ⟨a, m, d, l, s, c, rfl, hA, hl, k⟩ := h
    have hA0 := hA
    obtain ⟨⟨dx, ho⟩, vs, hv, ht⟩ := hA0
    refine s_appU (ys := [iV s, iV c]) hv (ev_made T (ev_var rfl) hA) (eu_tup (ea_cons (ev_var rfl) (ea_cons (ev_var rfl) ea_nil)) (by show 2 ≤ 100000; decide)) (by rw [ht.len]; exact hl) fun p H1 hp e1 h1 => ?_
    have f : Frm (· = m) H1 (upd H1 m (.lst (vs ++ [.ref p]))) := Frm.upd rfl
    refine k _ ⟨⟨dx, f _ _ (e1 _ _ ho) (ne_kind ho hv (by intro z; cases z))⟩, vs ++ [.ref p], upd_same, ?_⟩ ((Frm.of e1).trans f)
    have hk : ∀ b, b = m → ∀ xs, H1 b ≠ some (.tup xs) := fun b hb xs z => by
      rw [hb, e1 _ _ hv] at z; cases z
    exact Tups.app (.cons (Tup2.frm f hk ⟨p, rfl, h1⟩) .nil) (Tups.frm f hk (ht.mono e1))
theorem ok_a_copied (T : Txt K mg fa fd CA CW CP CS aN aR aA aW aO) : FnOk P w K mg base CX0 3 (fa 3) (fd 3) P_a_copied (spACopied CA) := by
  refine T.d_a_copied.F.ok sc_a_copied (fun vs H Q E h => ?_) (fun cdv A outer s H vs Q E hr h => ⟨_, (pss_cons (ps_set (i := 1) sc_a_copied.nd rfl (.inl rfl) (pe_make T.k_Auction (ok_a_init T) (hr.mono (by decide)) rfl T.c_Auction T.d_a_init.b .nil pass0 (pa_cons (pe_fld (pv 0) rfl) pa_nil))) (pss_cons (ps_fld (pv 1) (pe_callTy call_list_of (by rfl) T.b_list (by decide +kernel) (pa_cons (pe_fld (pv 0) rfl) pa_nil)) rfl) (pss_one (ps_ret (pv 1))))), ?_⟩)
  · obtain ⟨a, m, d, l, rfl, _⟩ := h; rfl
  · obtain ⟨a, m, d, l, rfl, hA, k⟩ := h
    refine q_asgP (evp_newA (ev_dealer T (ev_var rfl) hA)) fun v H1 e1 hn => ?_
    obtain ⟨x, m0, rfl, hx, hm0, ⟨⟨dx, ho⟩, _⟩⟩ := hn
    have hA1 := hA.mono e1
    have hA0 := hA1
    obtain ⟨_, vs, hv, ht⟩ := hA0
    refine q_setF (P := fun v H' => ∃ m2, v = .ref m2 ∧ H1 m2 = none ∧ H' m2 = some (.lst vs)) (evp_L (el_list (ev_made T (ev_var rfl) hA1) (sq_of hv)) fun p H2 _ hp h2 => ⟨p, rfl, hp, h2⟩) (fun v H2 H3 e h => by obtain ⟨m2, h1, h2, h3⟩ := h; exact ⟨m2, h1, h2, e _ _ h3⟩) (ev_var rfl) ho T.cl_CA T.n_CA_made (by show 2 < 1000; decide) fun v H2 e2 hv2 => ?_
    obtain ⟨m2, rfl, hm2, h2⟩ := hv2
    have e3 : Ex H (upd H2 x (.ins CA dx (putF "made" (.ref m2) (auF d m0)))) := (e1.trans e2).mut hx
    refine s_ret (v := .ref x) (ev_var rfl) fun H3 e4 => k _ H3 (e3.trans e4) ⟨x, m2, rfl, hx, fresh_back e1 hm2, AucM.mono e4 ⟨⟨dx, ?_⟩, vs, ?_, ?_⟩⟩
    · exact Eq.trans upd_same (congrArg (fun q => some (HO.ins CA dx q)) ((put_past (by decide +kernel)).trans (congrArg _ put_here)))
    · rw [upd_ne (ne_kind h2 (e2 _ _ ho) (by intro z; cases z))]; exact h2
    · have f : Frm (· = x) H2 (upd H2 x (.ins CA dx (putF "made" (.ref m2) (auF d m0)))) := Frm.upd rfl
      exact Tups.frm f (fun b hb xs z => by rw [hb, e2 _ _ ho] at z; cases z) (ht.mono e2)
end
end Bb
namespace Bb
open PySem PySem.Spec PyProof.Rows L2 Evl
/-- list(reversed(x)), x a list: a new list -/
def tLstRev (K : PySem.W.Frag) (te : TE) : TE := fun σ H Q => te σ H fun v H1 => ∃ (a : Addr) (xs : List V), v = .ref a ∧ SqL K H1 a xs ∧ ∀ q, H1 q = none → Q (.ref q) (upd H1 q (.lst xs.reverse))
theorem el_lstRev {K : PySem.W.Frag} {te : TE} {σ : L2.St} {H : Hp} {a : Addr} {xs : List V} (h : Ev te σ H (.ref a)) (hx : SqL K H a xs) : EvL (tLstRev K te) σ H xs.reverse := fun H1 e Q q =>
  h H1 e _ fun H2 e2 => ⟨a, xs, rfl, ex_l (e.trans e2) hx, fun p hp => q p _ (fresh_back e2 hp) (e2.trans (Ex.new hp)) upd_same⟩
section
variable {prog : Program} {w : World} {A : Around} {E : Value → Shared → Prop} {s : Shared}
open RT in
theorem xr_init {it l S : Addr} {items : Array Value} {R : Result → Shared → Prop} (hh : A.handled = none) (hit : s.heap.IsRevIter it l ((items.size : Int) - 1)) (hl : s.heap.IsList l items) (hne : l ≠ it) (hn : items.size ≤ sizeLine) (hS : s.heap.get? S = some { cls := .type "list", data := .seq #[] }) (hSi : S ≠ it) (hSl : S ≠ l)
    (hR : ∀ (h' : Heap) (tk : Nat) (acc : Array Value) (c : Nat), (∀ b o, b ≠ S → b ≠ it → s.heap.get? b = some o → h'.get? b = some o) → h'.get? S = some { cls := .type "list", dict := none, data := .seq acc c, slots := #[] } → ItemsOf (fun i v => items[items.size - 1 - i]? = some v) acc items.size → R (.ok (.ret .none)) { s with heap := h', toks := tk }) :
    wpAny (model prog w) A.in1 (Builtin.«list.__init__» ⟨[.ref S, .ref it], []⟩) (fun fin s' => match fin with | .done f => R (.ok f) s' | .again c' => c'.quiet = true ∧ codeAny (model prog w) A c' R s') (fun e s' => R (.error e) s') s := by
  have Wk := (Walks.listRev (prog := prog) (w := w) (A := A.in1) hh it l hne items).toS
  have hSf : S ∉ [it, l] := fun z => (List.mem_cons.mp z).elim hSi fun z => hSl (List.mem_singleton.mp z)
  show wpAny _ _ (do let old ← Builtin.List.listItems (.ref S); Builtin.List.listUpdate (.ref S) (fun _ => #[]); letGo old.toList.reverse; Builtin.List.listExtendWith (.ref S) (.ref it) .none) _ _ s
  refine wpAny_bind ?_; unfold Builtin.List.listItems; refine wpAny_bind (wpAny_seqItems hS rfl (wpAny_pure ?_))
  show wpAny _ _ (updateSeq S (fun _ => #[]) >>= fun _ => letGo (#[] : Array Value).toList.reverse >>= fun _ => Builtin.List.listExtendWith (.ref S) (.ref it) .none) _ _ s
  refine wpAny_bind (wpAny_updateSeq hS rfl (wpAny_bind (wpAny_letGo ?_)))
  have hS2 := Heap.get?_update_self (Obj.mapSeq (fun _ => (#[] : Array Value))) hS rfl
  have oth : ∀ b o, b ≠ S → s.heap.get? b = some o → (s.heap.update S (Obj.mapSeq (fun _ => (#[] : Array Value)))).get? b = some o := fun b o hb e => (Heap.get?_update_other _ _ (Ne.symm hb)).trans e
  generalize s.heap.update S (Obj.mapSeq (fun _ => (#[] : Array Value))) = h2 at hS2 oth ⊢
  have hit1 : h2.IsRevIter it l ((items.size : Int) - 1) := hit.at fun o e => oth _ o (Ne.symm hSi) e
  have hl1 : h2.IsList l items := by
    obtain ⟨o, ho, r⟩ := hl
    exact ⟨o, oth _ _ (Ne.symm hSl) ho, r⟩
  have hT : ({ s with heap := h2 } : Shared).TypeIs (.ref it) "list_reverseiterator" := Heap.IsRevIter.typeIs (s := { s with heap := h2 }) hit1
  have hs1 : Builtin.List.listSameRef (.ref S) (.ref it) = false := by simp [Builtin.List.listSameRef, hSi]
  unfold Builtin.List.listExtendWith
  refine wpAny_bind (wpAny_typeOf hT ?_)
  rw [if_neg (by rw [hs1]; decide)]
  refine wpAny_bind (wpAny_pyIter_revIter (s := { s with heap := h2 }) hit1 (wpAny_bind (wpAny_holding ?_)))
  unfold Builtin.List.listLengthHint
  refine wpAny_bind (wpAny_specialOf hT nolen_lri ?_)
  show wpAny _ A.in1 (specialOf (Value.ref it) (Str.ofString "__length_hint__") >>= fun _ => _) _ _ _
  refine wpAny_bind (wpAny_specialOf hT hint_lri ?_)
  generalize hid : ("list_reverseiterator.__length_hint__" : String) = id0; wp_delta
  rw [show splitId id0 = some ("list_reverseiterator", "__length_hint__") from by subst hid; decide +kernel]; subst hid
  refine wpAny_bind (wpAny_isInstance (b := true) hT (by rw [isSubtype_type]; kernel_rfl) (wpAny_pure ?_))
  rw [if_neg (by decide)]
  have e0 : ((items.size : Nat) : Int) - 1 - ((0 : Nat) : Int) = (items.size : Int) - 1 := Int.sub_zero _
  refine wpAny_pure ⟨plainId_quiet F.plain_extend_loop _, codeAny_extend_loopS Wk hn S hSf .none items.size 0 _ _ _ rfl (Nat.zero_le _) ⟨Nat.zero_le _, by rw [e0]; exact hit1, hl1⟩ hS2 (ItemsOf.nil _) fun s' acc' c' hm hS' hacc => ?_⟩
  rw [Moved.eq_with hm]
  refine hR s'.heap s'.toks acc' c' (fun b o hb hbi e => hm.heap b o (fun z => ?_) (oth b o hb e)) hS' hacc
  exact (List.mem_cons.mp z).elim hb fun z => hbi (List.mem_singleton.mp z)
theorem xr_list {it l : Addr} {items : Array Value} {Q : Value → Shared → Prop} (hh : A.handled = none) (hit : s.heap.IsRevIter it l ((items.size : Int) - 1)) (hl : s.heap.IsList l items) (hne : l ≠ it) (hn : items.size ≤ sizeLine)
    (hQ : ∀ (h' : Heap) (tk : Nat) (acc : Array Value) (c : Nat), (∀ b o, b ≠ it → s.heap.get? b = some o → h'.get? b = some o) → h'.get? s.heap.objs.size = some { cls := .type "list", dict := none, data := .seq acc c, slots := #[] } → ItemsOf (fun i v => items[items.size - 1 - i]? = some v) acc items.size → Q (.ref s.heap.objs.size) { s with heap := h', toks := tk }) :
    wpAny (model prog w) A (call (.type "list") [.ref it]) Q E s := by
  obtain ⟨oi, hoi, hir⟩ := hit
  obtain ⟨ol, hol, hlr⟩ := hl
  refine callType_codes (Q₁ := fun obj s₁ => obj = .ref s.heap.objs.size ∧ s₁ = { s with heap := s.heap.push { cls := .type "list", data := .seq #[] } }) F.called_list (F.typeCall_list_1 _) F.entry_list_init (code_list_new _ ⟨rfl, rfl⟩) fun obj s₁ ⟨g1, g2⟩ => ?_
  subst g1 g2
  have hS : (s.heap.push { cls := .type "list", data := .seq #[] }).get? s.heap.objs.size = some { cls := .type "list", data := .seq #[] } := Heap.get?_push_size _ rfl
  have lt : ∀ {b o}, s.heap.get? b = some o → b ≠ s.heap.objs.size := fun e => Nat.ne_of_lt (Heap.lt_size e)
  refine ⟨⟨_, hS, rfl⟩, F.args_list_init_2 _ _, xr_init (A := A.in1) hh ⟨oi, Heap.get?_push_of_some _ hoi, hir⟩ ⟨ol, Heap.get?_push_of_some _ hol, hlr⟩ hne hn hS (Ne.symm (lt hoi)) (Ne.symm (lt hol)) fun h' tk acc' c' hk hS' hacc => ⟨rfl, hQ h' tk acc' c' (fun b o hb e => hk b o (lt e) hb (Heap.get?_push_of_some _ e)) hS' hacc⟩⟩
end
section
variable {X : Cx}
theorem pe_listRev {e : Expr} {te : TE} {p p2 pos pos2 : Pos} (hc : X.calm = true) (hg : Gl X "list") (hm : X.mg "list" = none) (hg2 : Gl X "reversed") (hm2 : X.mg "reversed" = none) (he : PE X e te)
    (hs : starEach [e] X.env = (false, eval e X.env) :: starEach [] X.env := by rfl)
    (hs2 : starEach [.Call (.Name "reversed" p2) [e] [] pos2] X.env = (false, eval (.Call (.Name "reversed" p2) [e] [] pos2) X.env) :: starEach [] X.env := by rfl) :
    PE X (.Call (.Name "list" p) [.Call (.Name "reversed" p2) [e] [] pos2] [] pos) (tLstRev X.K te) := by
  refine ⟨fun pins s σ H Q I h => PyProof.Rows.Call_ (ld_blt I hg hm boot_list (PyProof.Rows.callWith_type1 (args_cons (PyProof.Rows.Call_ (ld_blt I hg2 hm2 PyProof.Rows.boot_reversed (PyProof.Rows.callWith_type1 (args_cons (thn (he.run pins s σ H _ I h) fun u s1 ⟨v, H1, I1, r1, q1⟩ => args_nil ?_) hs) hs rfl))) hs2) hs2 rfl))⟩
  obtain ⟨a, xs, ev, hq, q⟩ := q1
  subst ev
  obtain rfl : u = Value.ref a := r1
  obtain ⟨its, rv, p', hz⟩ := I1.list hq
  refine call_reversed_list p'.isList (args_nil ?_)
  have k0 : ∀ b o, s1.heap.get? b = some o → (s1.heap.push (revObj a ((its.toArray.size : Int) - 1))).get? b = some o := fun b o z => Heap.get?_push_of_some _ z
  have I2 : Inv X pins σ H1 { s1 with heap := s1.heap.push (revObj a ((its.toArray.size : Int) - 1)) } := I1.kept (t' := s1.toks) k0
  obtain ⟨f0, f1, f2, f3, f4, f5⟩ := I1.fpOk (H' := H1) (b := s1.heap.objs.size) (Nat.le_refl _) (I1.hok.fresh (Nat.le_refl _))
  have hl := p'.isList
  have hne : a ≠ s1.heap.objs.size := by
    obtain ⟨ol, hol, _⟩ := hl
    exact Nat.ne_of_lt (Heap.lt_size hol)
  have hn : its.toArray.size ≤ sizeLine := by rw [List.size_toArray, ← rv.length]; exact hz
  refine xr_list (s := { s1 with heap := s1.heap.push (revObj a ((its.toArray.size : Int) - 1)) }) (I1.ok.hd hc) ⟨_, Heap.get?_push_size _ rfl, rfl, rfl⟩ (hl.push _) hne hn fun h' tk acc c hk hS hi => ?_
  have hk1 : ∀ b o, s1.heap.get? b = some o → h'.get? b = some o := fun b o z => hk b o (Nat.ne_of_lt (Heap.lt_size z)) (k0 b o z)
  have hle : s1.heap.objs.size ≤ (s1.heap.push (revObj a ((its.toArray.size : Int) - 1))).objs.size := by rw [Heap.size_push]; exact Nat.le_succ _
  refine ⟨.ref (s1.heap.push (revObj a ((its.toArray.size : Int) - 1))).objs.size, upd H1 _ (.lst xs.reverse), I1.laid (t' := tk) hk1 hle (show ObjOk X.prog X.w _ _ _ (.lst xs.reverse) from ⟨by rw [List.length_reverse]; exact hz, acc.toList, c, RT.vals_rev rv hi, ?_⟩), rfl, q _ (I1.hok.fresh hle)⟩
  rw [Array.toArray_toList]; exact hS
end
section
variable {X : Cx}
/-- f(e, ..), f any expression that gives one of several defs -/
def tCallX (S : Addr → Sp → Prop) (tf : TE) (t : TA) : TE := fun σ H Q => tf σ H fun x H1 => ∃ f sp, x = .ref f ∧ S f sp ∧ t σ H1 fun vs H2 => sp vs H2 Q (fun _ _ _ => False)
theorem pe_callX {k : Nat} {S : Addr → Sp → Prop} {fe e : Expr} {es : List Expr} {pos : Pos} {tf : TE} {t : TA} (A : ∀ f sp, S f sp → Held X.prog X.w X.K X.mg X.base k f sp) (hr : Room k X.A) (hf : PE X fe tf) (ha : PA X (e :: es) t)
    (he0 : eval (.Call fe (e :: es) [] pos) X.env = (do callWith pos (← eval fe X.env) [] (backTo pos (starEach (e :: es) X.env)) (backToKw pos (keywordEach [] X.env))) := by rfl)
    (he : starEach (e :: es) X.env = (false, eval e X.env) :: starEach es X.env := by rfl) (hpl : (backTo pos (starEach es X.env)).any (·.1) = false := by rfl) : PE X (.Call fe (e :: es) [] pos) (tCallX S tf t) := by
  refine ⟨fun pins s σ H Q I h => ?_⟩
  refine PyProof.Rows.Call_ (thn (hf.run pins s σ H _ I h) fun u s1 ⟨v, H1, I1, r1, f, sp, ev, hS, q1⟩ => ?_) he0
  subst ev
  obtain rfl : u = Value.ref f := r1
  obtain ⟨fd, ps, F, hk, hb⟩ := (A f sp hS).ex
  refine PySem.W.callWith_K (h₀ := X.base) I1.ok.mod.kin hk (thn (ha.run pos pins s1 σ H1 _ I1 q1) fun us s2 ⟨vs, H2, I2, r, q⟩ => ⟨I2.kIn, ?_⟩) he hpl
  exact run_fn (dvs := []) (E := fun _ _ _ => False) F hr hb .nil (fun _ _ _ _ _ _ _ z => z.elim) I2 r (by rw [List.append_nil]; exact q)
end
end Bb
namespace Bb
open PySem PySem.Spec PyProof.Rows L2 Evl
open PySem.W (Codec)
open Vbbrac (behind tail far)
/-! ### counting: the mathematics -/
def opp (d : Nat) (f : Bool) : Bool := if d = 1 then !f else f
def wbS (h d p : Nat) (f : Bool) : Nat := (tail 12 d p (opp d f)).1 + (tail 12 d p (opp d f)).2 * h
def lgS (h d p : Nat) (f : Bool) : Nat := if h = 0 then far 12 d p (opp d f) else far 12 d p (opp d f) - 1 + h
theorem small3 {P : Nat → Prop} {n : Nat} (h : n ≤ 2) (h0 : P 0) (h1 : P 1) (h2 : P 2) : P n := by
  rcases n with _ | _ | _ | n
  · exact h0
  · exact h1
  · exact h2
  · omega
theorem wbS_rec (h d p : Nat) (f : Bool) (hd : d ≤ 2) (hp : p ≤ 2) : wbS h d p f = (h + (if p = 2 then 1 else wbS h d (p + 1) (!f))) + (if f = true ∧ d < 2 then wbS h (d + 1) 0 true else 0) := by
  refine small3 (P := fun d => wbS h d p f = (h + (if p = 2 then 1 else wbS h d (p + 1) (!f))) + (if f = true ∧ d < 2 then wbS h (d + 1) 0 true else 0)) hd ?_ ?_ ?_ <;>
  (refine small3 (P := fun p => wbS h _ p f = (h + (if p = 2 then 1 else wbS h _ (p + 1) (!f))) + (if f = true ∧ _ < 2 then wbS h _ 0 true else 0)) hp ?_ ?_ ?_) <;>
  cases f <;> simp [wbS, opp, tail] <;> omega
theorem lgS_rec (h d p : Nat) (f : Bool) (hd : d ≤ 2) (hp : p ≤ 2) : lgS h d p f = (let a := max h (1 + (if p = 2 then 0 else lgS h d (p + 1) (!f))); if f = true ∧ d < 2 then max a (1 + lgS h (d + 1) 0 true) else a) := by
  refine small3 (P := fun d => lgS h d p f = (let a := max h (1 + (if p = 2 then 0 else lgS h d (p + 1) (!f))); if f = true ∧ d < 2 then max a (1 + lgS h (d + 1) 0 true) else a)) hd ?_ ?_ ?_ <;>
  (refine small3 (P := fun p => lgS h _ p f = (let a := max h (1 + (if p = 2 then 0 else lgS h _ (p + 1) (!f))); if f = true ∧ _ < 2 then max a (1 + lgS h _ 0 true) else a)) hp ?_ ?_ ?_) <;>
  cases f <;> simp [lgS, opp, far] <;> (try split) <;> omega
theorem wbS_first (h : Nat) : wbS h 0 0 true = 7 + 21 * h := by simp [wbS, opp, tail]
theorem lgS_first (h : Nat) : lgS h 0 0 true = if h = 0 then 9 else 8 + h := by simp [lgS, opp, far]
/-- the calls are calls -/
def Calls (l : Mad) : Prop := ∀ x ∈ l, x.2 ≤ 37
/-- a double is the other side's -/
def Good (l : Mad) : Prop := ∀ x y, lbm l = some x → Vbbrac.lastWord l = some y → y.2 = 1 → y.1 % 2 ≠ x.1 % 2
def aboveL : List Nat := ((List.range 36).map behind).reverse
theorem aboveL_get {i : Nat} (h : i ≤ 35) : aboveL[i]? = some (behind (35 - i)) := by
  unfold aboveL
  rw [List.getElem?_reverse (by simp; omega)]
  simp only [List.length_map, List.length_range, List.getElem?_map]
  rw [List.getElem?_range (by omega)]
  rw [show 36 - 1 - i = 35 - i by omega]
  rfl
theorem dbl_le (l : Mad) : Vbbrac.doubled l ≤ 2 := by
  unfold Vbbrac.doubled
  cases Vbbrac.lastWord l with
  | none => exact Nat.zero_le _
  | some x => show (if x.2 = 1 then 1 else if x.2 = 2 then 2 else 0) ≤ 2; split <;> (try split) <;> omega
theorem lw_of_lbm {l : Mad} {x : Nat × Nat} (h : lbm l = some x) : ∃ y, Vbbrac.lastWord l = some y ∧ (3 ≤ y.2 → y = x) := by
  have key : ∀ r : Mad, r.find? (fun y => decide (3 ≤ y.2)) = some x → ∃ y, r.find? (fun y => decide (1 ≤ y.2)) = some y ∧ (3 ≤ y.2 → y = x) := by
    intro r
    induction r with
    | nil => intro h; simp at h
    | cons z r ih =>
      intro h
      rw [List.find?_cons] at h
      rw [List.find?_cons]
      by_cases h3 : 3 ≤ z.2
      · rw [decide_eq_true h3] at h
        rw [decide_eq_true (show 1 ≤ z.2 by omega)]
        exact ⟨z, rfl, fun _ => Option.some.inj h⟩
      · rw [decide_eq_false h3] at h
        by_cases h1 : 1 ≤ z.2
        · rw [decide_eq_true h1]
          exact ⟨z, rfl, fun h => absurd h h3⟩
        · rw [decide_eq_false h1]
          exact ih h
  exact key l.reverse h
theorem facing_is {l : Mad} (G : Good l) {x : Nat × Nat} (h : lbm l = some x) (s p : Nat) (hp : p ≤ 2) (hh : Nat) :
    wbS hh (Vbbrac.doubled l) p (faces l s) = (tail 12 (Vbbrac.doubled l) p (!Vbbrac.sameSide x.1 s)).1 + (tail 12 (Vbbrac.doubled l) p (!Vbbrac.sameSide x.1 s)).2 * hh ∧
    lgS hh (Vbbrac.doubled l) p (faces l s) = if hh = 0 then far 12 (Vbbrac.doubled l) p (!Vbbrac.sameSide x.1 s) else far 12 (Vbbrac.doubled l) p (!Vbbrac.sameSide x.1 s) - 1 + hh := by
  obtain ⟨y, hy, h3⟩ := lw_of_lbm h
  have hf : faces l s = !decide (y.1 % 2 = s % 2) := by unfold faces; rw [hy]
  have hd := dbl_some hy
  have hs : Vbbrac.sameSide x.1 s = decide (x.1 % 2 = s % 2) := by unfold Vbbrac.sameSide; rw [Bool.beq_eq_decide_eq]
  have hy0 : 1 ≤ y.2 := of_decide_eq_true (List.find?_some (p := fun y : Nat × Nat => decide (1 ≤ y.2)) hy)
  by_cases h1 : y.2 = 1
  · have g := G x y h hy h1
    have e : opp 1 (faces l s) = !Vbbrac.sameSide x.1 s := by
      rw [hf, hs]
      show (!!decide (y.1 % 2 = s % 2)) = !decide (x.1 % 2 = s % 2)
      rw [Bool.not_not]
      by_cases hx : x.1 % 2 = s % 2
      · rw [decide_eq_true hx, decide_eq_false (by omega)]; rfl
      · rw [decide_eq_false hx, decide_eq_true (by omega)]; rfl
    rw [hd, if_pos h1]
    unfold wbS lgS
    rw [e]
    exact ⟨rfl, rfl⟩
  · by_cases h2 : y.2 = 2
    · rw [hd, if_neg h1, if_pos h2]
      have ht : ∀ a b : Bool, tail 12 2 p a = tail 12 2 p b ∧ far 12 2 p a = far 12 2 p b := by
        intro a b
        exact small3 (P := fun p => tail 12 2 p a = tail 12 2 p b ∧ far 12 2 p a = far 12 2 p b) hp (by cases a <;> cases b <;> decide) (by cases a <;> cases b <;> decide) (by cases a <;> cases b <;> decide)
      unfold wbS lgS
      rw [(ht (opp 2 (faces l s)) (!Vbbrac.sameSide x.1 s)).1, (ht (opp 2 (faces l s)) (!Vbbrac.sameSide x.1 s)).2]
      exact ⟨rfl, rfl⟩
    · have e := h3 (by omega)
      subst e
      rw [hd, if_neg h1, if_neg h2]
      have e : opp 0 (faces l s) = !Vbbrac.sameSide y.1 s := by
        rw [hf, hs]; rfl
      unfold wbS lgS
      rw [e]
      exact ⟨rfl, rfl⟩
theorem not_over_passes {l : Mad} (h : Vbbrac.over l = false) : Vbbrac.passes l ≤ 3 ∧ (lbm l ≠ none → Vbbrac.passes l ≤ 2) := by
  rw [over_is] at h
  have h := of_decide_eq_false h
  split at h
  · exact ⟨by omega, fun n => absurd (by assumption) n⟩
  · exact ⟨by omega, fun _ => by omega⟩
theorem ways_over (d : Nat) {l : Mad} (h : Vbbrac.over l = true) : Vbbrac.ways d l = 1 := by
  unfold Vbbrac.ways; rw [if_pos h]
theorem ways_none (d : Nat) {l : Mad} (h : Vbbrac.over l = false) (e : lbm l = none) : Vbbrac.ways d l = (4 - Vbbrac.passes l) * behind 35 + 1 := by
  unfold Vbbrac.ways
  rw [if_neg (by rw [h]; exact Bool.false_ne_true), lb_none e]
  exact Nat.add_comm _ _
theorem ways_some (d : Nat) {l : Mad} (G : Good l) {x : Nat × Nat} (h : Vbbrac.over l = false) (e : lbm l = some x) : Vbbrac.ways d l = wbS (behind (34 - (x.2 - 3))) (Vbbrac.doubled l) (Vbbrac.passes l) (faces l (Vbbrac.turn d l)) := by
  rw [(facing_is G e _ _ ((not_over_passes h).2 (by rw [e]; exact Option.some_ne_none x)) _).1]
  unfold Vbbrac.ways
  rw [if_neg (by rw [h]; exact Bool.false_ne_true), lb_some e]
  rfl
def laN (n : Nat) : Nat := if n = 0 then 0 else 9 * n + 1
theorem laN_succ (n : Nat) : 1 + lgS (laN n) 0 0 true = laN (n + 1) := by
  rw [lgS_first, show laN (n + 1) = 9 * (n + 1) + 1 from if_neg (Nat.succ_ne_zero n)]
  unfold laN
  by_cases h : n = 0
  · rw [if_pos h, if_pos rfl]; omega
  · rw [if_neg h, if_neg (by omega)]; omega
theorem longest_none (d : Nat) {l : Mad} (h : Vbbrac.over l = false) (e : lbm l = none) : Vbbrac.longest d l = 3 - Vbbrac.passes l + laN 35 := by
  unfold Vbbrac.longest
  rw [if_neg (by rw [h]; exact Bool.false_ne_true), lb_none e]
  show 3 - Vbbrac.passes l + 1 + far Vbbrac.STEPS 0 0 true + 9 * 34 = _
  have : far Vbbrac.STEPS 0 0 true = 9 := by decide
  rw [this]
  have : laN 35 = 316 := by decide
  omega
theorem longest_some (d : Nat) {l : Mad} (G : Good l) {x : Nat × Nat} (h : Vbbrac.over l = false) (e : lbm l = some x) : Vbbrac.longest d l = lgS (laN (34 - (x.2 - 3))) (Vbbrac.doubled l) (Vbbrac.passes l) (faces l (Vbbrac.turn d l)) := by
  rw [(facing_is G e _ _ ((not_over_passes h).2 (by rw [e]; exact Option.some_ne_none x)) _).2]
  unfold Vbbrac.longest
  rw [if_neg (by rw [h]; exact Bool.false_ne_true), lb_some e]
  have h1 : ∀ d p b, 1 ≤ far 12 d p b := fun d p b => by
    show 1 ≤ 1 + _
    omega
  have h1 := h1 (Vbbrac.doubled l) (Vbbrac.passes l) (!Vbbrac.sameSide x.1 (Vbbrac.turn d l))
  show far 12 (Vbbrac.doubled l) (Vbbrac.passes l) (!Vbbrac.sameSide x.1 (Vbbrac.turn d l)) + 9 * (34 - (x.2 - 3)) = _
  unfold laN
  by_cases hn : 34 - (x.2 - 3) = 0
  · rw [if_pos hn, if_pos rfl]; omega
  · rw [if_neg hn, if_neg (by omega)]; omega
/-! ### counting: promises and bodies -/
def spWbb (n : Nat) : Sp := fun vs H Q _ => ∃ (h d p : Nat) (f : Bool), vs = [iV h, iV d, iV p, .bl f] ∧ d ≤ 2 ∧ p ≤ 2 ∧ 3 * (2 - d) + (2 - p) < n ∧ RetV (iV (wbS h d p f)) H Q
def spLgb (n : Nat) : Sp := fun vs H Q _ => ∃ (h d p : Nat) (f : Bool), vs = [iV h, iV d, iV p, .bl f] ∧ d ≤ 2 ∧ p ≤ 2 ∧ 3 * (2 - d) + (2 - p) < n ∧ RetV (iV (lgS h d p f)) H Q
def spAbove : Sp := fun vs H Q _ => vs = [] ∧ RetL (aboveL.map iV) H Q
def spWaysOn (K : PySem.W.Frag) (C : Addr) : Sp := fun vs H Q _ => ∃ a m d l b, vs = [.ref a, .ref b] ∧ AucM C H a m d l ∧ Calls l ∧ Good l ∧ SqL K H b (aboveL.map iV) ∧ RetV (iV (Vbbrac.ways d l)) H Q
def spLgAbove : Sp := fun vs H Q _ => ∃ b : Int, vs = [.int b] ∧ -1 ≤ b ∧ b ≤ 34 ∧ RetV (iV (laN (34 - b).toNat)) H Q
def spLgOn (C : Addr) : Sp := fun vs H Q _ => ∃ a m d l, vs = [.ref a] ∧ AucM C H a m d l ∧ Calls l ∧ Good l ∧ RetV (iV (Vbbrac.longest d l)) H Q
section
variable {P : Program} {w : World} {K : PySem.W.Frag} {mg : Str → Option Value} {base : Heap} {fa : Nat → Addr} {fd : Nat → FuncData} {CA CW CP CS aN aR aA aW aO : Addr}
section
variable {σ : L2.St} {H : Hp} {ta tb tc td : TE} {E : XK} {a m b : Addr} {d : Nat} {l : Mad} {h p n : Nat} {f : Bool} {xs : List V}
theorem ev_wbb (h1 : Ev ta σ H (iV h)) (h2 : Ev tb σ H (iV d)) (h3 : Ev tc σ H (iV p)) (h4 : Ev td σ H (.bl f)) (hd : d ≤ 2) (hp : p ≤ 2) (hn : 3 * (2 - d) + (2 - p) < n) : Ev (tCall (spWbb n) [] E (tCons ta (tCons tb (tCons tc (tCons td tNil))))) σ H (iV (wbS h d p f)) :=
  ev_call (ea_cons h1 (ea_cons h2 (ea_cons h3 (ea_cons h4 ea_nil)))) fun H1 e Q q E => ⟨h, d, p, f, rfl, hd, hp, hn, q⟩
theorem ev_lgb (h1 : Ev ta σ H (iV h)) (h2 : Ev tb σ H (iV d)) (h3 : Ev tc σ H (iV p)) (h4 : Ev td σ H (.bl f)) (hd : d ≤ 2) (hp : p ≤ 2) (hn : 3 * (2 - d) + (2 - p) < n) : Ev (tCall (spLgb n) [] E (tCons ta (tCons tb (tCons tc (tCons td tNil))))) σ H (iV (lgS h d p f)) :=
  ev_call (ea_cons h1 (ea_cons h2 (ea_cons h3 (ea_cons h4 ea_nil)))) fun H1 e Q q E => ⟨h, d, p, f, rfl, hd, hp, hn, q⟩
theorem el_above : EvL (tCall spAbove [] E tNil) σ H (aboveL.map iV) := fun H1 e Q q => ⟨rfl, q⟩
theorem ev_waysOn (h1 : Ev ta σ H (.ref a)) (h2 : Ev tb σ H (.ref b)) (hA : AucM CA H a m d l) (hc : Calls l) (hg : Good l) (hb : SqL K H b (aboveL.map iV)) : Ev (tCall (spWaysOn K CA) [] E (tCons ta (tCons tb tNil))) σ H (iV (Vbbrac.ways d l)) :=
  ev_call (ea_cons h1 (ea_cons h2 ea_nil)) fun H1 e Q q E => ⟨a, m, d, l, b, rfl, hA.mono e, hc, hg, ex_l e hb, q⟩
theorem ev_lgAbove {i : Int} (h1 : Ev ta σ H (.int i)) (h2 : -1 ≤ i) (h3 : i ≤ 34) : Ev (tCall spLgAbove [] E (tCons ta tNil)) σ H (iV (laN (34 - i).toNat)) :=
  ev_call (ea_cons h1 ea_nil) fun H1 e Q q E => ⟨i, rfl, h2, h3, q⟩
theorem ev_lgOn (h1 : Ev ta σ H (.ref a)) (hA : AucM CA H a m d l) (hc : Calls l) (hg : Good l) : Ev (tCall (spLgOn CA) [] E (tCons ta tNil)) σ H (iV (Vbbrac.longest d l)) :=
  ev_call (ea_cons h1 ea_nil) fun H1 e Q q E => ⟨a, m, d, l, rfl, hA.mono e, hc, hg, q⟩
theorem ev_max2N {i j : Nat} (ha : Ev ta σ H (iV i)) (hb : Ev tb σ H (iV j)) : Ev (tCB (fun xs H Q => ∃ i j, xs = [.int i, .int j] ∧ Q (.int (if j > i then j else i)) H) (tCons ta (tCons tb tNil))) σ H (iV (max i j)) := ev_is (ev_max2 ha hb) (by
  show V.int _ = V.int _
  congr 1
  by_cases h : i < j
  · rw [if_pos (by omega)]; omega
  · rw [if_neg (by omega)]; omega)
theorem fd_ltN {i j : Nat} (h1 : Ev ta σ H (iV i)) (h2 : Ev tb σ H (iV j)) : EvT (tTest (tOp (rI0 fun i j => .bl (decide (i < j))) ta tb)) σ H (decide (i < j)) := et_I h1 h2 (by rw [decide_eq_decide]; omega)
end
theorem ok_ways_behind_bid (T : Txt K mg fa fd CA CW CP CS aN aR aA aW aO) : ∀ n : Nat, FnOk P w K mg base CX0 n (fa 17) (fd 17) P_ways_behind_bid (spWbb n)
  | 0 => ⟨fun vs H Q E h => by obtain ⟨h, d, p, f, rfl, _⟩ := h; rfl, fun A outer s H args us vs Q E _ _ _ _ h => by obtain ⟨h, d, p, f, rfl, _, _, hn, _⟩ := h; exact absurd hn (Nat.not_lt_zero _)⟩
  | n + 1 => by
    have IH := ok_ways_behind_bid T n
    refine T.d_ways_behind_bid.F.ok sc_ways_behind_bid (fun vs H Q E h => ?_) (fun cdv A outer s H vs Q E hr h => ⟨_, (pss_cons (ps_set (i := 4) sc_ways_behind_bid.nd rfl (.inl rfl) (pv 0)) (pss_cons (ps_if (pt_cmpR op_eq (pv 2) pe_int (nomark _)) (pss_one (ps_aug (i := 4) sc_ways_behind_bid.nd rfl (.inl rfl) pe_int ip_add)) (pss_one (ps_aug (i := 4) sc_ways_behind_bid.nd rfl (.inl rfl) (pe_call IH (hr.mono (by omega)) rfl T.m_ways_behind_bid T.d_ways_behind_bid.F.kp T.d_ways_behind_bid.b .nil pass0 (pa_cons (pv 0) (pa_cons (pv 1) (pa_cons (pe_op op_add (pv 2) pe_int) (pa_cons (pe_not (pv 3)) pa_nil))))) ip_add))) (pss_cons (ps_if (PW.pt (pw_and (pt_val (pv 3)) (pw_and1 (pt_cmpR op_lt (pv 1) pe_int (nomark _))))) (pss_one (ps_aug (i := 4) sc_ways_behind_bid.nd rfl (.inl rfl) (pe_call IH (hr.mono (by omega)) rfl T.m_ways_behind_bid T.d_ways_behind_bid.F.kp T.d_ways_behind_bid.b .nil pass0 (pa_cons (pv 0) (pa_cons (pe_op op_add (pv 1) pe_int) (pa_cons pe_int (pa_cons pe_bl pa_nil))))) ip_add)) pss_nil) (pss_one (ps_ret (pv 4)))))), ?_⟩)
    · obtain ⟨h, d, p, f, rfl, _⟩ := h; rfl
    · obtain ⟨h, d, p, f, rfl, hd, hp, hn, k⟩ := h
      refine q_asg (ev_var rfl) fun H1 e1 => ?_
      have fin : ∀ H2, Ex H H2 → tSeq (tIfS (tAnd (tB (tVar 3)) (tTest (tOp (rI0 fun i j => .bl (decide (i < j))) (tVar 1) (tC (.int 2))))) (tAug 4 (tCall (spWbb n) [] E0 (tCons (tVar 0) (tCons (tOp (rI0 fun i j => .int (i + j)) (tVar 1) (tC (.int 1))) (tCons (tC (.int 0)) (tCons (tC (.bl true)) tNil))))) (ipI fun i j => i + j)) tNext) (tRet (tVar 4)) { nx := fun _ H' => Q .non H', rt := Q } [some (iV h), some (iV d), some (iV p), some (.bl f), some (iV (h + if p = 2 then 1 else wbS h d (p + 1) (!f)))] H2 := by
        intro H2 e2
        refine q_when (et_and (et_B (ev_var rfl)) (fun _ => fd_ltN (i := d) (j := 2) (ev_var rfl) ev_c)) (fun hb H3 e3 => ?_) (fun hb H3 e3 => ?_)
        · have hb1 : f = true ∧ d < 2 := by simpa using hb
          refine s_aug (f := fun i j => i + j) (a := ((h + if p = 2 then 1 else wbS h d (p + 1) (!f) : Nat) : Int)) rfl (ev_wbb (h := h) (d := d + 1) (p := 0) (f := true) (ev_var rfl) (ev_addN (j := 1) (ev_var rfl) ev_c) ev_c ev_c (by omega) (by omega) (by omega)) fun H4 e4 => ?_
          show tRet (tVar 4) _ _ _
          refine s_ret (v := iV (wbS h d p f)) (ev_is (ev_var rfl) ?_) fun H5 e5 => k H5 (((e2.trans e3).trans e4).trans e5)
          rw [wbS_rec h d p f hd hp, if_pos hb1]
          exact congrArg V.int (Int.natCast_add _ _).symm
        · have hb1 : ¬ (f = true ∧ d < 2) := by simpa using hb
          refine s_ret (v := iV (wbS h d p f)) (ev_is (ev_var rfl) ?_) fun H5 e5 => k H5 ((e2.trans e3).trans e5)
          rw [wbS_rec h d p f hd hp, if_neg hb1]
          rfl
      refine q_if (et_eqN (i := p) (j := 2) (ev_var rfl) ev_c) (fun hb H2 e2 => ?_) (fun hb H2 e2 => ?_)
      · refine s_aug (f := fun i j => i + j) (a := (h : Int)) rfl ev_c fun H3 e3 => ?_
        have q := fin H3 ((e1.trans e2).trans e3)
        rw [if_pos (of_decide_eq_true hb)] at q
        exact q
      · have hp2 : ¬ p = 2 := of_decide_eq_false hb
        refine s_aug (f := fun i j => i + j) (a := (h : Int)) rfl (ev_wbb (h := h) (d := d) (p := p + 1) (f := !f) (ev_var rfl) (ev_var rfl) (ev_addN (j := 1) (ev_var rfl) ev_c) (ev_notV (ev_var rfl)) (by omega) (by omega) (by omega)) fun H3 e3 => ?_
        have q := fin H3 ((e1.trans e2).trans e3)
        rw [if_neg hp2] at q
        exact q
theorem ok_longest_behind_bid (T : Txt K mg fa fd CA CW CP CS aN aR aA aW aO) : ∀ n : Nat, FnOk P w K mg base CX0 n (fa 20) (fd 20) P_longest_behind_bid (spLgb n)
  | 0 => ⟨fun vs H Q E h => by obtain ⟨h, d, p, f, rfl, _⟩ := h; rfl, fun A outer s H args us vs Q E _ _ _ _ h => by obtain ⟨h, d, p, f, rfl, _, _, hn, _⟩ := h; exact absurd hn (Nat.not_lt_zero _)⟩
  | n + 1 => by
    have IH := ok_longest_behind_bid T n
    refine T.d_longest_behind_bid.F.ok sc_longest_behind_bid (fun vs H Q E h => ?_) (fun cdv A outer s H vs Q E hr h => ⟨_, (pss_cons (ps_set (i := 4) sc_longest_behind_bid.nd rfl (.inl rfl) (pe_ifExp (pt_cmpR op_eq (pv 2) pe_int (nomark _)) pe_int (pe_call IH (hr.mono (by omega)) rfl T.m_longest_behind_bid T.d_longest_behind_bid.F.kp T.d_longest_behind_bid.b .nil pass0 (pa_cons (pv 0) (pa_cons (pv 1) (pa_cons (pe_op op_add (pv 2) pe_int) (pa_cons (pe_not (pv 3)) pa_nil))))))) (pss_cons (ps_set (i := 5) sc_longest_behind_bid.nd rfl (.inl rfl) (pe_callB (call_max2 rfl) (by rfl) T.b_max (by decide +kernel) (pa_cons (pv 0) (pa_cons (pe_op op_add pe_int (pv 4)) pa_nil)))) (pss_cons (ps_if (PW.pt (pw_and (pt_val (pv 3)) (pw_and1 (pt_cmpR op_lt (pv 1) pe_int (nomark _))))) (pss_one (ps_set (i := 5) sc_longest_behind_bid.nd rfl (.inl rfl) (pe_callB (call_max2 rfl) (by rfl) T.b_max (by decide +kernel) (pa_cons (pv 5) (pa_cons (pe_op op_add pe_int (pe_call IH (hr.mono (by omega)) rfl T.m_longest_behind_bid T.d_longest_behind_bid.F.kp T.d_longest_behind_bid.b .nil pass0 (pa_cons (pv 0) (pa_cons (pe_op op_add (pv 1) pe_int) (pa_cons pe_int (pa_cons pe_bl pa_nil)))))) pa_nil))))) pss_nil) (pss_one (ps_ret (pv 5)))))), ?_⟩)
    · obtain ⟨h, d, p, f, rfl, _⟩ := h; rfl
    · obtain ⟨h, d, p, f, rfl, hd, hp, hn, k⟩ := h
      refine q_asg (v := iV (if p = 2 then 0 else lgS h d (p + 1) (!f))) (ev_if (et_eqN (i := p) (j := 2) (ev_var rfl) ev_c) (fun hb => ?_) (fun hb => ?_)) fun H1 e1 => ?_
      · rw [if_pos (of_decide_eq_true hb)]; exact ev_c
      · have hp2 : ¬ p = 2 := of_decide_eq_false hb
        rw [if_neg hp2]
        exact ev_lgb (h := h) (d := d) (p := p + 1) (f := !f) (ev_var rfl) (ev_var rfl) (ev_addN (j := 1) (ev_var rfl) ev_c) (ev_notV (ev_var rfl)) (by omega) (by omega) (by omega)
      · refine q_asg (v := iV (max h (1 + if p = 2 then 0 else lgS h d (p + 1) (!f)))) (ev_max2N (ev_var rfl) (ev_addN (i := 1) ev_c (ev_var rfl))) fun H2 e2 => ?_
        refine q_when (et_and (et_B (ev_var rfl)) (fun _ => fd_ltN (i := d) (j := 2) (ev_var rfl) ev_c)) (fun hb H3 e3 => ?_) (fun hb H3 e3 => ?_)
        · have hb1 : f = true ∧ d < 2 := by simpa using hb
          refine s_asg (v := iV (max (max h (1 + if p = 2 then 0 else lgS h d (p + 1) (!f))) (1 + lgS h (d + 1) 0 true))) (ev_max2N (ev_var rfl) (ev_addN (i := 1) ev_c (ev_lgb (h := h) (d := d + 1) (p := 0) (f := true) (ev_var rfl) (ev_addN (j := 1) (ev_var rfl) ev_c) ev_c ev_c (by omega) (by omega) (by omega)))) fun H4 e4 => ?_
          show tRet (tVar 5) _ _ _
          refine s_ret (v := iV (lgS h d p f)) (ev_is (ev_var rfl) ?_) fun H5 e5 => k H5 ((((e1.trans e2).trans e3).trans e4).trans e5)
          rw [lgS_rec h d p f hd hp]
          simp only [hb1, and_self, if_true]
        · have hb1 : ¬ (f = true ∧ d < 2) := by simpa using hb
          refine s_ret (v := iV (lgS h d p f)) (ev_is (ev_var rfl) ?_) fun H5 e5 => k H5 (((e1.trans e2).trans e3).trans e5)
          rw [lgS_rec h d p f hd hp, if_neg hb1]
theorem ok_ways_above (T : Txt K mg fa fd CA CW CP CS aN aR aA aW aO) : FnOk P w K mg base CX0 10 (fa 18) (fd 18) P_ways_above (spAbove) := by
  refine T.d_ways_above.F.ok sc_ways_above (fun vs H Q E h => ?_) (fun cdv A outer s H vs Q E hr h => ⟨_, (pss_cons (ps_set (i := 0) sc_ways_above.nd rfl (.inl rfl) (pe_lst (pa_cons pe_int pa_nil))) (pss_cons (ps_while PassesOwn.never (pt_cmpR op_le (pe_callB call_len_seq (by rfl) T.b_len PySem.boot_len (pa_cons (pv 0) pa_nil)) (pe_op op_add (pe_globI rfl T.g_HIGHEST_BID) pe_int) (nomark _)) (pss_one (ps_expr (pe_bm PySem.F.plainAttrs_list PySem.F.slot_list_append PySem.F.type_list_append mt_append (pv 0) (pa_cons (pe_op op_add (pe_ix ix_list (pv 0) (pe_un un_neg pe_int) (fun _ _ => rfl)) (pe_call (ok_ways_behind_bid T 9) (hr.mono (by decide)) rfl T.m_ways_behind_bid T.d_ways_behind_bid.F.kp T.d_ways_behind_bid.b .nil pass0 (pa_cons (pe_ix ix_list (pv 0) (pe_un un_neg pe_int) (fun _ _ => rfl)) (pa_cons pe_int (pa_cons pe_int (pa_cons pe_bl pa_nil)))))) pa_nil))))) (pss_one (ps_ret (pe_listRev rfl rfl T.b_list rfl T.b_reversed (pv 0)))))), ?_⟩)
  · obtain ⟨rfl, _⟩ := h; rfl
  · obtain ⟨rfl, k⟩ := h
    refine q_asgL (xs := [.int 0]) (el_lst (ea_cons ev_c ea_nil) (by decide)) fun c H1 hc e1 h1 => ?_
    refine q_while (fun m σ' H' => ∃ j, m = 35 - j ∧ j ≤ 35 ∧ σ' = [some (.ref c)] ∧ Ex H H' ∧ H' c = some (.lst ((List.range (j + 1)).map fun i => iV (behind i)))) 35 ⟨0, rfl, by omega, rfl, e1, h1⟩ ?_
    rintro m σ' H' ⟨j, rfl, hj, rfl, e2, h2⟩
    refine ⟨decide (j + 1 ≤ 35), et_I (ev_len (ev_var rfl) (sq_of h2)) (ev_addN (i := 34) (j := 1) ev_c ev_c) ?_, fun hb H2 e3 => ?_, fun hb H2 e3 => ?_⟩
    · rw [List.length_map, List.length_range, decide_eq_decide]; omega
    · have hl : atI ((List.range (j + 1)).map fun i => iV (behind i)) (-1) = some (iV (behind j)) := atI_last (by rw [List.range_succ, List.map_append, List.getLast?_append]; rfl)
      have h2' := e3 _ _ h2
      refine ⟨fun σ2 H3 => σ2 = [some (.ref c)] ∧ Ex H H3 ∧ H3 c = some (.lst ((List.range (j + 1 + 1)).map fun i => iV (behind i))), fun σ2 H3 p => ⟨35 - (j + 1), by have := of_decide_eq_true hb; omega, j + 1, rfl, of_decide_eq_true hb, p.1, p.2.1, p.2.2⟩, ?_⟩
      have hx : Ev (tOp (rIxL K) (tVar 0) (tUn (rU fun i => .int (-i)) (tC (.int 1)))) [some (.ref c)] H2 (iV (behind j)) := ev_op (ev_var rfl) (ev_un ev_c ru_neg) (rv_ixL (sq_of h2') hl)
      refine s_app h2' (ev_var rfl) (ev_addN hx (ev_wbb (h := behind j) (d := 0) (p := 0) (f := true) hx ev_c ev_c ev_c (by omega) (by omega) (by omega))) (by rw [List.length_map, List.length_range]; omega) fun H3 e4 => ⟨rfl, ((e2.trans e3).trans e4).mut hc, ?_⟩
      rw [List.range_succ (n := j + 1), List.map_append, upd_same]
      congr 4
      refine congrArg iV ?_
      show behind j + wbS (behind j) 0 0 true = 22 * behind j + 7
      rw [wbS_first]; omega
    · have hj2 : j = 35 := by have := of_decide_eq_false hb; omega
      subst hj2
      refine s_retL (el_lstRev (ev_var (i := 0) (v := .ref c) rfl) (sq_of (e3 _ _ h2))) fun p H3 hp e4 h3 => k p H3 (fresh_back (e2.trans e3) hp) ((e2.trans e3).trans e4) ?_
      rw [h3]
      unfold aboveL
      rw [List.map_reverse, List.map_map]
      rfl
theorem ok_ways_on (T : Txt K mg fa fd CA CW CP CS aN aR aA aW aO) : FnOk P w K mg base CX0 10 (fa 19) (fd 19) P_ways_on (spWaysOn K CA) := by
  refine T.d_ways_on.F.ok sc_ways_on (fun vs H Q E h => ?_) (fun cdv A outer s H vs Q E hr h => ⟨_, (pss_cons (ps_if (pt_val (pe_meth0 (pv 0) T.cl_CA T.m_a_over (ok_a_over T) (hr.mono (by decide)) T.d_a_over.b .nil pass0)) (pss_one (ps_ret pe_int)) pss_nil) (pss_cons (ps_set (i := 2) sc_ways_on.nd rfl (.inl rfl) (pe_meth0 (pv 0) T.cl_CA T.m_a_last_bid (ok_a_last_bid T) (hr.mono (by decide)) T.d_a_last_bid.b .nil pass0)) (pss_cons (ps_set (i := 3) sc_ways_on.nd rfl (.inl rfl) (pe_ix ix_list (pv 1) (pe_op op_add (pv 2) pe_int) (fun _ _ => rfl))) (pss_cons (ps_set (i := 4) sc_ways_on.nd rfl (.inl rfl) (pe_meth0 (pv 0) T.cl_CA T.m_a_passes (ok_a_passes T) (hr.mono (by decide)) T.d_a_passes.b .nil pass0)) (pss_cons (ps_if (pt_cmpR op_lt (pv 2) pe_int (nomark _)) (pss_one (ps_ret (pe_op op_add (pe_op op_mul (pe_op op_sub pe_int (pv 4)) (pv 3)) pe_int))) pss_nil) (pss_one (ps_ret (pe_call (ok_ways_behind_bid T 9) (hr.mono (by decide)) rfl T.m_ways_behind_bid T.d_ways_behind_bid.F.kp T.d_ways_behind_bid.b .nil pass0 (pa_cons (pv 3) (pa_cons (pe_meth0 (pv 0) T.cl_CA T.m_a_doubled (ok_a_doubled T) (hr.mono (by decide)) T.d_a_doubled.b .nil pass0) (pa_cons (pv 4) (pa_cons (pe_meth (pv 0) T.cl_CA T.m_a_faces_last_word (ok_a_faces_last_word T) (hr.mono (by decide)) T.d_a_faces_last_word.b .nil pass0 (pa_cons (pe_meth0 (pv 0) T.cl_CA T.m_a_on_turn (ok_a_on_turn T) (hr.mono (by decide)) T.d_a_on_turn.b .nil pass0) pa_nil)) pa_nil)))))))))))), ?_⟩)
  · obtain ⟨a, m, d, l, b, rfl, _⟩ := h; rfl
  · obtain ⟨a, m, d, l, b, rfl, hA, hc, hg, hb, k⟩ := h
    refine q_when (et_B (ev_auc (f := fun _ l => .bl (Vbbrac.over l)) (ev_var rfl) hA)) (fun ho H1 e1 => ?_) (fun ho H1 e1 => ?_)
    · exact s_ret (ev_is ev_c (congrArg iV (ways_over d ho).symm)) fun H2 e2 => k H2 (e1.trans e2)
    · have hA1 := hA.mono e1
      refine q_asg (ev_auc (f := fun _ l => .int (lbI l)) (ev_var rfl) hA1) fun H2 e2 => ?_
      have hA2 := hA1.mono e2
      cases e : lbm l with
      | none =>
        refine q_asg (v := iV (behind 35)) (ev_op (y := iV 0) (ev_var rfl) (ev_I (ev_var rfl) ev_c (by rw [lbI_none e]; rfl)) (rv_ixL (xs := aboveL.map iV) (ex_l (e1.trans e2) hb) (atI_n (i := 0) (by rw [List.getElem?_map, aboveL_get (by omega)]; rfl)))) fun H3 e3 => ?_
        refine q_asg (ev_auc (f := fun _ l => iV (Vbbrac.passes l)) (ev_var rfl) (hA2.mono e3)) fun H4 e4 => ?_
        refine q_when (b := true) (et_I (ev_var rfl) ev_c (by rw [lbI_none e]; rfl)) (fun _ H5 e5 => ?_) (fun h _ _ => by cases h)
        have hp := (not_over_passes ho).1
        refine s_ret (v := iV (Vbbrac.ways d l)) (ev_is (ev_addN (i := (4 - Vbbrac.passes l) * behind 35) (j := 1) (ev_is (ev_op (x := iV (4 - Vbbrac.passes l)) (y := iV (behind 35)) (ev_subN (i := 4) (by omega) ev_c (ev_var rfl)) (ev_var rfl) (rv_I (C := CMul) (g := fun i j => .int (i * j)) (.inl ⟨by omega, by omega⟩))) (congrArg V.int (Int.natCast_mul _ _).symm)) ev_c) (congrArg iV (ways_none d ho e).symm)) fun H6 e6 => k H6 (((((e1.trans e2).trans e3).trans e4).trans e5).trans e6)
      | some x =>
        have h3 := lbm_ge e
        have h37 : x.2 ≤ 37 := hc x (List.mem_reverse.mp (List.mem_of_find?_eq_some e))
        refine q_asg (v := iV (behind (34 - (x.2 - 3)))) (ev_op (y := iV (x.2 - 3 + 1)) (ev_var rfl) (ev_I (ev_var rfl) ev_c (by rw [lbI_some e]; show V.int _ = V.int _; congr 1; omega)) (rv_ixL (xs := aboveL.map iV) (ex_l (e1.trans e2) hb) (atI_n (i := x.2 - 3 + 1) (by rw [List.getElem?_map, aboveL_get (by omega), show 35 - (x.2 - 3 + 1) = 34 - (x.2 - 3) by omega]; rfl)))) fun H3 e3 => ?_
        have hA3 := hA2.mono e3
        refine q_asg (ev_auc (f := fun _ l => iV (Vbbrac.passes l)) (ev_var rfl) hA3) fun H4 e4 => ?_
        have hA4 := hA3.mono e4
        refine q_when (b := false) (et_I (ev_var rfl) ev_c (by rw [lbI_some e]; exact decide_eq_false (by omega))) (fun h _ _ => by cases h) (fun _ H5 e5 => ?_)
        have hA5 := hA4.mono e5
        refine s_ret (ev_is (ev_wbb (h := behind (34 - (x.2 - 3))) (d := Vbbrac.doubled l) (p := Vbbrac.passes l) (f := faces l (Vbbrac.turn d l)) (ev_var rfl) (ev_auc (f := fun _ l => iV (Vbbrac.doubled l)) (ev_var rfl) hA5) (ev_var rfl) (ev_faces (ev_var rfl) hA5 (ev_auc (f := fun d l => iV (Vbbrac.turn d l)) (ev_var rfl) hA5)) (dbl_le l) ((not_over_passes ho).2 (by rw [e]; exact Option.some_ne_none x)) (by omega)) (congrArg iV (ways_some d hg ho e).symm)) fun H6 e6 => k H6 (((((e1.trans e2).trans e3).trans e4).trans e5).trans e6)
theorem q_forDown {tz tu : TS} {D : Ends} {σ : L2.St} {H : Hp} {ta : TA} {j : Nat} {a b : Int} (h : EvA ta σ H [.int a, .int b, .int (-1)]) (ha : -100 ≤ a ∧ a ≤ 100) (hb : -100 ≤ b ∧ b ≤ 100) (Pv : Nat → L2.St → Hp → Prop) (h0 : ∀ H1, Ex H H1 → Pv 0 σ H1)
    (hs : ∀ (i : Nat) σ' H', i < (a - b).toNat → Pv i σ' H' → tu { D with nx := Pv (i + 1), ct := Pv (i + 1), bk := tz D } (σ'.set j (some (.int (a + (i : Nat) * (-1))))) H') (hd : ∀ σ' H', Pv (a - b).toNat σ' H' → tz D σ' H') : tSeq (tFor (iRng3 ta) (gName j) tu) tz D σ H :=
  h H (Ex.refl H) _ fun H1 e => ⟨a, b, -1, (a - b).toNat, rfl, RgC.neg (by omega) (by omega) (by omega) (by omega), for_rangeC (D := { D with nx := tz D }) Pv (h0 H1 e) hs hd⟩
theorem ok_longest_above (T : Txt K mg fa fd CA CW CP CS aN aR aA aW aO) : FnOk P w K mg base CX0 10 (fa 21) (fd 21) P_longest_above (spLgAbove) := by
  refine T.d_longest_above.F.ok sc_longest_above (fun vs H Q E h => ?_) (fun cdv A outer s H vs Q E hr h => ⟨_, (pss_cons (ps_set (i := 1) sc_longest_above.nd rfl (.inl rfl) pe_int) (pss_cons (ps_for PassesOwn.never rfl (pi_range3 (by rfl) T.b_range (pa_cons (pe_globI rfl T.g_HIGHEST_BID) (pa_cons (pv 0) (pa_cons (pe_un un_neg pe_int) pa_nil)))) (pg_name (i := 2) sc_longest_above.nd rfl (.inl rfl)) (pss_one (ps_set (i := 1) sc_longest_above.nd rfl (.inl rfl) (pe_op op_add pe_int (pe_call (ok_longest_behind_bid T 9) (hr.mono (by decide)) rfl T.m_longest_behind_bid T.d_longest_behind_bid.F.kp T.d_longest_behind_bid.b .nil pass0 (pa_cons (pv 1) (pa_cons pe_int (pa_cons pe_int (pa_cons pe_bl pa_nil))))))))) (pss_one (ps_ret (pv 1))))), ?_⟩)
  · obtain ⟨b, rfl, _⟩ := h; rfl
  · obtain ⟨b, rfl, hb1, hb2, k⟩ := h
    refine q_asg ev_c fun H1 e1 => ?_
    refine q_forDown (ea_cons ev_c (ea_cons (ev_var rfl) (ea_cons (ev_un ev_c ru_neg) ea_nil))) (by omega) (by omega) (fun i σ' H' => Ex H H' ∧ ∃ u, σ' = [some (.int b), some (iV (laN i)), u]) (fun H2 e2 => ⟨e1.trans e2, _, rfl⟩) ?_ ?_
    · rintro i σ' H' hi ⟨e2, u, rfl⟩
      refine s_asg (v := iV (laN (i + 1))) (ev_is (ev_addN (i := 1) ev_c (ev_lgb (h := laN i) (d := 0) (p := 0) (f := true) (ev_var rfl) ev_c ev_c ev_c (by omega) (by omega) (by omega))) (congrArg iV (laN_succ i))) fun H3 e3 => ⟨e2.trans e3, _, rfl⟩
    · rintro σ' H' ⟨e2, u, rfl⟩
      exact s_ret (ev_var rfl) fun H3 e3 => k H3 (e2.trans e3)
theorem ok_longest_on (T : Txt K mg fa fd CA CW CP CS aN aR aA aW aO) : FnOk P w K mg base CX0 11 (fa 22) (fd 22) P_longest_on (spLgOn CA) := by
  refine T.d_longest_on.F.ok sc_longest_on (fun vs H Q E h => ?_) (fun cdv A outer s H vs Q E hr h => ⟨_, (pss_cons (ps_if (pt_val (pe_meth0 (pv 0) T.cl_CA T.m_a_over (ok_a_over T) (hr.mono (by decide)) T.d_a_over.b .nil pass0)) (pss_one (ps_ret pe_int)) pss_nil) (pss_cons (ps_set (i := 1) sc_longest_on.nd rfl (.inl rfl) (pe_call (ok_longest_above T) (hr.mono (by decide)) rfl T.m_longest_above T.d_longest_above.F.kp T.d_longest_above.b .nil pass0 (pa_cons (pe_meth0 (pv 0) T.cl_CA T.m_a_last_bid (ok_a_last_bid T) (hr.mono (by decide)) T.d_a_last_bid.b .nil pass0) pa_nil))) (pss_cons (ps_set (i := 2) sc_longest_on.nd rfl (.inl rfl) (pe_meth0 (pv 0) T.cl_CA T.m_a_passes (ok_a_passes T) (hr.mono (by decide)) T.d_a_passes.b .nil pass0)) (pss_cons (ps_if (pt_cmpR op_isN (pe_meth0 (pv 0) T.cl_CA T.m_a_last_bid_made (ok_a_last_bid_made T) (hr.mono (by decide)) T.d_a_last_bid_made.b .nil pass0) pe_non (nomark _)) (pss_one (ps_ret (pe_op op_add (pe_op op_sub pe_int (pv 2)) (pv 1)))) pss_nil) (pss_one (ps_ret (pe_call (ok_longest_behind_bid T 9) (hr.mono (by decide)) rfl T.m_longest_behind_bid T.d_longest_behind_bid.F.kp T.d_longest_behind_bid.b .nil pass0 (pa_cons (pv 1) (pa_cons (pe_meth0 (pv 0) T.cl_CA T.m_a_doubled (ok_a_doubled T) (hr.mono (by decide)) T.d_a_doubled.b .nil pass0) (pa_cons (pv 2) (pa_cons (pe_meth (pv 0) T.cl_CA T.m_a_faces_last_word (ok_a_faces_last_word T) (hr.mono (by decide)) T.d_a_faces_last_word.b .nil pass0 (pa_cons (pe_meth0 (pv 0) T.cl_CA T.m_a_on_turn (ok_a_on_turn T) (hr.mono (by decide)) T.d_a_on_turn.b .nil pass0) pa_nil)) pa_nil))))))))))), ?_⟩)
  · obtain ⟨a, m, d, l, rfl, _⟩ := h; rfl
  · obtain ⟨a, m, d, l, rfl, hA, hc, hg, k⟩ := h
    refine q_when (et_B (ev_auc (f := fun _ l => .bl (Vbbrac.over l)) (ev_var rfl) hA)) (fun ho H1 e1 => ?_) (fun ho H1 e1 => ?_)
    · refine s_ret (v := iV (Vbbrac.longest d l)) (ev_is ev_c (congrArg iV ?_)) fun H2 e2 => k H2 (e1.trans e2)
      unfold Vbbrac.longest; rw [if_pos ho]
    · have hA1 := hA.mono e1
      have hp := not_over_passes ho
      have hlb : -1 ≤ lbI l ∧ lbI l ≤ 34 := by
        cases e : lbm l with
        | none => rw [lbI_none e]; omega
        | some x =>
          have h3 := lbm_ge e
          have h37 : x.2 ≤ 37 := hc x (List.mem_reverse.mp (List.mem_of_find?_eq_some e))
          rw [lbI_some e]; omega
      refine q_asg (ev_lgAbove (ev_auc (f := fun _ l => .int (lbI l)) (ev_var rfl) hA1) hlb.1 hlb.2) fun H2 e2 => ?_
      have hA2 := hA1.mono e2
      refine q_asg (ev_auc (f := fun _ l => iV (Vbbrac.passes l)) (ev_var rfl) hA2) fun H3 e3 => ?_
      have hA3 := hA2.mono e3
      refine q_when (b := decide (lbm l = none)) (et_test (ev_isN_P (evp_auc (f := fun _ l => OptP (lbm l)) (ev_var rfl) hA3) fun v H1 hv => optP_isN hv)) (fun hb H4 e4 => ?_) (fun hb H4 e4 => ?_)
      · have e := of_decide_eq_true hb
        refine s_ret (v := iV (Vbbrac.longest d l)) (ev_is (ev_addN (i := 3 - Vbbrac.passes l) (ev_subN (i := 3) hp.1 ev_c (ev_var rfl)) (ev_var rfl)) (congrArg iV ?_)) fun H5 e5 => k H5 ((((e1.trans e2).trans e3).trans e4).trans e5)
        rw [longest_none d ho e, lbI_none e]; rfl
      · cases e : lbm l with
        | none => rw [e] at hb; cases hb
        | some x =>
          have hA4 := hA3.mono e4
          refine s_ret (v := iV (Vbbrac.longest d l)) (ev_is (ev_lgb (h := laN (34 - lbI l).toNat) (d := Vbbrac.doubled l) (p := Vbbrac.passes l) (f := faces l (Vbbrac.turn d l)) (ev_var rfl) (ev_auc (f := fun _ l => iV (Vbbrac.doubled l)) (ev_var rfl) hA4) (ev_var rfl) (ev_faces (ev_var rfl) hA4 (ev_auc (f := fun d l => iV (Vbbrac.turn d l)) (ev_var rfl) hA4)) (dbl_le l) (hp.2 (by rw [e]; exact Option.some_ne_none x)) (by omega)) (congrArg iV ?_)) fun H5 e5 => k H5 ((((e1.trans e2).trans e3).trans e4).trans e5)
          have h3 := lbm_ge e
          rw [longest_some d hg ho e, lbI_some e]
          congr 2
          omega
end
end Bb
namespace Bb
open Vbbrac (behind turn legal over passes lastWord doubled ways lastBid)
/-! ### one call more -/
theorem lbm_snoc (l : Mad) (s c : Nat) : lbm (l ++ [(s, c)]) = if 3 ≤ c then some (s, c) else lbm l := by
  show ((l ++ [(s, c)]).reverse.find? fun y => decide (3 ≤ y.2)) = _
  rw [List.reverse_append]
  show (((s, c) :: l.reverse).find? fun y => decide (3 ≤ y.2)) = _
  rw [List.find?_cons]
  by_cases h : 3 ≤ c
  · rw [decide_eq_true h, if_pos h]
  · rw [decide_eq_false h, if_neg h]; rfl
theorem lw_snoc (l : Mad) (s c : Nat) : lastWord (l ++ [(s, c)]) = if 1 ≤ c then some (s, c) else lastWord l := by
  show ((l ++ [(s, c)]).reverse.find? fun y => decide (1 ≤ y.2)) = _
  rw [List.reverse_append]
  show (((s, c) :: l.reverse).find? fun y => decide (1 ≤ y.2)) = _
  rw [List.find?_cons]
  by_cases h : 1 ≤ c
  · rw [decide_eq_true h, if_pos h]
  · rw [decide_eq_false h, if_neg h]; rfl
theorem passes_snoc (l : Mad) (s c : Nat) : passes (l ++ [(s, c)]) = if c = 0 then passes l + 1 else 0 := by
  show (((l ++ [(s, c)]).reverse.takeWhile fun y => y.2 == 0).length) = _
  rw [List.reverse_append]
  show ((((s, c) :: l.reverse).takeWhile fun y => y.2 == 0).length) = _
  rw [List.takeWhile_cons]
  by_cases h : c = 0
  · rw [if_pos (by simpa using h), if_pos h]; rfl
  · rw [if_neg (by simpa using h), if_neg h]; rfl
theorem turn_snoc (d : Nat) (l : Mad) (s c : Nat) : turn d (l ++ [(s, c)]) = (s + 1) % 4 := by
  unfold Vbbrac.turn
  rw [List.getLast?_append]
  rfl
theorem dbl_snoc (l : Mad) (s c : Nat) : doubled (l ++ [(s, c)]) = if c = 0 then doubled l else if c = 1 then 1 else if c = 2 then 2 else 0 := by
  by_cases h : c = 0
  · rw [if_pos h]
    unfold Vbbrac.doubled
    rw [lw_snoc, if_neg (by omega)]
  · rw [if_neg h]
    exact dbl_some (x := (s, c)) (by rw [lw_snoc, if_pos (by omega)])
def Fine (l : Mad) : Prop := Good l ∧ (lbm l = none → lastWord l = none)
theorem fine_nil : Fine [] := by
  refine ⟨fun x y h _ _ => ?_, fun _ => rfl⟩
  have h : (none : Option (Nat × Nat)) = some x := h
  cases h
theorem legal_not_over {l : Mad} {s c : Nat} (h : legal l s c = true) : over l = false := by
  unfold Vbbrac.legal at h
  cases e : over l with
  | false => rfl
  | true => rw [e] at h; cases h
theorem legal_one {l : Mad} {s : Nat} (h : legal l s 1 = true) : ∃ x, lastWord l = some x ∧ 3 ≤ x.2 ∧ x.1 % 2 ≠ s % 2 := by
  have ho := legal_not_over h
  unfold Vbbrac.legal at h
  rw [ho] at h
  have h : Vbbrac.mayDouble l s = true := h
  unfold Vbbrac.mayDouble at h
  cases e : lastWord l with
  | none => rw [e] at h; cases h
  | some x =>
    rw [e] at h
    refine ⟨x, rfl, ?_⟩
    simp [Vbbrac.sameSide] at h
    exact h
theorem legal_two {l : Mad} {s : Nat} (h : legal l s 2 = true) : ∃ x, lastWord l = some x ∧ x.2 = 1 ∧ x.1 % 2 ≠ s % 2 := by
  have ho := legal_not_over h
  unfold Vbbrac.legal at h
  rw [ho] at h
  have h : Vbbrac.mayRedouble l s = true := h
  unfold Vbbrac.mayRedouble at h
  cases e : lastWord l with
  | none => rw [e] at h; cases h
  | some x =>
    rw [e] at h
    refine ⟨x, rfl, ?_⟩
    simp [Vbbrac.sameSide] at h
    exact h
theorem lbm_of_lw {l : Mad} {x : Nat × Nat} (h : lastWord l = some x) (h3 : 3 ≤ x.2) : lbm l = some x := by
  cases e : lbm l with
  | none =>
    have := List.find?_eq_none.mp e x (List.mem_of_find?_eq_some h)
    exact absurd (decide_eq_true h3) this
  | some y =>
    obtain ⟨z, h1, h2⟩ := lw_of_lbm e
    rw [h] at h1
    cases h1
    rw [h2 h3]
/-- a call that may be made: a pass, a bid, a double or redouble that may stand -/
def Put (l : Mad) (s c : Nat) : Prop := c = 0 ∨ 3 ≤ c ∨ (c = 1 ∧ ∃ x, lastWord l = some x ∧ 3 ≤ x.2 ∧ x.1 % 2 ≠ s % 2) ∨ (c = 2 ∧ ∃ x, lastWord l = some x ∧ x.2 = 1 ∧ x.1 % 2 ≠ s % 2)
theorem put_legal {l : Mad} {s c : Nat} (h : legal l s c = true) : Put l s c := by
  rcases c with _ | _ | _ | c
  · exact .inl rfl
  · exact .inr (.inr (.inl ⟨rfl, legal_one h⟩))
  · exact .inr (.inr (.inr ⟨rfl, legal_two h⟩))
  · exact .inr (.inl (by omega))
theorem fine_snoc {l : Mad} {s c : Nat} (F : Fine l) (h : Put l s c) : Fine (l ++ [(s, c)]) := by
  unfold Fine Good
  rw [lbm_snoc, lw_snoc]
  rcases h with rfl | h | ⟨rfl, x, hx, h3, hs⟩ | ⟨rfl, x, hx, h1, hs⟩
  · exact F
  · rw [if_pos h, if_pos (by omega)]
    refine ⟨fun x y h1 h2 h3 => ?_, fun z => by cases z⟩
    cases h2
    exact absurd (show c = 1 from h3) (by omega)
  · rw [if_neg (by omega), if_pos (by omega)]
    have e := lbm_of_lw hx h3
    rw [e]
    refine ⟨fun x y h1 h2 _ => ?_, fun z => by cases z⟩
    cases h1; cases h2
    exact fun q => hs q.symm
  · rw [if_neg (by omega), if_pos (by omega)]
    refine ⟨fun x y h1 h2 h3 => ?_, fun z => ?_⟩
    · cases h2
      exact absurd (show (2 : Nat) = 1 from h3) (by omega)
    · rw [F.2 z] at hx; cases hx
theorem calls_snoc {l : Mad} {s c : Nat} (h : Calls l) (hc : c ≤ 37) : Calls (l ++ [(s, c)]) := all_snoc h hc
/-! ### the ways by the next call -/
abbrev Wc (d : Nat) (l : Mad) (c : Nat) : Nat := ways d (l ++ [(turn d l, c)])
def Sc (d : Nat) (l : Mad) : Nat → Nat
  | 0 => 0
  | c + 1 => Sc d l c + (if legal l (turn d l) c = true then Wc d l c else 0)
def lbN (l : Mad) : Nat := match lbm l with
  | none => 0
  | some x => x.2 - 2
theorem lbN_I (l : Mad) : (lbN l : Int) = lbI l + 1 := by
  unfold lbN
  cases e : lbm l with
  | none => rw [lbI_none e]; rfl
  | some x =>
    have := lbm_ge e
    rw [lbI_some e]
    show ((x.2 - 2 : Nat) : Int) = _
    omega
theorem lbN_le {l : Mad} (h : Calls l) : lbN l ≤ 35 := by
  unfold lbN
  cases e : lbm l with
  | none => exact Nat.zero_le _
  | some x =>
    have h37 : x.2 ≤ 37 := h x (List.mem_reverse.mp (List.mem_of_find?_eq_some e))
    show x.2 - 2 ≤ 35
    omega
theorem legal_bid {l : Mad} {s b : Nat} (ho : over l = false) (hb : b ≤ 34) : legal l s (b + 3) = decide (lbN l ≤ b) := by
  unfold Vbbrac.legal Vbbrac.enough
  rw [ho, if_neg (by omega), if_neg (by omega), if_neg (by omega), decide_eq_true (show b + 3 ≤ 37 by omega)]
  unfold lbN
  cases e : lbm l with
  | none => rw [lb_none e]; simp
  | some x =>
    have := lbm_ge e
    rw [lb_some e]
    show (!false && (true && decide (x.2 - 3 < b + 3 - 3))) = decide (x.2 - 2 ≤ b)
    simp only [Bool.not_false, Bool.true_and]
    rw [decide_eq_decide]; omega
theorem over_bid (l : Mad) (s b : Nat) : over (l ++ [(s, b + 3)]) = false := by
  rw [over_is, passes_snoc, if_neg (show ¬ b + 3 = 0 by omega)]
  exact decide_eq_false (by split <;> omega)
theorem ways_bid {d : Nat} {l : Mad} (F : Fine l) {b : Nat} (hb : b ≤ 34) : Wc d l (b + 3) + behind (34 - b) = behind (35 - b) := by
  have F2 : Fine (l ++ [(turn d l, b + 3)]) := fine_snoc F (.inr (.inl (by omega)))
  have e : lbm (l ++ [(turn d l, b + 3)]) = some (turn d l, b + 3) := by rw [lbm_snoc, if_pos (by omega)]
  show ways d (l ++ [(turn d l, b + 3)]) + _ = _
  rw [ways_some d F2.1 (over_bid _ _ _) e, turn_snoc, dbl_snoc, passes_snoc]
  rw [if_neg (by omega), if_neg (by omega), if_neg (by omega), if_neg (by omega)]
  have hf : faces (l ++ [(turn d l, b + 3)]) ((turn d l + 1) % 4) = true := by
    unfold faces
    rw [lw_snoc, if_pos (by omega)]
    show (!decide (turn d l % 2 = (turn d l + 1) % 4 % 2)) = true
    rw [decide_eq_false (by omega)]; rfl
  rw [hf, wbS_first]
  show 7 + 21 * behind (34 - (b + 3 - 3)) + _ = _
  rw [show b + 3 - 3 = b by omega, show 35 - b = (34 - b) + 1 by omega]
  show _ = 22 * behind (34 - b) + 7
  omega
theorem Sc_bids {d : Nat} {l : Mad} (F : Fine l) (hc : Calls l) (ho : over l = false) : ∀ n : Nat, n ≤ 35 → Sc d l (n + 3) + behind (35 - max n (lbN l)) = Sc d l 3 + behind (35 - lbN l)
  | 0, _ => by rw [Nat.zero_add, Nat.zero_max]
  | n + 1, hn => by
    have ih := Sc_bids (d := d) F hc ho n (by omega)
    show Sc d l (n + 3) + (if legal l (turn d l) (n + 3) = true then Wc d l (n + 3) else 0) + _ = _
    rw [legal_bid ho (by omega)]
    have hw := ways_bid (d := d) F (b := n) (by omega)
    by_cases h : lbN l ≤ n
    · rw [if_pos (decide_eq_true h)]
      rw [Nat.max_eq_left h] at ih
      rw [Nat.max_eq_left (by omega), show 35 - (n + 1) = 34 - n by omega]
      omega
    · rw [if_neg (by rw [decide_eq_false h]; exact Bool.false_ne_true)]
      rw [Nat.max_eq_right (by omega)] at ih ⊢
      omega
/-- ahead of a legal bid -/
theorem Sc_bid {d : Nat} {l : Mad} (F : Fine l) (hc : Calls l) {c : Nat} (h3 : 3 ≤ c) (h37 : c ≤ 37) (h : legal l (turn d l) c = true) : Sc d l c + behind (35 - (c - 3)) = Sc d l 3 + behind (35 - lbN l) := by
  have ho := legal_not_over h
  obtain ⟨b, rfl⟩ : ∃ b, c = b + 3 := ⟨c - 3, by omega⟩
  rw [legal_bid ho (by omega)] at h
  have := Sc_bids (d := d) F hc ho b (by omega)
  rw [Nat.max_eq_left (of_decide_eq_true h)] at this
  exact this
theorem Sc_mono {d : Nat} {l : Mad} {a : Nat} : ∀ {b : Nat}, a ≤ b → Sc d l a ≤ Sc d l b
  | 0, h => by rw [Nat.le_zero.mp h]; exact Nat.le_refl _
  | b + 1, h => by
    rcases Nat.lt_or_ge a (b + 1) with h1 | h1
    · exact Nat.le_trans (Sc_mono (Nat.le_of_lt_succ h1)) (Nat.le_add_right _ _)
    · rw [Nat.le_antisymm h h1]; exact Nat.le_refl _
theorem legal_pass {l : Mad} {s : Nat} (ho : over l = false) : legal l s 0 = true := by
  unfold Vbbrac.legal; rw [ho]; rfl
theorem Sc_three (d : Nat) (l : Mad) (ho : over l = false) : Sc d l 3 = Wc d l 0 + (if legal l (turn d l) 1 = true then Wc d l 1 else 0) + (if legal l (turn d l) 2 = true then Wc d l 2 else 0) := by
  show 0 + (if legal l (turn d l) 0 = true then Wc d l 0 else 0) + _ + _ = _
  rw [legal_pass ho, if_pos rfl, Nat.zero_add]
theorem over_pass (l : Mad) (s : Nat) : over (l ++ [(s, 0)]) = decide ((if lbm l = none then 4 else 3) ≤ passes l + 1) := by
  rw [over_is, passes_snoc, if_pos (show (0 : Nat) = 0 from rfl), lbm_snoc, if_neg (show ¬ 3 ≤ 0 by omega)]
theorem over_dbl (l : Mad) (s : Nat) {c : Nat} (hc : c = 1 ∨ c = 2) : over (l ++ [(s, c)]) = false := by
  rw [over_is, passes_snoc, if_neg (show ¬ c = 0 by omega)]
  exact decide_eq_false (by split <;> omega)
theorem faces_snoc {l : Mad} {s c : Nat} (hc : c ≠ 0) : faces (l ++ [(s, c)]) ((s + 1) % 4) = true := by
  unfold faces
  rw [lw_snoc, if_pos (by omega)]
  show (!decide (s % 2 = (s + 1) % 4 % 2)) = true
  rw [decide_eq_false (by omega)]; rfl
theorem legal_lw1 {l : Mad} {s : Nat} (ho : over l = false) {x : Nat × Nat} (h : lastWord l = some x) : legal l s 1 = (decide (3 ≤ x.2) && !decide (x.1 % 2 = s % 2)) ∧ legal l s 2 = (decide (x.2 = 1) && !decide (x.1 % 2 = s % 2)) := by
  unfold Vbbrac.legal
  rw [ho]
  constructor
  · show Vbbrac.mayDouble l s = _
    unfold Vbbrac.mayDouble Vbbrac.sameSide
    rw [h]
    show (decide (3 ≤ x.2) && !(x.1 % 2 == s % 2)) = _
    rw [Bool.beq_eq_decide_eq]
  · show Vbbrac.mayRedouble l s = _
    unfold Vbbrac.mayRedouble Vbbrac.sameSide
    rw [h]
    show (x.2 == 1 && !(x.1 % 2 == s % 2)) = _
    rw [Bool.beq_eq_decide_eq, Bool.beq_eq_decide_eq]
/-- all ways together -/
theorem Sc_all {d : Nat} {l : Mad} (F : Fine l) (hc : Calls l) (ho : over l = false) : Sc d l 38 = ways d l := by
  have h := Sc_bids (d := d) F hc ho 35 (Nat.le_refl _)
  rw [Nat.max_eq_left (lbN_le hc)] at h
  have h : Sc d l 38 + 0 = Sc d l 3 + behind (35 - lbN l) := h
  rw [Nat.add_zero, Sc_three d l ho] at h
  rw [h]
  have hp := not_over_passes ho
  cases e : lbm l with
  | none =>
    have e1 : legal l (turn d l) 1 = false := by
      cases q : legal l (turn d l) 1 with
      | false => rfl
      | true => obtain ⟨x, hx, _⟩ := legal_one q; rw [F.2 e] at hx; cases hx
    have e2 : legal l (turn d l) 2 = false := by
      cases q : legal l (turn d l) 2 with
      | false => rfl
      | true => obtain ⟨x, hx, _⟩ := legal_two q; rw [F.2 e] at hx; cases hx
    rw [e1, e2, if_neg Bool.false_ne_true, if_neg Bool.false_ne_true, ways_none d ho e]
    have hl : lbN l = 0 := by unfold lbN; rw [e]
    rw [hl]
    show ways d (l ++ [(turn d l, 0)]) + 0 + 0 + behind 35 = _
    have hop := over_pass l (turn d l)
    rw [if_pos e] at hop
    by_cases h3 : passes l = 3
    · rw [ways_over d (by rw [hop, h3]; rfl), h3]
      omega
    · rw [ways_none d (by rw [hop]; exact decide_eq_false (by omega)) (by rw [lbm_snoc, if_neg (by omega)]; exact e), passes_snoc, if_pos rfl]
      have : 4 - passes l = (4 - (passes l + 1)) + 1 := by omega
      rw [this, Nat.add_mul]
      omega
  | some x =>
    obtain ⟨y, hy, h3⟩ := lw_of_lbm e
    have hx3 := lbm_ge e
    have hx37 : x.2 ≤ 37 := hc x (List.mem_reverse.mp (List.mem_of_find?_eq_some e))
    have hpp := hp.2 (by rw [e]; exact Option.some_ne_none x)
    have hl : 35 - lbN l = 34 - (x.2 - 3) := by
      unfold lbN; rw [e]; show 35 - (x.2 - 2) = _; omega
    rw [hl, ways_some d F.1 ho e, wbS_rec _ _ _ _ (dbl_le l) hpp]
    generalize hh : behind (34 - (x.2 - 3)) = h0
    have hop := over_pass l (turn d l)
    rw [if_neg (by rw [e]; exact Option.some_ne_none x)] at hop
    have F0 : Fine (l ++ [(turn d l, 0)]) := fine_snoc F (.inl rfl)
    have hfl : faces l ((turn d l + 1) % 4) = !faces l (turn d l) := by
      unfold faces
      rw [hy]
      show (!decide (y.1 % 2 = (turn d l + 1) % 4 % 2)) = !(!decide (y.1 % 2 = turn d l % 2))
      rw [Bool.not_not, ← decide_not, decide_eq_decide]; omega
    have wp : Wc d l 0 = if passes l = 2 then 1 else wbS h0 (doubled l) (passes l + 1) (!faces l (turn d l)) := by
      show ways d (l ++ [(turn d l, 0)]) = _
      by_cases h2 : passes l = 2
      · rw [ways_over d (by rw [hop, h2]; rfl), if_pos h2]
      · rw [ways_some d F0.1 (x := x) (by rw [hop]; exact decide_eq_false (by omega)) (by rw [lbm_snoc, if_neg (by omega)]; exact e), if_neg h2, turn_snoc, dbl_snoc, passes_snoc, if_pos rfl, if_pos rfl, hh]
        have : faces (l ++ [(turn d l, 0)]) ((turn d l + 1) % 4) = faces l ((turn d l + 1) % 4) := by
          unfold faces; rw [lw_snoc, if_neg (by omega)]
        rw [this, hfl]
    rw [wp]
    have hf : faces l (turn d l) = !decide (y.1 % 2 = turn d l % 2) := by unfold faces; rw [hy]
    obtain ⟨l1, l2⟩ := legal_lw1 (s := turn d l) ho hy
    have hd := dbl_some hy
    have hy1 : 1 ≤ y.2 := of_decide_eq_true (List.find?_some (p := fun y : Nat × Nat => decide (1 ≤ y.2)) hy)
    have wd : ∀ c, c = 1 ∨ c = 2 → legal l (turn d l) c = true → Wc d l c = wbS h0 c 0 true := by
      intro c hc12 hleg
      have F1 := fine_snoc F (put_legal hleg)
      show ways d (l ++ [(turn d l, c)]) = _
      rw [ways_some d F1.1 (x := x) (over_dbl _ _ hc12) (by rw [lbm_snoc, if_neg (by omega)]; exact e), turn_snoc, passes_snoc, if_neg (by omega), dbl_snoc, if_neg (by omega), faces_snoc (by omega), hh]
      rcases hc12 with rfl | rfl <;> rfl
    rw [l1, l2, hf]
    by_cases hs : y.1 % 2 = turn d l % 2
    · simp only [hs, decide_true, Bool.not_true, Bool.and_false, Bool.false_eq_true, if_false, false_and]
      omega
    · by_cases hy3 : 3 ≤ y.2
      · have w1 := wd 1 (.inl rfl) (by rw [l1]; simp [hy3, hs])
        have hdd : doubled l = 0 := by rw [hd, if_neg (by omega), if_neg (by omega)]
        have hy11 : ¬ y.2 = 1 := by omega
        simp only [hdd, hy3, hs, hy11, w1, decide_true, decide_false, Bool.not_false, Bool.and_true, Bool.and_self, if_true, if_false, Bool.false_eq_true, Bool.false_and, true_and, show (0 : Nat) < 2 by omega, Nat.zero_add]
        omega
      · by_cases hy11 : y.2 = 1
        · have w2 := wd 2 (.inr rfl) (by rw [l2]; simp [hy11, hs])
          have hdd : doubled l = 1 := by rw [hd, if_pos hy11]
          simp only [hdd, hy3, hs, hy11, w2, decide_true, decide_false, Bool.not_false, Bool.and_true, Bool.and_self, if_true, if_false, Bool.false_eq_true, Bool.false_and, true_and, show (1 : Nat) < 2 by omega, show ¬ (3 : Nat) ≤ 1 by omega, show (1 : Nat) + 1 = 2 by omega]
          omega
        · have hdd : doubled l = 2 := by rw [hd, if_neg hy11, if_pos (by omega)]
          simp only [hdd, hy3, hs, hy11, decide_true, decide_false, Bool.not_false, Bool.and_true, Bool.and_self, if_true, if_false, Bool.false_eq_true, Bool.false_and, true_and, show ¬ (2 : Nat) < 2 by omega]
          omega
end Bb
namespace Bb
open Vbbrac (behind turn legal legals over passes lastWord doubled ways lastBid rankFrom pick nth)
theorem foldl_plus : ∀ (l : List Nat) (a : Nat), l.foldl (fun a b => a + b) a = a + l.foldl (fun a b => a + b) 0
  | [], a => rfl
  | x :: r, a => by
    rw [List.foldl_cons, List.foldl_cons, foldl_plus r (a + x), foldl_plus r (0 + x)]; omega
def tot (f : Nat → Nat) (cs : List Nat) : Nat := (cs.map f).foldl (fun a b => a + b) 0
theorem tot_nil (f : Nat → Nat) : tot f [] = 0 := rfl
theorem tot_cons (f : Nat → Nat) (c : Nat) (r : List Nat) : tot f (c :: r) = f c + tot f r := by
  unfold tot
  rw [List.map_cons, List.foldl_cons, foldl_plus]; omega
theorem tot_app (f : Nat → Nat) : ∀ a b : List Nat, tot f (a ++ b) = tot f a + tot f b
  | [], b => by rw [List.nil_append, tot_nil, Nat.zero_add]
  | x :: r, b => by rw [List.cons_append, tot_cons, tot_cons, tot_app f r b]; omega
theorem filter_lt (p : Nat → Bool) (c : Nat) : ∀ k : Nat, ((List.range (c + k)).filter p).filter (fun x => decide (x < c)) = (List.range c).filter p
  | 0 => by
    rw [Nat.add_zero]
    refine List.filter_eq_self.mpr fun x hx => ?_
    exact decide_eq_true (List.mem_range.mp (List.mem_filter.mp hx).1)
  | k + 1 => by
    rw [← Nat.add_assoc, List.range_succ, List.filter_append, List.filter_append, filter_lt p c k]
    have : (List.filter p [c + k]).filter (fun x => decide (x < c)) = [] := by
      rw [List.filter_eq_nil_iff]
      intro x hx
      have := List.mem_singleton.mp (List.mem_filter.mp hx).1
      simp; omega
    rw [this, List.append_nil]
theorem tot_Sc (d : Nat) (l : Mad) : ∀ c : Nat, tot (Wc d l) ((List.range c).filter fun x => legal l (turn d l) x) = Sc d l c
  | 0 => rfl
  | c + 1 => by
    rw [List.range_succ, List.filter_append, tot_app, tot_Sc d l c]
    show _ = Sc d l c + (if legal l (turn d l) c = true then Wc d l c else 0)
    cases h : legal l (turn d l) c with
    | true =>
      rw [List.filter_cons, if_pos h, if_pos rfl, tot_cons]
      show _ + (_ + tot _ []) = _
      rw [tot_nil]; rfl
    | false =>
      rw [List.filter_cons, if_neg (by rw [h]; exact Bool.false_ne_true), if_neg Bool.false_ne_true]
      rfl
theorem rank_cons {d : Nat} {l : Mad} {c : Nat} {r : List Nat} (h : c ≤ 38) : rankFrom d l (c :: r) = Sc d l c + rankFrom d (l ++ [(turn d l, c)]) r := by
  show tot (Wc d l) ((legals l (turn d l)).filter fun x => decide (x < c)) + _ = _
  have e : (legals l (turn d l)).filter (fun x => decide (x < c)) = (List.range c).filter fun x => legal l (turn d l) x := by
    unfold Vbbrac.legals
    have := filter_lt (fun x => legal l (turn d l) x) c (38 - c)
    rw [show c + (38 - c) = 38 by omega] at this
    exact this
  rw [e, tot_Sc]
/-! ### the call at a number -/
def Pk (d : Nat) (l : Mad) (n c : Nat) : Prop := legal l (turn d l) c = true ∧ c ≤ 37 ∧ Sc d l c ≤ n ∧ n < Sc d l (c + 1)
theorem Pk.one {d : Nat} {l : Mad} {n c c' : Nat} (h : Pk d l n c) (h' : Pk d l n c') : c = c' := by
  rcases Nat.lt_trichotomy c c' with g | g | g
  · have := Sc_mono (d := d) (l := l) (show c + 1 ≤ c' from g)
    have := h.2.2.2; have := h'.2.2.1; omega
  · exact g
  · have := Sc_mono (d := d) (l := l) (show c' + 1 ≤ c from g)
    have := h'.2.2.2; have := h.2.2.1; omega
theorem pick_split (d : Nat) (l : Mad) (s : Nat) (hs : s = turn d l) : ∀ (cs : List Nat) (n : Nat), n < tot (Wc d l) cs → ∃ pre c post, cs = pre ++ c :: post ∧ pick d l s cs n = some (c, n - tot (Wc d l) pre) ∧ tot (Wc d l) pre ≤ n ∧ n < tot (Wc d l) pre + Wc d l c
  | [], n, h => absurd h (Nat.not_lt_zero _)
  | c :: r, n, h => by
    rw [tot_cons] at h
    subst hs
    by_cases hc : n < Wc d l c
    · refine ⟨[], c, r, rfl, ?_, Nat.zero_le _, by rw [tot_nil]; omega⟩
      show (if n < ways d (l ++ [(turn d l, c)]) then some (c, n) else _) = _
      rw [if_pos hc]; rfl
    · obtain ⟨pre, c', post, h1, h2, h3, h4⟩ := pick_split d l _ rfl r (n - Wc d l c) (by omega)
      refine ⟨c :: pre, c', post, by rw [h1]; rfl, ?_, by rw [tot_cons]; omega, by rw [tot_cons]; omega⟩
      show (if n < ways d (l ++ [(turn d l, c)]) then some (c, n) else pick d l (turn d l) r (n - ways d (l ++ [(turn d l, c)]))) = _
      rw [if_neg hc, tot_cons]
      rw [show n - ways d (l ++ [(turn d l, c)]) = n - Wc d l c from rfl, h2, show n - Wc d l c - tot (Wc d l) pre = n - (Wc d l c + tot (Wc d l) pre) by omega]
theorem pick_is {d : Nat} {l : Mad} {n c : Nat} (h : Pk d l n c) : pick d l (turn d l) (legals l (turn d l)) n = some (c, n - Sc d l c) := by
  have ht : tot (Wc d l) (legals l (turn d l)) = Sc d l 38 := tot_Sc d l 38
  have hn : n < tot (Wc d l) (legals l (turn d l)) := by
    rw [ht]
    exact Nat.lt_of_lt_of_le h.2.2.2 (Sc_mono (by have := h.2.1; omega))
  obtain ⟨pre, c', post, h1, h2, h3, h4⟩ := pick_split d l _ rfl _ n hn
  have hm : c' ∈ legals l (turn d l) := by rw [h1]; exact List.mem_append_right _ List.mem_cons_self
  have hm := List.mem_filter.mp hm
  have hsort : (legals l (turn d l)).Pairwise (· < ·) := List.Pairwise.filter _ List.pairwise_lt_range
  have hpre : pre = (List.range c').filter fun x => legal l (turn d l) x := by
    have e : (legals l (turn d l)).filter (fun x => decide (x < c')) = (List.range c').filter fun x => legal l (turn d l) x := by
      have := filter_lt (fun x => legal l (turn d l) x) c' (38 - c')
      rw [show c' + (38 - c') = 38 by have := List.mem_range.mp hm.1; omega] at this
      exact this
    rw [← e, h1, List.filter_append, List.filter_cons, if_neg (by simp)]
    rw [h1, List.pairwise_append] at hsort
    have a1 : pre.filter (fun x => decide (x < c')) = pre := List.filter_eq_self.mpr fun x hx => decide_eq_true (hsort.2.2 x hx c' List.mem_cons_self)
    have a2 : post.filter (fun x => decide (x < c')) = [] := by
      rw [List.filter_eq_nil_iff]
      intro x hx
      have := (List.pairwise_cons.mp hsort.2.1).1 x hx
      simp; omega
    rw [a1, a2, List.append_nil]
  have hp : tot (Wc d l) pre = Sc d l c' := by rw [hpre, tot_Sc]
  rw [hp] at h2 h3 h4
  have : Pk d l n c' := ⟨hm.2, by have := List.mem_range.mp hm.1; omega, h3, by
    show n < Sc d l c' + (if legal l (turn d l) c' = true then Wc d l c' else 0)
    rw [if_pos hm.2]; exact h4⟩
  rw [h.one this]
  exact h2
theorem nth_step {d k n c : Nat} {l : Mad} (h : Pk d l n c) : nth d (k + 1) l n = nth d k (l ++ [(turn d l, c)]) (n - Sc d l c) := by
  show (if over l = true then l else match pick d l (turn d l) (legals l (turn d l)) n with
    | none => l
    | some x => nth d k (l ++ [(turn d l, x.1)]) x.2) = _
  rw [if_neg (by rw [legal_not_over h.1]; exact Bool.false_ne_true), pick_is h]
theorem nth_over {d k n : Nat} {l : Mad} (h : over l = true) : nth d k l n = l := by
  cases k with
  | zero => rfl
  | succ k =>
    show (if over l = true then l else _) = _
    rw [if_pos h]
theorem pk_ways {d : Nat} {l : Mad} {n c : Nat} (h : Pk d l n c) : n - Sc d l c < ways d (l ++ [(turn d l, c)]) := by
  have h4 := h.2.2.2
  have h4 : n < Sc d l c + (if legal l (turn d l) c = true then Wc d l c else 0) := h4
  rw [if_pos h.1] at h4
  have := h.2.2.1
  show _ < Wc d l c
  omega
theorem Sc_const {d : Nat} {l : Mad} {a : Nat} : ∀ {b : Nat}, a ≤ b → (∀ c, a ≤ c → c < b → legal l (turn d l) c = false) → Sc d l b = Sc d l a
  | 0, h, _ => by rw [Nat.le_zero.mp h]
  | b + 1, h, hh => by
    rcases Nat.lt_or_ge a (b + 1) with h1 | h1
    · show Sc d l b + (if legal l (turn d l) b = true then Wc d l b else 0) = _
      rw [hh b (by omega) (by omega), if_neg Bool.false_ne_true, Nat.add_zero]
      exact Sc_const (by omega) fun c h2 h3 => hh c h2 (by omega)
    · rw [Nat.le_antisymm h h1]
/-! ### how long an auction may be -/
def Phi (l : Mad) : Nat := match lbm l with
  | none => (4 - passes l) + 315
  | some x => (3 - passes l) + 3 * (2 - doubled l) + 9 * (37 - x.2)
theorem phi_step {d : Nat} {l : Mad} {c : Nat} (F : Fine l) (h37 : c ≤ 37) (h : legal l (turn d l) c = true) : Phi (l ++ [(turn d l, c)]) + 1 ≤ Phi l := by
  have ho := legal_not_over h
  have hp := not_over_passes ho
  unfold Phi
  rw [lbm_snoc, dbl_snoc, passes_snoc]
  rcases put_legal h with rfl | h3 | ⟨rfl, y, hy, h3, _⟩ | ⟨rfl, y, hy, h1, _⟩
  · rw [if_neg (by omega), if_pos rfl, if_pos rfl]
    cases e : lbm l with
    | none =>
      show 4 - (passes l + 1) + 315 + 1 ≤ 4 - passes l + 315
      omega
    | some x =>
      have := hp.2 (by rw [e]; exact Option.some_ne_none x)
      show 3 - (passes l + 1) + 3 * (2 - doubled l) + 9 * (37 - x.2) + 1 ≤ 3 - passes l + 3 * (2 - doubled l) + 9 * (37 - x.2)
      omega
  · rw [if_pos h3, if_neg (by omega), if_neg (by omega), if_neg (by omega), if_neg (by omega)]
    show 3 - 0 + 3 * (2 - 0) + 9 * (37 - c) + 1 ≤ _
    obtain ⟨b, rfl⟩ : ∃ b, c = b + 3 := ⟨c - 3, by omega⟩
    rw [legal_bid ho (by omega)] at h
    have hb := of_decide_eq_true h
    unfold lbN at hb
    cases e : lbm l with
    | none =>
      show _ ≤ 4 - passes l + 315
      omega
    | some x =>
      rw [e] at hb
      have hb : x.2 - 2 ≤ b := hb
      have := hp.2 (by rw [e]; exact Option.some_ne_none x)
      have := lbm_ge e
      show _ ≤ 3 - passes l + 3 * (2 - doubled l) + 9 * (37 - x.2)
      omega
  · have e := lbm_of_lw hy h3
    have := hp.2 (by rw [e]; exact Option.some_ne_none y)
    have hd : doubled l = 0 := by rw [dbl_some hy, if_neg (by omega), if_neg (by omega)]
    rw [if_neg (by omega), e, hd]
    show 3 - 0 + 3 * (2 - 1) + 9 * (37 - y.2) + 1 ≤ 3 - passes l + 3 * (2 - 0) + 9 * (37 - y.2)
    omega
  · cases e : lbm l with
    | none => rw [F.2 e] at hy; cases hy
    | some x =>
      have := hp.2 (by rw [e]; exact Option.some_ne_none x)
      have hd : doubled l = 1 := by rw [dbl_some hy, if_pos h1]
      rw [if_neg (by omega), hd]
      show 3 - 0 + 3 * (2 - 2) + 9 * (37 - x.2) + 1 ≤ 3 - passes l + 3 * (2 - 1) + 9 * (37 - x.2)
      omega
theorem phi_pos {l : Mad} (h : over l = false) : 1 ≤ Phi l := by
  have hp := not_over_passes h
  unfold Phi
  cases e : lbm l with
  | none => show 1 ≤ 4 - passes l + 315; omega
  | some x =>
    have := hp.2 (by rw [e]; exact Option.some_ne_none x)
    show 1 ≤ 3 - passes l + 3 * (2 - doubled l) + 9 * (37 - x.2)
    omega
theorem phi_nil : Phi [] = 319 := rfl
/-- turn by turn, behind pre -/
def TurnBy (d : Nat) : Mad → Mad → Bool
  | _, [] => true
  | pre, x :: r => decide (x.1 = turn d pre) && (legal pre x.1 x.2 && TurnBy d (pre ++ [x]) r)
end Bb
namespace Bb
open PySem PySem.Spec PyProof.Rows L2 Evl
open PySem.W (Codec)
open Vbbrac (behind)
def spWaysWith (K : PySem.W.Frag) (C : Addr) : Sp := fun vs H Q _ => ∃ a m d l c b, vs = [.ref a, iV c, .ref b] ∧ AucM C H a m d l ∧ l.length < 1000 ∧ Calls l ∧ Fine l ∧ c ≤ 37 ∧ Vbbrac.legal l (Vbbrac.turn d l) c = true ∧ SqL K H b (aboveL.map iV) ∧ RetV (iV (Wc d l c)) H Q
def spWaysBefore (K : PySem.W.Frag) (C : Addr) : Sp := fun vs H Q _ => ∃ a m d l c b, vs = [.ref a, iV c, .ref b] ∧ AucM C H a m d l ∧ l.length < 1000 ∧ Calls l ∧ Fine l ∧ c ≤ 37 ∧ Vbbrac.legal l (Vbbrac.turn d l) c = true ∧ SqL K H b (aboveL.map iV) ∧ RetV (iV (Sc d l c)) H Q
def numI (d : Nat) (l : Mad) : Option Nat := if TurnBy d [] l = true then some (Vbbrac.rankFrom d [] (l.map fun x => x.2)) else none
def spNumberOf (C : Addr) : Sp := fun vs H Q _ => ∃ a m d l, vs = [.ref a] ∧ AucM C H a m d l ∧ l.length < 1000 ∧ Calls l ∧ RetV (optN (numI d l)) H Q
def spCallAt (K : PySem.W.Frag) (C : Addr) : Sp := fun vs H Q _ => ∃ a m d l n b, vs = [.ref a, iV n, .ref b] ∧ AucM C H a m d l ∧ l.length < 1000 ∧ Calls l ∧ Fine l ∧ Vbbrac.over l = false ∧ n < Vbbrac.ways d l ∧ SqL K H b (aboveL.map iV) ∧ RetP (fun v _ => ∃ c, v = iV c ∧ Pk d l n c) H Q
def NthP (C : Addr) (H0 : Hp) (d n : Nat) (v : V) (H : Hp) : Prop := if Vbbrac.BIGGEST ≤ n then v = .non else NewA C H0 d (Vbbrac.nth d 320 [] n) v H
def spAucWith (C : Addr) : Sp := fun vs H Q _ => ∃ d n, vs = [iV d, iV n] ∧ RetP (NthP C H d n) H Q
section
variable {P : Program} {w : World} {K : PySem.W.Frag} {mg : Str → Option Value} {base : Heap} {fa : Nat → Addr} {fd : Nat → FuncData} {CA CW CP CS aN aR aA aW aO : Addr}
section
variable {σ : L2.St} {H : Hp} {ta tb tc : TE} {E : XK} {a m b : Addr} {d : Nat} {l : Mad} {c n : Nat}
theorem ev_waysWith (h1 : Ev ta σ H (.ref a)) (h2 : Ev tb σ H (iV c)) (h3 : Ev tc σ H (.ref b)) (hA : AucM CA H a m d l) (hl : l.length < 1000) (hc : Calls l) (hf : Fine l) (h37 : c ≤ 37) (hleg : Vbbrac.legal l (Vbbrac.turn d l) c = true) (hb : SqL K H b (aboveL.map iV)) : Ev (tCall (spWaysWith K CA) [] E (tCons ta (tCons tb (tCons tc tNil)))) σ H (iV (Wc d l c)) :=
  ev_call (ea_cons h1 (ea_cons h2 (ea_cons h3 ea_nil))) fun H1 e Q q E => ⟨a, m, d, l, c, b, rfl, hA.mono e, hl, hc, hf, h37, hleg, ex_l e hb, q⟩
theorem ev_waysBefore (h1 : Ev ta σ H (.ref a)) (h2 : Ev tb σ H (iV c)) (h3 : Ev tc σ H (.ref b)) (hA : AucM CA H a m d l) (hl : l.length < 1000) (hc : Calls l) (hf : Fine l) (h37 : c ≤ 37) (hleg : Vbbrac.legal l (Vbbrac.turn d l) c = true) (hb : SqL K H b (aboveL.map iV)) : Ev (tCall (spWaysBefore K CA) [] E (tCons ta (tCons tb (tCons tc tNil)))) σ H (iV (Sc d l c)) :=
  ev_call (ea_cons h1 (ea_cons h2 (ea_cons h3 ea_nil))) fun H1 e Q q E => ⟨a, m, d, l, c, b, rfl, hA.mono e, hl, hc, hf, h37, hleg, ex_l e hb, q⟩
theorem ev_numberOf (h1 : Ev ta σ H (.ref a)) (hA : AucM CA H a m d l) (hl : l.length < 1000) (hc : Calls l) : Ev (tCall (spNumberOf CA) [] E (tCons ta tNil)) σ H (optN (numI d l)) :=
  ev_call (ea_cons h1 ea_nil) fun H1 e Q q E => ⟨a, m, d, l, rfl, hA.mono e, hl, hc, q⟩
theorem evp_callAt (h1 : Ev ta σ H (.ref a)) (h2 : Ev tb σ H (iV n)) (h3 : Ev tc σ H (.ref b)) (hA : AucM CA H a m d l) (hl : l.length < 1000) (hc : Calls l) (hf : Fine l) (ho : Vbbrac.over l = false) (hn : n < Vbbrac.ways d l) (hb : SqL K H b (aboveL.map iV)) : EvP (tCall (spCallAt K CA) [] E (tCons ta (tCons tb (tCons tc tNil)))) σ H (fun v _ => ∃ c, v = iV c ∧ Pk d l n c) :=
  evp_call (ea_cons h1 (ea_cons h2 (ea_cons h3 ea_nil))) fun H1 e Q q E => ⟨a, m, d, l, n, b, rfl, hA.mono e, hl, hc, hf, ho, hn, ex_l e hb, q⟩
theorem evp_aucWith (h1 : Ev ta σ H (iV d)) (h2 : Ev tb σ H (iV n)) : EvP (tCall (spAucWith CA) [] E (tCons ta (tCons tb tNil))) σ H (NthP CA H d n) :=
  evp_call (ea_cons h1 (ea_cons h2 ea_nil)) fun H1 e Q q E => ⟨d, n, rfl, fun v H2 e2 p => q v H2 e2 (by
    unfold NthP at p ⊢
    split at p
    · rw [if_pos (by assumption)]; exact p
    · rw [if_neg (by assumption)]; exact p.back e)⟩
theorem q_forNT {g : TG} {tu tz : TS} {D : Ends} {tl : TE} {xs : List V} (h : EvU tl σ H xs) (Pv : Addr → Nat → L2.St → Hp → Prop) (h0 : ∀ p H1, Ex H H1 → H1 p = some (.tup xs) → Pv p 0 σ H1) (hl : ∀ p i σ' H', i ≤ xs.length → Pv p i σ' H' → SqT K H' p xs)
    (hs : ∀ p i x σ' H', xs[i]? = some x → Pv p i σ' H' → g x σ' H' fun σ2 H2 => tu { D with nx := Pv p (i + 1), ct := Pv p (i + 1), bk := tz D } σ2 H2) (hd : ∀ p σ' H', Pv p xs.length σ' H' → tz D σ' H') : tSeq (tFor (iTup K tl) g tu) tz D σ H :=
  h H (Ex.refl H) _ fun p H1 hp e h1 => ⟨p, rfl, ⟨xs, st_of h1⟩, for_tup (D := { D with nx := tz D }) (Pv p) (h0 p H1 e h1) (hl p) (hs p) (hd p)⟩
/-- above[i] -/
theorem ev_aboveAt {ti : TE} {i : Nat} (hb : SqL K H b (aboveL.map iV)) (h1 : Ev ta σ H (.ref b)) (h2 : Ev ti σ H (iV i)) (hi : i ≤ 35) : Ev (tOp (rIxL K) ta ti) σ H (iV (behind (35 - i))) :=
  ev_op h1 h2 (rv_ixL hb (atI_n (by rw [List.getElem?_map, aboveL_get hi]; rfl)))
end
theorem ok_ways_with (T : Txt K mg fa fd CA CW CP CS aN aR aA aW aO) : FnOk P w K mg base CX0 11 (fa 23) (fd 23) P_ways_with (spWaysWith K CA) := by
  refine T.d_ways_with.F.ok sc_ways_with (fun vs H Q E h => ?_) (fun cdv A outer s H vs Q E hr h => ⟨_, (pss_cons (ps_set (i := 3) sc_ways_with.nd rfl (.inl rfl) (pe_meth0 (pv 0) T.cl_CA T.m_a_copied (ok_a_copied T) (hr.mono (by decide)) T.d_a_copied.b .nil pass0)) (pss_cons (ps_expr (pe_meth (pv 3) T.cl_CA T.m_a_make (ok_a_make T) (hr.mono (by decide)) T.d_a_make.b .nil pass0 (pa_cons (pe_meth0 (pv 0) T.cl_CA T.m_a_on_turn (ok_a_on_turn T) (hr.mono (by decide)) T.d_a_on_turn.b .nil pass0) (pa_cons (pv 1) pa_nil)))) (pss_one (ps_ret (pe_call (ok_ways_on T) (hr.mono (by decide)) rfl T.m_ways_on T.d_ways_on.F.kp T.d_ways_on.b .nil pass0 (pa_cons (pv 3) (pa_cons (pv 2) pa_nil))))))), ?_⟩)
  · obtain ⟨a, m, d, l, c, b, rfl, _⟩ := h; rfl
  · obtain ⟨a, m, d, l, c, b, rfl, hA, hl, hc, hf, h37, hleg, hb, k⟩ := h
    refine q_asgP (evp_copyA (ev_var rfl) hA) fun v H1 e1 hn => ?_
    obtain ⟨x, m2, rfl, hx, hm2, hA2⟩ := hn
    refine q_make (s := Vbbrac.turn d l) (c := c) (ev_var rfl) hA2 (by omega) (ev_auc (f := fun d l => iV (Vbbrac.turn d l)) (ev_var rfl) (hA.mono e1)) (ev_var rfl) fun H2 f hA3 => ?_
    have e2 : Ex H H2 := f.ex e1 fun b hb => by rw [hb]; exact hm2
    exact s_ret (ev_waysOn (ev_var rfl) (ev_var rfl) hA3 (calls_snoc hc h37) (fine_snoc hf (put_legal hleg)).1 (ex_l e2 hb)) fun H3 e3 => k H3 (e2.trans e3)
theorem ok_ways_before (T : Txt K mg fa fd CA CW CP CS aN aR aA aW aO) : FnOk P w K mg base CX0 12 (fa 24) (fd 24) P_ways_before (spWaysBefore K CA) := by
  refine T.d_ways_before.F.ok sc_ways_before (fun vs H Q E h => ?_) (fun cdv A outer s H vs Q E hr h => ⟨_, (pss_cons (ps_set (i := 3) sc_ways_before.nd rfl (.inl rfl) (pe_meth0 (pv 0) T.cl_CA T.m_a_on_turn (ok_a_on_turn T) (hr.mono (by decide)) T.d_a_on_turn.b .nil pass0)) (pss_cons (ps_set (i := 4) sc_ways_before.nd rfl (.inl rfl) pe_int) (pss_cons (ps_for PassesOwn.never rfl (pi_tup (pe_tup (pa_cons (pe_globI rfl T.g_PASS) (pa_cons (pe_globI rfl T.g_DOUBLE) (pa_cons (pe_globI rfl T.g_REDOUBLE) pa_nil))))) (pg_name (i := 5) sc_ways_before.nd rfl (.inl rfl)) (pss_one (ps_if (PW.pt (pw_and (pt_cmpR op_lt (pv 5) (pv 1) (nomark _)) (pw_and1 (pt_val (pe_meth (pv 0) T.cl_CA T.m_a_legal (ok_a_legal T) (hr.mono (by decide)) T.d_a_legal.b .nil pass0 (pa_cons (pv 3) (pa_cons (pv 5) pa_nil))))))) (pss_one (ps_aug (i := 4) sc_ways_before.nd rfl (.inl rfl) (pe_call (ok_ways_with T) (hr.mono (by decide)) rfl T.m_ways_with T.d_ways_with.F.kp T.d_ways_with.b .nil pass0 (pa_cons (pv 0) (pa_cons (pv 5) (pa_cons (pv 2) pa_nil)))) ip_add)) pss_nil))) (pss_cons (ps_if (pt_val (pe_call (ok_is_bid T) (hr.mono (by decide)) rfl T.m_is_bid T.d_is_bid.F.kp T.d_is_bid.b .nil pass0 (pa_cons (pv 1) pa_nil))) (pss_one (ps_aug (i := 4) sc_ways_before.nd rfl (.inl rfl) (pe_op op_sub (pe_ix ix_list (pv 2) (pe_op op_add (pe_meth0 (pv 0) T.cl_CA T.m_a_last_bid (ok_a_last_bid T) (hr.mono (by decide)) T.d_a_last_bid.b .nil pass0) pe_int) (fun _ _ => rfl)) (pe_ix ix_list (pv 2) (pe_op op_sub (pv 1) (pe_globI rfl T.g_FIRST_BID)) (fun _ _ => rfl))) ip_add)) pss_nil) (pss_one (ps_ret (pv 4))))))), ?_⟩)
  · obtain ⟨a, m, d, l, c, b, rfl, _⟩ := h; rfl
  · obtain ⟨a, m, d, l, c, b, rfl, hA, hl, hc, hf, h37, hleg, hb, k⟩ := h
    refine q_asg (ev_auc (f := fun d l => iV (Vbbrac.turn d l)) (ev_var rfl) hA) fun H1 e1 => ?_
    refine q_asg ev_c fun H2 e2 => ?_
    have e12 := e1.trans e2
    have ho := legal_not_over hleg
    refine q_forNT (xs := [iV 0, iV 1, iV 2]) (eu_tup (ea_cons ev_c (ea_cons ev_c (ea_cons ev_c ea_nil))) (by show 3 ≤ 100000; decide)) (fun p i σ' H' => Ex H H' ∧ H' p = some (.tup [iV 0, iV 1, iV 2]) ∧ ∃ u, σ' = [some (.ref a), some (iV c), some (.ref b), some (iV (Vbbrac.turn d l)), some (iV (Sc d l (min i c))), u]) (fun p H3 e3 h3 => ⟨e12.trans e3, h3, _, by rw [Nat.zero_min]; rfl⟩) (fun p i σ' H' _ q => st_of q.2.1) ?_ ?_
    · rintro p i x σ' H' hx ⟨e3, h3, u, rfl⟩
      have hi : i < 3 := (List.getElem?_eq_some_iff.mp hx).1
      have hxi : x = iV i := by
        rcases i with _ | _ | _ | i
        · exact (Option.some.inj hx).symm
        · exact (Option.some.inj hx).symm
        · exact (Option.some.inj hx).symm
        · omega
      subst hxi
      have hA3 := hA.mono e3
      refine s_when (b := decide (i < c) && Vbbrac.legal l (Vbbrac.turn d l) i) (et_and (fd_ltN (i := i) (j := c) (ev_var rfl) (ev_var rfl)) (fun _ => et_B (ev_legal (s := Vbbrac.turn d l) (c := i) (ev_var rfl) hA3 (ev_var rfl) (ev_var rfl) (by omega)))) (fun hb2 H4 e4 => ?_) (fun hb2 H4 e4 => ?_)
      · have hb3 : i < c ∧ Vbbrac.legal l (Vbbrac.turn d l) i = true := by simpa using hb2
        refine s_aug (f := fun i j => i + j) (a := ((Sc d l (min i c) : Nat) : Int)) rfl (ev_waysWith (c := i) (ev_var rfl) (ev_var rfl) (ev_var rfl) (hA3.mono e4) hl hc hf (by omega) hb3.2 (ex_l (e3.trans e4) hb)) fun H5 e5 => ⟨(e3.trans e4).trans e5, e5 _ _ (e4 _ _ h3), some (iV i), ?_⟩
        rw [Nat.min_eq_left (by omega), Nat.min_eq_left (by omega)]
        show _ = [_, _, _, _, some (iV (Sc d l i + (if Vbbrac.legal l (Vbbrac.turn d l) i = true then Wc d l i else 0))), _]
        rw [if_pos hb3.2, ← Int.natCast_add]
        rfl
      · refine ⟨e3.trans e4, e4 _ _ h3, some (iV i), ?_⟩
        have : Sc d l (min (i + 1) c) = Sc d l (min i c) := by
          by_cases hic : i < c
          · rw [Nat.min_eq_left (by omega), Nat.min_eq_left (by omega)]
            have : Vbbrac.legal l (Vbbrac.turn d l) i = false := by simpa [hic] using hb2
            show Sc d l i + (if Vbbrac.legal l (Vbbrac.turn d l) i = true then Wc d l i else 0) = _
            rw [this, if_neg Bool.false_ne_true, Nat.add_zero]
          · rw [Nat.min_eq_right (by omega), Nat.min_eq_right (by omega)]
        rw [this]
        rfl
    · rintro p σ' H' ⟨e3, h3, u, rfl⟩
      have hA3 := hA.mono e3
      have hb3 := ex_l e3 hb
      refine q_when (et_B (ev_isbid (c := c) (ev_var rfl))) (fun hb2 H4 e4 => ?_) (fun hb2 H4 e4 => ?_)
      · have h3c := of_decide_eq_true hb2
        have hlb := lbN_le hc
        have hS := Sc_bid (d := d) hf hc h3c h37 hleg
        refine s_aug (f := fun i j => i + j) (a := ((Sc d l (min 3 c) : Nat) : Int)) (b := (behind (35 - lbN l) : Int) - (behind (35 - (c - 3)) : Int)) rfl (ev_I (ev_aboveAt (i := lbN l) (ex_l e4 hb3) (ev_var rfl) (ev_I (ev_auc (f := fun _ l => .int (lbI l)) (ev_var rfl) (hA3.mono e4)) ev_c (congrArg V.int (lbN_I l).symm)) hlb) (ev_aboveAt (i := c - 3) (ex_l e4 hb3) (ev_var rfl) (ev_subN (j := 3) h3c (ev_var rfl) ev_c) (by omega)) rfl) fun H5 e5 => ?_
        show tRet (tVar 4) _ _ _
        refine s_ret (v := iV (Sc d l c)) (ev_is (ev_var rfl) (congrArg V.int ?_)) fun H6 e6 => k H6 (((e3.trans e4).trans e5).trans e6)
        rw [Nat.min_eq_left h3c]
        omega
      · have h3c := of_decide_eq_false hb2
        refine s_ret (v := iV (Sc d l c)) (ev_is (ev_var rfl) ?_) fun H6 e6 => k H6 ((e3.trans e4).trans e6)
        show iV (Sc d l (min 3 c)) = _
        rw [Nat.min_eq_right (by omega)]
theorem turnby_app (d : Nat) {pre : Mad} {x : Nat × Nat} (h : ∀ rest, TurnBy d [] (pre ++ rest) = TurnBy d pre rest) (h1 : x.1 = Vbbrac.turn d pre) (h2 : Vbbrac.legal pre x.1 x.2 = true) (rest : Mad) : TurnBy d [] (pre ++ [x] ++ rest) = TurnBy d (pre ++ [x]) rest := by
  rw [List.append_assoc, h]
  show (decide (x.1 = Vbbrac.turn d pre) && (Vbbrac.legal pre x.1 x.2 && TurnBy d (pre ++ [x]) rest)) = _
  rw [decide_eq_true h1, h2]; rfl
theorem ok_number_of (T : Txt K mg fa fd CA CW CP CS aN aR aA aW aO) : FnOk P w K mg base CX0 13 (fa 25) (fd 25) P_number_of (spNumberOf CA) := by
  refine T.d_number_of.F.ok sc_number_of (fun vs H Q E h => ?_) (fun cdv A outer s H vs Q E hr h => ⟨_, (pss_cons (ps_set (i := 1) sc_number_of.nd rfl (.inl rfl) (pe_call0 (ok_ways_above T) (hr.mono (by decide)) rfl T.m_ways_above T.d_ways_above.F.kp T.d_ways_above.b .nil pass0)) (pss_cons (ps_set (i := 2) sc_number_of.nd rfl (.inl rfl) (pe_make T.k_Auction (ok_a_init T) (hr.mono (by decide)) rfl T.c_Auction T.d_a_init.b .nil pass0 (pa_cons (pe_fld (pv 0) rfl) pa_nil))) (pss_cons (ps_set (i := 3) sc_number_of.nd rfl (.inl rfl) pe_int) (pss_cons (ps_for PassesOwn.never rfl (pi_list (pe_fld (pv 0) rfl)) (pg_tup (by rfl) (pgs_cons (pg_name (i := 4) sc_number_of.nd rfl (.inl rfl)) (pgs_cons (pg_name (i := 5) sc_number_of.nd rfl (.inl rfl)) pgs_nil))) (pss_cons (ps_if (PW.pt (pw_or (pt_cmpR op_ne (pv 4) (pe_meth0 (pv 2) T.cl_CA T.m_a_on_turn (ok_a_on_turn T) (hr.mono (by decide)) T.d_a_on_turn.b .nil pass0) (nomark _)) (pw_or1 (pt_not (pt_val (pe_meth (pv 2) T.cl_CA T.m_a_legal (ok_a_legal T) (hr.mono (by decide)) T.d_a_legal.b .nil pass0 (pa_cons (pv 4) (pa_cons (pv 5) pa_nil)))))))) (pss_one (ps_ret pe_non)) pss_nil) (pss_cons (ps_aug (i := 3) sc_number_of.nd rfl (.inl rfl) (pe_call (ok_ways_before T) (hr.mono (by decide)) rfl T.m_ways_before T.d_ways_before.F.kp T.d_ways_before.b .nil pass0 (pa_cons (pv 2) (pa_cons (pv 5) (pa_cons (pv 1) pa_nil)))) ip_add) (pss_one (ps_expr (pe_meth (pv 2) T.cl_CA T.m_a_make (ok_a_make T) (hr.mono (by decide)) T.d_a_make.b .nil pass0 (pa_cons (pv 4) (pa_cons (pv 5) pa_nil)))))))) (pss_one (ps_ret (pv 3))))))), ?_⟩)
  · obtain ⟨a, m, d, l, rfl, _⟩ := h; rfl
  · obtain ⟨a, m, d, l, rfl, hA, hl, hc, k⟩ := h
    refine q_asgL el_above fun b H1 hb0 e1 h1 => ?_
    refine q_asgP (evp_newA (ev_dealer T (ev_var rfl) (hA.mono e1))) fun v H2 e2 hn => ?_
    obtain ⟨x, m2, rfl, hx, hm2, hB⟩ := hn
    refine q_asg ev_c fun H3 e3 => ?_
    have hB3 := hB.mono e3
    refine q_forMade2 (H0 := H1) (e2.trans e3) (hA.mono e1) (ev_made T (ev_var rfl) (hA.mono ((e1.trans e2).trans e3))) (fun pre σ' H' => Ex H1 H' ∧ ∃ R u v, AucM CA H' x m2 d pre ∧ σ' = [some (.ref a), some (.ref b), some (.ref x), some (iV R), u, v] ∧ Fine pre ∧ Calls pre ∧ (∀ rest : Mad, Vbbrac.rankFrom d [] ((pre ++ rest).map fun x => x.2) = R + Vbbrac.rankFrom d pre (rest.map fun x => x.2)) ∧ (∀ rest, TurnBy d [] (pre ++ rest) = TurnBy d pre rest)) (fun H4 e4 => ⟨(e2.trans e3).trans e4, 0, none, none, hB3.mono e4, rfl, fine_nil, (fun _ h => by cases h), (fun rest => (Nat.zero_add _).symm), fun rest => rfl⟩) (fun _ _ _ p => p.1) ?_ ?_
    · rintro pre y post σ' H' hl2 ⟨e4, R, u, v, hB4, rfl, hf, hcp, hr4, ht⟩
      have hlen : pre.length < 1000 := by
        rw [hl2, List.length_append] at hl; omega
      have hy37 : y.2 ≤ 37 := hc y (by rw [hl2]; exact List.mem_append_right _ List.mem_cons_self)
      refine q_when (b := (!decide (y.1 = Vbbrac.turn d pre)) || !Vbbrac.legal pre y.1 y.2) (et_or (et_neN (i := y.1) (ev_var rfl) (ev_auc (f := fun d l => iV (Vbbrac.turn d l)) (ev_var rfl) hB4)) (fun _ => et_not (et_B (ev_legal (s := y.1) (c := y.2) (ev_var rfl) hB4 (ev_var rfl) (ev_var rfl) hy37)))) (fun hb H5 e5 => ?_) (fun hb H5 e5 => ?_)
      · refine s_ret (v := optN (numI d l)) (ev_is ev_c ?_) fun H6 e6 => k H6 (((e1.trans e4).trans e5).trans e6)
        have : TurnBy d [] l = false := by
          rw [hl2, ht]
          show (decide (y.1 = Vbbrac.turn d pre) && (Vbbrac.legal pre y.1 y.2 && _)) = false
          cases h1 : decide (y.1 = Vbbrac.turn d pre) with
          | false => rfl
          | true =>
            cases h2 : Vbbrac.legal pre y.1 y.2 with
            | false => rfl
            | true => rw [h1, h2] at hb; cases hb
        unfold numI
        rw [this, if_neg Bool.false_ne_true]; rfl
      · have h12 : y.1 = Vbbrac.turn d pre ∧ Vbbrac.legal pre y.1 y.2 = true := by simpa using hb
        have hleg : Vbbrac.legal pre (Vbbrac.turn d pre) y.2 = true := by rw [← h12.1]; exact h12.2
        have hB5 := hB4.mono e5
        refine q_aug (f := fun i j => i + j) (a := (R : Int)) rfl (ev_waysBefore (c := y.2) (ev_var rfl) (ev_var rfl) (ev_var rfl) hB5 hlen hcp hf hy37 hleg (sq_of (e5 _ _ (e4 _ _ h1)))) fun H6 e6 => ?_
        refine s_make (s := y.1) (c := y.2) (ev_var rfl) (hB5.mono e6) (by omega) (ev_var rfl) (ev_var rfl) fun H7 f hB7 => ?_
        have hm1 : H1 m2 = none := hm2
        refine ⟨f.ex ((e4.trans e5).trans e6) fun b hb => by rw [hb]; exact hm1, R + Sc d pre y.2, some (iV y.1), some (iV y.2), hB7, ?_, fine_snoc hf (put_legal h12.2), calls_snoc hcp hy37, fun rest => ?_, turnby_app d ht h12.1 h12.2⟩
        · show _ = [_, _, _, some (V.int ((R + Sc d pre y.2 : Nat) : Int)), _, _]
          rw [Int.natCast_add]; rfl
        · rw [List.append_assoc, hr4]
          show R + Vbbrac.rankFrom d pre (y.2 :: rest.map fun x => x.2) = _
          rw [rank_cons (by omega), ← h12.1]
          exact (Nat.add_assoc _ _ _).symm
    · rintro σ' H' ⟨e4, R, u, v, hB4, rfl, hf, hcp, hr4, ht⟩
      refine s_ret (v := optN (numI d l)) (ev_is (ev_var rfl) ?_) fun H6 e6 => k H6 ((e1.trans e4).trans e6)
      have h1 := hr4 []
      have h2 := ht []
      rw [List.append_nil] at h1 h2
      unfold numI
      rw [h2, if_pos (show TurnBy d l [] = true from rfl), h1]
      rfl
/-- the candidates of call_at -/
def cand (l : Mad) : List Nat := [1, 2] ++ (List.range (35 - lbN l)).map fun i => lbN l + 3 + i
theorem cand_len (l : Mad) : (cand l).length = 2 + (35 - lbN l) := by
  unfold cand; rw [List.length_append, List.length_map, List.length_range]; rfl
/-- the candidate at a turn, 38 behind the last -/
def candAt (l : Mad) (i : Nat) : Nat := if i < 2 then i + 1 else lbN l + 3 + (i - 2)
theorem cand_get {l : Mad} {i : Nat} (h : i < (cand l).length) : (cand l)[i]? = some (candAt l i) := by
  rw [cand_len] at h
  unfold cand candAt
  rcases i with _ | _ | i
  · rfl
  · rfl
  · rw [if_neg (by omega)]
    show ((List.range (35 - lbN l)).map fun i => lbN l + 3 + i)[i]? = _
    rw [List.getElem?_map, List.getElem?_range (by omega)]
    rfl
theorem Sc_next {d : Nat} {l : Mad} (hc : Calls l) (ho : Vbbrac.over l = false) {i : Nat} (h : i < (cand l).length) : Sc d l (candAt l i + 1) = Sc d l (candAt l (i + 1)) := by
  rw [cand_len] at h
  have := lbN_le hc
  rcases i with _ | _ | i
  · rfl
  · refine (Sc_const (d := d) (l := l) (show 3 ≤ candAt l 2 by unfold candAt; rw [if_neg (by omega)]; omega) fun c h1 h2 => ?_).symm
    unfold candAt at h2
    rw [if_neg (by omega)] at h2
    obtain ⟨b, rfl⟩ : ∃ b, c = b + 3 := ⟨c - 3, by omega⟩
    rw [legal_bid ho (by omega)]
    exact decide_eq_false (by omega)
  · unfold candAt
    rw [if_neg (by omega), if_neg (by omega)]
    rfl
theorem ok_call_at (T : Txt K mg fa fd CA CW CP CS aN aR aA aW aO) : FnOk P w K mg base CX0 13 (fa 26) (fd 26) P_call_at (spCallAt K CA) := by
  refine T.d_call_at.F.ok sc_call_at (fun vs H Q E h => ?_) (fun cdv A outer s H vs Q E hr h => ⟨_, (pss_cons (ps_set (i := 3) sc_call_at.nd rfl (.inl rfl) (pe_meth0 (pv 0) T.cl_CA T.m_a_on_turn (ok_a_on_turn T) (hr.mono (by decide)) T.d_a_on_turn.b .nil pass0)) (pss_cons (ps_set (i := 4) sc_call_at.nd rfl (.inl rfl) (pe_op op_add (pe_op op_add (pe_globI rfl T.g_FIRST_BID) (pe_meth0 (pv 0) T.cl_CA T.m_a_last_bid (ok_a_last_bid T) (hr.mono (by decide)) T.d_a_last_bid.b .nil pass0)) pe_int)) (pss_cons (ps_set (i := 5) sc_call_at.nd rfl (.inl rfl) (pe_globI rfl T.g_PASS)) (pss_cons (ps_for PassesOwn.never rfl (pi_list (pe_op op_cat (pe_lst (pa_cons (pe_globI rfl T.g_DOUBLE) (pa_cons (pe_globI rfl T.g_REDOUBLE) pa_nil))) (pe_listRg rfl rfl T.b_list (prg_2 rfl T.b_range (pv 4) (pe_globI rfl T.g_CALLS))))) (pg_name (i := 6) sc_call_at.nd rfl (.inl rfl)) (pss_one (ps_if (pt_val (pe_meth (pv 0) T.cl_CA T.m_a_legal (ok_a_legal T) (hr.mono (by decide)) T.d_a_legal.b .nil pass0 (pa_cons (pv 3) (pa_cons (pv 6) pa_nil)))) (pss_cons (ps_if (pt_cmpR op_gt (pe_call (ok_ways_before T) (hr.mono (by decide)) rfl T.m_ways_before T.d_ways_before.F.kp T.d_ways_before.b .nil pass0 (pa_cons (pv 0) (pa_cons (pv 6) (pa_cons (pv 2) pa_nil)))) (pv 1) (nomark _)) (pss_one ps_break) pss_nil) (pss_one (ps_set (i := 5) sc_call_at.nd rfl (.inl rfl) (pv 6)))) pss_nil))) (pss_one (ps_ret (pv 5))))))), ?_⟩)
  · obtain ⟨a, m, d, l, n, b, rfl, _⟩ := h; rfl
  · obtain ⟨a, m, d, l, n, b, rfl, hA, hl, hc, hf, ho, hn, hb, k⟩ := h
    have hlb := lbN_le hc
    refine q_asg (ev_auc (f := fun d l => iV (Vbbrac.turn d l)) (ev_var rfl) hA) fun H1 e1 => ?_
    refine q_asg (v := iV (lbN l + 3)) (ev_I (ev_I (a := 3) (b := lbI l) ev_c (ev_auc (f := fun _ l => .int (lbI l)) (ev_var rfl) (hA.mono e1)) rfl) ev_c (congrArg V.int (by have := lbN_I l; omega))) fun H2 e2 => ?_
    refine q_asg ev_c fun H3 e3 => ?_
    have e123 := (e1.trans e2).trans e3
    have hlist : EvL (tOp rCat (tLst (tCons (tC (.int 1)) (tCons (tC (.int 2)) tNil))) (tLstRg (tRg2 (tVar 4) (tC (.int 38))))) [some (.ref a), some (iV n), some (.ref b), some (iV (Vbbrac.turn d l)), some (iV (lbN l + 3)), some (iV 0), none] H3 ((cand l).map iV) := by
      refine fun H4 e4 Q q => (el_lst (vs := [iV 1, iV 2]) (ea_cons ev_c (ea_cons ev_c ea_nil)) (by decide)) H4 e4 _ fun p H5 hp e5 h5 => ?_
      have hv : Ev (tVar 4) [some (.ref a), some (iV n), some (.ref b), some (iV (Vbbrac.turn d l)), some (iV (lbN l + 3)), some (iV 0), none] H3 (iV (lbN l + 3)) := ev_var rfl
      unfold tLstRg tRg2
      refine hv H5 (e4.trans e5) _ fun H6 e6 => ?_
      refine ⟨_, _, rfl, rfl, ⟨by omega, by omega, by omega, by omega, by omega⟩, fun r hr => ?_⟩
      refine ⟨p, r, [iV 1, iV 2], rgV ((lbN l + 3 : Nat) : Int) 38, rfl, rfl, ?_, upd_same, by rw [rgV_length]; show 2 + _ ≤ sizeLine; exact Nat.le_trans (show _ ≤ 100 by omega) (by decide), fun z hz => ?_⟩
      · rw [upd_ne (fun z => by rw [← z, e6 _ _ h5] at hr; cases hr)]; exact e6 _ _ h5
      · have hz6 : H6 z = none := by
          by_cases q : z = r
          · rw [q, upd_same] at hz; cases hz
          · rw [upd_ne q] at hz; exact hz
        refine q z _ (fresh_back (e5.trans e6) hz6) (((e5.trans e6).trans (Ex.new hr)).trans (Ex.new hz)) ?_
        rw [upd_same]
        congr 2
        unfold rgV cand
        rw [List.map_append, List.map_map, show (38 - ((lbN l + 3 : Nat) : Int)).toNat = 35 - lbN l by omega]
        congr 1
    refine q_forNLn hlist (fun p i σ' H' => Ex H H' ∧ H' p = some (.lst ((cand l).map iV)) ∧ ∃ c0 u, σ' = [some (.ref a), some (iV n), some (.ref b), some (iV (Vbbrac.turn d l)), some (iV (lbN l + 3)), some (iV c0), u] ∧ Vbbrac.legal l (Vbbrac.turn d l) c0 = true ∧ c0 ≤ 37 ∧ Sc d l c0 ≤ n ∧ Sc d l (c0 + 1) = Sc d l (candAt l i)) (fun p H4 _ e4 h4 => ⟨e123.trans e4, h4, 0, none, rfl, legal_pass ho, by omega, Nat.zero_le _, rfl⟩) (fun p i σ' H' _ q => sq_of q.2.1) ?_ ?_
    · rintro p i x σ' H' hx ⟨e4, h4, c0, u, rfl, hc1, hc2, hc3, hc4⟩
      rw [List.getElem?_map] at hx
      have hi : i < (cand l).length := by
        cases q : (cand l)[i]? with
        | none => rw [q] at hx; cases hx
        | some z => exact (List.getElem?_eq_some_iff.mp q).1
      rw [cand_get hi] at hx
      obtain rfl : iV (candAt l i) = x := Option.some.inj hx
      have hA4 := hA.mono e4
      have h37 : candAt l i ≤ 37 := by
        rw [cand_len] at hi
        unfold candAt; split <;> omega
      have hnx := Sc_next (d := d) hc ho hi
      refine s_when (et_B (ev_legal (s := Vbbrac.turn d l) (c := candAt l i) (ev_var rfl) hA4 (ev_var rfl) (ev_var rfl) h37)) (fun hb1 H5 e5 => ?_) (fun hb1 H5 e5 => ?_)
      · refine q_when (b := decide (n < Sc d l (candAt l i))) (et_I (ev_waysBefore (c := candAt l i) (ev_var rfl) (ev_var rfl) (ev_var rfl) (hA4.mono e5) hl hc hf h37 hb1 (ex_l (e4.trans e5) hb)) (ev_var rfl) (by rw [decide_eq_decide]; omega)) (fun hb2 H6 e6 => ?_) (fun hb2 H6 e6 => ?_)
        · show tRet (tVar 5) _ _ _
          exact s_ret (ev_var rfl) fun H7 e7 => k _ H7 (((e4.trans e5).trans e6).trans e7) ⟨c0, rfl, hc1, hc2, hc3, by rw [hc4]; exact of_decide_eq_true hb2⟩
        · refine s_asg (v := iV (candAt l i)) (ev_var rfl) fun H7 e7 => ⟨((e4.trans e5).trans e6).trans e7, e7 _ _ (e6 _ _ (e5 _ _ h4)), candAt l i, _, rfl, hb1, h37, by have := of_decide_eq_false hb2; omega, hnx⟩
      · refine ⟨e4.trans e5, e5 _ _ h4, c0, _, rfl, hc1, hc2, hc3, ?_⟩
        rw [hc4, ← hnx]
        show _ = Sc d l (candAt l i) + (if Vbbrac.legal l (Vbbrac.turn d l) (candAt l i) = true then Wc d l (candAt l i) else 0)
        rw [hb1, if_neg Bool.false_ne_true, Nat.add_zero]
    · rintro p σ' H' ⟨e4, h4, c0, u, rfl, hc1, hc2, hc3, hc4⟩
      refine s_ret (ev_var rfl) fun H7 e7 => k _ H7 (e4.trans e7) ⟨c0, rfl, hc1, hc2, hc3, ?_⟩
      rw [hc4, List.length_map, cand_len]
      have : candAt l (2 + (35 - lbN l)) = 38 := by unfold candAt; rw [if_neg (by omega)]; omega
      rw [this, Sc_all hf hc ho]
      exact hn
theorem biggest_is (d : Nat) : Vbbrac.ways d [] = Vbbrac.BIGGEST := rfl
theorem ok_auction_with (T : Txt K mg fa fd CA CW CP CS aN aR aA aW aO) : FnOk P w K mg base CX0 14 (fa 27) (fd 27) P_auction_with (spAucWith CA) := by
  refine T.d_auction_with.F.ok sc_auction_with (fun vs H Q E h => ?_) (fun cdv A outer s H vs Q E hr h => ⟨_, (pss_cons (ps_set (i := 2) sc_auction_with.nd rfl (.inl rfl) (pe_call0 (ok_ways_above T) (hr.mono (by decide)) rfl T.m_ways_above T.d_ways_above.F.kp T.d_ways_above.b .nil pass0)) (pss_cons (ps_set (i := 3) sc_auction_with.nd rfl (.inl rfl) (pe_make T.k_Auction (ok_a_init T) (hr.mono (by decide)) rfl T.c_Auction T.d_a_init.b .nil pass0 (pa_cons (pv 0) pa_nil))) (pss_cons (ps_if (pt_cmpR op_ge (pv 1) (pe_call (ok_ways_on T) (hr.mono (by decide)) rfl T.m_ways_on T.d_ways_on.F.kp T.d_ways_on.b .nil pass0 (pa_cons (pv 3) (pa_cons (pv 2) pa_nil))) (nomark _)) (pss_one (ps_ret pe_non)) pss_nil) (pss_cons (ps_set (i := 4) sc_auction_with.nd rfl (.inl rfl) (pv 1)) (pss_cons (ps_while PassesOwn.never (pt_not (pt_val (pe_meth0 (pv 3) T.cl_CA T.m_a_over (ok_a_over T) (hr.mono (by decide)) T.d_a_over.b .nil pass0))) (pss_cons (ps_set (i := 5) sc_auction_with.nd rfl (.inl rfl) (pe_call (ok_call_at T) (hr.mono (by decide)) rfl T.m_call_at T.d_call_at.F.kp T.d_call_at.b .nil pass0 (pa_cons (pv 3) (pa_cons (pv 4) (pa_cons (pv 2) pa_nil))))) (pss_cons (ps_aug (i := 4) sc_auction_with.nd rfl (.inl rfl) (pe_call (ok_ways_before T) (hr.mono (by decide)) rfl T.m_ways_before T.d_ways_before.F.kp T.d_ways_before.b .nil pass0 (pa_cons (pv 3) (pa_cons (pv 5) (pa_cons (pv 2) pa_nil)))) ip_sub) (pss_one (ps_expr (pe_meth (pv 3) T.cl_CA T.m_a_make (ok_a_make T) (hr.mono (by decide)) T.d_a_make.b .nil pass0 (pa_cons (pe_meth0 (pv 3) T.cl_CA T.m_a_on_turn (ok_a_on_turn T) (hr.mono (by decide)) T.d_a_on_turn.b .nil pass0) (pa_cons (pv 5) pa_nil)))))))) (pss_one (ps_ret (pv 3)))))))), ?_⟩)
  · obtain ⟨d, n, rfl, _⟩ := h; rfl
  · obtain ⟨d, n, rfl, k⟩ := h
    refine q_asgL el_above fun b H1 hb0 e1 h1 => ?_
    refine q_asgP (evp_newA (ev_var rfl)) fun v H2 e2 hn => ?_
    obtain ⟨x, m, rfl, hx, hm, hA⟩ := hn
    refine q_when (b := decide (Vbbrac.BIGGEST ≤ n)) (et_I (ev_var rfl) (ev_waysOn (ev_var rfl) (ev_var rfl) hA (fun _ h => by cases h) fine_nil.1 (sq_of (e2 _ _ h1))) (by rw [decide_eq_decide, ← biggest_is d]; omega)) (fun hb H3 e3 => ?_) (fun hb H3 e3 => ?_)
    · refine s_ret ev_c fun H4 e4 => k _ H4 (((e1.trans e2).trans e3).trans e4) ?_
      unfold NthP
      rw [if_pos (of_decide_eq_true hb)]
    · have hn := of_decide_eq_false hb
      refine q_asg (ev_var rfl) fun H4 e4 => ?_
      refine q_while (fun r σ' H' => Ex H1 H' ∧ ∃ l i c, AucM CA H' x m d l ∧ σ' = [some (iV d), some (iV n), some (.ref b), some (.ref x), some (iV i), c] ∧ Fine l ∧ Calls l ∧ i < Vbbrac.ways d l ∧ l.length + Phi l ≤ 319 ∧ r = Phi l ∧ Vbbrac.nth d (320 - l.length) l i = Vbbrac.nth d 320 [] n) (Phi []) ⟨(e2.trans e3).trans e4, [], n, none, (hA.mono e3).mono e4, rfl, fine_nil, (fun _ h => by cases h), by rw [biggest_is]; omega, (by show 0 + 319 ≤ 319; omega), rfl, rfl⟩ ?_
      rintro r σ' H' ⟨e5, l, i, c, hA5, rfl, hf, hc, hi, hphi, rfl, hnth⟩
      refine ⟨_, et_not (et_B (ev_auc (f := fun _ l => .bl (Vbbrac.over l)) (ev_var rfl) hA5)), fun hb5 H5 e6 => ?_, fun hb5 H5 e6 => ?_⟩
      · have ho : Vbbrac.over l = false := by simpa using hb5
        have hpos := phi_pos ho
        refine ⟨fun σ2 H2 => ∃ m', m' < Phi l ∧ (Ex H1 H2 ∧ ∃ l i c, AucM CA H2 x m d l ∧ σ2 = [some (iV d), some (iV n), some (.ref b), some (.ref x), some (iV i), c] ∧ Fine l ∧ Calls l ∧ i < Vbbrac.ways d l ∧ l.length + Phi l ≤ 319 ∧ m' = Phi l ∧ Vbbrac.nth d (320 - l.length) l i = Vbbrac.nth d 320 [] n), fun σ2 H2 p => p, ?_⟩
        have hA6 := hA5.mono e6
        refine q_asgP (evp_callAt (ev_var rfl) (ev_var rfl) (ev_var rfl) hA6 (by omega) hc hf ho hi (sq_of (e6 _ _ (e5 _ _ h1)))) fun v H6 e7 hv => ?_
        obtain ⟨c1, rfl, hpk⟩ := hv
        have hA7 := hA6.mono e7
        refine q_aug (f := fun i j => i - j) (a := (i : Int)) rfl (ev_waysBefore (c := c1) (ev_var rfl) (ev_var rfl) (ev_var rfl) hA7 (by omega) hc hf hpk.2.1 hpk.1 (sq_of (e7 _ _ (e6 _ _ (e5 _ _ h1))))) fun H7 e8 => ?_
        have hA8 := hA7.mono e8
        refine s_make (s := Vbbrac.turn d l) (c := c1) (ev_var rfl) hA8 (by omega) (ev_auc (f := fun d l => iV (Vbbrac.turn d l)) (ev_var rfl) hA8) (ev_var rfl) fun H8 f hA9 => ?_
        have hst := phi_step hf hpk.2.1 hpk.1
        refine ⟨Phi (l ++ [(Vbbrac.turn d l, c1)]), by omega, f.ex (((e5.trans e6).trans e7).trans e8) (fun b hb => by rw [hb]; exact hm), _, i - Sc d l c1, some (iV c1), hA9, ?_, fine_snoc hf (put_legal hpk.1), calls_snoc hc hpk.2.1, pk_ways hpk, ?_, rfl, ?_⟩
        · have := hpk.2.2.1
          show _ = [_, _, _, _, some (V.int ((i - Sc d l c1 : Nat) : Int)), _]
          rw [Int.ofNat_sub this]; rfl
        · rw [List.length_append]; show l.length + 1 + _ ≤ 319; omega
        · rw [← hnth, List.length_append]
          show Vbbrac.nth d (320 - (l.length + 1)) _ _ = _
          rw [show 320 - l.length = (320 - (l.length + 1)) + 1 by omega, nth_step hpk]
      · have ho : Vbbrac.over l = true := by simpa using hb5
        refine s_ret (v := .ref x) (ev_var rfl) fun H6 e7 => k _ H6 ((e1.trans e5).trans (e6.trans e7)) ?_
        unfold NthP
        rw [if_neg hn, ← hnth, nth_over ho]
        exact ⟨x, m, rfl, fresh_back e1 hx, fresh_back e1 hm, (hA5.mono e6).mono e7⟩
end
end Bb
namespace Bb
open Vbbrac (behind turn legal legals over passes lastWord doubled ways lastBid State bar stands leastOver empty_ does partner turnOf mayDouble mayRedouble)
/-! ### what a call does, said as the program says it -/
def mayMend (s : State) (seat c : Nat) : Bool := decide (c = 0) || (decide (3 ≤ c) && legal s.made seat c)
def mustPass (s : State) (seat : Nat) : Bool := s.barred.contains seat || s.once.contains seat
def whyN (s : State) (seat c : Nat) : Int :=
  if over s.made = true then -4
  else if s.waits.isSome = true then -5
  else if c ≠ 0 ∧ mustPass s seat = true then -6
  else if s.mend.isSome = true ∧ seat = turnOf s ∧ mayMend s seat c = false then -8
  else 0
def mbI (s : State) (b : Nat) : Int := (lbN s.made : Int) + ((b : Int) - (lbN s.made : Int)) % 5
def takeS (s : State) (seat c : Nat) : State × Nat :=
  if empty_ s.made seat c = true then (bar s (partner seat), 3)
  else if seat ≠ turnOf s then ({ s with waits := some (2, seat, c) }, 2)
  else if legal s.made seat c = false then ({ s with waits := some (1, seat, c) }, 1)
  else match s.mend with
    | none => (stands s seat c, 0)
    | some x => (if (c : Int) - 3 = mbI s x.2 then stands s seat c else bar (stands s seat c) (partner seat), 0)
def withS (s : State) (k seat c : Nat) : State × Nat :=
  if k = 1 then ({ s with waits := none, mend := some (seat, c - 3) }, 4)
  else if c = 0 then ({ s with waits := none, once := if s.once.contains seat = true then s.once else s.once ++ [seat] }, 5)
  else (bar { s with waits := none } (partner seat), 6)
/-- what holds of every table -/
structure Wf (s : State) : Prop where
  calls : Calls s.made
  fine : Fine s.made
  dealer : s.dealer < 4
  seats : ∀ x ∈ s.made, x.1 < 4
  waits : ∀ x, s.waits = some x → x.2.1 < 4 ∧ x.2.2 ≤ 37 ∧ Put s.made x.2.1 x.2.2 ∧ (x.1 = 1 ∨ x.1 = 2) ∧ (x.1 = 1 → 3 ≤ x.2.2)
  mend : ∀ x, s.mend = some x → x.2 ≤ 34
theorem Wf.turn4 {s : State} (h : Wf s) : turnOf s < 4 := by
  unfold Vbbrac.turnOf Vbbrac.turn
  cases e : s.made.getLast? with
  | none => exact h.dealer
  | some x => exact Nat.mod_lt _ (by decide)
theorem least_is {s : State} (h : Calls s.made) {b : Nat} (hb : b ≤ 34) {c : Nat} (hc : c ≤ 37) : (3 ≤ c ∧ leastOver s.made (b % 5) = some (c - 3)) ↔ (c : Int) - 3 = mbI s b := by
  have hl := lbN_le h
  have he : ∀ x : Nat, Vbbrac.enough s.made x = decide (lbN s.made ≤ x) := by
    intro x
    unfold Vbbrac.enough lbN
    cases e : lbm s.made with
    | none => rw [lb_none e]; simp
    | some y =>
      have := lbm_ge e
      rw [lb_some e]
      show decide (y.2 - 3 < x) = decide (y.2 - 2 ≤ x)
      rw [decide_eq_decide]; omega
  unfold mbI
  generalize hL : lbN s.made = L at *
  have hr0 : 0 ≤ ((b : Int) - L) % 5 := Int.emod_nonneg _ (by decide)
  have hr5 : ((b : Int) - L) % 5 < 5 := Int.emod_lt_of_pos _ (by decide)
  unfold Vbbrac.leastOver
  constructor
  · rintro ⟨h3, hf⟩
    rw [List.find?_eq_some_iff_append] at hf
    obtain ⟨hp, pre, post, hsp, hno⟩ := hf
    rw [he] at hp
    have hp : (c - 3) % 5 = b % 5 ∧ L ≤ c - 3 := by simpa using hp
    -- the place that the sum tells has the same rest and is not ahead
    have hlen : pre.length = c - 3 := by
      have h1 : (List.range 35)[pre.length]? = some (c - 3) := by rw [hsp]; simp
      have h2 := (List.getElem?_eq_some_iff.mp h1)
      obtain ⟨h2, h3⟩ := h2
      rw [List.getElem_range] at h3
      exact h3
    have hno' : ∀ x, x < c - 3 → ¬ (x % 5 = b % 5 ∧ L ≤ x) := by
      intro x hx
      have hm : x ∈ pre := by
        have h1 : (List.range 35)[x]? = pre[x]? := by rw [hsp, List.getElem?_append_left (by omega)]
        have hx35 : x < 35 := by
          have : (List.range 35).length = pre.length + (post.length + 1) := by rw [hsp]; simp
          rw [List.length_range] at this
          omega
        rw [List.getElem?_range hx35] at h1
        exact List.mem_of_getElem? h1.symm
      have := hno x hm
      rw [he] at this
      rintro ⟨g1, g2⟩
      simp [g1, g2] at this
    have hlt : c - 3 < L + 5 := by
      refine Nat.lt_of_not_le fun hge => ?_
      exact hno' (c - 3 - 5) (by omega) ⟨by omega, by omega⟩
    omega
  · intro hc3
    have h3 : 3 ≤ c := by omega
    refine ⟨h3, ?_⟩
    rw [List.find?_eq_some_iff_append]
    refine ⟨?_, List.range (c - 3), ((List.range (35 - (c - 3) - 1)).map fun x => (c - 3) + 1 + x), ?_, ?_⟩
    · rw [he]
      have : (c - 3) % 5 = b % 5 ∧ L ≤ c - 3 := ⟨by omega, by omega⟩
      simp [this]
    · have : (35 : Nat) = (c - 3) + (1 + (35 - (c - 3) - 1)) := by omega
      rw [this, List.range_add]
      congr 1
      rw [show (c - 3) + (1 + (35 - (c - 3) - 1)) - (c - 3) - 1 = 35 - (c - 3) - 1 by omega]
      rw [Nat.add_comm 1, List.range_succ_eq_map, List.map_cons, List.map_map]
      congr 1
      refine List.map_congr_left fun x _ => ?_
      show (c - 3) + (x + 1) = _
      omega
    · intro x hx
      have hx := List.mem_range.mp hx
      rw [he]
      have g : ¬ (x % 5 = b % 5 ∧ L ≤ x) := by omega
      cases q : (x % 5 == b % 5 && decide (L ≤ x)) with
      | false => rfl
      | true => exact absurd (by simpa using q) g
theorem does_call {s : State} (h : Wf s) {seat c : Nat} (hc : c ≤ 37) : does s (0, seat, c) = if whyN s seat c = 0 then .ok (takeS s seat c) else .error (whyN s seat c) := by
  unfold Vbbrac.does whyN takeS
  show (if over s.made = true then _ else _) = _
  by_cases h1 : over s.made = true
  · simp only [if_pos h1]; rfl
  simp only [if_neg h1]
  by_cases h2 : s.waits.isSome = true
  · simp only [if_pos h2]; rfl
  simp only [if_neg h2]
  have hm : (s.barred.contains seat = true ∨ s.once.contains seat = true) ↔ mustPass s seat = true := by unfold mustPass; rw [Bool.or_eq_true]
  by_cases h3 : c ≠ 0 ∧ mustPass s seat = true
  · rw [if_pos ⟨h3.1, hm.mpr h3.2⟩, if_pos h3]; rfl
  rw [if_neg (fun z => h3 ⟨z.1, hm.mp z.2⟩), if_neg h3]
  have ho : over s.made = false := by simpa using h1
  have hmm : mayMend s seat c = false ↔ (c = 1 ∨ c = 2) ∨ legal s.made seat c = false := by
    unfold mayMend
    rcases c with _ | _ | _ | c
    · simp [legal_pass ho]
    · simp
    · simp
    · simp
  by_cases h4 : s.mend.isSome = true ∧ seat = turnOf s ∧ mayMend s seat c = false
  · have hb := hmm.mp h4.2.2
    have e : (if s.mend.isSome = true ∧ seat = turnOf s ∧ mayMend s seat c = false then (-8 : Int) else 0) = -8 := if_pos h4
    rw [e]
    by_cases h5 : c = 1 ∨ c = 2
    · rw [if_pos ⟨h4.2.1, h4.1, h5⟩]; rfl
    · rw [if_neg (fun z => h5 z.2.2), if_pos ⟨h4.2.1, h4.1, hb.resolve_left h5⟩]; rfl
  · have e : (if s.mend.isSome = true ∧ seat = turnOf s ∧ mayMend s seat c = false then (-8 : Int) else 0) = 0 := if_neg h4
    rw [e, if_neg (fun z => h4 ⟨z.2.1, z.1, hmm.mpr (.inl z.2.2)⟩), if_neg (fun z => h4 ⟨z.2.1, z.1, hmm.mpr (.inr z.2.2)⟩), if_pos rfl]
    by_cases h5 : empty_ s.made seat c = true
    · rw [if_pos h5, if_pos h5]
    rw [if_neg h5, if_neg h5]
    by_cases h6 : seat ≠ turnOf s
    · rw [if_pos h6, if_pos h6]
    rw [if_neg h6, if_neg h6]
    by_cases h7 : legal s.made seat c = false
    · rw [if_pos h7, if_pos h7]
    rw [if_neg h7, if_neg h7]
    cases em : s.mend with
    | none => rfl
    | some x =>
      have hle := least_is h.calls (h.mend x em) hc
      show Except.ok (if 3 ≤ c ∧ leastOver s.made (x.2 % 5) = some (c - 3) then _ else _, 0) = Except.ok (if (c : Int) - 3 = mbI s x.2 then _ else _, 0)
      by_cases h8 : (c : Int) - 3 = mbI s x.2
      · rw [if_pos h8, if_pos (hle.mpr h8)]
      · rw [if_neg h8, if_neg (fun z => h8 (hle.mp z))]
theorem does_decide {s : State} (y : Nat) : does s (1, y, 0) = match s.waits with
    | none => .error (-7)
    | some x => .ok (if y = 1 then (stands s x.2.1 x.2.2, 0) else withS s x.1 x.2.1 x.2.2) := by
  unfold Vbbrac.does withS
  cases e : s.waits with
  | none => rfl
  | some x =>
    obtain ⟨k, seat, c⟩ := x
    show (if y = 1 then (Except.ok (stands s seat c, 0) : Except Int (State × Nat)) else if k = 1 then Except.ok ({ s with waits := none, mend := some (seat, c - 3) }, 4) else if c = 0 then Except.ok ({ s with waits := none, once := if s.once.contains seat = true then s.once else s.once ++ [seat] }, 5) else Except.ok (bar { s with waits := none } (partner seat), 6)) = Except.ok (if y = 1 then (stands s seat c, 0) else if k = 1 then ({ s with waits := none, mend := some (seat, c - 3) }, 4) else if c = 0 then ({ s with waits := none, once := if s.once.contains seat = true then s.once else s.once ++ [seat] }, 5) else (bar { s with waits := none } (partner seat), 6))
    by_cases h1 : y = 1
    · rw [if_pos h1, if_pos h1]
    rw [if_neg h1, if_neg h1]
    by_cases h2 : k = 1
    · rw [if_pos h2, if_pos h2]
    rw [if_neg h2, if_neg h2]
    by_cases h3 : c = 0
    · rw [if_pos h3, if_pos h3]
    rw [if_neg h3, if_neg h3]
/-! ### the tables stay well-formed -/
theorem wf_bar {s : State} (h : Wf s) (p : Nat) : Wf (bar s p) := ⟨h.calls, h.fine, h.dealer, h.seats, h.waits, h.mend⟩
theorem wf_stands {s : State} (h : Wf s) {seat c : Nat} (hs : seat < 4) (hc : c ≤ 37) (hp : Put s.made seat c) : Wf (stands s seat c) :=
  ⟨calls_snoc h.calls hc, fine_snoc h.fine hp, h.dealer, all_snoc (p := fun x : Nat × Nat => x.1 < 4) h.seats hs, fun x e => (by cases e), fun x e => (by cases e)⟩
theorem not_empty_put {l : Mad} {seat c : Nat} (h : empty_ l seat c = false) : Put l seat c := by
  unfold Vbbrac.empty_ at h
  rcases c with _ | _ | _ | c
  · exact .inl rfl
  · refine .inr (.inr (.inl ⟨rfl, ?_⟩))
    have h : mayDouble l seat = true := by simpa using h
    unfold Vbbrac.mayDouble at h
    cases e : lastWord l with
    | none => rw [e] at h; cases h
    | some x =>
      rw [e] at h
      refine ⟨x, rfl, ?_⟩
      simp [Vbbrac.sameSide] at h
      exact h
  · refine .inr (.inr (.inr ⟨rfl, ?_⟩))
    have h : mayRedouble l seat = true := by simpa using h
    unfold Vbbrac.mayRedouble at h
    cases e : lastWord l with
    | none => rw [e] at h; cases h
    | some x =>
      rw [e] at h
      refine ⟨x, rfl, ?_⟩
      simp [Vbbrac.sameSide] at h
      exact h
  · exact .inr (.inl (by omega))
theorem wf_take {s : State} (h : Wf s) {seat c : Nat} (hs : seat < 4) (hc : c ≤ 37) (hw : whyN s seat c = 0) : Wf (takeS s seat c).1 := by
  have ho : over s.made = false := by
    cases e : over s.made with
    | false => rfl
    | true => unfold whyN at hw; rw [e, if_pos rfl] at hw; cases hw
  unfold takeS
  by_cases h5 : empty_ s.made seat c = true
  · rw [if_pos h5]; exact wf_bar h _
  have hp := not_empty_put (by simpa using h5 : empty_ s.made seat c = false)
  rw [if_neg h5]
  by_cases h6 : seat ≠ turnOf s
  · rw [if_pos h6]
    refine ⟨h.calls, h.fine, h.dealer, h.seats, fun x e => ?_, h.mend⟩
    cases e
    exact ⟨hs, hc, hp, .inr rfl, fun z => (by cases z)⟩
  rw [if_neg h6]
  by_cases h7 : legal s.made seat c = false
  · rw [if_pos h7]
    refine ⟨h.calls, h.fine, h.dealer, h.seats, fun x e => ?_, h.mend⟩
    cases e
    refine ⟨hs, hc, hp, .inl rfl, fun _ => ?_⟩
    rcases c with _ | _ | _ | c
    · rw [legal_pass ho] at h7; cases h7
    · exfalso
      have h5 : mayDouble s.made seat = true := by simpa [Vbbrac.empty_] using h5
      unfold Vbbrac.legal at h7
      rw [ho] at h7
      have h7 : mayDouble s.made seat = false := h7
      rw [h5] at h7; cases h7
    · exfalso
      have h5 : mayRedouble s.made seat = true := by simpa [Vbbrac.empty_] using h5
      unfold Vbbrac.legal at h7
      rw [ho] at h7
      have h7 : mayRedouble s.made seat = false := h7
      rw [h5] at h7; cases h7
    · show 3 ≤ c + 3; omega
  rw [if_neg h7]
  have w := wf_stands h hs hc hp
  cases em : s.mend with
  | none => exact w
  | some x =>
    show Wf (if _ then _ else _)
    split
    · exact w
    · exact wf_bar w _
theorem wf_with {s : State} (h : Wf s) {x : Nat × Nat × Nat} (e : s.waits = some x) : Wf (withS s x.1 x.2.1 x.2.2).1 := by
  obtain ⟨h1, h2, h3, h4, h5⟩ := h.waits x e
  unfold withS
  split
  · refine ⟨h.calls, h.fine, h.dealer, h.seats, fun x e => (by cases e), fun z e => ?_⟩
    cases e
    show x.2.2 - 3 ≤ 34
    omega
  · split
    · exact ⟨h.calls, h.fine, h.dealer, h.seats, fun x e => (by cases e), h.mend⟩
    · have w : Wf { s with waits := none } := ⟨h.calls, h.fine, h.dealer, h.seats, fun x e => (by cases e), h.mend⟩
      exact wf_bar w _
theorem wf_begun {d v : Nat} (h : d < 4) : Wf (Vbbrac.begun d v) := ⟨fun _ h => (by cases h), fine_nil, h, fun _ h => (by cases h), fun _ e => (by cases e), fun _ e => (by cases e)⟩
end Bb
namespace Bb
open PySem PySem.Spec PyProof.Rows L2 Evl
open PySem.W (Codec)
open Vbbrac (State)
/-! ### a position in the heap -/
def flags (L : List Nat) : List V := [.bl (L.contains 0), .bl (L.contains 1), .bl (L.contains 2), .bl (L.contains 3)]
def posF (a bl ol : Addr) (v : Nat) (wv mv : V) : List (Str × V) := [("auction", .ref a), ("vulnerability", iV v), ("barred", .ref bl), ("once", .ref ol), ("waiting", wv), ("mending", mv)]
def waF (x : Nat × Nat × Nat) : List (Str × V) := [("seat", iV x.2.1), ("call", iV x.2.2), ("why", iV x.1)]
def WaitP (C : Addr) (o : Option (Nat × Nat × Nat)) (v : V) (H : Hp) : Prop := match o with
  | none => v = .non
  | some x => ∃ wa dx, v = .ref wa ∧ H wa = some (.ins C dx (waF x))
def mendV (o : Option (Nat × Nat)) : V := match o with
  | none => .non
  | some x => iV x.2
structure PosM (CA CW CP : Addr) (H : Hp) (p a m bl ol : Addr) (s : State) : Prop where
  obj : ∃ dx wv, H p = some (.ins CP dx (posF a bl ol s.vul wv (mendV s.mend))) ∧ WaitP CW s.waits wv H
  auc : AucM CA H a m s.dealer s.made
  bar : H bl = some (.lst (flags s.barred))
  onc : H ol = some (.lst (flags s.once))
  n1 : m ≠ bl
  n2 : m ≠ ol
  n3 : bl ≠ ol
theorem WaitP.mono {C : Addr} {o : Option (Nat × Nat × Nat)} {v : V} {H H' : Hp} (e : Ex H H') (h : WaitP C o v H) : WaitP C o v H' := by
  cases o with
  | none => exact h
  | some x =>
    obtain ⟨wa, dx, h1, h2⟩ := h
    exact ⟨wa, dx, h1, e _ _ h2⟩
theorem PosM.mono {CA CW CP : Addr} {H H' : Hp} {p a m bl ol : Addr} {s : State} (e : Ex H H') (h : PosM CA CW CP H p a m bl ol s) : PosM CA CW CP H' p a m bl ol s := by
  obtain ⟨⟨dx, wv, h1, h2⟩, h3, h4, h5, h6, h7, h8⟩ := h
  exact ⟨⟨dx, wv, e _ _ h1, h2.mono e⟩, h3.mono e, e _ _ h4, e _ _ h5, h6, h7, h8⟩
section
variable {a bl ol : Addr} {v : Nat} {wv mv : V}
theorem posF_auction : (posF a bl ol v wv mv).lookup ("auction" : Str) = some (.ref a) := lk_here
theorem posF_vul : (posF a bl ol v wv mv).lookup ("vulnerability" : Str) = some (iV v) := (lk_past (by decide +kernel)).trans lk_here
theorem posF_barred : (posF a bl ol v wv mv).lookup ("barred" : Str) = some (.ref bl) := (lk_past (by decide +kernel)).trans ((lk_past (by decide +kernel)).trans lk_here)
theorem posF_once : (posF a bl ol v wv mv).lookup ("once" : Str) = some (.ref ol) := (lk_past (by decide +kernel)).trans ((lk_past (by decide +kernel)).trans ((lk_past (by decide +kernel)).trans lk_here))
theorem posF_waiting : (posF a bl ol v wv mv).lookup ("waiting" : Str) = some wv := (lk_past (by decide +kernel)).trans ((lk_past (by decide +kernel)).trans ((lk_past (by decide +kernel)).trans ((lk_past (by decide +kernel)).trans lk_here)))
theorem posF_mending : (posF a bl ol v wv mv).lookup ("mending" : Str) = some mv := (lk_past (by decide +kernel)).trans ((lk_past (by decide +kernel)).trans ((lk_past (by decide +kernel)).trans ((lk_past (by decide +kernel)).trans ((lk_past (by decide +kernel)).trans lk_here))))
theorem posF_no {f : Str} (h : (["auction", "vulnerability", "barred", "once", "waiting", "mending"] : List Str).contains f = false) : (posF a bl ol v wv mv).lookup f = none := by
  simp only [List.contains_cons, List.contains_nil, Bool.or_false, Bool.or_eq_false_iff] at h
  obtain ⟨h1, h2, h3, h4, h5, h6⟩ := h
  exact (lk_past h1).trans ((lk_past h2).trans ((lk_past h3).trans ((lk_past h4).trans ((lk_past h5).trans ((lk_past h6).trans rfl)))))
theorem putF_waiting {x : V} : putF ("waiting" : Str) x (posF a bl ol v wv mv) = posF a bl ol v x mv :=
  (put_past (by decide +kernel)).trans (congrArg _ ((put_past (by decide +kernel)).trans (congrArg _ ((put_past (by decide +kernel)).trans (congrArg _ ((put_past (by decide +kernel)).trans (congrArg _ put_here)))))))
theorem putF_mending {x : V} : putF ("mending" : Str) x (posF a bl ol v wv mv) = posF a bl ol v wv x :=
  (put_past (by decide +kernel)).trans (congrArg _ ((put_past (by decide +kernel)).trans (congrArg _ ((put_past (by decide +kernel)).trans (congrArg _ ((put_past (by decide +kernel)).trans (congrArg _ ((put_past (by decide +kernel)).trans (congrArg _ put_here)))))))))
theorem putF_auction {x : Addr} : putF ("auction" : Str) (.ref x) (posF a bl ol v wv mv) = posF x bl ol v wv mv := put_here
theorem putF_barred {x : Addr} : putF ("barred" : Str) (.ref x) (posF a bl ol v wv mv) = posF a x ol v wv mv :=
  (put_past (by decide +kernel)).trans (congrArg _ ((put_past (by decide +kernel)).trans (congrArg _ put_here)))
theorem putF_once {x : Addr} : putF ("once" : Str) (.ref x) (posF a bl ol v wv mv) = posF a bl x v wv mv :=
  (put_past (by decide +kernel)).trans (congrArg _ ((put_past (by decide +kernel)).trans (congrArg _ ((put_past (by decide +kernel)).trans (congrArg _ put_here)))))
theorem waF_seat {x : Nat × Nat × Nat} : (waF x).lookup ("seat" : Str) = some (iV x.2.1) := lk_here
theorem waF_call {x : Nat × Nat × Nat} : (waF x).lookup ("call" : Str) = some (iV x.2.2) := (lk_past (by decide +kernel)).trans lk_here
theorem waF_why {x : Nat × Nat × Nat} : (waF x).lookup ("why" : Str) = some (iV x.1) := (lk_past (by decide +kernel)).trans ((lk_past (by decide +kernel)).trans lk_here)
end
theorem PosM.has {CA CW CP : Addr} {H : Hp} {p a m bl ol : Addr} {s : State} (h : PosM CA CW CP H p a m bl ol s) {f : Str} (hf : (["auction", "vulnerability", "barred", "once", "waiting", "mending"] : List Str).contains f = false := by decide +kernel) : Has CP H p f := by
  obtain ⟨⟨dx, wv, h1, _⟩, _⟩ := h
  exact ⟨dx, _, h1, posF_no hf⟩
theorem flags_at (L : List Nat) {i : Nat} (h : i < 4) : (flags L)[i]? = some (.bl (L.contains i)) := by
  rcases i with _ | _ | _ | _ | i
  · rfl
  · rfl
  · rfl
  · rfl
  · omega
theorem waitP_isN {C : Addr} {o : Option (Nat × Nat × Nat)} {v : V} {H : Hp} (h : WaitP C o v H) : decide (v = .non) = o.isNone := by
  cases o with
  | none => rw [show v = .non from h]; rfl
  | some x => obtain ⟨t, dx, rfl, _⟩ := h; rfl
theorem mendV_isN (o : Option (Nat × Nat)) : decide (mendV o = .non) = o.isNone := by
  cases o <;> rfl
/-! ### promises -/
section
variable (CA CW CP : Addr)
def spPos (f : State → V) : Sp := fun vs H Q _ => ∃ p a m bl ol s, vs = [.ref p] ∧ PosM CA CW CP H p a m bl ol s ∧ Wf s ∧ RetV (f s) H Q
def spPos1 (f : State → Nat → V) : Sp := fun vs H Q _ => ∃ p a m bl ol s i, vs = [.ref p, iV i] ∧ PosM CA CW CP H p a m bl ol s ∧ Wf s ∧ i < 4 ∧ RetV (f s i) H Q
def spPos2 (f : State → Nat → Nat → V) : Sp := fun vs H Q _ => ∃ p a m bl ol s i c, vs = [.ref p, iV i, iV c] ∧ PosM CA CW CP H p a m bl ol s ∧ Wf s ∧ i < 4 ∧ c ≤ 37 ∧ RetV (f s i c) H Q
def spPosL (f : State → List Nat) : Sp := fun vs H Q _ => ∃ p a m bl ol s, vs = [.ref p] ∧ PosM CA CW CP H p a m bl ol s ∧ Wf s ∧ RetL ((f s).map iV) H Q
def spMbI : Sp := fun vs H Q _ => ∃ p a m bl ol s x, vs = [.ref p] ∧ PosM CA CW CP H p a m bl ol s ∧ Wf s ∧ s.mend = some x ∧ RetV (.int (mbI s x.2)) H Q
def spBar : Sp := fun vs H Q _ => ∃ p a m bl ol s i, vs = [.ref p, iV i] ∧ PosM CA CW CP H p a m bl ol s ∧ i < 4 ∧ ∀ H', PosM CA CW CP H' p a m bl ol (Vbbrac.bar s i) → Frm (· = bl) H H' → Q .non H'
end
/-- what a position's changes may touch -/
def Fp (p m bl ol : Addr) (b : Addr) : Prop := b = p ∨ b = m ∨ b = bl ∨ b = ol
section
variable (CA CW CP : Addr)
def spStand : Sp := fun vs H Q _ => ∃ p a m bl ol s i c, vs = [.ref p, iV i, iV c] ∧ PosM CA CW CP H p a m bl ol s ∧ i < 4 ∧ s.made.length < 1000 ∧ ∀ H', PosM CA CW CP H' p a m bl ol (Vbbrac.stands s i c) → Frm (Fp p m bl ol) H H' → Q .non H'
def spTake : Sp := fun vs H Q _ => ∃ p a m bl ol s i c, vs = [.ref p, iV i, iV c] ∧ PosM CA CW CP H p a m bl ol s ∧ Wf s ∧ i < 4 ∧ c ≤ 37 ∧ s.made.length < 1000 ∧ ∀ H', PosM CA CW CP H' p a m bl ol (takeS s i c).1 → Frm (Fp p m bl ol) H H' → Q (iV (takeS s i c).2) H'
def spAccept : Sp := fun vs H Q _ => ∃ p a m bl ol s x, vs = [.ref p] ∧ PosM CA CW CP H p a m bl ol s ∧ Wf s ∧ s.waits = some x ∧ s.made.length < 1000 ∧ ∀ H', PosM CA CW CP H' p a m bl ol (Vbbrac.stands s x.2.1 x.2.2) → Frm (Fp p m bl ol) H H' → Q (iV 0) H'
def spWithdraw : Sp := fun vs H Q _ => ∃ p a m bl ol s x, vs = [.ref p] ∧ PosM CA CW CP H p a m bl ol s ∧ Wf s ∧ s.waits = some x ∧ ∀ H', PosM CA CW CP H' p a m bl ol (withS s x.1 x.2.1 x.2.2).1 → Frm (Fp p m bl ol) H H' → Q (iV (withS s x.1 x.2.1 x.2.2).2) H'
def spWInit : Sp := fun vs H Q _ => ∃ (p dx : Addr) (i c k : Nat), vs = [.ref p, iV i, iV c, iV k] ∧ H p = some (.ins CW dx []) ∧ ∀ H', H' p = some (.ins CW dx (waF (k, i, c))) → Frm (· = p) H H' → Q .non H'
/-- a new position -/
def NewP (H0 : Hp) (s : State) (v : V) (H : Hp) : Prop := ∃ p a m bl ol, v = .ref p ∧ PosM CA CW CP H p a m bl ol s ∧ ∀ b, Fp p m bl ol b → H0 b = none
def spPInit : Sp := fun vs H Q _ => ∃ (p dx : Addr) (d v : Nat), vs = [.ref p, iV d, iV v] ∧ H p = some (.ins CP dx []) ∧
  ∀ H' a m bl ol, (H m = none ∧ H bl = none ∧ H ol = none) → PosM CA CW CP H' p a m bl ol (Vbbrac.begun d v) → Frm (· = p) H H' → Q .non H'
def spPCopied : Sp := fun vs H Q _ => ∃ p a m bl ol s, vs = [.ref p] ∧ PosM CA CW CP H p a m bl ol s ∧ RetP (NewP CA CW CP H s) H Q
end
section
variable {P : Program} {w : World} {K : PySem.W.Frag} {mg : Str → Option Value} {base : Heap} {fa : Nat → Addr} {fd : Nat → FuncData} {CA CW CP CS aN aR aA aW aO : Addr}
section
variable {σ : L2.St} {H : Hp} {ta tb tc : TE} {E : XK} {p a m bl ol : Addr} {s : State} {i c : Nat} {D : Ends} {tz : TS}
theorem ev_auction (T : Txt K mg fa fd CA CW CP CS aN aR aA aW aO) (ho : Ev ta σ H (.ref p)) (h : PosM CA CW CP H p a m bl ol s) : Ev (tFld K ta "auction") σ H (.ref a) := by
  obtain ⟨⟨dx, wv, h1, _⟩, _⟩ := h
  exact ev_fld ho h1 T.cl_CP T.n_CP_auction posF_auction
theorem ev_vul (T : Txt K mg fa fd CA CW CP CS aN aR aA aW aO) (ho : Ev ta σ H (.ref p)) (h : PosM CA CW CP H p a m bl ol s) : Ev (tFld K ta "vulnerability") σ H (iV s.vul) := by
  obtain ⟨⟨dx, wv, h1, _⟩, _⟩ := h
  exact ev_fld ho h1 T.cl_CP T.n_CP_vulnerability posF_vul
theorem ev_barred (T : Txt K mg fa fd CA CW CP CS aN aR aA aW aO) (ho : Ev ta σ H (.ref p)) (h : PosM CA CW CP H p a m bl ol s) : Ev (tFld K ta "barred") σ H (.ref bl) := by
  obtain ⟨⟨dx, wv, h1, _⟩, _⟩ := h
  exact ev_fld ho h1 T.cl_CP T.n_CP_barred posF_barred
theorem ev_once (T : Txt K mg fa fd CA CW CP CS aN aR aA aW aO) (ho : Ev ta σ H (.ref p)) (h : PosM CA CW CP H p a m bl ol s) : Ev (tFld K ta "once") σ H (.ref ol) := by
  obtain ⟨⟨dx, wv, h1, _⟩, _⟩ := h
  exact ev_fld ho h1 T.cl_CP T.n_CP_once posF_once
theorem ev_mend (T : Txt K mg fa fd CA CW CP CS aN aR aA aW aO) (ho : Ev ta σ H (.ref p)) (h : PosM CA CW CP H p a m bl ol s) : Ev (tFld K ta "mending") σ H (mendV s.mend) := by
  obtain ⟨⟨dx, wv, h1, _⟩, _⟩ := h
  exact ev_fld ho h1 T.cl_CP T.n_CP_mending posF_mending
theorem evp_wait (T : Txt K mg fa fd CA CW CP CS aN aR aA aW aO) (ho : Ev ta σ H (.ref p)) (h : PosM CA CW CP H p a m bl ol s) : EvP (tFld K ta "waiting") σ H (WaitP CW s.waits) := by
  obtain ⟨⟨dx, wv, h1, h2⟩, _⟩ := h
  exact evp_of (ev_fld ho h1 T.cl_CP T.n_CP_waiting posF_waiting) fun H1 e => h2.mono e
theorem ev_waitN (T : Txt K mg fa fd CA CW CP CS aN aR aA aW aO) (ho : Ev ta σ H (.ref p)) (h : PosM CA CW CP H p a m bl ol s) : Ev (tOp (fun x y H Q => y = .non ∧ Q (.bl (decide (x = .non))) H) (tFld K ta "waiting") (tC .non)) σ H (.bl s.waits.isNone) :=
  ev_isN_P (evp_wait T ho h) fun v H1 hv => waitP_isN hv
theorem ev_waitS (T : Txt K mg fa fd CA CW CP CS aN aR aA aW aO) (ho : Ev ta σ H (.ref p)) (h : PosM CA CW CP H p a m bl ol s) : Ev (tOp (fun x y H Q => y = .non ∧ Q (.bl (!decide (x = .non))) H) (tFld K ta "waiting") (tC .non)) σ H (.bl s.waits.isSome) := fun H1 e Q q =>
  evp_wait T ho h H1 e _ fun v H2 e2 p => ⟨rfl, by
    rw [waitP_isN p]
    have : (!s.waits.isNone) = s.waits.isSome := by cases s.waits <;> rfl
    rw [this]
    exact q H2 e2⟩
theorem ev_mendS (T : Txt K mg fa fd CA CW CP CS aN aR aA aW aO) (ho : Ev ta σ H (.ref p)) (h : PosM CA CW CP H p a m bl ol s) : Ev (tOp (fun x y H Q => y = .non ∧ Q (.bl (!decide (x = .non))) H) (tFld K ta "mending") (tC .non)) σ H (.bl s.mend.isSome) := ev_is (ev_notN (ev_mend T ho h)) (by
  rw [mendV_isN]
  cases s.mend <;> rfl)
theorem ev_mendN (T : Txt K mg fa fd CA CW CP CS aN aR aA aW aO) (ho : Ev ta σ H (.ref p)) (h : PosM CA CW CP H p a m bl ol s) : Ev (tOp (fun x y H Q => y = .non ∧ Q (.bl (decide (x = .non))) H) (tFld K ta "mending") (tC .non)) σ H (.bl s.mend.isNone) := ev_is (ev_isN (ev_mend T ho h)) (by
  rw [mendV_isN])
theorem ev_barAt (T : Txt K mg fa fd CA CW CP CS aN aR aA aW aO) (ho : Ev ta σ H (.ref p)) (h : PosM CA CW CP H p a m bl ol s) (hi : Ev tb σ H (iV i)) (h4 : i < 4) : Ev (tOp (rIxL K) (tFld K ta "barred") tb) σ H (.bl (s.barred.contains i)) :=
  ev_op (ev_barred T ho h) hi (rv_ixL (sq_of h.bar) (atI_n (flags_at _ h4)))
theorem ev_onceAt (T : Txt K mg fa fd CA CW CP CS aN aR aA aW aO) (ho : Ev ta σ H (.ref p)) (h : PosM CA CW CP H p a m bl ol s) (hi : Ev tb σ H (iV i)) (h4 : i < 4) : Ev (tOp (rIxL K) (tFld K ta "once") tb) σ H (.bl (s.once.contains i)) :=
  ev_op (ev_once T ho h) hi (rv_ixL (sq_of h.onc) (atI_n (flags_at _ h4)))
/-! calls of the methods -/
theorem ev_pos {f : State → V} {n : Str} (ho : Ev ta σ H (.ref p)) (h : PosM CA CW CP H p a m bl ol s) (hw : Wf s) (hn : (["auction", "vulnerability", "barred", "once", "waiting", "mending"] : List Str).contains n = false := by decide +kernel) : Ev (tMeth CP n (spPos CA CW CP f) [] E ta tNil) σ H (f s) :=
  ev_meth ho (h.has hn) ea_nil fun H1 e Q q E => ⟨p, a, m, bl, ol, s, rfl, h.mono e, hw, q⟩
theorem ev_pos1 {f : State → Nat → V} {n : Str} (ho : Ev ta σ H (.ref p)) (h : PosM CA CW CP H p a m bl ol s) (hw : Wf s) (hi : Ev tb σ H (iV i)) (h4 : i < 4) (hn : (["auction", "vulnerability", "barred", "once", "waiting", "mending"] : List Str).contains n = false := by decide +kernel) : Ev (tMeth CP n (spPos1 CA CW CP f) [] E ta (tCons tb tNil)) σ H (f s i) :=
  ev_meth ho (h.has hn) (ea_cons hi ea_nil) fun H1 e Q q E => ⟨p, a, m, bl, ol, s, i, rfl, h.mono e, hw, h4, q⟩
theorem ev_pos2 {f : State → Nat → Nat → V} {n : Str} (ho : Ev ta σ H (.ref p)) (h : PosM CA CW CP H p a m bl ol s) (hw : Wf s) (hi : Ev tb σ H (iV i)) (h4 : i < 4) (hc : Ev tc σ H (iV c)) (h37 : c ≤ 37) (hn : (["auction", "vulnerability", "barred", "once", "waiting", "mending"] : List Str).contains n = false := by decide +kernel) : Ev (tMeth CP n (spPos2 CA CW CP f) [] E ta (tCons tb (tCons tc tNil))) σ H (f s i c) :=
  ev_meth ho (h.has hn) (ea_cons hi (ea_cons hc ea_nil)) fun H1 e Q q E => ⟨p, a, m, bl, ol, s, i, c, rfl, h.mono e, hw, h4, h37, q⟩
theorem ev_mbI {x : Nat × Nat} (ho : Ev ta σ H (.ref p)) (h : PosM CA CW CP H p a m bl ol s) (hw : Wf s) (hx : s.mend = some x) : Ev (tMeth CP "mending_bid" (spMbI CA CW CP) [] E ta tNil) σ H (.int (mbI s x.2)) :=
  ev_meth ho h.has ea_nil fun H1 e Q q E => ⟨p, a, m, bl, ol, s, x, rfl, h.mono e, hw, hx, q⟩
theorem el_pos {f : State → List Nat} {n : Str} (ho : Ev ta σ H (.ref p)) (h : PosM CA CW CP H p a m bl ol s) (hw : Wf s) (hn : (["auction", "vulnerability", "barred", "once", "waiting", "mending"] : List Str).contains n = false := by decide +kernel) : EvL (tMeth CP n (spPosL CA CW CP f) [] E ta tNil) σ H ((f s).map iV) := fun H1 e Q q =>
  ho H1 e _ fun H2 e2 => by
    obtain ⟨dx, fs, h1, h2⟩ := h.has hn
    exact ⟨p, dx, fs, rfl, e2 _ _ (e _ _ h1), h2, p, a, m, bl, ol, s, rfl, h.mono (e.trans e2), hw, fun p H3 hp e3 h3 => q p H3 (fresh_back e2 hp) (e2.trans e3) h3⟩
theorem q_bar (ho : Ev ta σ H (.ref p)) (h : PosM CA CW CP H p a m bl ol s) (hi : Ev tb σ H (iV i)) (h4 : i < 4) (k : ∀ H1, PosM CA CW CP H1 p a m bl ol (Vbbrac.bar s i) → Frm (· = bl) H H1 → tz D σ H1) : tSeq (tDrop (tMeth CP "bar" (spBar CA CW CP) [] E ta (tCons tb tNil))) tz D σ H :=
  ho H (Ex.refl H) _ fun H1 e1 => by
    obtain ⟨dx, fs, h1, h2⟩ := h.has (f := "bar")
    exact ⟨p, dx, fs, rfl, e1 _ _ h1, h2, (ea_cons hi ea_nil) H1 e1 _ fun H2 e2 => ⟨p, a, m, bl, ol, s, i, rfl, h.mono (e1.trans e2), h4, fun H' hP f => k H' hP (fun b o hb n => f b o ((e1.trans e2) b o hb) n)⟩⟩
theorem s_bar (ho : Ev ta σ H (.ref p)) (h : PosM CA CW CP H p a m bl ol s) (hi : Ev tb σ H (iV i)) (h4 : i < 4) (k : ∀ H1, PosM CA CW CP H1 p a m bl ol (Vbbrac.bar s i) → Frm (· = bl) H H1 → D.nx σ H1) : tDrop (tMeth CP "bar" (spBar CA CW CP) [] E ta (tCons tb tNil)) D σ H := q_bar (D := D) (tz := fun D σ H => D.nx σ H) ho h hi h4 k
theorem q_stand (ho : Ev ta σ H (.ref p)) (h : PosM CA CW CP H p a m bl ol s) (hi : Ev tb σ H (iV i)) (hc : Ev tc σ H (iV c)) (h4 : i < 4) (hl : s.made.length < 1000) (k : ∀ H1, PosM CA CW CP H1 p a m bl ol (Vbbrac.stands s i c) → Frm (Fp p m bl ol) H H1 → tz D σ H1) : tSeq (tDrop (tMeth CP "let_stand" (spStand CA CW CP) [] E ta (tCons tb (tCons tc tNil)))) tz D σ H :=
  ho H (Ex.refl H) _ fun H1 e1 => by
    obtain ⟨dx, fs, h1, h2⟩ := h.has (f := "let_stand")
    exact ⟨p, dx, fs, rfl, e1 _ _ h1, h2, (ea_cons hi (ea_cons hc ea_nil)) H1 e1 _ fun H2 e2 => ⟨p, a, m, bl, ol, s, i, c, rfl, h.mono (e1.trans e2), h4, hl, fun H' hP f => k H' hP (fun b o hb n => f b o ((e1.trans e2) b o hb) n)⟩⟩
end
theorem ok_p_must_pass (T : Txt K mg fa fd CA CW CP CS aN aR aA aW aO) : FnOk P w K mg base CX0 1 (fa 31) (fd 31) P_p_must_pass (spPos1 CA CW CP fun s i => .bl (mustPass s i)) := by
  refine T.d_p_must_pass.F.ok sc_p_must_pass (fun vs H Q E h => ?_) (fun cdv A outer s H vs Q E hr h => ⟨_, (pss_one (ps_ret (pe_or (pe_ix ix_list (pe_fld (pv 0) rfl) (pv 1) (fun _ _ => rfl)) (pe_one (pe_ix ix_list (pe_fld (pv 0) rfl) (pv 1) (fun _ _ => rfl)))))), ?_⟩)
  · obtain ⟨p, a, m, bl, ol, s, i, rfl, _⟩ := h; rfl
  · obtain ⟨p, a, m, bl, ol, s, i, rfl, hP, hw, h4, k⟩ := h
    exact s_ret (ev_orV (ev_barAt T (ev_var rfl) hP (ev_var rfl) h4) (fun _ => ev_onceAt T (ev_var rfl) hP (ev_var rfl) h4)) k
theorem ok_p_may_mend (T : Txt K mg fa fd CA CW CP CS aN aR aA aW aO) : FnOk P w K mg base CX0 5 (fa 32) (fd 32) P_p_may_mend (spPos2 CA CW CP fun s i c => .bl (mayMend s i c)) := by
  refine T.d_p_may_mend.F.ok sc_p_may_mend (fun vs H Q E h => ?_) (fun cdv A outer s H vs Q E hr h => ⟨_, (pss_one (ps_ret (pe_or (pe_cmpR op_eq (pv 2) (pe_globI rfl T.g_PASS) (nomark _)) (pe_one (pe_and (pe_call (ok_is_bid T) (hr.mono (by decide)) rfl T.m_is_bid T.d_is_bid.F.kp T.d_is_bid.b .nil pass0 (pa_cons (pv 2) pa_nil)) (pe_one (pe_meth (pe_fld (pv 0) rfl) T.cl_CA T.m_a_legal (ok_a_legal T) (hr.mono (by decide)) T.d_a_legal.b .nil pass0 (pa_cons (pv 1) (pa_cons (pv 2) pa_nil))))))))), ?_⟩)
  · obtain ⟨p, a, m, bl, ol, s, i, c, rfl, _⟩ := h; rfl
  · obtain ⟨p, a, m, bl, ol, s, i, c, rfl, hP, hw, h4, h37, k⟩ := h
    exact s_ret (ev_orV (ev_eqN (i := c) (j := 0) (ev_var rfl) ev_c) (fun _ => ev_andV (ev_isbid (c := c) (ev_var rfl)) (fun _ => ev_legal (ev_auction T (ev_var rfl) hP) hP.auc (ev_var rfl) (ev_var rfl) h37))) k
theorem ok_p_why_no_call (T : Txt K mg fa fd CA CW CP CS aN aR aA aW aO) : FnOk P w K mg base CX0 6 (fa 33) (fd 33) P_p_why_no_call (spPos2 CA CW CP fun s i c => .int (whyN s i c)) := by
  refine T.d_p_why_no_call.F.ok sc_p_why_no_call (fun vs H Q E h => ?_) (fun cdv A outer s H vs Q E hr h => ⟨_, (pss_cons (ps_if (pt_val (pe_meth0 (pe_fld (pv 0) rfl) T.cl_CA T.m_a_over (ok_a_over T) (hr.mono (by decide)) T.d_a_over.b .nil pass0)) (pss_one (ps_ret (pe_un un_neg pe_int))) pss_nil) (pss_cons (ps_if (pt_cmpR op_notN (pe_fld (pv 0) rfl) pe_non (nomark _)) (pss_one (ps_ret (pe_un un_neg pe_int))) pss_nil) (pss_cons (ps_if (PW.pt (pw_and (pt_cmpR op_ne (pv 2) (pe_globI rfl T.g_PASS) (nomark _)) (pw_and1 (pt_val (pe_meth (pv 0) T.cl_CP T.m_p_must_pass (ok_p_must_pass T) (hr.mono (by decide)) T.d_p_must_pass.b .nil pass0 (pa_cons (pv 1) pa_nil)))))) (pss_one (ps_ret (pe_un un_neg pe_int))) pss_nil) (pss_cons (ps_if (PW.pt (pw_and (pt_cmpR op_notN (pe_fld (pv 0) rfl) pe_non (nomark _)) (pw_and (pt_cmpR op_eq (pv 1) (pe_meth0 (pe_fld (pv 0) rfl) T.cl_CA T.m_a_on_turn (ok_a_on_turn T) (hr.mono (by decide)) T.d_a_on_turn.b .nil pass0) (nomark _)) (pw_and1 (pt_not (pt_val (pe_meth (pv 0) T.cl_CP T.m_p_may_mend (ok_p_may_mend T) (hr.mono (by decide)) T.d_p_may_mend.b .nil pass0 (pa_cons (pv 1) (pa_cons (pv 2) pa_nil))))))))) (pss_one (ps_ret (pe_un un_neg pe_int))) pss_nil) (pss_one (ps_ret pe_int)))))), ?_⟩)
  · obtain ⟨p, a, m, bl, ol, s, i, c, rfl, _⟩ := h; rfl
  · obtain ⟨p, a, m, bl, ol, s, i, c, rfl, hP, hw, h4, h37, k⟩ := h
    have k : RetV (.int (whyN s i c)) H Q := k
    refine q_when (et_B (ev_auc (f := fun _ l => .bl (Vbbrac.over l)) (ev_auction T (ev_var rfl) hP) hP.auc)) (fun hb H1 e1 => ?_) (fun hb H1 e1 => ?_)
    · exact s_ret (ev_is (ev_un ev_c ru_neg) (congrArg V.int (by unfold whyN; rw [if_pos hb]))) fun H2 e2 => k H2 (e1.trans e2)
    have hP1 := hP.mono e1
    refine q_when (et_test (ev_waitS T (ev_var rfl) hP1)) (fun hb2 H2 e2 => ?_) (fun hb2 H2 e2 => ?_)
    · exact s_ret (ev_is (ev_un ev_c ru_neg) (congrArg V.int (by unfold whyN; rw [if_neg (by rw [hb]; exact Bool.false_ne_true), if_pos hb2]))) fun H3 e3 => k H3 ((e1.trans e2).trans e3)
    have hP2 := hP1.mono e2
    refine q_when (b := (!decide (c = 0)) && mustPass s i) (et_and (et_neN (i := c) (j := 0) (ev_var rfl) ev_c) (fun _ => et_B (ev_pos1 (f := fun s i => .bl (mustPass s i)) (ev_var rfl) hP2 hw (ev_var rfl) h4))) (fun hb3 H3 e3 => ?_) (fun hb3 H3 e3 => ?_)
    · have hb3 : c ≠ 0 ∧ mustPass s i = true := by simpa using hb3
      exact s_ret (ev_is (ev_un ev_c ru_neg) (congrArg V.int (by unfold whyN; rw [if_neg (by rw [hb]; exact Bool.false_ne_true), if_neg (by rw [hb2]; exact Bool.false_ne_true), if_pos hb3]))) fun H4 e4 => k H4 (((e1.trans e2).trans e3).trans e4)
    have hb3 : ¬ (c ≠ 0 ∧ mustPass s i = true) := by simpa using hb3
    have hP3 := hP2.mono e3
    refine q_when (b := s.mend.isSome && (decide (i = Vbbrac.turnOf s) && !mayMend s i c)) (et_and (et_test (ev_mendS T (ev_var rfl) hP3)) (fun _ => et_and (et_eqN (i := i) (ev_var rfl) (ev_auc (f := fun d l => iV (Vbbrac.turn d l)) (ev_auction T (ev_var rfl) hP3) hP3.auc)) (fun _ => et_not (et_B (ev_pos2 (f := fun s i c => .bl (mayMend s i c)) (ev_var rfl) hP3 hw (ev_var rfl) h4 (ev_var rfl) h37))))) (fun hb4 H4 e4 => ?_) (fun hb4 H4 e4 => ?_)
    · have hb4 : s.mend.isSome = true ∧ i = Vbbrac.turnOf s ∧ mayMend s i c = false := by simpa using hb4
      exact s_ret (ev_is (ev_un ev_c ru_neg) (congrArg V.int (by unfold whyN; rw [if_neg (by rw [hb]; exact Bool.false_ne_true), if_neg (by rw [hb2]; exact Bool.false_ne_true), if_neg hb3, if_pos hb4]))) fun H5 e5 => k H5 ((((e1.trans e2).trans e3).trans e4).trans e5)
    · have hb4 : ¬ (s.mend.isSome = true ∧ i = Vbbrac.turnOf s ∧ mayMend s i c = false) := by
        rintro ⟨g1, g2, g3⟩
        rw [g1, decide_eq_true g2, g3] at hb4
        cases hb4
      exact s_ret (ev_is ev_c (congrArg V.int (by unfold whyN; rw [if_neg (by rw [hb]; exact Bool.false_ne_true), if_neg (by rw [hb2]; exact Bool.false_ne_true), if_neg hb3, if_neg hb4]))) fun H5 e5 => k H5 ((((e1.trans e2).trans e3).trans e4).trans e5)
theorem ok_p_mending_bid (T : Txt K mg fa fd CA CW CP CS aN aR aA aW aO) : FnOk P w K mg base CX0 4 (fa 35) (fd 35) P_p_mending_bid (spMbI CA CW CP) := by
  refine T.d_p_mending_bid.F.ok sc_p_mending_bid (fun vs H Q E h => ?_) (fun cdv A outer s H vs Q E hr h => ⟨_, (pss_cons (ps_set (i := 1) sc_p_mending_bid.nd rfl (.inl rfl) (pe_op op_add (pe_meth0 (pe_fld (pv 0) rfl) T.cl_CA T.m_a_last_bid (ok_a_last_bid T) (hr.mono (by decide)) T.d_a_last_bid.b .nil pass0) pe_int)) (pss_one (ps_ret (pe_op op_add (pv 1) (pe_op op_mod (pe_op op_sub (pe_fld (pv 0) rfl) (pv 1)) pe_int))))), ?_⟩)
  · obtain ⟨p, a, m, bl, ol, s, x, rfl, _⟩ := h; rfl
  · obtain ⟨p, a, m, bl, ol, s, x, rfl, hP, hw, hx, k⟩ := h
    refine q_asg (v := iV (lbN s.made)) (ev_I (ev_auc (f := fun _ l => .int (lbI l)) (ev_auction T (ev_var rfl) hP) hP.auc) ev_c (congrArg V.int (lbN_I s.made).symm)) fun H1 e1 => ?_
    have hm : Ev (tFld K (tVar 0) "mending") [some (.ref p), some (iV (lbN s.made))] H1 (iV x.2) := ev_is (ev_mend T (ev_var rfl) (hP.mono e1)) (by rw [hx]; rfl)
    exact s_ret (ev_I (ev_var rfl) (ev_op (ev_I hm (ev_var rfl) rfl) ev_c (rv_I (C := fun _ j => 0 < j) (g := fun i j => .int (i % j)) (by decide))) rfl) fun H2 e2 => k H2 (e1.trans e2)
theorem ok_p_held (T : Txt K mg fa fd CA CW CP CS aN aR aA aW aO) : FnOk P w K mg base CX0 1 (fa 40) (fd 40) P_p_held (spPos1 CA CW CP fun s i => iV (if s.barred.contains i = true then 2 else if s.once.contains i = true then 1 else 0)) := by
  refine T.d_p_held.F.ok sc_p_held (fun vs H Q E h => ?_) (fun cdv A outer s H vs Q E hr h => ⟨_, (pss_cons (ps_if (pt_val (pe_ix ix_list (pe_fld (pv 0) rfl) (pv 1) (fun _ _ => rfl))) (pss_one (ps_ret pe_int)) pss_nil) (pss_one (ps_ret (pe_ifExp (pt_val (pe_ix ix_list (pe_fld (pv 0) rfl) (pv 1) (fun _ _ => rfl))) pe_int pe_int)))), ?_⟩)
  · obtain ⟨p, a, m, bl, ol, s, i, rfl, _⟩ := h; rfl
  · obtain ⟨p, a, m, bl, ol, s, i, rfl, hP, hw, h4, k⟩ := h
    have k : RetV (iV (if s.barred.contains i = true then 2 else if s.once.contains i = true then 1 else 0)) H Q := k
    refine q_when (et_B (ev_barAt T (ev_var rfl) hP (ev_var rfl) h4)) (fun hb H1 e1 => ?_) (fun hb H1 e1 => ?_)
    · exact s_ret (ev_is ev_c (by rw [if_pos hb]; rfl)) fun H2 e2 => k H2 (e1.trans e2)
    · rw [if_neg (by rw [hb]; exact Bool.false_ne_true)] at k
      refine s_ret (ev_if (et_B (ev_onceAt T (ev_var rfl) (hP.mono e1) (ev_var rfl) h4)) (fun hb2 => ?_) (fun hb2 => ?_)) fun H2 e2 => k H2 (e1.trans e2)
      · rw [if_pos hb2]; exact ev_c
      · rw [if_neg (by rw [hb2]; exact Bool.false_ne_true)]; exact ev_c
end
end Bb
namespace Bb
open PySem PySem.Spec PyProof.Rows L2 Evl
open PySem.W (Codec)
open Vbbrac (State)
theorem AucM.frm {S : Addr → Prop} {C : Addr} {H H' : Hp} {a m : Addr} {d : Nat} {l : Mad} (f : Frm S H H') (h : AucM C H a m d l) (ha : ¬ S a) (hm : ¬ S m) (hs : ∀ b, S b → ∀ xs, H b ≠ some (.tup xs)) : AucM C H' a m d l := by
  obtain ⟨⟨dx, h1⟩, vs, h2, h3⟩ := h
  exact ⟨⟨dx, f _ _ h1 ha⟩, vs, f _ _ h2 hm, h3.frm f hs⟩
theorem lst_ne_ins {xs : List V} {C dx : Addr} {fs : List (Str × V)} : HO.lst xs ≠ HO.ins C dx fs := fun z => by cases z
theorem ins_ne_lst {xs : List V} {C dx : Addr} {fs : List (Str × V)} : HO.ins C dx fs ≠ HO.lst xs := fun z => by cases z
theorem tup_ne_lst {xs ys : List V} : HO.tup xs ≠ HO.lst ys := fun z => by cases z
theorem tup_ne_ins {xs : List V} {C dx : Addr} {fs : List (Str × V)} : HO.tup xs ≠ HO.ins C dx fs := fun z => by cases z
theorem ins_ne_len {C C' dx dx' : Addr} {fs gs : List (Str × V)} (h : fs.length ≠ gs.length) : HO.ins C dx fs ≠ HO.ins C' dx' gs := fun z => by
  injection z with _ _ h3
  exact h (by rw [h3])
def waF1 (i : Nat) : List (Str × V) := [("seat", iV i)]
def waF2 (i c : Nat) : List (Str × V) := [("seat", iV i), ("call", iV c)]
theorem waF_put {i c n : Nat} : putF ("why" : Str) (iV n) (putF ("call" : Str) (iV c) (putF ("seat" : Str) (iV i) [])) = waF (n, i, c) := by
  have g1 : putF ("seat" : Str) (iV i) [] = waF1 i := rfl
  have g2 : putF ("call" : Str) (iV c) (waF1 i) = waF2 i c := (put_past (by decide +kernel)).trans rfl
  have g3 : putF ("why" : Str) (iV n) (waF2 i c) = waF (n, i, c) := (put_past (by decide +kernel)).trans (congrArg _ ((put_past (by decide +kernel)).trans rfl))
  rw [g1, g2, g3]
theorem WaitP.frm {S : Addr → Prop} {C : Addr} {o : Option (Nat × Nat × Nat)} {v : V} {H H' : Hp} (f : Frm S H H') (h : WaitP C o v H) (hs : ∀ wa dx x, H wa = some (.ins C dx (waF x)) → ¬ S wa) : WaitP C o v H' := by
  cases o with
  | none => exact h
  | some x =>
    obtain ⟨wa, dx, h1, h2⟩ := h
    exact ⟨wa, dx, h1, f _ _ h2 (hs wa dx x h2)⟩
/-- a list changes -/
theorem PosM.at_bl {CA CW CP : Addr} {H H1 : Hp} {p a m bl ol : Addr} {s : State} (h : PosM CA CW CP H p a m bl ol s) (e : Ex H H1) {L : List Nat} : PosM CA CW CP (upd H1 bl (.lst (flags L))) p a m bl ol { s with barred := L } := by
  have h := h.mono e
  obtain ⟨⟨dx, wv, h1, h2⟩, h3, h4, h5, h6, h7, h8⟩ := h
  have f : Frm (· = bl) H1 (upd H1 bl (.lst (flags L))) := Frm.upd rfl
  refine ⟨⟨dx, wv, f _ _ h1 (ne_kind h1 h4 ins_ne_lst), h2.frm f fun wa dx x hw => ne_kind hw h4 ins_ne_lst⟩, h3.frm f ?_ h6 ?_, upd_same, f _ _ h5 (Ne.symm h8), h6, h7, h8⟩
  · obtain ⟨⟨dx, ho⟩, _⟩ := h3
    exact ne_kind ho h4 ins_ne_lst
  · intro b hb xs z
    rw [hb, h4] at z; cases z
theorem PosM.at_ol {CA CW CP : Addr} {H H1 : Hp} {p a m bl ol : Addr} {s : State} (h : PosM CA CW CP H p a m bl ol s) (e : Ex H H1) {L : List Nat} : PosM CA CW CP (upd H1 ol (.lst (flags L))) p a m bl ol { s with once := L } := by
  have h := h.mono e
  obtain ⟨⟨dx, wv, h1, h2⟩, h3, h4, h5, h6, h7, h8⟩ := h
  have f : Frm (· = ol) H1 (upd H1 ol (.lst (flags L))) := Frm.upd rfl
  refine ⟨⟨dx, wv, f _ _ h1 (ne_kind h1 h5 ins_ne_lst), h2.frm f fun wa dx x hw => ne_kind hw h5 ins_ne_lst⟩, h3.frm f ?_ h7 ?_, f _ _ h4 h8, upd_same, h6, h7, h8⟩
  · obtain ⟨⟨dx, ho⟩, _⟩ := h3
    exact ne_kind ho h5 ins_ne_lst
  · intro b hb xs z
    rw [hb, h5] at z; cases z
/-- the calls made change -/
theorem PosM.at_m {CA CW CP : Addr} {H H1 : Hp} {p a m bl ol : Addr} {s : State} {l : Mad} (h : PosM CA CW CP H p a m bl ol s) (f : Frm (· = m) H H1) (hA : AucM CA H1 a m s.dealer l) : PosM CA CW CP H1 p a m bl ol { s with made := l } := by
  obtain ⟨⟨dx, wv, h1, h2⟩, h3, h4, h5, h6, h7, h8⟩ := h
  obtain ⟨_, vs, hv, _⟩ := h3
  exact ⟨⟨dx, wv, f _ _ h1 (ne_kind h1 hv ins_ne_lst), h2.frm f fun wa dx x hw => ne_kind hw hv ins_ne_lst⟩, hA, f _ _ h4 (Ne.symm h6), f _ _ h5 (Ne.symm h7), h6, h7, h8⟩
/-- the object's own fields change -/
theorem PosM.at_p {CA CW CP : Addr} {H H1 : Hp} {p a m bl ol : Addr} {s s' : State} {dx : Addr} {wv : V} (h : PosM CA CW CP H p a m bl ol s) (e : Ex H H1) (hs : s'.dealer = s.dealer ∧ s'.vul = s.vul ∧ s'.made = s.made ∧ s'.barred = s.barred ∧ s'.once = s.once) (hw : WaitP CW s'.waits wv H1) : PosM CA CW CP (upd H1 p (.ins CP dx (posF a bl ol s.vul wv (mendV s'.mend)))) p a m bl ol s' := by
  have h := h.mono e
  obtain ⟨⟨dx0, wv0, h1, h2⟩, h3, h4, h5, h6, h7, h8⟩ := h
  obtain ⟨g1, g2, g3, g4, g5⟩ := hs
  have f : Frm (· = p) H1 (upd H1 p (.ins CP dx (posF a bl ol s.vul wv (mendV s'.mend)))) := Frm.upd rfl
  refine ⟨⟨dx, wv, by rw [g2]; exact upd_same, hw.frm f fun wa dy x hx => ne_kind hx h1 (ins_ne_len (by show 3 ≠ 6; decide))⟩, ?_, ?_, ?_, h6, h7, h8⟩
  · rw [g1, g3]
    have h30 := h3
    obtain ⟨⟨dy, ho⟩, vs, hv, _⟩ := h30
    exact h3.frm f (ne_kind ho h1 (ins_ne_len (by show 2 ≠ 6; decide))) (ne_kind hv h1 lst_ne_ins) fun b hb xs z => by
      rw [hb, h1] at z; cases z
  · rw [g4]; exact f _ _ h4 (ne_kind h4 h1 lst_ne_ins)
  · rw [g5]; exact f _ _ h5 (ne_kind h5 h1 lst_ne_ins)
theorem flags_set {L : List Nat} {i : Nat} (h : i < 4) : (flags L).set i (.bl true) = flags (if L.contains i = true then L else L ++ [i]) := by
  have h2 : ∀ j, (if L.contains i = true then L else L ++ [i]).contains j = (L.contains j || decide (j = i)) := by
    intro j
    by_cases hc : L.contains i = true
    · rw [if_pos hc]
      by_cases hj : j = i
      · rw [hj, hc]; rfl
      · rw [decide_eq_false hj, Bool.or_false]
    · rw [if_neg hc, List.contains_eq_mem, List.contains_eq_mem]
      simp only [List.mem_append, List.mem_singleton, Bool.decide_or]
  unfold flags
  rw [h2, h2, h2, h2]
  rcases i with _ | _ | _ | _ | i
  · simp
  · simp
  · simp
  · simp
  · omega
theorem flags_clear {L : List Nat} {i : Nat} (h : i < 4) : (flags L).set i (.bl false) = flags (L.filter fun p => p != i) := by
  have h2 : ∀ j, (L.filter fun p => p != i).contains j = (L.contains j && !decide (j = i)) := by
    intro j
    rw [List.contains_eq_mem, List.contains_eq_mem]
    simp only [List.mem_filter, bne_iff_ne, ne_eq, Bool.decide_and, decide_not]
  unfold flags
  rw [h2, h2, h2, h2]
  rcases i with _ | _ | _ | _ | i
  · simp
  · simp
  · simp
  · simp
  · omega
section
variable {P : Program} {w : World} {K : PySem.W.Frag} {mg : Str → Option Value} {base : Heap} {fa : Nat → Addr} {fd : Nat → FuncData} {CA CW CP CS aN aR aA aW aO : Addr}
/-- a field that holds an instance with fields -/
theorem ev_fld2 {σ : L2.St} {H : Hp} {ta : TE} {C : Addr} {fs : List (Str × V)} {f : Str} {v : V} (h : EvP ta σ H fun v H1 => ∃ wa dx, v = .ref wa ∧ H1 wa = some (.ins C dx fs)) (c : Cls K C) (n : NoAttr K C f) (l : fs.lookup f = some v) : Ev (tFld K ta f) σ H v := fun H1 e Q q =>
  h H1 e _ fun u H2 e2 p => by
    obtain ⟨wa, dx, rfl, hw⟩ := p
    exact ⟨wa, C, dx, fs, v, rfl, hw, c, n, l, q H2 e2⟩
theorem evp_waitX (T : Txt K mg fa fd CA CW CP CS aN aR aA aW aO) {σ : L2.St} {H : Hp} {ta : TE} {p a m bl ol : Addr} {s : State} {x : Nat × Nat × Nat} (ho : Ev ta σ H (.ref p)) (h : PosM CA CW CP H p a m bl ol s) (hx : s.waits = some x) : EvP (tFld K ta "waiting") σ H (fun v H1 => ∃ wa dx, v = .ref wa ∧ H1 wa = some (.ins CW dx (waF x))) := by
  have := evp_wait T ho h
  rw [hx] at this
  exact this
theorem ok_w_init (T : Txt K mg fa fd CA CW CP CS aN aR aA aW aO) : FnOk P w K mg base CX0 1 (fa 28) (fd 28) P_w_init (spWInit CW) := by
  refine T.d_w_init.F.ok sc_w_init (fun vs H Q E h => ?_) (fun cdv A outer s H vs Q E hr h => ⟨_, (pss_cons (ps_fld (pv 0) (pv 1) rfl) (pss_cons (ps_fld (pv 0) (pv 2) rfl) (pss_one (ps_fld (pv 0) (pv 3) rfl)))), ?_⟩)
  · obtain ⟨p, dx, i, c, k, rfl, _⟩ := h; rfl
  · obtain ⟨p, dx, i, c, n, rfl, hp, k⟩ := h
    refine q_setF (P := fun v _ => v = iV i) (evp_of (ev_var rfl) fun _ _ => rfl) (fun _ _ _ _ h => h) (ev_var rfl) hp T.cl_CW T.n_CW_seat (by show 0 < 1000; decide) fun v H1 e1 hv => ?_
    subst hv
    refine q_setF (P := fun v _ => v = iV c) (evp_of (ev_var rfl) fun _ _ => rfl) (fun _ _ _ _ h => h) (ev_var rfl) upd_same T.cl_CW T.n_CW_call (by show 1 < 1000; decide) fun v H2 e2 hv => ?_
    subst hv
    refine s_setF (P := fun v _ => v = iV n) (evp_of (ev_var rfl) fun _ _ => rfl) (fun _ _ _ _ h => h) (ev_var rfl) upd_same T.cl_CW T.n_CW_why (by show 2 < 1000; decide) fun v H3 e3 hv => ?_
    subst hv
    refine k _ ?_ fun b o hb nb => ?_
    · refine Eq.trans upd_same (congrArg (fun q => some (HO.ins CW dx q)) ?_)
      exact waF_put
    · rw [upd_ne nb]
      refine e3 _ _ ?_
      rw [upd_ne nb]
      refine e2 _ _ ?_
      rw [upd_ne nb]
      exact e1 _ _ hb
theorem evp_newW {σ : L2.St} {H : Hp} {ta tb tc : TE} {E : XK} {i c n : Nat} (h1 : Ev ta σ H (iV i)) (h2 : Ev tb σ H (iV c)) (h3 : Ev tc σ H (iV n)) : EvP (tMake CW (spWInit CW) [] E (tCons ta (tCons tb (tCons tc tNil)))) σ H (WaitP CW (some (n, i, c))) := fun H1 e Q q =>
  (ea_cons h1 (ea_cons h2 (ea_cons h3 ea_nil))) H1 e _ fun H2 e2 x dx hx hdx hne => by
    refine ⟨x, dx, i, c, n, rfl, upd_same, fun H' hA f => ⟨rfl, ?_⟩⟩
    have e3 : Ex H2 (upd (upd H2 dx (.own x)) x (.ins CW dx [])) := (Ex.new hdx).trans (Ex.new (by rw [upd_ne (Ne.symm hne)]; exact hx))
    have e4 : Ex H2 H' := f.ex e3 fun b hb => by rw [hb]; exact hx
    exact q _ H' (e2.trans e4) ⟨x, dx, rfl, hA⟩
theorem ok_p_bar (T : Txt K mg fa fd CA CW CP CS aN aR aA aW aO) : FnOk P w K mg base CX0 1 (fa 36) (fd 36) P_p_bar (spBar CA CW CP) := by
  refine T.d_p_bar.F.ok sc_p_bar (fun vs H Q E h => ?_) (fun cdv A outer s H vs Q E hr h => ⟨_, (pss_one (ps_asg pe_bl (pg_sub (pe_fld (pv 0) rfl) (pv 1) set_list))), ?_⟩)
  · obtain ⟨p, a, m, bl, ol, s, i, rfl, _⟩ := h; rfl
  · obtain ⟨p, a, m, bl, ol, s, i, rfl, hP, h4, k⟩ := h
    refine s_setL (j := i) hP.bar ev_c (ev_barred T (ev_var rfl) hP) (ev_var rfl) h4 fun H1 e1 => k _ ?_ ((Frm.of e1).trans (Frm.upd rfl))
    rw [flags_set h4]
    exact hP.at_bl e1
theorem ok_p_let_stand (T : Txt K mg fa fd CA CW CP CS aN aR aA aW aO) : FnOk P w K mg base CX0 2 (fa 37) (fd 37) P_p_let_stand (spStand CA CW CP) := by
  refine T.d_p_let_stand.F.ok sc_p_let_stand (fun vs H Q E h => ?_) (fun cdv A outer s H vs Q E hr h => ⟨_, (pss_cons (ps_expr (pe_meth (pe_fld (pv 0) rfl) T.cl_CA T.m_a_make (ok_a_make T) (hr.mono (by decide)) T.d_a_make.b .nil pass0 (pa_cons (pv 1) (pa_cons (pv 2) pa_nil)))) (pss_cons (ps_asg pe_bl (pg_sub (pe_fld (pv 0) rfl) (pv 1) set_list)) (pss_cons (ps_fld (pv 0) pe_non rfl) (pss_one (ps_fld (pv 0) pe_non rfl))))), ?_⟩)
  · obtain ⟨p, a, m, bl, ol, s, i, c, rfl, _⟩ := h; rfl
  · obtain ⟨p, a, m, bl, ol, s, i, c, rfl, hP, h4, hl, k⟩ := h
    refine q_make (s := i) (c := c) (ev_auction T (ev_var rfl) hP) hP.auc (by omega) (ev_var rfl) (ev_var rfl) fun H1 f1 hA => ?_
    have hP1 := hP.at_m f1 hA
    refine q_setL (j := i) hP1.onc ev_c (ev_once T (ev_var rfl) hP1) (ev_var rfl) h4 fun H2 e2 => ?_
    rw [flags_clear h4]
    have hP2 := hP1.at_ol e2 (L := s.once.filter fun p => p != i)
    have hP20 := hP2
    obtain ⟨⟨dx, wv, hp2, _⟩, _⟩ := hP20
    refine q_setF (P := fun v _ => v = .non) (evp_of ev_c fun _ _ => rfl) (fun _ _ _ _ h => h) (ev_var rfl) hp2 T.cl_CP T.n_CP_waiting (by show 6 < 1000; decide) fun v H3 e3 hv => ?_
    subst hv
    rw [putF_waiting]
    have hP3 := hP2.at_p (dx := dx) (wv := .non) (s' := { s with made := s.made ++ [(i, c)], once := s.once.filter fun p => p != i, waits := none }) e3 ⟨rfl, rfl, rfl, rfl, rfl⟩ rfl
    refine s_setF (P := fun v _ => v = .non) (evp_of ev_c fun _ _ => rfl) (fun _ _ _ _ h => h) (ev_var rfl) upd_same T.cl_CP T.n_CP_mending (by show 6 < 1000; decide) fun v H4 e4 hv => ?_
    subst hv
    rw [putF_mending]
    refine k _ (hP3.at_p (dx := dx) (wv := .non) (s' := Vbbrac.stands s i c) e4 ⟨rfl, rfl, rfl, rfl, rfl⟩ rfl) ?_
    intro b o hb n
    have np : b ≠ p := fun z => n (.inl z)
    have nm : b ≠ m := fun z => n (.inr (.inl z))
    have no : b ≠ ol := fun z => n (.inr (.inr (.inr z)))
    rw [upd_ne np]
    refine e4 _ _ ?_
    rw [upd_ne np]
    refine e3 _ _ ?_
    rw [upd_ne no]
    exact e2 _ _ (f1 _ _ hb nm)
theorem ok_p_accept (T : Txt K mg fa fd CA CW CP CS aN aR aA aW aO) : FnOk P w K mg base CX0 3 (fa 38) (fd 38) P_p_accept (spAccept CA CW CP) := by
  refine T.d_p_accept.F.ok sc_p_accept (fun vs H Q E h => ?_) (fun cdv A outer s H vs Q E hr h => ⟨_, (pss_cons (ps_expr (pe_meth (pv 0) T.cl_CP T.m_p_let_stand (ok_p_let_stand T) (hr.mono (by decide)) T.d_p_let_stand.b .nil pass0 (pa_cons (pe_fld (pe_fld (pv 0) rfl) rfl) (pa_cons (pe_fld (pe_fld (pv 0) rfl) rfl) pa_nil)))) (pss_one (ps_ret pe_int))), ?_⟩)
  · obtain ⟨p, a, m, bl, ol, s, x, rfl, _⟩ := h; rfl
  · obtain ⟨p, a, m, bl, ol, s, x, rfl, hP, hw, hx, hl, k⟩ := h
    refine q_stand (ev_var rfl) hP (ev_fld2 (evp_waitX T (ev_var rfl) hP hx) T.cl_CW T.n_CW_seat waF_seat) (ev_fld2 (evp_waitX T (ev_var rfl) hP hx) T.cl_CW T.n_CW_call waF_call) (hw.waits x hx).1 hl fun H1 hP1 f1 => ?_
    exact s_ret ev_c fun H2 e2 => k H2 (hP1.mono e2) (f1.trans (Frm.of e2))
theorem ok_p_withdraw (T : Txt K mg fa fd CA CW CP CS aN aR aA aW aO) : FnOk P w K mg base CX0 2 (fa 39) (fd 39) P_p_withdraw (spWithdraw CA CW CP) := by
  refine T.d_p_withdraw.F.ok sc_p_withdraw (fun vs H Q E h => ?_) (fun cdv A outer s H vs Q E hr h => ⟨_, (pss_cons (ps_set (i := 1) sc_p_withdraw.nd rfl (.inl rfl) (pe_fld (pv 0) rfl)) (pss_cons (ps_fld (pv 0) pe_non rfl) (pss_cons (ps_if (pt_cmpR op_eq (pe_fld (pv 1) rfl) (pe_globI rfl T.g_TOO_LOW) (nomark _)) (pss_cons (ps_fld (pv 0) (pe_op op_sub (pe_fld (pv 1) rfl) (pe_globI rfl T.g_FIRST_BID)) rfl) (pss_one (ps_ret pe_int))) pss_nil) (pss_cons (ps_if (pt_cmpR op_eq (pe_fld (pv 1) rfl) (pe_globI rfl T.g_PASS) (nomark _)) (pss_cons (ps_asg pe_bl (pg_sub (pe_fld (pv 0) rfl) (pe_fld (pv 1) rfl) set_list)) (pss_one (ps_ret pe_int))) pss_nil) (pss_cons (ps_expr (pe_meth (pv 0) T.cl_CP T.m_p_bar (ok_p_bar T) (hr.mono (by decide)) T.d_p_bar.b .nil pass0 (pa_cons (pe_call (ok_partner T) (hr.mono (by decide)) rfl T.m_partner T.d_partner.F.kp T.d_partner.b .nil pass0 (pa_cons (pe_fld (pv 1) rfl) pa_nil)) pa_nil))) (pss_one (ps_ret pe_int))))))), ?_⟩)
  · obtain ⟨p, a, m, bl, ol, s, x, rfl, _⟩ := h; rfl
  · obtain ⟨p, a, m, bl, ol, s, x, rfl, hP, hw, hx, k⟩ := h
    obtain ⟨g1, g2, g3, g4, g5⟩ := hw.waits x hx
    refine q_asgP (evp_waitX T (ev_var rfl) hP hx) fun v H1 e1 hv => ?_
    obtain ⟨wa, dw, rfl, hwa⟩ := hv
    have hP1 := hP.mono e1
    have hP10 := hP1
    obtain ⟨⟨dx, wv, hp1, _⟩, _⟩ := hP10
    refine q_setF (P := fun v _ => v = .non) (evp_of ev_c fun _ _ => rfl) (fun _ _ _ _ h => h) (ev_var rfl) hp1 T.cl_CP T.n_CP_waiting (by show 6 < 1000; decide) fun v H2 e2 hv => ?_
    subst hv
    rw [putF_waiting]
    have hP2 := hP1.at_p (dx := dx) (wv := .non) (s' := { s with waits := none }) e2 ⟨rfl, rfl, rfl, rfl, rfl⟩ rfl
    generalize hH2 : upd H2 p (.ins CP dx (posF a bl ol s.vul .non (mendV s.mend))) = H2' at *
    have hw2 : H2' wa = some (.ins CW dw (waF x)) := by
      rw [← hH2, upd_ne (ne_kind hwa hp1 (ins_ne_len (by show 3 ≠ 6; decide)))]
      exact e2 _ _ hwa
    have f2 : Frm (Fp p m bl ol) H H2' := fun b o hb n => by
      rw [← hH2, upd_ne (fun z => n (.inl z))]
      exact e2 _ _ (e1 _ _ hb)
    have hp2 : H2' p = some (.ins CP dx (posF a bl ol s.vul .non (mendV s.mend))) := by rw [← hH2]; exact upd_same
    refine q_when (et_eqN (i := x.1) (j := 1) (ev_fld (ev_var rfl) hw2 T.cl_CW T.n_CW_why waF_why) ev_c) (fun hb H3 e3 => ?_) (fun hb H3 e3 => ?_)
    · have h1 := of_decide_eq_true hb
      have h3 := g5 h1
      refine q_setF (P := fun v _ => v = iV (x.2.2 - 3)) (evp_of (ev_subN (j := 3) h3 (ev_fld (ev_var rfl) (e3 _ _ hw2) T.cl_CW T.n_CW_call waF_call) ev_c) fun _ _ => rfl) (fun _ _ _ _ h => h) (ev_var rfl) (e3 _ _ hp2) T.cl_CP T.n_CP_mending (by show 6 < 1000; decide) fun v H4 e4 hv => ?_
      subst hv
      rw [putF_mending]
      refine s_ret ev_c fun H5 e5 => ?_
      have k' := k H5
      have hS : withS s x.1 x.2.1 x.2.2 = ({ s with waits := none, mend := some (x.2.1, x.2.2 - 3) }, 4) := by unfold withS; rw [if_pos h1]
      rw [hS] at k'
      refine k' (PosM.mono e5 ((hP2.mono e3).at_p (dx := dx) (wv := .non) (s' := { s with waits := none, mend := some (x.2.1, x.2.2 - 3) }) e4 ⟨rfl, rfl, rfl, rfl, rfl⟩ rfl)) fun b o hb n => e5 _ _ ?_
      rw [upd_ne (fun z => n (.inl z))]
      exact e4 _ _ (e3 _ _ (f2 b o hb n))
    · have h1 := of_decide_eq_false hb
      refine q_when (et_eqN (i := x.2.2) (j := 0) (ev_fld (ev_var rfl) (e3 _ _ hw2) T.cl_CW T.n_CW_call waF_call) ev_c) (fun hb2 H4 e4 => ?_) (fun hb2 H4 e4 => ?_)
      · have h2 := of_decide_eq_true hb2
        have hP4 := (hP2.mono e3).mono e4
        refine q_setL (j := x.2.1) hP4.onc ev_c (ev_once T (ev_var rfl) hP4) (ev_fld (ev_var rfl) (e4 _ _ (e3 _ _ hw2)) T.cl_CW T.n_CW_seat waF_seat) g1 fun H5 e5 => ?_
        refine s_ret ev_c fun H6 e6 => ?_
        have k' := k H6
        have hS : withS s x.1 x.2.1 x.2.2 = ({ s with waits := none, once := if s.once.contains x.2.1 = true then s.once else s.once ++ [x.2.1] }, 5) := by unfold withS; rw [if_neg h1, if_pos h2]
        rw [hS] at k'
        rw [show (({ s with waits := none } : State).once) = s.once from rfl, flags_set g1] at e6
        refine k' (PosM.mono e6 (hP4.at_ol e5)) fun b o hb n => e6 _ _ ?_
        rw [upd_ne (fun z => n (.inr (.inr (.inr z))))]
        exact e5 _ _ (e4 _ _ (e3 _ _ (f2 b o hb n)))
      · have h2 := of_decide_eq_false hb2
        have hP4 := (hP2.mono e3).mono e4
        refine q_bar (i := (x.2.1 + 2) % 4) (ev_var rfl) hP4 (ev_partner (ev_fld (ev_var rfl) (e4 _ _ (e3 _ _ hw2)) T.cl_CW T.n_CW_seat waF_seat)) (Nat.mod_lt _ (by decide)) fun H5 hP5 f5 => ?_
        refine s_ret ev_c fun H6 e6 => ?_
        have k' := k H6
        have hS : withS s x.1 x.2.1 x.2.2 = (Vbbrac.bar { s with waits := none } (Vbbrac.partner x.2.1), 6) := by unfold withS; rw [if_neg h1, if_neg h2]
        rw [hS] at k'
        exact k' (hP5.mono e6) fun b o hb n => e6 _ _ (f5 _ _ (e4 _ _ (e3 _ _ (f2 b o hb n))) fun z => n (.inr (.inr (.inl z))))
end
end Bb
namespace Bb
open PySem PySem.Spec PyProof.Rows L2 Evl
open PySem.W (Codec)
open Vbbrac (State)
theorem inV_dbl (c : Nat) : inV (iV c) [iV 1, iV 2] = decide (c = 1 ∨ c = 2) := by
  show ((1 : Int) == (c : Int) || ((2 : Int) == (c : Int) || false)) = _
  rw [Bool.beq_eq_decide_eq, Bool.beq_eq_decide_eq, Bool.or_false, ← Bool.decide_or, decide_eq_decide]
  omega
theorem empty_is (l : Mad) (seat c : Nat) : Vbbrac.empty_ l seat c = (decide (c = 1 ∨ c = 2) && !mayI l seat c) := by
  unfold Vbbrac.empty_ mayI
  rcases c with _ | _ | _ | c
  · rfl
  · simp
  · simp
  · simp
section
variable {P : Program} {w : World} {K : PySem.W.Frag} {mg : Str → Option Value} {base : Heap} {fa : Nat → Addr} {fd : Nat → FuncData} {CA CW CP CS aN aR aA aW aO : Addr}
theorem et_not_false {t : TT} {σ : L2.St} {H : Hp} {b : Bool} (h : EvT t σ H b) : EvT (tNot t) σ H (!b) := et_not h
theorem ok_p_take_call (T : Txt K mg fa fd CA CW CP CS aN aR aA aW aO) : FnOk P w K mg base CX0 5 (fa 34) (fd 34) P_p_take_call (spTake CA CW CP) := by
  refine T.d_p_take_call.F.ok sc_p_take_call (fun vs H Q E h => ?_) (fun cdv A outer s H vs Q E hr h => ⟨_, (pss_cons (ps_if (PW.pt (pw_and (pt_cmpR op_in_seq (pv 2) (pe_tup (pa_cons (pe_globI rfl T.g_DOUBLE) (pa_cons (pe_globI rfl T.g_REDOUBLE) pa_nil))) (by rfl)) (pw_and1 (pt_not (pt_val (pe_meth (pe_fld (pv 0) rfl) T.cl_CA T.m_a_may_stand (ok_a_may_stand T) (hr.mono (by decide)) T.d_a_may_stand.b .nil pass0 (pa_cons (pv 1) (pa_cons (pv 2) pa_nil)))))))) (pss_cons (ps_expr (pe_meth (pv 0) T.cl_CP T.m_p_bar (ok_p_bar T) (hr.mono (by decide)) T.d_p_bar.b .nil pass0 (pa_cons (pe_call (ok_partner T) (hr.mono (by decide)) rfl T.m_partner T.d_partner.F.kp T.d_partner.b .nil pass0 (pa_cons (pv 1) pa_nil)) pa_nil))) (pss_one (ps_ret pe_int))) pss_nil) (pss_cons (ps_if (pt_cmpR op_ne (pv 1) (pe_meth0 (pe_fld (pv 0) rfl) T.cl_CA T.m_a_on_turn (ok_a_on_turn T) (hr.mono (by decide)) T.d_a_on_turn.b .nil pass0) (nomark _)) (pss_cons (ps_fld (pv 0) (pe_make T.k_Waiting (ok_w_init T) (hr.mono (by decide)) rfl T.c_Waiting T.d_w_init.b .nil pass0 (pa_cons (pv 1) (pa_cons (pv 2) (pa_cons (pe_globI rfl T.g_OUT_OF_TURN) pa_nil)))) rfl) (pss_one (ps_ret pe_int))) pss_nil) (pss_cons (ps_if (pt_not (pt_val (pe_meth (pe_fld (pv 0) rfl) T.cl_CA T.m_a_legal (ok_a_legal T) (hr.mono (by decide)) T.d_a_legal.b .nil pass0 (pa_cons (pv 1) (pa_cons (pv 2) pa_nil))))) (pss_cons (ps_fld (pv 0) (pe_make T.k_Waiting (ok_w_init T) (hr.mono (by decide)) rfl T.c_Waiting T.d_w_init.b .nil pass0 (pa_cons (pv 1) (pa_cons (pv 2) (pa_cons (pe_globI rfl T.g_TOO_LOW) pa_nil)))) rfl) (pss_one (ps_ret pe_int))) pss_nil) (pss_cons (ps_if (PW.pt (pw_and (pt_cmpR op_notN (pe_fld (pv 0) rfl) pe_non (nomark _)) (pw_and1 (pt_cmpR op_ne (pe_op op_sub (pv 2) (pe_globI rfl T.g_FIRST_BID)) (pe_meth0 (pv 0) T.cl_CP T.m_p_mending_bid (ok_p_mending_bid T) (hr.mono (by decide)) T.d_p_mending_bid.b .nil pass0) (nomark _))))) (pss_one (ps_expr (pe_meth (pv 0) T.cl_CP T.m_p_bar (ok_p_bar T) (hr.mono (by decide)) T.d_p_bar.b .nil pass0 (pa_cons (pe_call (ok_partner T) (hr.mono (by decide)) rfl T.m_partner T.d_partner.F.kp T.d_partner.b .nil pass0 (pa_cons (pv 1) pa_nil)) pa_nil)))) pss_nil) (pss_cons (ps_expr (pe_meth (pv 0) T.cl_CP T.m_p_let_stand (ok_p_let_stand T) (hr.mono (by decide)) T.d_p_let_stand.b .nil pass0 (pa_cons (pv 1) (pa_cons (pv 2) pa_nil)))) (pss_one (ps_ret pe_int))))))), ?_⟩)
  · obtain ⟨p, a, m, bl, ol, s, i, c, rfl, _⟩ := h; rfl
  · obtain ⟨p, a, m, bl, ol, s, i, c, rfl, hP, hw, h4, h37, hl, k⟩ := h
    refine q_when (b := Vbbrac.empty_ s.made i c) (et_is (et_and (a := decide (c = 1 ∨ c = 2)) (b := !mayI s.made i c) (et_is (et_test (ev_inU (xs := [iV 1, iV 2]) (ev_var rfl) (eu_tup (ea_cons ev_c (ea_cons ev_c ea_nil)) (by decide)) rfl rfl)) (inV_dbl c)) (fun hb => et_not (et_B (ev_may (ev_auction T (ev_var rfl) hP) hP.auc (ev_var rfl) (ev_var rfl) (of_decide_eq_true hb))))) (empty_is _ _ _).symm) (fun hb H1 e1 => ?_) (fun hb H1 e1 => ?_)
    · have hS : takeS s i c = (Vbbrac.bar s (Vbbrac.partner i), 3) := by unfold takeS; rw [if_pos hb]
      rw [hS] at k
      refine q_bar (i := (i + 2) % 4) (ev_var rfl) (hP.mono e1) (ev_partner (ev_var rfl)) (Nat.mod_lt _ (by decide)) fun H2 hP2 f2 => ?_
      exact s_ret ev_c fun H3 e3 => k H3 (hP2.mono e3) fun b o hb n => e3 _ _ (f2 _ _ (e1 _ _ hb) fun z => n (.inr (.inr (.inl z))))
    have hP1 := hP.mono e1
    refine q_when (b := !decide (i = Vbbrac.turnOf s)) (et_neN (i := i) (ev_var rfl) (ev_auc (f := fun d l => iV (Vbbrac.turn d l)) (ev_auction T (ev_var rfl) hP1) hP1.auc)) (fun hb2 H2 e2 => ?_) (fun hb2 H2 e2 => ?_)
    · have h2 : i ≠ Vbbrac.turnOf s := by simpa using hb2
      have hS : takeS s i c = ({ s with waits := some (2, i, c) }, 2) := by unfold takeS; rw [if_neg (by rw [hb]; exact Bool.false_ne_true), if_pos h2]
      rw [hS] at k
      have hP2 := hP1.mono e2
      have hP20 := hP2
      obtain ⟨⟨dx, wv, hp2, _⟩, _⟩ := hP20
      refine q_setF (P := WaitP CW (some (2, i, c))) (evp_newW (ev_var rfl) (ev_var rfl) ev_c) (fun _ _ _ e h => h.mono e) (ev_var rfl) hp2 T.cl_CP T.n_CP_waiting (by show 6 < 1000; decide) fun v H3 e3 hv => ?_
      rw [putF_waiting]
      refine s_ret ev_c fun H4 e4 => k H4 (PosM.mono e4 (hP2.at_p (dx := dx) (wv := v) (s' := { s with waits := some (2, i, c) }) e3 ⟨rfl, rfl, rfl, rfl, rfl⟩ hv)) fun b o hb n => e4 _ _ ?_
      rw [upd_ne (fun z => n (.inl z))]
      exact e3 _ _ (e2 _ _ (e1 _ _ hb))
    have hP2 := hP1.mono e2
    have h2 : ¬ i ≠ Vbbrac.turnOf s := by simpa using hb2
    refine q_when (b := !Vbbrac.legal s.made i c) (et_not (et_B (ev_legal (s := i) (c := c) (ev_auction T (ev_var rfl) hP2) hP2.auc (ev_var rfl) (ev_var rfl) h37))) (fun hb3 H3 e3 => ?_) (fun hb3 H3 e3 => ?_)
    · have h3 : Vbbrac.legal s.made i c = false := by simpa using hb3
      have hS : takeS s i c = ({ s with waits := some (1, i, c) }, 1) := by unfold takeS; rw [if_neg (by rw [hb]; exact Bool.false_ne_true), if_neg h2, if_pos h3]
      rw [hS] at k
      have hP3 := hP2.mono e3
      have hP30 := hP3
      obtain ⟨⟨dx, wv, hp3, _⟩, _⟩ := hP30
      refine q_setF (P := WaitP CW (some (1, i, c))) (evp_newW (ev_var rfl) (ev_var rfl) ev_c) (fun _ _ _ e h => h.mono e) (ev_var rfl) hp3 T.cl_CP T.n_CP_waiting (by show 6 < 1000; decide) fun v H4 e4 hv => ?_
      rw [putF_waiting]
      refine s_ret ev_c fun H5 e5 => k H5 (PosM.mono e5 (hP3.at_p (dx := dx) (wv := v) (s' := { s with waits := some (1, i, c) }) e4 ⟨rfl, rfl, rfl, rfl, rfl⟩ hv)) fun b o hb n => e5 _ _ ?_
      rw [upd_ne (fun z => n (.inl z))]
      exact e4 _ _ (e3 _ _ (e2 _ _ (e1 _ _ hb)))
    have hP3 := hP2.mono e3
    have h3 : ¬ Vbbrac.legal s.made i c = false := by simpa using hb3
    -- the call stands; s': the table whose bars are told already
    have fin : ∀ (s' : State) (H4 : Hp), PosM CA CW CP H4 p a m bl ol s' → s'.made = s.made → Frm (Fp p m bl ol) H H4 → takeS s i c = (Vbbrac.stands s' i c, 0) →
        tSeq (tDrop (tMeth CP "let_stand" (spStand CA CW CP) [] E0 (tVar 0) (tCons (tVar 1) (tCons (tVar 2) tNil)))) (tRet (tC (.int 0))) { nx := fun _ H' => Q .non H', rt := Q } [some (.ref p), some (iV i), some (iV c)] H4 := by
      intro s' H4 hP4 hm f4 hS
      rw [hS] at k
      refine q_stand (ev_var rfl) hP4 (ev_var rfl) (ev_var rfl) h4 (by rw [hm]; exact hl) fun H5 hP5 f5 => ?_
      exact s_ret ev_c fun H6 e6 => k H6 (hP5.mono e6) ((f4.trans f5).trans (Frm.of e6))
    have hS0 : takeS s i c = match s.mend with
        | none => (Vbbrac.stands s i c, 0)
        | some x => (if (c : Int) - 3 = mbI s x.2 then Vbbrac.stands s i c else Vbbrac.bar (Vbbrac.stands s i c) (Vbbrac.partner i), 0) := by
      unfold takeS; rw [if_neg (by rw [hb]; exact Bool.false_ne_true), if_neg h2, if_neg h3] <;> rfl
    cases em : s.mend with
    | none =>
      rw [em] at hS0
      refine q_when (b := false) (et_is (et_and (a := false) (b := false) (et_is (et_test (ev_mendS T (ev_var rfl) hP3)) (by rw [em]; rfl)) (fun h => by cases h)) rfl) (fun h _ _ => by cases h) (fun _ H4 e4 => ?_)
      exact fin s H4 (hP3.mono e4) rfl (Frm.of (((e1.trans e2).trans e3).trans e4)) hS0
    | some x =>
      rw [em] at hS0
      refine q_when (b := !decide ((c : Int) - 3 = mbI s x.2)) (et_is (et_and (a := true) (et_is (et_test (ev_mendS T (ev_var rfl) hP3)) (by rw [em]; rfl)) (fun _ => et_test (ev_op (ev_I (a := (c : Int)) (b := 3) (ev_var rfl) ev_c rfl) (ev_mbI (ev_var rfl) hP3 hw em) (rv_ne rfl)))) (by rw [Bool.true_and]; congr 1; rw [decide_eq_decide, V.int.injEq])) (fun hb4 H4 e4 => ?_) (fun hb4 H4 e4 => ?_)
      · have h5 : ¬ (c : Int) - 3 = mbI s x.2 := by simpa using hb4
        have hS0 : takeS s i c = (if (c : Int) - 3 = mbI s x.2 then Vbbrac.stands s i c else Vbbrac.bar (Vbbrac.stands s i c) (Vbbrac.partner i), 0) := hS0
        rw [if_neg h5] at hS0
        refine s_bar (i := (i + 2) % 4) (ev_var rfl) (hP3.mono e4) (ev_partner (ev_var rfl)) (Nat.mod_lt _ (by decide)) fun H5 hP5 f5 => ?_
        exact fin (Vbbrac.bar s (Vbbrac.partner i)) H5 hP5 rfl ((Frm.of (((e1.trans e2).trans e3).trans e4)).trans fun b o hb n => f5 b o hb fun z => n (.inr (.inr (.inl z)))) hS0
      · have h5 : (c : Int) - 3 = mbI s x.2 := by simpa using hb4
        have hS0 : takeS s i c = (if (c : Int) - 3 = mbI s x.2 then Vbbrac.stands s i c else Vbbrac.bar (Vbbrac.stands s i c) (Vbbrac.partner i), 0) := hS0
        rw [if_pos h5] at hS0
        exact fin s H4 (hP3.mono e4) rfl (Frm.of (((e1.trans e2).trans e3).trans e4)) hS0
theorem el_lcN {σ : L2.St} {H : Hp} {a : Addr} {L : List Nat} {tl te : TE} {t : TT} {j : Nat} {vs : List Nat} (p : Nat → Bool) (g : Nat → V) (h : Ev tl σ H (.ref a)) (hx : SqL K H a (L.map iV)) (hz : L.length ≤ 40000) (hw : ∀ x, wipe ((wipe σ vs).set j (some x)) vs = wipe σ vs)
    (ht : ∀ (x : Nat) H1, Ex H H1 → x ∈ L → EvT t ((wipe σ vs).set j (some (iV x))) H1 (p x)) (he : ∀ (x : Nat) H1, Ex H H1 → x ∈ L → p x = true → Ev te ((wipe σ vs).set j (some (iV x))) H1 (g x)) :
    EvL (tLc (iList K tl) (gName j) t te vs) σ H ((L.filter p).map g) := fun H0 e Q q => h H0 e _ fun H1 e1 => ⟨a, rfl, ⟨L.map iV, ex_l (e.trans e1) hx⟩, fun Dl hD =>
  lc_list (xs := L.map iV) (fun i H' => Ex H1 H' ∧ H' Dl = some (.lst (((L.take i).filter p).map g))) ⟨Ex.new hD, upd_same⟩ (fun i H' _ q => ex_l ((e.trans e1).trans q.1) hx) (fun i x H' hi q2 => ⟨hw x, by
    rw [List.getElem?_map] at hi
    cases hL : L[i]? with
    | none => rw [hL] at hi; cases hi
    | some n =>
      rw [hL] at hi
      obtain rfl : iV n = x := Option.some.inj hi
      have hm : n ∈ L := List.mem_of_getElem? hL
      have hlen : ((L.take i).filter p).length ≤ L.length := Nat.le_trans (List.length_filter_le _ _) (by rw [List.length_take]; omega)
      refine ht n H1 (e.trans e1) hm H' q2.1 _ fun H3 e3 => ?_
      rw [take_more hL, List.filter_append, List.map_append]
      cases hp : p n with
      | true =>
        show te _ H3 _
        refine he n H1 (e.trans e1) hm hp H3 (q2.1.trans e3) _ fun H4 e4 => ⟨_, e4 _ _ (e3 _ _ q2.2), ?_, (((q2.1).trans e3).trans e4).mut hD, ?_⟩
        · rw [List.length_map]; exact sz_lt (by omega)
        · rw [upd_same, List.filter_cons, if_pos hp]; rfl
      | false =>
        refine ⟨q2.1.trans e3, ?_⟩
        rw [List.filter_cons, if_neg (by rw [hp]; exact Bool.false_ne_true)]
        show H3 Dl = some (.lst (_ ++ []))
        rw [List.append_nil]
        exact e3 _ _ q2.2⟩)
    (fun H' q2 => q Dl H' (fresh_back e1 hD) (e1.trans q2.1) (by
      have := q2.2
      rw [List.length_map, List.take_of_length_le (Nat.le_refl _)] at this
      exact this))⟩
theorem et_yes {σ : L2.St} {H : Hp} : EvT tYes σ H true := fun H1 _ _ q => q H1 (Ex.refl H1)
/-- xs + ys, both lists -/
theorem el_cat {σ : L2.St} {H : Hp} {ta tb : TE} {a : Addr} {xs ys : List V} (h1 : Ev ta σ H (.ref a)) (hx : H a = some (.lst xs)) (h2 : EvL tb σ H ys) (hz : xs.length + ys.length ≤ 100000) : EvL (tOp rCat ta tb) σ H (xs ++ ys) := fun H1 e Q q =>
  h1 H1 e _ fun H2 e2 => h2 H2 (e.trans e2) _ fun b H3 hb e3 h3 => ⟨a, b, xs, ys, rfl, rfl, e3 _ _ (e2 _ _ (e _ _ hx)), h3, sz_of hz, fun p hp => q p _ (fresh_back (e2.trans e3) hp) ((e2.trans e3).trans (Ex.new hp)) upd_same⟩
theorem el_catLL {σ : L2.St} {H : Hp} {ta tb : TE} {xs ys : List V} (h1 : EvL ta σ H xs) (h2 : EvL tb σ H ys) (hz : xs.length + ys.length ≤ 100000) : EvL (tOp rCat ta tb) σ H (xs ++ ys) := fun H1 e Q q =>
  h1 H1 e _ fun a H2 ha e2 hx => h2 H2 (e.trans e2) _ fun b H3 hb e3 h3 => ⟨a, b, xs, ys, rfl, rfl, e3 _ _ hx, h3, sz_of hz, fun p hp => q p _ (fresh_back (e2.trans e3) hp) ((e2.trans e3).trans (Ex.new hp)) upd_same⟩
def heldN (s : State) (i : Nat) : Nat := if s.barred.contains i = true then 2 else if s.once.contains i = true then 1 else 0
def toldL (s : State) : List Nat := [Vbbrac.turnOf s, lbN s.made, Vbbrac.doubled s.made, Vbbrac.passes s.made, if Vbbrac.over s.made = true then 1 else 0, (match s.waits with
      | some x => x.1
      | none => 0), (match s.mend with
      | some _ => 1
      | none => 0), heldN s 0, heldN s 1, heldN s 2, heldN s 3]
theorem ok_p_told (T : Txt K mg fa fd CA CW CP CS aN aR aA aW aO) : FnOk P w K mg base CX0 4 (fa 41) (fd 41) P_p_told (spPosL CA CW CP toldL) := by
  refine T.d_p_told.F.ok sc_p_told (fun vs H Q E h => ?_) (fun cdv A outer s H vs Q E hr h => ⟨_, (pss_cons (ps_set (i := 1) sc_p_told.nd rfl (.inl rfl) (pe_fld (pv 0) rfl)) (pss_cons (ps_set (i := 2) sc_p_told.nd rfl (.inl rfl) (pe_lst (pa_cons (pe_meth0 (pv 1) T.cl_CA T.m_a_on_turn (ok_a_on_turn T) (hr.mono (by decide)) T.d_a_on_turn.b .nil pass0) (pa_cons (pe_op op_add (pe_meth0 (pv 1) T.cl_CA T.m_a_last_bid (ok_a_last_bid T) (hr.mono (by decide)) T.d_a_last_bid.b .nil pass0) pe_int) (pa_cons (pe_meth0 (pv 1) T.cl_CA T.m_a_doubled (ok_a_doubled T) (hr.mono (by decide)) T.d_a_doubled.b .nil pass0) (pa_cons (pe_meth0 (pv 1) T.cl_CA T.m_a_passes (ok_a_passes T) (hr.mono (by decide)) T.d_a_passes.b .nil pass0) pa_nil)))))) (pss_cons (ps_expr (pe_bm PySem.F.plainAttrs_list PySem.F.slot_list_append PySem.F.type_list_append mt_append (pv 2) (pa_cons (pe_ifExp (pt_val (pe_meth0 (pv 1) T.cl_CA T.m_a_over (ok_a_over T) (hr.mono (by decide)) T.d_a_over.b .nil pass0)) pe_int pe_int) pa_nil))) (pss_cons (ps_expr (pe_bm PySem.F.plainAttrs_list PySem.F.slot_list_append PySem.F.type_list_append mt_append (pv 2) (pa_cons (pe_ifExp (pt_cmpR op_isN (pe_fld (pv 0) rfl) pe_non (nomark _)) (pe_globI rfl T.g_NOTHING) (pe_fld (pe_fld (pv 0) rfl) rfl)) pa_nil))) (pss_cons (ps_expr (pe_bm PySem.F.plainAttrs_list PySem.F.slot_list_append PySem.F.type_list_append mt_append (pv 2) (pa_cons (pe_ifExp (pt_cmpR op_isN (pe_fld (pv 0) rfl) pe_non (nomark _)) pe_int pe_int) pa_nil))) (pss_one (ps_ret (pe_op op_cat (pv 2) (pe_lc (own := [("seat", 3)]) (g := gName 3) (by rfl) sc_p_told.nd (pi_range1 (by rfl) T.b_range (pa_cons pe_int pa_nil)) (blkOk_by (N := N_p_told) (sc := defScope st_p_told) (by decide +kernel)) (fun _ _ _ _ _ => pg_name (i := 3) sc_p_told.nd rfl (.inl rfl)) (fun _ _ _ _ _ => by exact pts_nil) (fun _ _ _ _ _ => by exact (pe_meth (pv 0) T.cl_CP T.m_p_held (ok_p_held T) (hr.mono (by decide)) T.d_p_held.b .nil pass0 (pa_cons (pv 3) pa_nil)))))))))))), ?_⟩)
  · obtain ⟨p, a, m, bl, ol, s, rfl, _⟩ := h; rfl
  · obtain ⟨p, a, m, bl, ol, s, rfl, hP, hw, k⟩ := h
    refine q_asg (ev_auction T (ev_var rfl) hP) fun H1 e1 => ?_
    have hP1 := hP.mono e1
    refine q_asgL (xs := [iV (Vbbrac.turnOf s), iV (lbN s.made), iV (Vbbrac.doubled s.made), iV (Vbbrac.passes s.made)]) (el_lst (ea_cons (ev_auc (f := fun d l => iV (Vbbrac.turn d l)) (ev_var rfl) hP1.auc) (ea_cons (ev_I (ev_auc (f := fun _ l => .int (lbI l)) (ev_var rfl) hP1.auc) ev_c (congrArg V.int (lbN_I s.made).symm)) (ea_cons (ev_auc (f := fun _ l => iV (Vbbrac.doubled l)) (ev_var rfl) hP1.auc) (ea_cons (ev_auc (f := fun _ l => iV (Vbbrac.passes l)) (ev_var rfl) hP1.auc) ea_nil)))) (by show 4 ≤ 100000; decide)) fun n H2 hn e2 h2 => ?_
    have hP2 := hP1.mono e2
    have hnH := fresh_back e1 hn
    refine q_app (v := iV (if Vbbrac.over s.made = true then 1 else 0)) h2 (ev_var rfl) (ev_if (et_B (ev_auc (f := fun _ l => .bl (Vbbrac.over l)) (ev_var rfl) hP2.auc)) (fun hb => by rw [if_pos hb]; exact ev_c) (fun hb => by rw [if_neg (by rw [hb]; exact Bool.false_ne_true)]; exact ev_c)) (by show 4 < 100000; decide) fun H3 e3 => ?_
    have e3' : ∀ o, Ex H (upd H3 n o) := fun o => ((e1.trans e2).trans e3).mut hnH
    have hP3 : ∀ o, PosM CA CW CP (upd H3 n o) p a m bl ol s := fun o => hP.mono (e3' o)
    refine q_app (v := iV (match s.waits with
      | some x => x.1
      | none => 0)) upd_same (ev_var rfl) (ev_if (b := s.waits.isNone) (et_test (ev_waitN T (ev_var rfl) (hP3 _))) (fun hb => ?_) (fun hb => ?_)) (by show 5 < 100000; decide) fun H4 e4 => ?_
    · cases e : s.waits with
      | none => exact ev_c
      | some x => rw [e] at hb; cases hb
    · cases e : s.waits with
      | none => rw [e] at hb; cases hb
      | some x => exact ev_fld2 (evp_waitX T (ev_var rfl) (hP3 _) e) T.cl_CW T.n_CW_why waF_why
    have e4' : ∀ o, Ex H (upd H4 n o) := fun o => ((e3' _).trans e4).mut hnH
    have hP4 : ∀ o, PosM CA CW CP (upd H4 n o) p a m bl ol s := fun o => hP.mono (e4' o)
    refine q_app (v := iV (match s.mend with
      | some x => 1
      | none => 0)) upd_same (ev_var rfl) (ev_if (b := s.mend.isNone) (et_test (ev_mendN T (ev_var rfl) (hP4 _))) (fun hb => ?_) (fun hb => ?_)) (by show 6 < 100000; decide) fun H5 e5 => ?_
    · cases e : s.mend with
      | none => exact ev_c
      | some x => rw [e] at hb; cases hb
    · cases e : s.mend with
      | none => rw [e] at hb; cases hb
      | some x => exact ev_c
    have e5' : ∀ o, Ex H (upd H5 n o) := fun o => ((e4' _).trans e5).mut hnH
    have hP5 : ∀ o, PosM CA CW CP (upd H5 n o) p a m bl ol s := fun o => hP.mono (e5' o)
    refine s_retL (el_cat (ev_var rfl) upd_same (el_lcR1 (j := 3) (n := 4) (fun _ => true) (fun i => iV (heldN s i)) (ea_cons ev_c ea_nil) (by decide) (fun x => rfl) (fun _ _ _ _ => et_yes) (fun i H6 e6 hi _ => ev_pos1 (f := fun s i => iV (heldN s i)) (ev_var rfl) ((hP5 _).mono e6) hw (ev_var rfl) (by omega))) (by show 7 + 4 ≤ 100000; decide)) fun q H6 hq e6 h6 => ?_
    exact k q H6 (fresh_back (e5' _) hq) ((e5' _).trans e6) h6
def legalsL (s : State) : List Nat := (Vbbrac.legals s.made (Vbbrac.turnOf s)).filter fun c => c == 0 || !(s.barred.contains (Vbbrac.turnOf s) || (s.once.contains (Vbbrac.turnOf s) || (s.mend.isSome && decide (c < 3))))
theorem legalsL_must {s : State} (h : mustPass s (Vbbrac.turnOf s) = true) : legalsL s = (Vbbrac.legals s.made (Vbbrac.turnOf s)).filter fun c => decide (c = 0) := by
  unfold mustPass at h
  unfold legalsL
  congr 1
  funext c
  have : (s.barred.contains (Vbbrac.turnOf s) || (s.once.contains (Vbbrac.turnOf s) || (s.mend.isSome && decide (c < 3)))) = true := by rw [← Bool.or_assoc, h]; rfl
  rw [this, Bool.beq_eq_decide_eq]
  simp
theorem legalsL_mend {s : State} (h : mustPass s (Vbbrac.turnOf s) = false) (hm : s.mend.isSome = true) : legalsL s = (Vbbrac.legals s.made (Vbbrac.turnOf s)).filter fun c => decide (c = 0) || decide (3 ≤ c) := by
  unfold mustPass at h
  unfold legalsL
  congr 1
  funext c
  have : (s.barred.contains (Vbbrac.turnOf s) || (s.once.contains (Vbbrac.turnOf s) || (s.mend.isSome && decide (c < 3)))) = decide (c < 3) := by rw [← Bool.or_assoc, h, hm]; simp
  rw [this, Bool.beq_eq_decide_eq]
  congr 1
  rw [← decide_not, decide_eq_decide]; omega
theorem legalsL_all {s : State} (h : mustPass s (Vbbrac.turnOf s) = false) (hm : s.mend.isSome = false) : legalsL s = Vbbrac.legals s.made (Vbbrac.turnOf s) := by
  unfold mustPass at h
  unfold legalsL
  refine List.filter_eq_self.mpr fun c _ => ?_
  have : (s.barred.contains (Vbbrac.turnOf s) || (s.once.contains (Vbbrac.turnOf s) || (s.mend.isSome && decide (c < 3)))) = false := by rw [← Bool.or_assoc, h, hm]; rfl
  rw [this]; simp
theorem ok_p_legals (T : Txt K mg fa fd CA CW CP CS aN aR aA aW aO) : FnOk P w K mg base CX0 5 (fa 42) (fd 42) P_p_legals (spPosL CA CW CP legalsL) := by
  refine T.d_p_legals.F.ok sc_p_legals (fun vs H Q E h => ?_) (fun cdv A outer s H vs Q E hr h => ⟨_, (pss_cons (ps_set (i := 1) sc_p_legals.nd rfl (.inr rfl) (pe_meth0 (pe_fld (pv 0) rfl) T.cl_CA T.m_a_on_turn (ok_a_on_turn T) (hr.mono (by decide)) T.d_a_on_turn.b .nil pass0)) (pss_cons (ps_setLc (i := 2) (own := [("call", 3)]) (g := gName 3) (tt := tB (tMeth CA "legal" (spLegal CA) [] E0 (tFld K (tVar 0) "auction") (tCons (tVar 1) (tCons (tVar 3) tNil)))) (by rfl) sc_p_legals.nd rfl rfl (sw_true rfl rfl rfl (by decide +kernel)) (pi_range1 (by rfl) T.b_range (pa_cons (pe_globI rfl T.g_CALLS) pa_nil)) (blkOk_by (N := N_p_legals) (sc := defScope st_p_legals) (by decide +kernel)) (fun _ _ _ _ _ => pg_name (i := 3) sc_p_legals.nd rfl (.inl rfl)) (fun _ _ _ _ _ => by exact (pts_one (pt_val (pe_meth (pe_fld (pv 0) rfl) T.cl_CA T.m_a_legal (ok_a_legal T) (hr.mono (by decide)) T.d_a_legal.b .nil pass0 (pa_cons (pv 1) (pa_cons (pv 3) pa_nil)))))) (fun _ _ _ _ _ => by exact (pv 3))) (pss_cons (ps_if (pt_val (pe_meth (pv 0) T.cl_CP T.m_p_must_pass (ok_p_must_pass T) (hr.mono (by decide)) T.d_p_must_pass.b .nil pass0 (pa_cons (pv 1) pa_nil))) (pss_one (ps_ret (pe_lc (own := [("call", 3)]) (g := gName 3) (by rfl) sc_p_legals.nd (pi_list (pv 2)) (blkOk_by (N := N_p_legals) (sc := defScope st_p_legals) (by decide +kernel)) (fun _ _ _ _ _ => pg_name (i := 3) sc_p_legals.nd rfl (.inl rfl)) (fun _ _ _ _ _ => by exact (pts_one (pt_cmpR op_eq (pv 3) (pe_globI rfl T.g_PASS) (nomark _)))) (fun _ _ _ _ _ => by exact (pv 3))))) pss_nil) (pss_cons (ps_if (pt_cmpR op_notN (pe_fld (pv 0) rfl) pe_non (nomark _)) (pss_one (ps_ret (pe_lc (own := [("call", 3)]) (g := gName 3) (by rfl) sc_p_legals.nd (pi_list (pv 2)) (blkOk_by (N := N_p_legals) (sc := defScope st_p_legals) (by decide +kernel)) (fun _ _ _ _ _ => pg_name (i := 3) sc_p_legals.nd rfl (.inl rfl)) (fun _ _ _ _ _ => by exact (pts_one (PW.pt (pw_or (pt_cmpR op_eq (pv 3) (pe_globI rfl T.g_PASS) (nomark _)) (pw_or1 (pt_val (pe_call (ok_is_bid T) (hr.mono (by decide)) rfl T.m_is_bid T.d_is_bid.F.kp T.d_is_bid.b .nil pass0 (pa_cons (pv 3) pa_nil)))))))) (fun _ _ _ _ _ => by exact (pv 3))))) pss_nil) (pss_one (ps_ret (pv 2))))))), ?_⟩)
  · obtain ⟨p, a, m, bl, ol, s, rfl, _⟩ := h; rfl
  · obtain ⟨p, a, m, bl, ol, s, rfl, hP, hw, k⟩ := h
    refine q_asg (ev_auc (f := fun d l => iV (Vbbrac.turn d l)) (ev_auction T (ev_var rfl) hP) hP.auc) fun H1 e1 => ?_
    have hP1 := hP.mono e1
    have hlen : (Vbbrac.legals s.made (Vbbrac.turnOf s)).length ≤ 38 := Nat.le_trans (List.length_filter_le _ _) (by rw [List.length_range]; exact Nat.le_refl _)
    refine q_asgL (xs := (Vbbrac.legals s.made (Vbbrac.turnOf s)).map iV) (el_lcR1 (j := 3) (n := 38) (fun c => Vbbrac.legal s.made (Vbbrac.turnOf s) c) iV (ea_cons ev_c ea_nil) (by decide) (fun x => rfl) (fun i H6 e6 hi => et_B (ev_legal (s := Vbbrac.turnOf s) (c := i) (ev_auction T (ev_var rfl) (hP1.mono e6)) (hP1.mono e6).auc (ev_var rfl) (ev_var rfl) (by omega))) (fun i H6 e6 hi _ => ev_var rfl)) fun n H2 hn e2 h2 => ?_
    have hP2 := hP1.mono e2
    have hn0 := fresh_back e1 hn
    refine q_when (et_B (ev_pos1 (f := fun s i => .bl (mustPass s i)) (i := Vbbrac.turnOf s) (ev_var rfl) hP2 hw (ev_var rfl) hw.turn4)) (fun hb H3 e3 => ?_) (fun hb H3 e3 => ?_)
    · rw [legalsL_must hb] at k
      exact s_retL (el_lcN (L := Vbbrac.legals s.made (Vbbrac.turnOf s)) (j := 3) (fun c => decide (c = 0)) iV (ev_var rfl) (sq_of (e3 _ _ h2)) (by omega) (fun x => rfl) (fun x H6 e6 _ => et_eqN (i := x) (j := 0) (ev_var rfl) ev_c) (fun x H6 e6 _ _ => ev_var rfl)) fun q H4 hq e4 h4 => k q H4 (fresh_back ((e1.trans e2).trans e3) hq) (((e1.trans e2).trans e3).trans e4) h4
    · refine q_when (et_test (ev_mendS T (ev_var rfl) (hP2.mono e3))) (fun hb2 H4 e4 => ?_) (fun hb2 H4 e4 => ?_)
      · rw [legalsL_mend hb hb2] at k
        exact s_retL (el_lcN (L := Vbbrac.legals s.made (Vbbrac.turnOf s)) (j := 3) (fun c => decide (c = 0) || decide (3 ≤ c)) iV (ev_var rfl) (sq_of (e4 _ _ (e3 _ _ h2))) (by omega) (fun x => rfl) (fun x H6 e6 _ => et_or (et_eqN (i := x) (j := 0) (ev_var rfl) ev_c) (fun _ => et_B (ev_isbid (c := x) (ev_var rfl)))) (fun x H6 e6 _ _ => ev_var rfl)) fun q H5 hq e5 h5 => k q H5 (fresh_back (((e1.trans e2).trans e3).trans e4) hq) ((((e1.trans e2).trans e3).trans e4).trans e5) h5
      · rw [legalsL_all hb hb2] at k
        exact s_ret (v := .ref n) (ev_var rfl) fun H5 e5 => k n H5 hn0 ((((e1.trans e2).trans e3).trans e4).trans e5) (e5 _ _ (e4 _ _ (e3 _ _ h2)))
end
end Bb
namespace Bb
open PySem PySem.Spec PyProof.Rows L2 Evl
open PySem.W (Codec)
open Vbbrac (State)
def pF1 (a : Addr) : List (Str × V) := [("auction", .ref a)]
def pF2 (a : Addr) (v : Nat) : List (Str × V) := [("auction", .ref a), ("vulnerability", iV v)]
def pF3 (a bl : Addr) (v : Nat) : List (Str × V) := [("auction", .ref a), ("vulnerability", iV v), ("barred", .ref bl)]
def pF4 (a bl ol : Addr) (v : Nat) : List (Str × V) := [("auction", .ref a), ("vulnerability", iV v), ("barred", .ref bl), ("once", .ref ol)]
def pF5 (a bl ol : Addr) (v : Nat) : List (Str × V) := [("auction", .ref a), ("vulnerability", iV v), ("barred", .ref bl), ("once", .ref ol), ("waiting", .non)]
section
variable {a bl ol : Addr} {v : Nat}
theorem pF1_is : putF ("auction" : Str) (.ref a) [] = pF1 a := rfl
theorem pF2_is : putF ("vulnerability" : Str) (iV v) (pF1 a) = pF2 a v := (put_past (by decide +kernel)).trans rfl
theorem pF3_is : putF ("barred" : Str) (.ref bl) (pF2 a v) = pF3 a bl v := (put_past (by decide +kernel)).trans (congrArg _ ((put_past (by decide +kernel)).trans rfl))
theorem pF4_is : putF ("once" : Str) (.ref ol) (pF3 a bl v) = pF4 a bl ol v := (put_past (by decide +kernel)).trans (congrArg _ ((put_past (by decide +kernel)).trans (congrArg _ ((put_past (by decide +kernel)).trans rfl))))
theorem pF5_is : putF ("waiting" : Str) .non (pF4 a bl ol v) = pF5 a bl ol v := (put_past (by decide +kernel)).trans (congrArg _ ((put_past (by decide +kernel)).trans (congrArg _ ((put_past (by decide +kernel)).trans (congrArg _ ((put_past (by decide +kernel)).trans rfl))))))
theorem pF6_is : putF ("mending" : Str) .non (pF5 a bl ol v) = posF a bl ol v .non .non := (put_past (by decide +kernel)).trans (congrArg _ ((put_past (by decide +kernel)).trans (congrArg _ ((put_past (by decide +kernel)).trans (congrArg _ ((put_past (by decide +kernel)).trans (congrArg _ ((put_past (by decide +kernel)).trans rfl))))))))
end
theorem ne_of_free {H : Hp} {a b : Addr} {o : HO} (h : H a = none) (h2 : H b = some o) : a ≠ b := fun e => by rw [e, h2] at h; cases h
section
variable {P : Program} {w : World} {K : PySem.W.Frag} {mg : Str → Option Value} {base : Heap} {fa : Nat → Addr} {fd : Nat → FuncData} {CA CW CP CS aN aR aA aW aO : Addr}
theorem ok_p_init (T : Txt K mg fa fd CA CW CP CS aN aR aA aW aO) : FnOk P w K mg base CX0 3 (fa 29) (fd 29) P_p_init (spPInit CA CW CP) := by
  refine T.d_p_init.F.ok sc_p_init (fun vs H Q E h => ?_) (fun cdv A outer s H vs Q E hr h => ⟨_, (pss_cons (ps_fld (pv 0) (pe_make T.k_Auction (ok_a_init T) (hr.mono (by decide)) rfl T.c_Auction T.d_a_init.b .nil pass0 (pa_cons (pv 1) pa_nil)) rfl) (pss_cons (ps_fld (pv 0) (pv 2) rfl) (pss_cons (ps_fld (pv 0) (pe_lst (pa_cons pe_bl (pa_cons pe_bl (pa_cons pe_bl (pa_cons pe_bl pa_nil))))) rfl) (pss_cons (ps_fld (pv 0) (pe_lst (pa_cons pe_bl (pa_cons pe_bl (pa_cons pe_bl (pa_cons pe_bl pa_nil))))) rfl) (pss_cons (ps_fld (pv 0) pe_non rfl) (pss_one (ps_fld (pv 0) pe_non rfl))))))), ?_⟩)
  · obtain ⟨p, dx, d, v, rfl, _⟩ := h; rfl
  · obtain ⟨p, dx, d, v, rfl, hp, k⟩ := h
    refine q_setF (P := NewA CA H d []) (evp_newA (ev_var rfl)) (fun _ _ _ e h => h.mono e) (ev_var rfl) hp T.cl_CP T.n_CP_auction (by show 0 < 1000; decide) fun u H1 e1 hv => ?_
    obtain ⟨a, m, rfl, ha, hm, ⟨⟨da, hao⟩, vs, hmo, ht⟩⟩ := hv
    have nap : a ≠ p := ne_of_free ha hp
    have nmp : m ≠ p := ne_of_free hm hp
    rw [pF1_is]
    refine q_setF (P := fun u _ => u = iV v) (evp_of (ev_var rfl) fun _ _ => rfl) (fun _ _ _ _ h => h) (ev_var rfl) upd_same T.cl_CP T.n_CP_vulnerability (by show 1 < 1000; decide) fun u H2 e2 hv => ?_
    subst hv
    rw [pF2_is]
    have up : ∀ {G H' : Hp} {o : HO} {b : Addr} {u : HO}, Ex G H' → b ≠ p → G b = some u → (upd H' p o) b = some u := fun e n h => by rw [upd_ne n]; exact e _ _ h
    have frB : ∀ {G : Hp} {o : HO} {b : Addr}, (upd G p o) b = none → b ≠ p ∧ G b = none := fun {G o b} h => by
      have n : b ≠ p := fun z => by rw [z, upd_same] at h; cases h
      exact ⟨n, by rw [upd_ne n] at h; exact h⟩
    refine q_setF (P := fun u H' => ∃ bl, u = .ref bl ∧ (upd H2 p (.ins CP dx (pF2 a v))) bl = none ∧ H' bl = some (.lst (flags []))) (evp_L (el_lst (vs := flags []) (ea_cons ev_c (ea_cons ev_c (ea_cons ev_c (ea_cons ev_c ea_nil)))) (by decide)) fun q H' _ h1 h2 => ⟨q, rfl, h1, h2⟩) (fun _ _ _ e h => by obtain ⟨q, h1, h2, h3⟩ := h; exact ⟨q, h1, h2, e _ _ h3⟩) (ev_var rfl) upd_same T.cl_CP T.n_CP_barred (by show 2 < 1000; decide) fun u H3 e3 hv => ?_
    obtain ⟨bl, rfl, hbl, hblo⟩ := hv
    obtain ⟨nbp, hbl2⟩ := frB hbl
    rw [pF3_is]
    refine q_setF (P := fun u H' => ∃ ol, u = .ref ol ∧ (upd H3 p (.ins CP dx (pF3 a bl v))) ol = none ∧ H' ol = some (.lst (flags []))) (evp_L (el_lst (vs := flags []) (ea_cons ev_c (ea_cons ev_c (ea_cons ev_c (ea_cons ev_c ea_nil)))) (by decide)) fun q H' _ h1 h2 => ⟨q, rfl, h1, h2⟩) (fun _ _ _ e h => by obtain ⟨q, h1, h2, h3⟩ := h; exact ⟨q, h1, h2, e _ _ h3⟩) (ev_var rfl) upd_same T.cl_CP T.n_CP_once (by show 3 < 1000; decide) fun u H4 e4 hv => ?_
    obtain ⟨ol, rfl, hol, holo⟩ := hv
    obtain ⟨nop, hol2⟩ := frB hol
    rw [pF4_is]
    refine q_setF (P := fun u _ => u = .non) (evp_of ev_c fun _ _ => rfl) (fun _ _ _ _ h => h) (ev_var rfl) upd_same T.cl_CP T.n_CP_waiting (by show 4 < 1000; decide) fun u H5 e5 hv => ?_
    subst hv
    rw [pF5_is]
    refine s_setF (P := fun u _ => u = .non) (evp_of ev_c fun _ _ => rfl) (fun _ _ _ _ h => h) (ev_var rfl) upd_same T.cl_CP T.n_CP_mending (by show 5 < 1000; decide) fun u H6 e6 hv => ?_
    subst hv
    rw [pF6_is]
    -- what stood at H1 beside p stands at each of the later heaps
    have c2 : ∀ {b : Addr} {u : HO}, b ≠ p → H1 b = some u → H2 b = some u := fun n h => e2 _ _ (by rw [upd_ne n]; exact h)
    have c3 : ∀ {b : Addr} {u : HO}, b ≠ p → H2 b = some u → H3 b = some u := fun n h => e3 _ _ (by rw [upd_ne n]; exact h)
    have c4 : ∀ {b : Addr} {u : HO}, b ≠ p → H3 b = some u → H4 b = some u := fun n h => e4 _ _ (by rw [upd_ne n]; exact h)
    have c5 : ∀ {b : Addr} {u : HO}, b ≠ p → H4 b = some u → H5 b = some u := fun n h => e5 _ _ (by rw [upd_ne n]; exact h)
    have c6 : ∀ {b : Addr} {u : HO}, b ≠ p → H5 b = some u → (upd H6 p (.ins CP dx (posF a bl ol v .non .non))) b = some u := fun n h => by
      rw [upd_ne n]; exact e6 _ _ (by rw [upd_ne n]; exact h)
    have back2 : ∀ {b : Addr}, H2 b = none → H b = none := fun {b} h => by
      cases q : H b with
      | none => rfl
      | some o =>
        by_cases z : b = p
        · rw [z, e2 _ _ upd_same] at h; cases h
        · rw [c2 z (e1 _ _ q)] at h; cases h
    have back3 : ∀ {b : Addr}, H3 b = none → H b = none := fun {b} h => back2 (by
      cases q : H2 b with
      | none => rfl
      | some o =>
        by_cases z : b = p
        · rw [z, e3 _ _ upd_same] at h; cases h
        · rw [c3 z q] at h; cases h)
    refine k _ a m bl ol ⟨hm, back2 hbl2, back3 hol2⟩ ⟨⟨dx, .non, upd_same, rfl⟩, ⟨⟨da, c6 nap (c5 nap (c4 nap (c3 nap (c2 nap hao))))⟩, vs, c6 nmp (c5 nmp (c4 nmp (c3 nmp (c2 nmp hmo)))), ?_⟩, c6 nbp (c5 nbp (c4 nbp hblo)), c6 nop (c5 nop holo), ?_, ?_, ?_⟩ ?_
    · cases ht; exact .nil
    · exact fun z => by rw [z] at hmo nmp; rw [c2 nbp hmo] at hbl2; cases hbl2
    · exact fun z => by rw [z] at hmo nmp; rw [c3 nop (c2 nop hmo)] at hol2; cases hol2
    · exact fun z => by rw [z] at hblo; rw [hblo] at hol2; cases hol2
    · intro b o hb n
      exact c6 n (c5 n (c4 n (c3 n (c2 n (e1 _ _ hb)))))
theorem evp_newP {σ : L2.St} {H : Hp} {ta tb : TE} {E : XK} {d v : Nat} (h1 : Ev ta σ H (iV d)) (h2 : Ev tb σ H (iV v)) : EvP (tMake CP (spPInit CA CW CP) [] E (tCons ta (tCons tb tNil))) σ H (NewP CA CW CP H (Vbbrac.begun d v)) := fun H1 e Q q =>
  (ea_cons h1 (ea_cons h2 ea_nil)) H1 e _ fun H2 e2 x dx hx hdx hne => by
    refine ⟨x, dx, d, v, rfl, upd_same, fun H' a m bl ol hfree hA f => ⟨rfl, ?_⟩⟩
    have e3 : Ex H2 (upd (upd H2 dx (.own x)) x (.ins CP dx [])) := (Ex.new hdx).trans (Ex.new (by rw [upd_ne (Ne.symm hne)]; exact hx))
    have e4 : Ex H2 H' := f.ex e3 fun b hb => by rw [hb]; exact hx
    refine q _ H' (e2.trans e4) ⟨x, a, m, bl, ol, rfl, hA, fun b hb => fresh_back (e.trans e2) ?_⟩
    rcases hb with rfl | rfl | rfl | rfl
    · exact hx
    · exact fresh_back e3 hfree.1
    · exact fresh_back e3 hfree.2.1
    · exact fresh_back e3 hfree.2.2
theorem ok_p_copied (T : Txt K mg fa fd CA CW CP CS aN aR aA aW aO) : FnOk P w K mg base CX0 5 (fa 30) (fd 30) P_p_copied (spPCopied CA CW CP) := by
  refine T.d_p_copied.F.ok sc_p_copied (fun vs H Q E h => ?_) (fun cdv A outer s H vs Q E hr h => ⟨_, (pss_cons (ps_set (i := 1) sc_p_copied.nd rfl (.inl rfl) (pe_make T.k_Position (ok_p_init T) (hr.mono (by decide)) rfl T.c_Position T.d_p_init.b .nil pass0 (pa_cons (pe_fld (pe_fld (pv 0) rfl) rfl) (pa_cons (pe_fld (pv 0) rfl) pa_nil)))) (pss_cons (ps_fld (pv 1) (pe_meth0 (pe_fld (pv 0) rfl) T.cl_CA T.m_a_copied (ok_a_copied T) (hr.mono (by decide)) T.d_a_copied.b .nil pass0) rfl) (pss_cons (ps_fld (pv 1) (pe_callTy call_list_of (by rfl) T.b_list (by decide +kernel) (pa_cons (pe_fld (pv 0) rfl) pa_nil)) rfl) (pss_cons (ps_fld (pv 1) (pe_callTy call_list_of (by rfl) T.b_list (by decide +kernel) (pa_cons (pe_fld (pv 0) rfl) pa_nil)) rfl) (pss_cons (ps_fld (pv 1) (pe_fld (pv 0) rfl) rfl) (pss_cons (ps_fld (pv 1) (pe_fld (pv 0) rfl) rfl) (pss_one (ps_ret (pv 1))))))))), ?_⟩)
  · obtain ⟨p, a, m, bl, ol, s, rfl, _⟩ := h; rfl
  · obtain ⟨p, a, m, bl, ol, s, rfl, hP, k⟩ := h
    refine q_asgP (evp_newP (CA := CA) (CW := CW) (ev_dealer T (ev_auction T (ev_var rfl) hP) hP.auc) (ev_vul T (ev_var rfl) hP)) fun u H1 e1 hn => ?_
    obtain ⟨p2, a0, m0, bl0, ol0, rfl, hP2, hfree⟩ := hn
    have hp2 : H p2 = none := hfree p2 (.inl rfl)
    obtain ⟨⟨dx, wv0, ho, _⟩, _⟩ := hP2
    have fr : ∀ {G : Hp} {o : HO} {b : Addr}, (upd G p2 o) b = none → b ≠ p2 ∧ G b = none := fun {G o b} h => by
      have n : b ≠ p2 := fun z => by rw [z, upd_same] at h; cases h
      exact ⟨n, by rw [upd_ne n] at h; exact h⟩
    have hP1 := hP.mono e1
    refine q_setF (P := NewA CA H1 s.dealer s.made) (evp_copyA (ev_auction T (ev_var rfl) hP1) hP1.auc) (fun _ _ _ e h => h.mono e) (ev_var rfl) ho T.cl_CP T.n_CP_auction (by show 6 < 1000; decide) fun u H2 e2 hv => ?_
    obtain ⟨a2, m2, rfl, ha2, hm2, hA2⟩ := hv
    rw [putF_auction]
    have nap : a2 ≠ p2 := ne_of_free ha2 ho
    have nmp : m2 ≠ p2 := ne_of_free hm2 ho
    have E2 : ∀ o, Ex H (upd H2 p2 o) := fun o => (e1.trans e2).mut hp2
    have hPb : ∀ o, PosM CA CW CP (upd H2 p2 o) p a m bl ol s := fun o => hP.mono (E2 o)
    refine q_setF (P := fun u H' => ∃ b2, u = .ref b2 ∧ (upd H2 p2 (.ins CP dx (posF a2 bl0 ol0 s.vul wv0 (mendV none)))) b2 = none ∧ H' b2 = some (.lst (flags s.barred))) (evp_L (el_list (ev_barred T (ev_var rfl) (hPb _)) (sq_of (hPb _).bar)) fun q H' _ h1 h2 => ⟨q, rfl, h1, h2⟩) (fun _ _ _ e h => by obtain ⟨q, h1, h2, h3⟩ := h; exact ⟨q, h1, h2, e _ _ h3⟩) (ev_var rfl) upd_same T.cl_CP T.n_CP_barred (by show 6 < 1000; decide) fun u H3 e3 hv => ?_
    obtain ⟨b2, rfl, hb2, hb2o⟩ := hv
    rw [putF_barred]
    obtain ⟨nbp, hb20⟩ := fr hb2
    have E3 : ∀ o, Ex H (upd H3 p2 o) := fun o => ((E2 _).trans e3).mut hp2
    have hPc : ∀ o, PosM CA CW CP (upd H3 p2 o) p a m bl ol s := fun o => hP.mono (E3 o)
    refine q_setF (P := fun u H' => ∃ o2, u = .ref o2 ∧ (upd H3 p2 (.ins CP dx (posF a2 b2 ol0 s.vul wv0 (mendV none)))) o2 = none ∧ H' o2 = some (.lst (flags s.once))) (evp_L (el_list (ev_once T (ev_var rfl) (hPc _)) (sq_of (hPc _).onc)) fun q H' _ h1 h2 => ⟨q, rfl, h1, h2⟩) (fun _ _ _ e h => by obtain ⟨q, h1, h2, h3⟩ := h; exact ⟨q, h1, h2, e _ _ h3⟩) (ev_var rfl) upd_same T.cl_CP T.n_CP_once (by show 6 < 1000; decide) fun u H4 e4 hv => ?_
    obtain ⟨o2, rfl, ho2, ho2o⟩ := hv
    rw [putF_once]
    obtain ⟨nop, ho20⟩ := fr ho2
    have E4 : ∀ o, Ex H (upd H4 p2 o) := fun o => ((E3 _).trans e4).mut hp2
    have hPd : ∀ o, PosM CA CW CP (upd H4 p2 o) p a m bl ol s := fun o => hP.mono (E4 o)
    refine q_setF (P := fun u H' => WaitP CW s.waits u H') (evp_wait T (ev_var rfl) (hPd _)) (fun _ _ _ e h => h.mono e) (ev_var rfl) upd_same T.cl_CP T.n_CP_waiting (by show 6 < 1000; decide) fun wv H5 e5 hwv => ?_
    rw [putF_waiting]
    have E5 : ∀ o, Ex H (upd H5 p2 o) := fun o => ((E4 _).trans e5).mut hp2
    have hPe : ∀ o, PosM CA CW CP (upd H5 p2 o) p a m bl ol s := fun o => hP.mono (E5 o)
    refine q_setF (P := fun u H' => u = mendV s.mend) (evp_of (ev_mend T (ev_var rfl) (hPe _)) fun _ _ => rfl) (fun _ _ _ e h => h) (ev_var rfl) upd_same T.cl_CP T.n_CP_mending (by show 6 < 1000; decide) fun u H6 e6 hv => ?_
    subst hv
    rw [putF_mending]
    have E6 : ∀ o, Ex H (upd H6 p2 o) := fun o => ((E5 _).trans e6).mut hp2
    have c3 : ∀ {b : Addr} {u : HO}, b ≠ p2 → H2 b = some u → H3 b = some u := fun n h => e3 _ _ (by rw [upd_ne n]; exact h)
    have c4 : ∀ {b : Addr} {u : HO}, b ≠ p2 → H3 b = some u → H4 b = some u := fun n h => e4 _ _ (by rw [upd_ne n]; exact h)
    have c5 : ∀ {b : Addr} {u : HO}, b ≠ p2 → H4 b = some u → H5 b = some u := fun n h => e5 _ _ (by rw [upd_ne n]; exact h)
    have c6 : ∀ {o : HO} {b : Addr} {u : HO}, b ≠ p2 → H5 b = some u → (upd H6 p2 o) b = some u := fun n h => by
      rw [upd_ne n]; exact e6 _ _ (by rw [upd_ne n]; exact h)
    have hW : WaitP CW s.waits wv (upd H6 p2 (.ins CP dx (posF a2 b2 o2 s.vul wv (mendV s.mend)))) := by
      cases es : s.waits with
      | none => rw [es] at hwv; exact hwv
      | some x =>
        rw [es] at hwv
        obtain ⟨wa, dw, rfl, hwa⟩ := hwv
        have hold : H5 p2 = some (.ins CP dx (posF a2 b2 o2 s.vul wv0 (mendV none))) := e5 _ _ upd_same
        exact ⟨wa, dw, rfl, c6 (ne_kind hwa hold (ins_ne_len (by show 3 ≠ 6; decide))) hwa⟩
    have htup : ∀ vs, Tups H2 vs s.made → Tups (upd H6 p2 (.ins CP dx (posF a2 b2 o2 s.vul wv (mendV s.mend)))) vs s.made := by
      intro vs ht
      refine Tups.frm (S := (· = p2)) (H := H2) (fun b u hb n => c6 n (c5 n (c4 n (c3 n hb)))) (fun b hb xs z => ?_) ht
      rw [hb, e2 _ _ ho] at z; cases z
    obtain ⟨⟨da, hao⟩, vs, hmo, ht⟩ := hA2
    refine s_ret (v := .ref p2) (ev_var rfl) fun H7 e7 => k _ H7 ((E6 _).trans e7) ⟨p2, a2, m2, b2, o2, rfl, PosM.mono e7 ⟨⟨dx, wv, upd_same, hW⟩, ⟨⟨da, c6 nap (c5 nap (c4 nap (c3 nap hao)))⟩, vs, c6 nmp (c5 nmp (c4 nmp (c3 nmp hmo))), htup vs ht⟩, c6 nbp (c5 nbp (c4 nbp hb2o)), c6 nop (c5 nop ho2o), ?_, ?_, ?_⟩, ?_⟩
    · exact fun z => by rw [z] at hmo; rw [hmo] at hb20; cases hb20
    · exact fun z => by rw [z] at hmo; rw [c3 nop hmo] at ho20; cases ho20
    · exact fun z => by rw [z] at hb2o; rw [hb2o] at ho20; cases ho20
    · intro b hb
      rcases hb with rfl | rfl | rfl | rfl
      · exact hp2
      · exact fresh_back e1 hm2
      · exact fresh_back (E2 _) hb2
      · exact fresh_back (E3 _) ho2
theorem evp_copyP {σ : L2.St} {H : Hp} {ta : TE} {E : XK} {p a m bl ol : Addr} {s : State} (ho : Ev ta σ H (.ref p)) (h : PosM CA CW CP H p a m bl ol s) : EvP (tMeth CP "copied" (spPCopied CA CW CP) [] E ta tNil) σ H (NewP CA CW CP H s) :=
  evp_meth ho h.has ea_nil fun H1 e Q q E => ⟨p, a, m, bl, ol, s, rfl, h.mono e, fun v H2 e2 p => q v H2 e2 (by
    obtain ⟨p', a', m', bl', ol', h1, h2, h3⟩ := p
    exact ⟨p', a', m', bl', ol', h1, h2, fun b hb => fresh_back e (h3 b hb)⟩)⟩
end
end Bb
namespace Bb
open Vbbrac (callText callOfText joined cut textOf digits decimal readWords readText isNumeral strainByte legal turn over)
/-! ### decimal digits -/
theorem digitChar_nat {n : Nat} (h : n < 10) : (Nat.digitChar n).toNat = 48 + n := by
  rcases n with _ | _ | _ | _ | _ | _ | _ | _ | _ | _ | n
  · rfl
  · rfl
  · rfl
  · rfl
  · rfl
  · rfl
  · rfl
  · rfl
  · rfl
  · rfl
  · omega
theorem digits_is : ∀ (k n : Nat), n < 10 ^ k → (Nat.toDigits 10 n).map Char.toNat = digits k n ∨ (k = 0)
  | 0, n, h => .inr rfl
  | k + 1, n, h => by
    refine .inl ?_
    unfold Vbbrac.digits
    by_cases h10 : n < 10
    · rw [if_pos h10, Nat.toDigits_of_lt_base h10, List.map_cons, digitChar_nat h10]; rfl
    · rw [if_neg h10, Nat.toDigits_of_base_le (by decide) (by omega), List.map_append]
      have hk : n / 10 < 10 ^ k := by
        rw [Nat.div_lt_iff_lt_mul (by decide)]
        rw [Nat.pow_succ] at h
        exact h
      rcases digits_is k (n / 10) hk with e | e
      · rw [e, List.map_cons, digitChar_nat (Nat.mod_lt _ (by decide))]; rfl
      · subst e
        exfalso
        have : n < 10 := by simpa using h
        omega
theorem str_digits {n : Nat} (h : n < 10 ^ 60) : (PySem.Str.ofString (toString ((n : Nat) : Int))).cps.toList = decimal n := by
  rw [PySem.Str.ofString_eq_toList]
  show ((toString ((n : Nat) : Int)).toList.map Char.toNat) = _
  have e : (toString ((n : Nat) : Int)).toList = Nat.toDigits 10 n := by
    show (String.ofList (Nat.toDigits 10 n)).toList = _
    rw [String.toList_ofList]
  rw [e]
  rcases digits_is 60 n h with q | q
  · exact q
  · cases q
theorem log_small {n : Nat} (h : n < 10 ^ 60) : ((n : Int).natAbs).log2 < 1920 := by
  rw [Int.natAbs_natCast]
  by_cases h0 : n = 0
  · subst h0; decide
  · rw [Nat.log2_lt h0]
    exact Nat.lt_of_lt_of_le h (Nat.le_trans (show 10 ^ 60 ≤ 2 ^ 200 by decide) (Nat.pow_le_pow_right (by decide) (by decide)))
/-! ### numerals -/
def toldN (ws : List Nat) : Option Nat := if isNumeral ws = true then some (Vbbrac.numeral ws) else none
/-! ### calls' texts -/
theorem callText_of : ∀ c : Fin 38, callOfText (callText c.1) = some c.1 := by decide
theorem callOf_text {ws : List Nat} {c : Nat} (h : callOfText ws = some c) : c ≤ 37 ∧ callText c = ws := by
  unfold Vbbrac.callOfText at h
  split at h
  · cases h; exact ⟨by decide, by decide⟩
  · cases h; exact ⟨by decide, by decide⟩
  · cases h; exact ⟨by decide, by decide⟩
  · rename_i l s _ 
    split at h
    · rename_i hl
      rw [Option.map_eq_some_iff] at h
      obtain ⟨k, hk, rfl⟩ := h
      unfold Vbbrac.strainOf at hk
      have hk5 : k < 5 ∧ strainByte k = s := by
        rw [List.findIdx?_eq_some_iff_getElem] at hk
        obtain ⟨h1, h2, _⟩ := hk
        refine ⟨h1, ?_⟩
        have h2 := eq_of_beq h2
        rw [← h2]
        unfold Vbbrac.strainByte
        rw [List.getD_eq_getElem?_getD, List.getElem?_eq_getElem h1]
        rfl
      obtain ⟨h5, hs⟩ := hk5
      refine ⟨by omega, ?_⟩
      unfold Vbbrac.callText
      rw [if_neg (by omega), if_neg (by omega), if_neg (by omega)]
      rw [show (3 + 5 * (l - 49) + k - 3) / 5 = l - 49 by omega, show (3 + 5 * (l - 49) + k - 3) % 5 = k by omega, hs, show 49 + (l - 49) = l by omega]
    · cases h
  · cases h
theorem callOf_iff {ws : List Nat} {c : Nat} : callOfText ws = some c ↔ c ≤ 37 ∧ callText c = ws := by
  constructor
  · exact callOf_text
  · rintro ⟨h, rfl⟩
    exact callText_of ⟨c, by omega⟩
theorem callText_len (c : Nat) : 1 ≤ (callText c).length ∧ (callText c).length ≤ 2 := by
  unfold Vbbrac.callText
  split
  · exact ⟨by decide, by decide⟩
  · split
    · exact ⟨by decide, by decide⟩
    · split
      · exact ⟨by decide, by decide⟩
      · exact ⟨(by show 1 ≤ 2; decide), (by show 2 ≤ 2; decide)⟩
/-! ### texts of auctions -/
theorem joined_snoc (w : List Nat) : ∀ ws : List (List Nat), joined (ws ++ [w]) = if ws = [] then w else joined ws ++ 32 :: w
  | [] => by rw [if_pos rfl]; rfl
  | [v] => by rw [if_neg (List.cons_ne_nil _ _)]; rfl
  | v :: u :: r => by
    rw [if_neg (List.cons_ne_nil _ _)]
    show v ++ 32 :: joined (u :: r ++ [w]) = (v ++ 32 :: joined (u :: r)) ++ 32 :: w
    rw [joined_snoc w (u :: r), if_neg (List.cons_ne_nil _ _), List.append_assoc]
    rfl
theorem textOf_snoc (l : Mad) (x : Nat × Nat) : textOf (l ++ [x]) = if l = [] then callText x.2 else textOf l ++ 32 :: callText x.2 := by
  unfold Vbbrac.textOf
  rw [List.map_append, List.map_cons, List.map_nil, joined_snoc]
  cases l with
  | nil => rfl
  | cons y r => rw [if_neg (by simp), if_neg (by simp)]
theorem textOf_len : ∀ l : Mad, (textOf l).length ≤ 3 * l.length := by
  intro l
  unfold Vbbrac.textOf
  induction l with
  | nil => exact Nat.le_refl _
  | cons x r ih =>
    rw [List.map_cons]
    have h2 := (callText_len x.2).2
    cases r with
    | nil => show (callText x.2).length ≤ 3; omega
    | cons y r =>
      show (callText x.2 ++ 32 :: joined ((y :: r).map fun x => callText x.2)).length ≤ _
      rw [List.length_append, List.length_cons]
      have : (x :: y :: r).length = (y :: r).length + 1 := rfl
      rw [this]
      omega
theorem textOf_pos {l : Mad} (h : l ≠ []) : 0 < (textOf l).length := by
  cases l with
  | nil => exact absurd rfl h
  | cons x r =>
    unfold Vbbrac.textOf
    rw [List.map_cons]
    have h2 := (callText_len x.2).1
    cases r with
    | nil => show 0 < (callText x.2).length; omega
    | cons y r =>
      show 0 < (callText x.2 ++ 32 :: joined ((y :: r).map fun x => callText x.2)).length
      rw [List.length_append]; omega
/-! ### words -/
def wordsAt : Nat → List (List Nat) → List (Nat × List Nat)
  | _, [] => []
  | at_, w :: r => (at_, w) :: wordsAt (at_ + w.length + 1) r
def endAt : Nat → List (List Nat) → Nat
  | at_, [] => at_
  | at_, w :: r => endAt (at_ + w.length + 1) r
theorem wordsAt_snoc (w : List Nat) : ∀ (ws : List (List Nat)) (at_ : Nat), wordsAt at_ (ws ++ [w]) = wordsAt at_ ws ++ [(endAt at_ ws, w)]
  | [], at_ => rfl
  | v :: r, at_ => by
    show (at_, v) :: wordsAt _ (r ++ [w]) = _
    rw [wordsAt_snoc w r]; rfl
theorem endAt_snoc (w : List Nat) : ∀ (ws : List (List Nat)) (at_ : Nat), endAt at_ (ws ++ [w]) = endAt at_ ws + w.length + 1
  | [], at_ => rfl
  | v :: r, at_ => by
    show endAt _ (r ++ [w]) = _
    rw [endAt_snoc w r]; rfl
def headOn (cur : List Nat) : List (List Nat) → List (List Nat)
  | [] => [cur]
  | w :: l => (cur ++ w) :: l
theorem cut_ne (t : List Nat) : cut t ≠ [] := by
  cases t with
  | nil => exact List.cons_ne_nil _ _
  | cons b r =>
    show (if b = 32 then [] :: cut r else match cut r with
      | [] => [[b]]
      | w :: l => (b :: w) :: l) ≠ []
    split
    · exact List.cons_ne_nil _ _
    · split <;> exact List.cons_ne_nil _ _
theorem cut_blank (cur r : List Nat) : headOn cur (cut (32 :: r)) = cur :: cut r := by
  show headOn cur (if 32 = 32 then [] :: cut r else _) = _
  rw [if_pos rfl]
  show (cur ++ []) :: cut r = _
  rw [List.append_nil]
theorem cut_other {b : Nat} (h : b ≠ 32) (cur r : List Nat) : headOn cur (cut (b :: r)) = headOn (cur ++ [b]) (cut r) := by
  show headOn cur (if b = 32 then [] :: cut r else match cut r with
      | [] => [[b]]
      | w :: l => (b :: w) :: l) = _
  rw [if_neg h]
  cases e : cut r with
  | nil => exact absurd e (cut_ne r)
  | cons w l =>
    show (cur ++ b :: w) :: l = (cur ++ [b] ++ w) :: l
    rw [List.append_assoc]; rfl
theorem headOn_nil {t : List Nat} : headOn [] (cut t) = cut t := by
  cases e : cut t with
  | nil => exact absurd e (cut_ne t)
  | cons w l => rfl
def wrongN (d : Nat) (l : Mad) (ws : List Nat) : Nat := match callOfText ws with
  | none => 1
  | some c => if over l = true then 3 else if legal l (turn d l) c = true then 0 else 2
/-- what make_words answers -/
def lookL (d : Nat) (t : List Nat) : List Nat := match readText d t with
  | .error e => [e.1, e.2]
  | .ok m => [0, m.length]
theorem readWords_step (d : Nat) (l : Mad) (at_ : Nat) (w : List Nat) (r : List (List Nat)) : readWords d l at_ (w :: r) = if wrongN d l w = 0 then readWords d (l ++ [(turn d l, (callOfText w).getD 0)]) (at_ + w.length + 1) r else (Except.error (wrongN d l w, at_) : Except (Nat × Nat) Mad) := by
  unfold wrongN
  show (match callOfText w with
    | none => (Except.error (1, at_) : Except (Nat × Nat) Mad)
    | some c => if over l = true then (Except.error (3, at_) : Except (Nat × Nat) Mad) else if legal l (turn d l) c = false then (Except.error (2, at_) : Except (Nat × Nat) Mad)
      else readWords d (l ++ [(turn d l, c)]) (at_ + w.length + 1) r) = _
  cases e : callOfText w with
  | none => rfl
  | some c =>
    show (if over l = true then (Except.error (3, at_) : Except (Nat × Nat) Mad) else if legal l (turn d l) c = false then Except.error (2, at_) else readWords d (l ++ [(turn d l, c)]) (at_ + w.length + 1) r) = if (if over l = true then 3 else if legal l (turn d l) c = true then 0 else 2) = 0 then readWords d (l ++ [(turn d l, c)]) (at_ + w.length + 1) r else Except.error ((if over l = true then 3 else if legal l (turn d l) c = true then 0 else 2), at_)
    by_cases ho : over l = true <;> by_cases hl : legal l (turn d l) c = true <;> simp [ho, hl]
theorem wrong_zero {d : Nat} {l : Mad} {w : List Nat} (h : wrongN d l w = 0) : ∃ c, callOfText w = some c ∧ c ≤ 37 ∧ legal l (turn d l) c = true := by
  unfold wrongN at h
  cases e : callOfText w with
  | none => rw [e] at h; cases h
  | some c =>
    rw [e] at h
    refine ⟨c, rfl, (callOf_text e).1, ?_⟩
    have h : (if over l = true then 3 else if legal l (turn d l) c = true then 0 else 2) = 0 := h
    by_cases ho : over l = true
    · rw [if_pos ho] at h; cases h
    · rw [if_neg ho] at h
      cases hl : legal l (turn d l) c with
      | true => rfl
      | false => rw [hl] at h; cases h
end Bb
namespace Bb
open PySem PySem.Spec PyProof.Rows L2 Evl
open PySem.W (Codec)
open Vbbrac (callText callOfText joined cut textOf decimal)
/-- what of H' H does not know -/
def newer (H H' : Hp) : Hp := fun b => match H b with
  | none => H' b
  | some _ => none
theorem newer_of {H H' : Hp} {b : Addr} {o : HO} (h : H b = none) (h2 : H' b = some o) : newer H H' b = some o := by
  unfold newer; rw [h]; exact h2
theorem newer_ex {H H' : Hp} : Ex (newer H H') H' := fun b o h => by
  unfold newer at h
  cases e : H b with
  | none => rw [e] at h; exact h
  | some u => rw [e] at h; cases h
theorem newer_none {H H' : Hp} {b : Addr} {o : HO} (h : newer H H' b = some o) : H b = none := by
  unfold newer at h
  cases e : H b with
  | none => rfl
  | some u => rw [e] at h; cases h
theorem newer_back {H H1 H' : Hp} (e : Ex H H1) : Ex (newer H1 H') (newer H H') := fun b o h =>
  newer_of (fresh_back e (newer_none h)) (newer_ex b o h)
theorem newer_mono {H H' H'' : Hp} (e : Ex H' H'') : Ex (newer H H') (newer H H'') := fun b o h => newer_of (newer_none h) (e _ _ (newer_ex b o h))
theorem newer_upd {H H' : Hp} {a : Addr} {o u : HO} (h : H a = some u) : Ex (newer H H') (newer H (upd H' a o)) := fun b q hb =>
  newer_of (newer_none hb) (by
    rw [upd_ne (fun z => by rw [z] at hb; rw [newer_none hb] at h; cases h)]
    exact newer_ex b q hb)
/-! ### texts: promises -/
def spCallText : Sp := fun vs H Q _ => ∃ c, vs = [iV c] ∧ c ≤ 37 ∧ RetL ((callText c).map iV) H Q
def spCallOf (K : PySem.W.Frag) : Sp := fun vs H Q _ => ∃ (a : Addr) (ws : List Nat), vs = [.ref a] ∧ SqL K H a (ws.map iV) ∧ RetV (optN (callOfText ws)) H Q
def spAucText (C : Addr) : Sp := fun vs H Q _ => ∃ a m d l, vs = [.ref a] ∧ AucM C H a m d l ∧ Calls l ∧ l.length < 2000 ∧ RetL ((textOf l).map iV) H Q
def WordR (H : Hp) (v : V) (x : Nat × List Nat) : Prop := ∃ t b, v = .ref t ∧ H t = some (.tup [iV x.1, .ref b]) ∧ H b = some (.lst (x.2.map iV))
inductive WordsR (H : Hp) : List V → List (Nat × List Nat) → Prop
  | nil : WordsR H [] []
  | cons {v : V} {vs : List V} {x : Nat × List Nat} {l : List (Nat × List Nat)} : WordR H v x → WordsR H vs l → WordsR H (v :: vs) (x :: l)
theorem WordR.mono {H H' : Hp} {v : V} {x : Nat × List Nat} (e : Ex H H') (h : WordR H v x) : WordR H' v x := by
  obtain ⟨t, b, h1, h2, h3⟩ := h
  exact ⟨t, b, h1, e _ _ h2, e _ _ h3⟩
theorem WordsR.mono {H H' : Hp} (e : Ex H H') : ∀ {vs : List V} {l : List (Nat × List Nat)}, WordsR H vs l → WordsR H' vs l
  | _, _, .nil => .nil
  | _, _, .cons h t => .cons (h.mono e) (t.mono e)
theorem WordsR.len {H : Hp} : ∀ {vs : List V} {l : List (Nat × List Nat)}, WordsR H vs l → vs.length = l.length
  | _, _, .nil => rfl
  | _, _, .cons _ t => by rw [List.length_cons, List.length_cons, t.len]
theorem WordsR.snoc {H : Hp} {v : V} {x : Nat × List Nat} (q : WordR H v x) : ∀ {vs : List V} {l : List (Nat × List Nat)}, WordsR H vs l → WordsR H (vs ++ [v]) (l ++ [x])
  | _, _, .nil => .cons q .nil
  | _, _, .cons h t => .cons h (WordsR.snoc q t)
theorem WordsR.get {H : Hp} : ∀ {vs : List V} {l : List (Nat × List Nat)}, WordsR H vs l → ∀ {i : Nat} {v : V}, vs[i]? = some v → ∃ x, l[i]? = some x ∧ WordR H v x
  | _, _, .nil, i, v, h => by simp at h
  | _, _, .cons h t, 0, v, e => by
    simp only [List.getElem?_cons_zero, Option.some.injEq] at e
    subst e
    exact ⟨_, by simp, h⟩
  | _, _, .cons h t, i + 1, v, e => by
    rw [List.getElem?_cons_succ] at e
    obtain ⟨x, h1, h2⟩ := t.get e
    exact ⟨x, by rw [List.getElem?_cons_succ]; exact h1, h2⟩
def wordsOf (t : List Nat) : List (Nat × List Nat) := if t = [] then [] else wordsAt 0 (cut t)
def spWordsOf (K : PySem.W.Frag) : Sp := fun vs H Q _ => ∃ (a : Addr) (t : List Nat), vs = [.ref a] ∧ H a = some (.lst (t.map iV)) ∧ t.length ≤ 1000 ∧ RetP (fun v H' => ∃ b vs, v = .ref b ∧ H b = none ∧ H' b = some (.lst vs) ∧ WordsR (newer H H') vs (wordsOf t)) H Q
def spWrong (K : PySem.W.Frag) (C : Addr) : Sp := fun vs H Q _ => ∃ (a m : Addr) (d : Nat) (l : Mad) (b : Addr) (ws : List Nat), vs = [.ref a, .ref b] ∧ AucM C H a m d l ∧ SqL K H b (ws.map iV) ∧ RetV (iV (wrongN d l ws)) H Q
def spMakeWords (K : PySem.W.Frag) (C : Addr) : Sp := fun vs H Q _ => ∃ (a m : Addr) (d : Nat) (b : Addr) (t : List Nat), vs = [.ref a, .ref b] ∧ AucM C H a m d [] ∧ H b = some (.lst (t.map iV)) ∧ t.length ≤ 1000 ∧
  ∀ p H', H p = none → Frm (· = m) H H' → H' p = some (.lst ((lookL d t).map iV)) → (∀ l, Vbbrac.readText d t = .ok l → AucM C H' a m d l) → Q (.ref p) H'
def spNumeral : Sp := fun vs H Q _ => ∃ n, vs = [iV n] ∧ n < 10 ^ 60 ∧ RetL ((decimal n).map iV) H Q
def spNumTold (K : PySem.W.Frag) : Sp := fun vs H Q _ => ∃ (a : Addr) (ws : List Nat), vs = [.ref a] ∧ SqL K H a (ws.map iV) ∧ RetV (optN (toldN ws)) H Q
section
variable {P : Program} {w : World} {K : PySem.W.Frag} {mg : Str → Option Value} {base : Heap} {fa : Nat → Addr} {fd : Nat → FuncData} {CA CW CP CS aN aR aA aW aO : Addr}
section
variable {σ : L2.St} {H : Hp} {ta tb te : TE} {tt : TT} {E : XK} {a b m : Addr} {d c n : Nat} {l : Mad} {ws : List Nat}
theorem el_callText (h : Ev ta σ H (iV c)) (hc : c ≤ 37) : EvL (tCall spCallText [] E (tCons ta tNil)) σ H ((callText c).map iV) := el_call (ea_cons h ea_nil) fun H1 e Q q E => ⟨c, rfl, hc, q⟩
theorem ev_callOf (h : Ev ta σ H (.ref a)) (hs : SqL K H a (ws.map iV)) : Ev (tCall (spCallOf K) [] E (tCons ta tNil)) σ H (optN (callOfText ws)) := ev_call (ea_cons h ea_nil) fun H1 e Q q E => ⟨a, ws, rfl, ex_l e hs, q⟩
theorem el_aucText (h : Ev ta σ H (.ref a)) (hA : AucM CA H a m d l) (hc : Calls l) (hl : l.length < 2000) : EvL (tCall (spAucText CA) [] E (tCons ta tNil)) σ H ((textOf l).map iV) := el_call (ea_cons h ea_nil) fun H1 e Q q E => ⟨a, m, d, l, rfl, hA.mono e, hc, hl, q⟩
theorem ev_wrong (h : Ev ta σ H (.ref a)) (h2 : Ev tb σ H (.ref b)) (hA : AucM CA H a m d l) (hs : SqL K H b (ws.map iV)) : Ev (tCall (spWrong K CA) [] E (tCons ta (tCons tb tNil))) σ H (iV (wrongN d l ws)) := ev_call (ea_cons h (ea_cons h2 ea_nil)) fun H1 e Q q E => ⟨a, m, d, l, b, ws, rfl, hA.mono e, ex_l e hs, q⟩
theorem el_numeral (h : Ev ta σ H (iV n)) (hn : n < 10 ^ 60) : EvL (tCall spNumeral [] E (tCons ta tNil)) σ H ((decimal n).map iV) := el_call (ea_cons h ea_nil) fun H1 e Q q E => ⟨n, rfl, hn, q⟩
theorem ev_numTold (h : Ev ta σ H (.ref a)) (hs : SqL K H a (ws.map iV)) : Ev (tCall (spNumTold K) [] E (tCons ta tNil)) σ H (optN (toldN ws)) := ev_call (ea_cons h ea_nil) fun H1 e Q q E => ⟨a, ws, rfl, ex_l e hs, q⟩
/-- [ord(c) for c in z] -/
theorem el_lcS {z : Str} {tl : TE} {j : Nat} {vs : List Nat} (h : Ev tl σ H (.str z)) (hz : z.cps.size ≤ 40000) (hw : ∀ x, wipe ((wipe σ vs).set j (some x)) vs = wipe σ vs) (he : ∀ (c : Nat) H1, Ex H H1 → Ev te ((wipe σ vs).set j (some (.str ⟨#[c]⟩))) H1 (iV c)) :
    EvL (tLc (iStr tl) (gName j) tYes te vs) σ H (z.cps.toList.map iV) := fun H0 e Q q => h H0 e _ fun H1 e1 => ⟨z, rfl, fun Dl hD =>
  lc_it (walk_str (z := z)) (fun i H' => Ex H1 H' ∧ H' Dl = some (.lst ((z.cps.toList.take i).map iV))) ⟨Ex.new hD, upd_same⟩ (fun _ _ _ _ => trivial) (fun i x H2 H3 hi q2 y => by
    obtain ⟨rfl, c, hc, rfl⟩ := y
    refine ⟨hw _, ?_⟩
    show te _ H3 _
    refine he c H1 (e.trans e1) H3 q2.1 _ fun H4 e4 => ⟨_, e4 _ _ q2.2, ?_, ((q2.1).trans e4).mut hD, ?_⟩
    · rw [List.length_map, List.length_take, Array.length_toList]; exact sz_lt (by omega)
    · have hc' : z.cps.toList[i]? = some c := by rw [Array.getElem?_toList]; exact hc
      rw [upd_same, take_more hc', List.map_append]; rfl) (fun H' q2 => q Dl H' (fresh_back e1 hD) (e1.trans q2.1) (by
    have := q2.2
    rw [← Array.length_toList, List.take_of_length_le (Nat.le_refl _)] at this
    exact this))⟩
theorem ev_ord {c : Nat} (h : Ev ta σ H (.str ⟨#[c]⟩)) : Ev (tCB (fun xs H Q => ∃ x : Str, xs = [.str x] ∧ x.length = 1 ∧ Q (.int (x.cps.getD 0 0 : Nat)) H) (tCons ta tNil)) σ H (iV c) := ev_cb (ea_cons h ea_nil) fun H1 e Q q => ⟨_, rfl, rfl, q H1 (Ex.refl H1)⟩
end
def noBid (c : Nat) : Str := if c = 0 then "P" else if c = 1 then "X" else "XX"
theorem ok_call_text (T : Txt K mg fa fd CA CW CP CS aN aR aA aW aO) : FnOk P w K mg base CX0 2 (fa 43) (fd 43) P_call_text (spCallText) := by
  refine T.d_call_text.F.ok sc_call_text (fun vs H Q E h => ?_) (fun cdv A outer s H vs Q E hr h => ⟨_, (pss_cons (ps_if (pt_not (pt_val (pe_call (ok_is_bid T) (hr.mono (by decide)) rfl T.m_is_bid T.d_is_bid.F.kp T.d_is_bid.b .nil pass0 (pa_cons (pv 0) pa_nil)))) (pss_one (ps_ret (pe_lc (own := [("letter", 2)]) (g := gName 2) (by rfl) sc_call_text.nd (pi_str (pe_ix ix_tup (pe_globR rfl T.g_NO_BIDS) (pv 0) (fun _ _ => rfl))) (blkOk_by (N := N_call_text) (sc := defScope st_call_text) (by decide +kernel)) (fun _ _ _ _ _ => pg_name (i := 2) sc_call_text.nd rfl (.inl rfl)) (fun _ _ _ _ _ => by exact pts_nil) (fun _ _ _ _ _ => by exact (pe_callB call_ord (by rfl) T.b_ord (by decide +kernel) (pa_cons (pv 2) pa_nil)))))) pss_nil) (pss_cons (ps_set (i := 1) sc_call_text.nd rfl (.inl rfl) (pe_op op_sub (pv 0) (pe_globI rfl T.g_FIRST_BID))) (pss_one (ps_ret (pe_lst (pa_cons (pe_op op_add (pe_op op_add (pe_globI rfl T.g_ZERO) pe_int) (pe_op op_fdiv (pv 1) pe_int)) (pa_cons (pe_callB call_ord (by rfl) T.b_ord (by decide +kernel) (pa_cons (pe_ix ix_str (pe_globS rfl T.g_STRAINS) (pe_op op_mod (pv 1) pe_int) (fun _ _ => rfl)) pa_nil)) pa_nil))))))), ?_⟩)
  · obtain ⟨c, rfl, _⟩ := h; rfl
  · obtain ⟨c, rfl, hc, k⟩ := h
    refine q_when (et_not (et_B (ev_isbid (c := c) (ev_var rfl)))) (fun hb H1 e1 => ?_) (fun hb H1 e1 => ?_)
    · have h3 : ¬ 3 ≤ c := by simpa using hb
      have hx : Ev (tOp (rIxT K) (tC (.ref aN)) (tVar 0)) [some (iV c), none, none] H1 (.str (noBid c)) := ev_op ev_c (ev_var rfl) (rv_ixT (T.t_NO_BIDS H1) (atI_n (by
        rcases c with _ | _ | _ | c
        · rfl
        · rfl
        · rfl
        · omega)))
      have hl : (noBid c).cps.toList = callText c := by
        rcases c with _ | _ | _ | c
        · decide +kernel
        · decide +kernel
        · decide +kernel
        · omega
      have hz : (noBid c).cps.size ≤ 40000 := by
        rw [← Array.length_toList, hl]
        have := (callText_len c).2
        omega
      refine s_retL (el_lcS hx hz (fun x => rfl) (fun c H2 e2 => ev_ord (ev_var rfl))) fun p H2 hp e2 h2 => k p H2 (fresh_back e1 hp) (e1.trans e2) ?_
      rw [hl] at h2
      exact h2
    · have h3 : 3 ≤ c := by simpa using hb
      refine q_asg (ev_subN (j := 3) h3 (ev_var rfl) ev_c) fun H2 e2 => ?_
      have h5 : (c - 3) % 5 < 5 := Nat.mod_lt _ (by decide)
      have hs : atI (("CDHSN" : Str)).cps.toList (((c - 3) % 5 : Nat) : Int) = some (Vbbrac.strainByte ((c - 3) % 5)) := by
        generalize (c - 3) % 5 = k at h5
        have : ∀ k : Fin 5, atI (("CDHSN" : Str)).cps.toList ((k.1 : Nat) : Int) = some (Vbbrac.strainByte k.1) := by decide +kernel
        exact this ⟨k, h5⟩
      refine s_retL (el_lst (vs := [iV (49 + (c - 3) / 5), iV (Vbbrac.strainByte ((c - 3) % 5))]) (ea_cons (ev_addN (i := 49) (ev_addN (i := 48) (j := 1) ev_c ev_c) (ev_is (ev_op (ev_var rfl) ev_c (rv_I (C := CDiv) (g := fun i j => .int (i / j)) ⟨by decide, by decide⟩)) (congrArg V.int (by show ((c - 3 : Nat) : Int) / (5 : Nat) = _; rw [← Int.natCast_ediv])))) (ea_cons (ev_ord (ev_op ev_c (ev_modN (j := 5) (by decide) (ev_var rfl) ev_c) (rv_ixS (by decide +kernel) hs))) ea_nil)) (by show 2 ≤ 100000; decide)) fun p H3 hp e3 h3 => k p H3 (fresh_back (e1.trans e2) hp) ((e1.trans e2).trans e3) ?_
      rw [h3]
      unfold Vbbrac.callText
      rw [if_neg (by omega), if_neg (by omega), if_neg (by omega)]
      rfl
abbrev pI (n : Nat) : PyData := .int (n : Int)
theorem dp_ints {H : Hp} : ∀ ns : List Nat, DpAll K H (ns.map iV) (ns.map pI)
  | [] => .nil
  | n :: r => .cons (.int _) (dp_ints r)
theorem canlay_ints : ∀ ns : List Nat, PyData.canLayAll0 (ns.map pI) = true
  | [] => by simp [PyData.canLayAll0]
  | n :: r => by
    rw [List.map_cons]
    simp only [PyData.canLayAll0, PyData.canLay0, canlay_ints r, Bool.and_self]
theorem depth_ints : ∀ ns : List Nat, PyData.depthAll (ns.map pI) = 0
  | [] => by simp [PyData.depthAll]
  | n :: r => by
    rw [List.map_cons]
    simp only [PyData.depthAll, PyData.depth, depth_ints r, Nat.max_self]
theorem shaped_ints (ns : List Nat) : SeqAt.shaped (.list (ns.map pI)) = true := by
  unfold SeqAt.shaped
  simp only [PyData.canLay0, PyData.depth, canlay_ints, depth_ints]
  rfl
theorem eqv_ints : ∀ a b : List Nat, PyData.eqvAll (a.map pI) (b.map pI) = decide (a = b)
  | [], [] => by simp [PyData.eqvAll]
  | [], _ :: _ => by simp [PyData.eqvAll]
  | _ :: _, [] => by simp [PyData.eqvAll]
  | x :: a, y :: b => by
    rw [List.map_cons, List.map_cons]
    simp only [PyData.eqvAll, PyData.eqv, eqv_ints a b]
    rw [Bool.beq_eq_decide_eq, ← Bool.decide_and, decide_eq_decide]
    constructor
    · rintro ⟨h1, h2⟩
      rw [h2, Int.ofNat_inj.mp h1]
    · intro h
      injection h with h1 h2
      exact ⟨by rw [h1], h2⟩
theorem rv_eqL {H : Hp} {p q : Addr} {a b : List Nat} (h1 : SqL K H p (a.map iV)) (h2 : SqL K H q (b.map iV)) : RV (rEqD K) (.ref p) (.ref q) H (.bl (decide (a = b))) := fun H1 e Q k =>
  ⟨.list (a.map pI), .list (b.map pI), .lst (ex_l e h1) (dp_ints a), .lst (ex_l e h2) (dp_ints b), shaped_ints a, shaped_ints b, by
    have : PyData.eqv (.list (a.map pI)) (.list (b.map pI)) = decide (a = b) := by
      simp only [PyData.eqv, eqv_ints]
    rw [this]
    exact k H1 (Ex.refl H1)⟩
theorem ok_call_of (T : Txt K mg fa fd CA CW CP CS aN aR aA aW aO) : FnOk P w K mg base CX0 3 (fa 44) (fd 44) P_call_of (spCallOf K) := by
  refine T.d_call_of.F.ok sc_call_of (fun vs H Q E h => ?_) (fun cdv A outer s H vs Q E hr h => ⟨_, (pss_cons (ps_for PassesOwn.never rfl (pi_range1 (by rfl) T.b_range (pa_cons (pe_globI rfl T.g_CALLS) pa_nil)) (pg_name (i := 1) sc_call_of.nd rfl (.inl rfl)) (pss_one (ps_if (pt_cmpR (op_eqD hr.units) (pe_call (ok_call_text T) (hr.mono (by decide)) rfl T.m_call_text T.d_call_text.F.kp T.d_call_text.b .nil pass0 (pa_cons (pv 1) pa_nil)) (pv 0) (nomark _)) (pss_one (ps_ret (pv 1))) pss_nil))) (pss_one (ps_ret pe_non))), ?_⟩)
  · obtain ⟨a, ws, rfl, _⟩ := h; rfl
  · obtain ⟨a, ws, rfl, hs, k⟩ := h
    refine q_forR1 (n := 38) (ea_cons ev_c ea_nil) (by decide) (fun i σ' H' => Ex H H' ∧ (∀ c, c < i → callText c ≠ ws) ∧ ∃ u, σ' = [some (.ref a), u]) (fun H1 e1 => ⟨e1, fun c h => absurd h (Nat.not_lt_zero _), _, rfl⟩) ?_ ?_
    · rintro i σ' H' hi ⟨e1, hno, u, rfl⟩
      refine s_when (et_test (ev_opL1 (el_callText (c := i) (ev_var rfl) (by omega)) (fun H1 e => ev_var rfl) fun p H1 hp e => rv_eqL (sq_of hp) (ex_l (e1.trans e) hs))) (fun hb H2 e2 => ?_) (fun hb H2 e2 => ?_)
      · refine s_ret (v := optN (callOfText ws)) (ev_is (ev_var (v := iV i) rfl) ?_) fun H3 e3 => k H3 ((e1.trans e2).trans e3)
        rw [(callOf_iff (c := i)).mpr ⟨by omega, of_decide_eq_true hb⟩]
        rfl
      · refine ⟨e1.trans e2, fun c hc => ?_, _, rfl⟩
        rcases Nat.lt_or_ge c i with h | h
        · exact hno c h
        · rw [show c = i by omega]; exact of_decide_eq_false hb
    · rintro σ' H' ⟨e1, hno, u, rfl⟩
      refine s_ret (v := optN (callOfText ws)) (ev_is ev_c ?_) fun H3 e3 => k H3 (e1.trans e3)
      cases e : callOfText ws with
      | none => rfl
      | some c =>
        obtain ⟨h1, h2⟩ := callOf_text e
        exact absurd h2 (hno c (by show c < 38; omega))
end
end Bb
namespace Bb
open PySem PySem.Spec PyProof.Rows L2 Evl
open PySem.W (Codec)
open Vbbrac (callText callOfText joined cut textOf decimal)
section
variable {P : Program} {w : World} {K : PySem.W.Frag} {mg : Str → Option Value} {base : Heap} {fa : Nat → Addr} {fd : Nat → FuncData} {CA CW CP CS aN aR aA aW aO : Addr}
section
variable {σ : L2.St} {H : Hp} {ta tb te tl : TE} {E : XK} {D : Ends} {tz tu : TS}
theorem s_extL {l : Addr} {xs ys : List V} (hl : H l = some (.lst xs)) (ha : Ev ta σ H (.ref l)) (h : EvL te σ H ys) (hz : xs.length + ys.length ≤ 100000) (k : ∀ H1, Ex H H1 → D.nx σ (upd H1 l (.lst (xs ++ ys)))) :
    tDrop (tBM K "list" rExtend ta (tCons te tNil)) D σ H := ha H (Ex.refl H) _ fun H1 e1 =>
  ⟨Or.inl ⟨rfl, xs, sq_of (e1 l _ hl)⟩, h H1 e1 _ fun p H2 hp e2 h2 => ⟨l, p, xs, ys, rfl, rfl, e2 l _ (e1 l _ hl), h2, sz_of hz, k H2 (e1.trans e2)⟩⟩
theorem q_appP {l : Addr} {xs : List V} {P : V → Hp → Prop} (hl : H l = some (.lst xs)) (ha : Ev ta σ H (.ref l)) (h : EvP te σ H P) (hz : xs.length < 100000) (k : ∀ v H1, Ex H H1 → P v H1 → tz D σ (upd H1 l (.lst (xs ++ [v])))) :
    tSeq (tDrop (tBM K "list" rAppend ta (tCons te tNil))) tz D σ H := ha H (Ex.refl H) _ fun H1 e1 =>
  ⟨Or.inl ⟨rfl, xs, sq_of (e1 l _ hl)⟩, h H1 e1 _ fun v H2 e2 h2 => ⟨l, xs, v, rfl, rfl, e2 l _ (e1 l _ hl), sz_lt hz, k v H2 (e1.trans e2) h2⟩⟩
theorem evp_tup2L {v : V} {xs : List V} (h1 : Ev ta σ H v) (h2 : EvL tb σ H xs) : EvP (tTup (tCons ta (tCons tb tNil))) σ H (fun u H' => ∃ q r, u = .ref q ∧ H q = none ∧ H r = none ∧ H' q = some (.tup [v, .ref r]) ∧ H' r = some (.lst xs)) := fun H1 e Q k =>
  h1 H1 e _ fun H2 e2 => h2 H2 (e.trans e2) _ fun r H3 hr e3 h3 => ⟨(by show 2 ≤ sizeLine; decide), fun q hq => k _ _ ((e2.trans e3).trans (Ex.new hq)) ⟨q, r, rfl, fresh_back ((e.trans e2).trans e3) hq, fresh_back (e.trans e2) hr, upd_same, by
    rw [upd_ne (fun z => by rw [← z, h3] at hq; cases hq)]; exact h3⟩⟩
theorem q_forEnum {xs : List V} {j n : Nat} (h : EvL tl σ H xs) (Pv : Addr → Nat → L2.St → Hp → Prop) (h0 : ∀ p H1, H p = none → Ex H H1 → H1 p = some (.lst xs) → Pv p 0 σ H1) (hl : ∀ p i σ' H', Pv p i σ' H' → H' p = some (.lst xs))
    (hs : ∀ p i x σ' H' t, H' t = none → xs[i]? = some x → Pv p i σ' H' → tu { D with nx := Pv p (i + 1), ct := Pv p (i + 1), bk := tz D } ((σ'.set j (some (iV i))).set n (some x)) (upd H' t (.tup [iV i, x])))
    (hd : ∀ p σ' H', Pv p xs.length σ' H' → tz D σ' H') : tSeq (tFor (iEnum K (tCons tl tNil)) (gTup K 2 (gCons (gName j) (gCons (gName n) gNil))) tu) tz D σ H :=
  h H (Ex.refl H) _ fun p H1 hp e h1 => ⟨p, xs, rfl, sq_of h1, for_it (D := { D with nx := tz D }) (walk_enum (K := K) (a := p) (xs := xs)) (Pv p) (h0 p H1 hp e h1) (fun i σ' H' _ q => sq_of (hl p i σ' H' q))
    (fun i x σ' H2 H3 hi q y => by
      obtain ⟨t, u, z, rfl, ht, rfl, hu, hz⟩ := y
      have hu : V.int (i : Nat) = u := Option.some.inj hu
      subst hu
      exact ⟨t, _, rfl, st_of upd_same, rfl, _, _, rfl, _, _, rfl, rfl, hs p i z σ' H2 t ht hz q⟩) (hd p)⟩
end
theorem ok_auction_text (T : Txt K mg fa fd CA CW CP CS aN aR aA aW aO) : FnOk P w K mg base CX0 3 (fa 45) (fd 45) P_auction_text (spAucText CA) := by
  refine T.d_auction_text.F.ok sc_auction_text (fun vs H Q E h => ?_) (fun cdv A outer s H vs Q E hr h => ⟨_, (pss_cons (ps_set (i := 1) sc_auction_text.nd rfl (.inl rfl) (pe_lst pa_nil)) (pss_cons (ps_for PassesOwn.never rfl (pi_list (pe_fld (pv 0) rfl)) (pg_tup (by rfl) (pgs_cons (pg_name (i := 2) sc_auction_text.nd rfl (.inl rfl)) (pgs_cons (pg_name (i := 3) sc_auction_text.nd rfl (.inl rfl)) pgs_nil))) (pss_cons (ps_if (pt_cmpR op_gt (pe_callB call_len_seq (by rfl) T.b_len PySem.boot_len (pa_cons (pv 1) pa_nil)) pe_int (nomark _)) (pss_one (ps_expr (pe_bm PySem.F.plainAttrs_list PySem.F.slot_list_append PySem.F.type_list_append mt_append (pv 1) (pa_cons (pe_globI rfl T.g_BLANK) pa_nil)))) pss_nil) (pss_one (ps_expr (pe_bm PySem.F.plainAttrs_list PySem.F.slot_list_extend PySem.F.type_list_extend mt_extend (pv 1) (pa_cons (pe_call (ok_call_text T) (hr.mono (by decide)) rfl T.m_call_text T.d_call_text.F.kp T.d_call_text.b .nil pass0 (pa_cons (pv 3) pa_nil)) pa_nil)))))) (pss_one (ps_ret (pv 1))))), ?_⟩)
  · obtain ⟨a, m, d, l, rfl, _⟩ := h; rfl
  · obtain ⟨a, m, d, l, rfl, hA, hc, hl, k⟩ := h
    refine q_asgL (xs := []) (el_lst ea_nil (by decide)) fun x H1 hx e1 h1 => ?_
    refine q_forMade2 (H0 := H) e1 hA (ev_made T (ev_var rfl) (hA.mono e1)) (fun pre σ' H' => Ex H H' ∧ H' x = some (.lst ((textOf pre).map iV)) ∧ ∃ u v, σ' = [some (.ref a), some (.ref x), u, v]) (fun H2 e2 => ⟨e1.trans e2, e2 _ _ h1, _, _, rfl⟩) (fun _ _ _ p => p.1) ?_ ?_
    · rintro pre y post σ' H' hl2 ⟨e2, h2, u, v, rfl⟩
      have hy : y.2 ≤ 37 := hc y (by rw [hl2]; exact List.mem_append_right _ List.mem_cons_self)
      have hpl : pre.length < 2000 := by rw [hl2, List.length_append] at hl; omega
      have htl := textOf_len pre
      have hcl := callText_len y.2
      have fin : ∀ (xs : List Nat) H3, Ex H H3 → H3 x = some (.lst (xs.map iV)) → xs.length ≤ 10000 → xs ++ callText y.2 = textOf (pre ++ [y]) →
          tDrop (tBM K "list" rExtend (tVar 1) (tCons (tCall spCallText [] E0 (tCons (tVar 3) tNil)) tNil)) { nx := fun σ' H' => Ex H H' ∧ H' x = some (.lst ((textOf (pre ++ [y])).map iV)) ∧ ∃ u v, σ' = [some (.ref a), some (.ref x), u, v], ct := fun σ' H' => Ex H H' ∧ H' x = some (.lst ((textOf (pre ++ [y])).map iV)) ∧ ∃ u v, σ' = [some (.ref a), some (.ref x), u, v], rt := Q, bk := tRet (tVar 1) { nx := fun _ H' => Q .non H', rt := Q } } [some (.ref a), some (.ref x), some (iV y.1), some (iV y.2)] H3 := by
        intro xs H3 e3 h3 hz hxs
        refine s_extL h3 (ev_var rfl) (el_callText (c := y.2) (ev_var rfl) hy) (by rw [List.length_map, List.length_map]; omega) fun H4 e4 => ⟨(e3.trans e4).mut hx, ?_, _, _, rfl⟩
        rw [upd_same, ← hxs, List.map_append]
      refine q_when (b := decide (0 < (textOf pre).length)) (et_I (ev_len (ev_var rfl) (sq_of h2)) ev_c (by rw [List.length_map, decide_eq_decide]; omega)) (fun hb H3 e3 => ?_) (fun hb H3 e3 => ?_)
      · have hpos := of_decide_eq_true hb
        have hne : pre ≠ [] := fun z => by rw [z] at hpos; exact absurd hpos (by decide)
        refine s_app (v := iV 32) (e3 _ _ h2) (ev_var rfl) ev_c (by rw [List.length_map]; omega) fun H4 e4 => ?_
        refine fin (textOf pre ++ [32]) _ (((e2.trans e3).trans e4).mut hx) (by rw [upd_same, List.map_append]; rfl) (by rw [List.length_append]; show _ + 1 ≤ _; omega) ?_
        rw [textOf_snoc, if_neg hne, List.append_assoc]; rfl
      · have hpre : pre = [] := by
          cases pre with
          | nil => rfl
          | cons z r => exact absurd (textOf_pos (List.cons_ne_nil z r)) (of_decide_eq_false hb)
        subst hpre
        refine fin [] H3 (e2.trans e3) (e3 _ _ h2) (by decide) ?_
        rw [textOf_snoc, if_pos rfl]; rfl
    · rintro σ' H' ⟨e2, h2, u, v, rfl⟩
      exact s_ret (v := .ref x) (ev_var rfl) fun H3 e3 => k x H3 hx (e2.trans e3) (e3 _ _ h2)
theorem cutV_nat {t : List Nat} {b i : Nat} (hb : b ≤ i) (hi : i ≤ t.length) : cutV (t.map iV) (some (b : Int)) (some (i : Int)) = ((t.drop b).take (i - b)).map iV := by
  unfold cutV
  have h1 : HT.sIx (t.map iV).length 0 (some (b : Int)) = b := by
    rw [HT.sIx_nat, List.length_map]; omega
  have h2 : HT.sIx (t.map iV).length (t.map iV).length (some (i : Int)) = i := by
    rw [HT.sIx_nat, List.length_map]; omega
  rw [h1, h2, List.map_take, List.map_drop]
theorem map_eq_nil_iff' {t : List Nat} : (t.map iV).length = 0 ↔ t = [] := by
  rw [List.length_map]; exact List.length_eq_zero_iff
theorem ok_words_of (T : Txt K mg fa fd CA CW CP CS aN aR aA aW aO) : FnOk P w K mg base CX0 1 (fa 46) (fd 46) P_words_of (spWordsOf K) := by
  refine T.d_words_of.F.ok sc_words_of (fun vs H Q E h => ?_) (fun cdv A outer s H vs Q E hr h => ⟨_, (pss_cons (ps_if (pt_cmpR op_eq (pe_callB call_len_seq (by rfl) T.b_len PySem.boot_len (pa_cons (pv 0) pa_nil)) pe_int (nomark _)) (pss_one (ps_ret (pe_lst pa_nil))) pss_nil) (pss_cons (ps_set (i := 1) sc_words_of.nd rfl (.inl rfl) (pe_lst pa_nil)) (pss_cons (ps_set (i := 2) sc_words_of.nd rfl (.inl rfl) pe_int) (pss_cons (ps_for PassesOwn.never rfl (pi_enum (by rfl) T.b_enumerate (pa_cons (pe_op op_cat (pv 0) (pe_lst (pa_cons (pe_globI rfl T.g_BLANK) pa_nil))) pa_nil)) (pg_tup (by rfl) (pgs_cons (pg_name (i := 3) sc_words_of.nd rfl (.inl rfl)) (pgs_cons (pg_name (i := 4) sc_words_of.nd rfl (.inl rfl)) pgs_nil))) (pss_one (ps_if (pt_cmpR op_eq (pv 4) (pe_globI rfl T.g_BLANK) (nomark _)) (pss_cons (ps_expr (pe_bm PySem.F.plainAttrs_list PySem.F.slot_list_append PySem.F.type_list_append mt_append (pv 1) (pa_cons (pe_tup (pa_cons (pv 2) (pa_cons (pe_slice sl_list (pv 0) (po_some (pv 2)) (po_some (pv 3))) pa_nil))) pa_nil))) (pss_one (ps_set (i := 2) sc_words_of.nd rfl (.inl rfl) (pe_op op_add (pv 3) pe_int)))) pss_nil))) (pss_one (ps_ret (pv 1))))))), ?_⟩)
  · obtain ⟨a, t, rfl, _⟩ := h; rfl
  · obtain ⟨a, t, rfl, ht, hlen, k⟩ := h
    refine q_when (et_eqN (j := 0) (ev_len (ev_var rfl) (sq_of ht)) ev_c) (fun hb H1 e1 => ?_) (fun hb H1 e1 => ?_)
    · have hnil : t = [] := map_eq_nil_iff'.mp (of_decide_eq_true hb)
      refine s_retL (xs := []) (el_lst ea_nil (by decide)) fun p H2 hp e2 h2 => k _ H2 (e1.trans e2) ⟨p, [], rfl, fresh_back e1 hp, h2, ?_⟩
      unfold wordsOf
      rw [if_pos hnil]; exact .nil
    have hne : t ≠ [] := fun z => (of_decide_eq_false hb) (map_eq_nil_iff'.mpr z)
    refine q_asgL (xs := []) (el_lst ea_nil (by decide)) fun W H2 hW e2 h2 => ?_
    have hW0 := fresh_back e1 hW
    have e12 := e1.trans e2
    refine q_asg ev_c fun H3 e3 => ?_
    have ht3 : H3 a = some (.lst (t.map iV)) := e3 _ _ (e12 _ _ ht)
    have hWne : W ≠ a := fun z => by rw [z, ht] at hW0; cases hW0
    refine q_forEnum (xs := t.map iV ++ [iV 32]) (el_cat (ev_var rfl) ht3 (el_lst (ea_cons ev_c ea_nil) (by decide)) (by rw [List.length_map]; show _ + 1 ≤ _; omega))
      (fun p i σ' H' => (∀ b, H' b = none → H2 b = none) ∧ p ≠ W ∧ Ex H H' ∧ H' p = some (.lst (t.map iV ++ [iV 32])) ∧ ∃ vs u v b, H' W = some (.lst vs) ∧ σ' = [some (.ref a), some (.ref W), some (iV b), u, v] ∧ vs.length ≤ i ∧
        ((i ≤ t.length ∧ ∃ done, b = endAt 0 done ∧ b ≤ i ∧ WordsR (newer H2 H') vs (wordsAt 0 done) ∧ cut t = done ++ headOn ((t.drop b).take (i - b)) (cut (t.drop i))) ∨ (t.length < i ∧ WordsR (newer H2 H') vs (wordsAt 0 (cut t)))))
      (fun p H4 hp e4 h4 => ⟨fun b hb => fresh_back (e3.trans e4) hb, (fun z => by rw [z, e3 _ _ h2] at hp; cases hp), (e12.trans e3).trans e4, h4, [], none, none, 0, e4 _ _ (e3 _ _ h2), rfl, Nat.le_refl _, .inl ⟨Nat.zero_le _, [], rfl, Nat.le_refl _, .nil, headOn_nil.symm⟩⟩) (fun p i σ' H' q => q.2.2.2.1) ?_ ?_
    · rintro p i x σ' H' tp htp hx ⟨hkn, hpW, e4, hp4, vs, u, v, b, hWv, rfl, hvl, hinv⟩
      have hi : i ≤ t.length := by
        have := (List.getElem?_eq_some_iff.mp hx).1
        rw [List.length_append, List.length_map] at this
        have : i < t.length + 1 := this
        omega
      obtain ⟨_, done, rfl, hbi, hws, hcut⟩ := hinv.resolve_right (fun z => by omega)
      have eT : Ex H' (upd H' tp (.tup [iV i, x])) := Ex.new htp
      have hTW : (upd H' tp (.tup [iV i, x])) W = some (.lst vs) := eT _ _ hWv
      have hTa : (upd H' tp (.tup [iV i, x])) a = some (.lst (t.map iV)) := eT _ _ (e4 _ _ ht)
      -- the byte, and whether it is a blank
      have hxv : ∃ n : Nat, x = iV n ∧ ((i < t.length ∧ t[i]? = some n) ∨ (i = t.length ∧ n = 32)) := by
        by_cases hlt : i < t.length
        · rw [List.getElem?_append_left (by rw [List.length_map]; exact hlt), List.getElem?_map, List.getElem?_eq_getElem hlt] at hx
          exact ⟨t[i], (Option.some.inj hx).symm, .inl ⟨hlt, List.getElem?_eq_getElem hlt⟩⟩
        · have : i = t.length := by omega
          subst this
          rw [List.getElem?_append_right (by rw [List.length_map]; exact Nat.le_refl _), List.length_map, Nat.sub_self] at hx
          exact ⟨32, (Option.some.inj hx).symm, .inr ⟨rfl, rfl⟩⟩
      obtain ⟨n, rfl, hn⟩ := hxv
      refine s_when (et_eqN (i := n) (j := 32) (ev_var rfl) ev_c) (fun hb2 H5 e5 => ?_) (fun hb2 H5 e5 => ?_)
      · have h32 := of_decide_eq_true hb2
        have hcl : ((t.drop (endAt 0 done)).take (i - endAt 0 done)).length = i - endAt 0 done := by
          rw [List.length_take, List.length_drop]; omega
        have hsl : EvL (tSl (rSlL K) (tVar 0) (tPart (tVar 2)) (tPart (tVar 3))) [some (.ref a), some (.ref W), some (iV (endAt 0 done)), some (iV i), some (iV n)] H5 (((t.drop (endAt 0 done)).take (i - endAt 0 done)).map iV) := by
          have := el_sl (K := K) (σ := [some (.ref a), some (.ref W), some (iV (endAt 0 done)), some (iV i), some (iV n)]) (H := H5) (te := tVar 0) (tl := tPart (tVar 2)) (th := tPart (tVar 3)) (a := a) (ev_var rfl) (eo_some (i := ((endAt 0 done : Nat) : Int)) (ev_var rfl)) (eo_some (i := ((i : Nat) : Int)) (ev_var rfl)) (sq_of (e5 _ _ hTa))
          rw [cutV_nat hbi hi] at this
          exact this
        refine q_appP (e5 _ _ hTW) (ev_var rfl) (evp_tup2L (ev_var (i := 2) (v := iV (endAt 0 done)) rfl) hsl) (by omega) fun v H6 e6 hv => ?_
        obtain ⟨q, r, rfl, hq5, hr5, hq6, hr6⟩ := hv
        have kn5 : ∀ b, H5 b = none → H2 b = none := fun b hb => hkn b (fresh_back (eT.trans e5) hb)
        have hq2 := kn5 q hq5
        have hr2 := kn5 r hr5
        refine s_asg (v := iV (endAt 0 (done ++ [(t.drop (endAt 0 done)).take (i - endAt 0 done)]))) (ev_is (ev_addN (i := i) (j := 1) (ev_var rfl) ev_c) (congrArg iV (by rw [endAt_snoc, hcl]; omega))) fun H7 e7 => ?_
        have eW : Ex H6 H6 := Ex.refl _
        have eN : Ex (newer H2 H') (newer H2 H7) := ((newer_mono ((eT.trans e5).trans e6)).trans (newer_upd (o := .lst (vs ++ [.ref q])) h2)).trans (newer_mono e7)
        have hne6 : ∀ {b : Addr} {o : HO}, b ≠ W → H6 b = some o → H7 b = some o := fun n h => e7 _ _ (by rw [upd_ne n]; exact h)
        have hnW : ∀ {b : Addr}, H2 b = none → b ≠ W := fun h z => by rw [z, h2] at h; cases h
        have hword : WordR (newer H2 H7) (.ref q) (endAt 0 done, (t.drop (endAt 0 done)).take (i - endAt 0 done)) := ⟨q, r, rfl, newer_of hq2 (hne6 (hnW hq2) hq6), newer_of hr2 (hne6 (hnW hr2) hr6)⟩
        refine ⟨fun b hb => kn5 b ?_, hpW, ?_, hne6 hpW (e6 _ _ (e5 _ _ (eT _ _ hp4))), vs ++ [.ref q], _, _, _, e7 _ _ upd_same, rfl, by rw [List.length_append]; show vs.length + 1 ≤ i + 1; omega, ?_⟩
        · have := fresh_back e7 hb
          by_cases zW : b = W
          · rw [zW, upd_same] at this; cases this
          · rw [upd_ne zW] at this; exact fresh_back e6 this
        · exact (Ex.mut (((e4.trans eT).trans e5).trans e6) hW0).trans e7
        · rcases hn with ⟨hlt, hti⟩ | ⟨rfl, _⟩
          · refine .inl ⟨hlt, _, rfl, by rw [endAt_snoc, hcl]; omega, ?_, ?_⟩
            · rw [wordsAt_snoc]; exact WordsR.snoc hword (hws.mono eN)
            · rw [hcut, List.append_assoc]
              have hd : t.drop i = 32 :: t.drop (i + 1) := by
                rw [List.drop_eq_getElem_cons hlt]
                congr 1
                rw [List.getElem?_eq_getElem hlt] at hti
                rw [← h32]; exact Option.some.inj hti
              rw [hd, cut_blank, endAt_snoc, hcl, show i + 1 - (endAt 0 done + (i - endAt 0 done) + 1) = 0 by omega, List.take_zero, headOn_nil]
              rfl
          · refine .inr ⟨Nat.lt_succ_self _, ?_⟩
            have hd : t.drop t.length = [] := List.drop_length
            rw [hcut, hd]
            show WordsR _ _ (wordsAt 0 (done ++ [_ ++ []]))
            rw [List.append_nil, wordsAt_snoc]; exact WordsR.snoc hword (hws.mono eN)
      · have h32 := of_decide_eq_false hb2
        obtain ⟨hlt, hti⟩ : i < t.length ∧ t[i]? = some n := hn.resolve_right fun z => h32 z.2
        refine ⟨fun b hb => hkn b (fresh_back (eT.trans e5) hb), hpW, (e4.trans eT).trans e5, e5 _ _ (eT _ _ hp4), vs, _, _, _, e5 _ _ hTW, rfl, by omega, .inl ⟨hlt, done, rfl, by omega, hws.mono (newer_mono (eT.trans e5)), ?_⟩⟩
        have hd : t.drop i = n :: t.drop (i + 1) := by
          rw [List.drop_eq_getElem_cons hlt]
          congr 1
          rw [List.getElem?_eq_getElem hlt] at hti
          exact Option.some.inj hti
        have ht2 : (t.drop (endAt 0 done)).take (i + 1 - endAt 0 done) = (t.drop (endAt 0 done)).take (i - endAt 0 done) ++ [n] := by
          rw [show i + 1 - endAt 0 done = (i - endAt 0 done) + 1 by omega]
          refine take_more ?_
          rw [List.getElem?_drop, show endAt 0 done + (i - endAt 0 done) = i by omega]
          exact hti
        rw [hcut, hd, cut_other h32, ht2]
    · rintro p σ' H' ⟨hkn, hpW, e4, hp4, vs, u, v, b, hWv, rfl, hvl, hinv⟩
      have hfin := (hinv.resolve_left (fun z => by
        have := z.1
        rw [List.length_append, List.length_map] at this
        have : t.length + 1 ≤ t.length := this
        omega)).2
      refine s_ret (v := .ref W) (ev_var rfl) fun H5 e5 => k _ H5 (e4.trans e5) ⟨W, vs, rfl, hW0, e5 _ _ hWv, ?_⟩
      unfold wordsOf
      rw [if_neg hne]
      exact hfin.mono ((newer_mono e5).trans (newer_back e12))
end
end Bb
namespace Bb
open PySem PySem.Spec PyProof.Rows L2 Evl
open PySem.W (Codec)
open Vbbrac (callText callOfText joined cut textOf decimal)
section
variable {P : Program} {w : World} {K : PySem.W.Frag} {mg : Str → Option Value} {base : Heap} {fa : Nat → Addr} {fd : Nat → FuncData} {CA CW CP CS aN aR aA aW aO : Addr}
theorem ok_what_is_wrong (T : Txt K mg fa fd CA CW CP CS aN aR aA aW aO) : FnOk P w K mg base CX0 5 (fa 47) (fd 47) P_what_is_wrong (spWrong K CA) := by
  refine T.d_what_is_wrong.F.ok sc_what_is_wrong (fun vs H Q E h => ?_) (fun cdv A outer s H vs Q E hr h => ⟨_, (pss_cons (ps_set (i := 2) sc_what_is_wrong.nd rfl (.inl rfl) (pe_call (ok_call_of T) (hr.mono (by decide)) rfl T.m_call_of T.d_call_of.F.kp T.d_call_of.b .nil pass0 (pa_cons (pv 1) pa_nil))) (pss_cons (ps_if (pt_cmpR op_isN (pv 2) pe_non (nomark _)) (pss_one (ps_ret (pe_globI rfl T.g_NO_CALL))) pss_nil) (pss_cons (ps_if (pt_val (pe_meth0 (pv 0) T.cl_CA T.m_a_over (ok_a_over T) (hr.mono (by decide)) T.d_a_over.b .nil pass0)) (pss_one (ps_ret (pe_globI rfl T.g_OVER_BEFORE))) pss_nil) (pss_one (ps_ret (pe_ifExp (pt_val (pe_meth (pv 0) T.cl_CA T.m_a_legal (ok_a_legal T) (hr.mono (by decide)) T.d_a_legal.b .nil pass0 (pa_cons (pe_meth0 (pv 0) T.cl_CA T.m_a_on_turn (ok_a_on_turn T) (hr.mono (by decide)) T.d_a_on_turn.b .nil pass0) (pa_cons (pv 2) pa_nil)))) (pe_globI rfl T.g_RIGHT) (pe_globI rfl T.g_NOT_LEGAL))))))), ?_⟩)
  · obtain ⟨a, m, d, l, b, ws, rfl, _⟩ := h; rfl
  · obtain ⟨a, m, d, l, b, ws, rfl, hA, hs, k⟩ := h
    refine q_asg (ev_callOf (ev_var rfl) hs) fun H1 e1 => ?_
    have hA1 := hA.mono e1
    cases e : callOfText ws with
    | none =>
      refine q_when (b := true) (et_test (ev_is (ev_isN (ev_var rfl)) rfl)) (fun _ H2 e2 => ?_) (fun h _ _ => by cases h)
      exact s_ret (v := iV (wrongN d l ws)) (ev_is ev_c (by unfold wrongN; rw [e]; rfl)) fun H3 e3 => k H3 ((e1.trans e2).trans e3)
    | some c =>
      have hc := (callOf_text e).1
      refine q_when (b := false) (et_test (ev_is (ev_isN (ev_var rfl)) rfl)) (fun h _ _ => by cases h) (fun _ H2 e2 => ?_)
      have hA2 := hA1.mono e2
      refine q_when (et_B (ev_auc (f := fun _ l => .bl (Vbbrac.over l)) (ev_var rfl) hA2)) (fun ho H3 e3 => ?_) (fun ho H3 e3 => ?_)
      · exact s_ret (v := iV (wrongN d l ws)) (ev_is ev_c (by unfold wrongN; rw [e]; show _ = iV (if Vbbrac.over l = true then 3 else _); rw [if_pos ho]; rfl)) fun H4 e4 => k H4 (((e1.trans e2).trans e3).trans e4)
      · have hA3 := hA2.mono e3
        refine s_ret (v := iV (wrongN d l ws)) (ev_if (et_B (ev_legal (s := Vbbrac.turn d l) (c := c) (ev_var rfl) hA3 (ev_auc (f := fun d l => iV (Vbbrac.turn d l)) (ev_var rfl) hA3) (ev_var rfl) hc)) (fun hl => ?_) (fun hl => ?_)) fun H4 e4 => k H4 (((e1.trans e2).trans e3).trans e4)
        · refine ev_is ev_c ?_
          unfold wrongN; rw [e]
          show _ = iV (if Vbbrac.over l = true then 3 else if Vbbrac.legal l (Vbbrac.turn d l) c = true then 0 else 2)
          rw [if_neg (by rw [ho]; exact Bool.false_ne_true), if_pos hl]; rfl
        · refine ev_is ev_c ?_
          unfold wrongN; rw [e]
          show _ = iV (if Vbbrac.over l = true then 3 else if Vbbrac.legal l (Vbbrac.turn d l) c = true then 0 else 2)
          rw [if_neg (by rw [ho]; exact Bool.false_ne_true), if_neg (by rw [hl]; exact Bool.false_ne_true)]; rfl
theorem wordsAt_get : ∀ {ws : List (List Nat)} {at_ i : Nat} {x : Nat × List Nat}, (wordsAt at_ ws)[i]? = some x → ∃ r, ws.drop i = x.2 :: r ∧ x.1 = endAt at_ (ws.take i)
  | [], at_, i, x, h => by
    have h : ([] : List (Nat × List Nat))[i]? = some x := h
    simp at h
  | w :: r, at_, 0, x, h => by
    have h : some (at_, w) = some x := h
    cases h
    exact ⟨r, rfl, rfl⟩
  | w :: r, at_, i + 1, x, h => by
    have h : (wordsAt (at_ + w.length + 1) r)[i]? = some x := h
    obtain ⟨q, h1, h2⟩ := wordsAt_get h
    exact ⟨q, h1, h2⟩
theorem wordsAt_len : ∀ (ws : List (List Nat)) (at_ : Nat), (wordsAt at_ ws).length = ws.length
  | [], _ => rfl
  | w :: r, at_ => by
    show (wordsAt _ r).length + 1 = r.length + 1
    rw [wordsAt_len r]
theorem cut_len : ∀ t : List Nat, (cut t).length ≤ t.length + 1
  | [] => Nat.le_refl _
  | b :: r => by
    have ih := cut_len r
    show (if b = 32 then [] :: cut r else match cut r with
      | [] => [[b]]
      | w :: l => (b :: w) :: l).length ≤ r.length + 1 + 1
    split
    · rw [List.length_cons]; omega
    · split
      · show 1 ≤ _; omega
      · rename_i w l e
        rw [e] at ih
        exact Nat.le_succ_of_le ih
theorem ok_make_words (T : Txt K mg fa fd CA CW CP CS aN aR aA aW aO) : FnOk P w K mg base CX0 6 (fa 48) (fd 48) P_make_words (spMakeWords K CA) := by
  refine T.d_make_words.F.ok sc_make_words (fun vs H Q E h => ?_) (fun cdv A outer s H vs Q E hr h => ⟨_, (pss_cons (ps_set (i := 2) sc_make_words.nd rfl (.inl rfl) (pe_call (ok_words_of T) (hr.mono (by decide)) rfl T.m_words_of T.d_words_of.F.kp T.d_words_of.b .nil pass0 (pa_cons (pv 1) pa_nil))) (pss_cons (ps_for PassesOwn.never rfl (pi_list (pv 2)) (pg_tup (by rfl) (pgs_cons (pg_name (i := 3) sc_make_words.nd rfl (.inl rfl)) (pgs_cons (pg_name (i := 4) sc_make_words.nd rfl (.inl rfl)) pgs_nil))) (pss_cons (ps_set (i := 5) sc_make_words.nd rfl (.inl rfl) (pe_call (ok_what_is_wrong T) (hr.mono (by decide)) rfl T.m_what_is_wrong T.d_what_is_wrong.F.kp T.d_what_is_wrong.b .nil pass0 (pa_cons (pv 0) (pa_cons (pv 4) pa_nil)))) (pss_cons (ps_if (pt_cmpR op_ne (pv 5) (pe_globI rfl T.g_RIGHT) (nomark _)) (pss_one (ps_ret (pe_lst (pa_cons (pv 5) (pa_cons (pv 3) pa_nil))))) pss_nil) (pss_one (ps_expr (pe_meth (pv 0) T.cl_CA T.m_a_make (ok_a_make T) (hr.mono (by decide)) T.d_a_make.b .nil pass0 (pa_cons (pe_meth0 (pv 0) T.cl_CA T.m_a_on_turn (ok_a_on_turn T) (hr.mono (by decide)) T.d_a_on_turn.b .nil pass0) (pa_cons (pe_call (ok_call_of T) (hr.mono (by decide)) rfl T.m_call_of T.d_call_of.F.kp T.d_call_of.b .nil pass0 (pa_cons (pv 4) pa_nil)) pa_nil)))))))) (pss_one (ps_ret (pe_lst (pa_cons (pe_globI rfl T.g_RIGHT) (pa_cons (pe_callB call_len_seq (by rfl) T.b_len PySem.boot_len (pa_cons (pv 2) pa_nil)) pa_nil))))))), ?_⟩)
  · obtain ⟨a, m, d, b, t, rfl, _⟩ := h; rfl
  · obtain ⟨a, m, d, b, t, rfl, hA, hb, hlen, k⟩ := h
    refine q_asgP (P := fun v H' => ∃ b vs, v = .ref b ∧ H b = none ∧ H' b = some (.lst vs) ∧ WordsR (newer H H') vs (wordsOf t)) (evp_call (ea_cons (ev_var rfl) ea_nil) fun H1 e Q q E => ⟨b, t, rfl, e _ _ hb, hlen, fun v H2 e2 p => q v H2 e2 (by
      obtain ⟨c, vs, h1, h2, h3, h4⟩ := p
      exact ⟨c, vs, h1, fresh_back e h2, h3, h4.mono (newer_back e)⟩)⟩) fun v H1 e1 hv => ?_
    obtain ⟨wl, vs, rfl, hwl0, hwl, hws⟩ := hv
    have hm0 : ∃ o, H m = some o := by obtain ⟨_, us, hu, _⟩ := hA; exact ⟨_, hu⟩
    obtain ⟨om, hom⟩ := hm0
    have hwm : wl ≠ m := fun z => by rw [z, hom] at hwl0; cases hwl0
    -- what the words are made of stands at every turn
    have keep : ∀ {H' : Hp}, Frm (· = m) H1 H' → Ex (newer H H1) H' := fun f b o h => f _ _ (newer_ex b o h) fun z => by rw [z] at h; rw [newer_none h] at hom; cases hom
    refine q_forL (K := K) (xs := vs) (ev_var rfl) (sq_of hwl) (fun i σ' H' => Frm (· = m) H1 H' ∧ ∃ l u1 u2 u3, AucM CA H' a m d l ∧ l.length ≤ i ∧ σ' = [some (.ref a), some (.ref b), some (.ref wl), u1, u2, u3] ∧ Vbbrac.readText d t = (if t = [] then .ok l else Vbbrac.readWords d l (endAt 0 ((cut t).take i)) ((cut t).drop i)) ∧ l.length = i)
      (fun H2 e2 => ⟨Frm.of e2, [], none, none, none, (hA.mono e1).mono e2, Nat.le_refl _, rfl, ?_, rfl⟩) (fun i σ' H' _ q => sq_of (q.1 _ _ hwl hwm)) ?_ ?_
    · unfold Vbbrac.readText
      cases t with
      | nil => rfl
      | cons x r => rfl
    · rintro i v σ' H' hvi ⟨f, l, u1, u2, u3, hA2, hl, rfl, hread, hli⟩
      obtain ⟨x, hx, hw⟩ := hws.get hvi
      obtain ⟨tp, wb, rfl, htp, hwb⟩ := hw.mono (keep f)
      have hne : t ≠ [] := fun z => by
        unfold wordsOf at hx
        rw [if_pos z] at hx
        simp at hx
      rw [if_neg hne] at hread
      unfold wordsOf at hx
      rw [if_neg hne] at hx
      obtain ⟨r, hr, hat⟩ := wordsAt_get hx
      have hilt : i < (cut t).length := by
        rw [← wordsAt_len (cut t) 0]; exact (List.getElem?_eq_some_iff.mp hx).1
      have hcl := cut_len t
      rw [hr, readWords_step, ← hat] at hread
      refine ⟨tp, _, rfl, st_of htp, rfl, _, _, rfl, _, _, rfl, rfl, ?_⟩
      refine q_asg (ev_wrong (ev_var rfl) (ev_var (v := .ref wb) rfl) hA2 (sq_of hwb)) fun H2 e2 => ?_
      refine q_when (et_neN (i := wrongN d l x.2) (j := 0) (ev_var rfl) ev_c) (fun hb2 H3 e3 => ?_) (fun hb2 H3 e3 => ?_)
      · have h0 : wrongN d l x.2 ≠ 0 := by simpa using hb2
        rw [if_neg h0] at hread
        have hlook : lookL d t = [wrongN d l x.2, x.1] := by unfold lookL; rw [hread]
        refine s_retL (el_lst (vs := [iV (wrongN d l x.2), iV x.1]) (ea_cons (ev_var rfl) (ea_cons (ev_var rfl) ea_nil)) (by show 2 ≤ 100000; decide)) fun p H4 hp e4 h4 => k p H4 ?_ ?_ ?_ ?_
        · have g := fresh_back (e2.trans e3) hp
          cases z : H p with
          | none => rfl
          | some o =>
            by_cases zm : p = m
            · obtain ⟨_, us, hu, _⟩ := hA2
              rw [zm, hu] at g; cases g
            · rw [f _ _ (e1 _ _ z) zm] at g; cases g
        · exact ((Frm.of e1).trans f).trans (Frm.of ((e2.trans e3).trans e4))
        · rw [hlook]; exact h4
        · intro l2 hl2; rw [hread] at hl2; cases hl2
      · have h0 : wrongN d l x.2 = 0 := by simpa using hb2
        rw [if_pos h0] at hread
        obtain ⟨c, hc, h37, hleg⟩ := wrong_zero h0
        have hA3 := (hA2.mono e2).mono e3
        refine s_make (s := Vbbrac.turn d l) (c := c) (ev_var rfl) hA3 (by omega) (ev_auc (f := fun d l => iV (Vbbrac.turn d l)) (ev_var rfl) hA3) (ev_is (ev_callOf (ev_var rfl) (sq_of (e3 _ _ (e2 _ _ hwb)))) (by rw [hc]; rfl)) fun H4 f4 hA4 => ?_
        refine ⟨(f.trans (Frm.of (e2.trans e3))).trans f4, _, _, _, _, hA4, by rw [List.length_append]; show l.length + 1 ≤ i + 1; omega, rfl, ?_, by rw [List.length_append]; show l.length + 1 = i + 1; omega⟩
        rw [hread, if_neg hne, hc]
        have hg : (cut t)[i]? = some x.2 := by
          have := congrArg List.head? hr
          rw [List.head?_drop] at this
          exact this
        rw [take_more hg, endAt_snoc, ← hat]
        have : (cut t).drop (i + 1) = r := by
          rw [← List.drop_drop, hr]
          rfl
        rw [this]
        rfl
    · rintro σ' H' ⟨f, l, u1, u2, u3, hA2, hl, rfl, hread, hli⟩
      have hread2 : Vbbrac.readText d t = .ok l := by
        rw [hread]
        by_cases hne : t = []
        · rw [if_pos hne]
        · rw [if_neg hne, hws.len]
          unfold wordsOf
          rw [if_neg hne, wordsAt_len, List.drop_length]
          rfl
      have hlook : lookL d t = [0, l.length] := by unfold lookL; rw [hread2]
      refine s_retL (el_lst (vs := [iV 0, iV vs.length]) (ea_cons ev_c (ea_cons (ev_len (ev_var rfl) (sq_of (f _ _ hwl hwm))) ea_nil)) (by show 2 ≤ 100000; decide)) fun p H4 hp e4 h4 => k p H4 ?_ ?_ ?_ ?_
      · cases z : H p with
        | none => rfl
        | some o =>
          by_cases zm : p = m
          · obtain ⟨_, us, hu, _⟩ := hA2
            rw [zm, hu] at hp; cases hp
          · rw [f _ _ (e1 _ _ z) zm] at hp; cases hp
      · exact ((Frm.of e1).trans f).trans (Frm.of e4)
      · rw [hlook, hli]; exact h4
      · intro l2 hl2
        rw [hread2] at hl2
        cases hl2
        exact hA2.mono e4
theorem ok_numeral (T : Txt K mg fa fd CA CW CP CS aN aR aA aW aO) : FnOk P w K mg base CX0 1 (fa 49) (fd 49) P_numeral (spNumeral) := by
  refine T.d_numeral.F.ok sc_numeral (fun vs H Q E h => ?_) (fun cdv A outer s H vs Q E hr h => ⟨_, (pss_one (ps_ret (pe_lc (own := [("digit", 1)]) (g := gName 1) (by rfl) sc_numeral.nd (pi_str (pe_callTy call_str_int (by rfl) T.b_str (by decide +kernel) (pa_cons (pv 0) pa_nil))) (blkOk_by (N := N_numeral) (sc := defScope st_numeral) (by decide +kernel)) (fun _ _ _ _ _ => pg_name (i := 1) sc_numeral.nd rfl (.inl rfl)) (fun _ _ _ _ _ => by exact pts_nil) (fun _ _ _ _ _ => by exact (pe_callB call_ord (by rfl) T.b_ord (by decide +kernel) (pa_cons (pv 1) pa_nil)))))), ?_⟩)
  · obtain ⟨n, rfl, _⟩ := h; rfl
  · obtain ⟨n, rfl, hn, k⟩ := h
    have hs := str_digits hn
    have hz : (PySem.Str.ofString (toString ((n : Nat) : Int))).cps.size ≤ 40000 := by
      rw [← Array.length_toList, hs]
      have : ∀ k n, (Vbbrac.digits k n).length ≤ k := by
        intro k
        induction k with
        | zero => intro n; exact Nat.le_refl _
        | succ k ih =>
          intro n
          unfold Vbbrac.digits
          split
          · show 1 ≤ k + 1; omega
          · rw [List.length_append]; have := ih (n / 10); show _ + 1 ≤ _; omega
      exact Nat.le_trans (this 60 n) (by decide)
    have hx : Ev (tCB (fun xs H Q => ∃ i : Int, xs = [.int i] ∧ i.natAbs.log2 < 1920 ∧ Q (.str (toString i)) H) (tCons (tVar 0) tNil)) [some (iV n), none] H (.str (PySem.Str.ofString (toString ((n : Nat) : Int)))) := ev_cb (ea_cons (ev_var rfl) ea_nil) fun H1 e Q q => ⟨_, rfl, log_small hn, q H1 (Ex.refl H1)⟩
    refine s_retL (el_lcS hx hz (fun x => rfl) (fun c H2 e2 => ev_ord (ev_var rfl))) fun p H2 hp e2 h2 => k p H2 hp e2 ?_
    rw [hs] at h2
    exact h2
theorem fd_ltN2 {σ : L2.St} {H : Hp} {ta tb : TE} {i j : Nat} (h1 : Ev ta σ H (iV i)) (h2 : Ev tb σ H (iV j)) : EvT (tTest (tOp (rI0 fun i j => .bl (decide (i < j))) ta tb)) σ H (decide (i < j)) := et_I h1 h2 (by rw [decide_eq_decide]; omega)
theorem mul_ok {i : Int} : CMul i 10 := .inr ⟨by decide, by decide⟩
theorem ok_number_told (T : Txt K mg fa fd CA CW CP CS aN aR aA aW aO) : FnOk P w K mg base CX0 1 (fa 50) (fd 50) P_number_told (spNumTold K) := by
  refine T.d_number_told.F.ok sc_number_told (fun vs H Q E h => ?_) (fun cdv A outer s H vs Q E hr h => ⟨_, (pss_cons (ps_if (PW.pt (pw_or (pt_cmpR op_eq (pe_callB call_len_seq (by rfl) T.b_len PySem.boot_len (pa_cons (pv 0) pa_nil)) pe_int (nomark _)) (pw_or1 (PW.pt (pw_and (pt_cmpR op_eq (pe_ix ix_list (pv 0) pe_int (fun _ _ => rfl)) (pe_globI rfl T.g_ZERO) (nomark _)) (pw_and1 (pt_cmpR op_gt (pe_callB call_len_seq (by rfl) T.b_len PySem.boot_len (pa_cons (pv 0) pa_nil)) pe_int (nomark _)))))))) (pss_one (ps_ret pe_non)) pss_nil) (pss_cons (ps_set (i := 1) sc_number_told.nd rfl (.inl rfl) pe_int) (pss_cons (ps_for PassesOwn.never rfl (pi_list (pv 0)) (pg_name (i := 2) sc_number_told.nd rfl (.inl rfl)) (pss_cons (ps_if (PW.pt (pw_or (pt_cmpR op_lt (pv 2) (pe_globI rfl T.g_ZERO) (nomark _)) (pw_or1 (pt_cmpR op_gt (pv 2) (pe_globI rfl T.g_NINE) (nomark _))))) (pss_one (ps_ret pe_non)) pss_nil) (pss_one (ps_set (i := 1) sc_number_told.nd rfl (.inl rfl) (pe_op op_sub (pe_op op_add (pe_op op_mul (pv 1) pe_int) (pv 2)) (pe_globI rfl T.g_ZERO)))))) (pss_one (ps_ret (pv 1)))))), ?_⟩)
  · obtain ⟨a, ws, rfl, _⟩ := h; rfl
  · obtain ⟨a, ws, rfl, hs, k⟩ := h
    have hat : ∀ {σ : L2.St} {H1 : Hp} {ta : TE} {n : Nat} {r : List Nat}, ws = n :: r → Ex H H1 → Ev ta σ H1 (.ref a) → Ev (tOp (rIxL K) ta (tC (.int 0))) σ H1 (iV n) := fun hw e h => ev_op h ev_c (rv_ixL (ex_l e hs) (by rw [hw]; exact atI_n (i := 0) rfl))
    -- the first test
    have htest : EvT (tOr (tTest (tOp rEq (tCB (rLenS K) (tCons (tVar 0) tNil)) (tC (.int 0)))) (tAnd (tTest (tOp rEq (tOp (rIxL K) (tVar 0) (tC (.int 0))) (tC (.int 48)))) (tTest (tOp (rI0 fun i j => .bl (decide (j < i))) (tCB (rLenS K) (tCons (tVar 0) tNil)) (tC (.int 1)))))) [some (.ref a), none, none] H (decide (ws.length = 0) || (decide (ws.head? = some 48) && decide (1 < ws.length))) := by
      refine et_or (et_is (et_eqN (j := 0) (ev_len (ev_var rfl) hs) ev_c) (by rw [List.length_map])) (fun h0 => ?_)
      cases e : ws with
      | nil => rw [e] at h0; cases h0
      | cons n r =>
        refine et_and (et_is (et_eqN (i := n) (j := 48) (hat e (Ex.refl H) (ev_var rfl)) ev_c) ?_) (fun _ => ?_)
        · rw [decide_eq_decide]; simp
        · exact et_I (ev_len (ev_var rfl) hs) ev_c (by rw [List.length_map, e, decide_eq_decide]; omega)
    refine q_when htest (fun hb H1 e1 => ?_) (fun hb H1 e1 => ?_)
    · refine s_ret (v := optN (toldN ws)) (ev_is ev_c ?_) fun H2 e2 => k H2 (e1.trans e2)
      have : Vbbrac.isNumeral ws = false := by
        unfold Vbbrac.isNumeral
        cases ws with
        | nil => rfl
        | cons n r =>
          have hb : n = 48 ∧ 1 < (n :: r).length := by simpa using hb
          obtain ⟨rfl, h2⟩ := hb
          have : ((48 :: r).length == 1) = false := by
            rw [Bool.beq_eq_decide_eq]; exact decide_eq_false (by omega)
          rw [this]
          simp
      unfold toldN
      rw [this]; rfl
    · refine q_asg ev_c fun H2 e2 => ?_
      have hb : ws ≠ [] ∧ (ws.length == 1 || ws.head? != some 48) = true := by
        cases ws with
        | nil => cases hb
        | cons n r =>
          refine ⟨List.cons_ne_nil _ _, ?_⟩
          have hb : n = 48 → r = [] := by
            intro hn
            subst hn
            cases r with
            | nil => rfl
            | cons y q => simp at hb
          by_cases hn : n = 48
          · rw [hb hn]; rfl
          · simp [hn]
      have e12 := e1.trans e2
      refine q_forL (K := K) (xs := ws.map iV) (ev_var rfl) (ex_l e12 hs) (fun i σ' H' => Ex H H' ∧ (∀ x ∈ ws.take i, 48 ≤ x ∧ x ≤ 57) ∧ ∃ u, σ' = [some (.ref a), some (iV (Vbbrac.numeral (ws.take i))), u]) (fun H3 e3 => ⟨e12.trans e3, by simp, _, rfl⟩) (fun i σ' H' _ q => ex_l q.1 hs) ?_ ?_
      · rintro i x σ' H' hx ⟨e3, hall, u, rfl⟩
        rw [List.getElem?_map] at hx
        cases q : ws[i]? with
        | none => rw [q] at hx; cases hx
        | some n =>
          rw [q] at hx
          obtain rfl : iV n = x := Option.some.inj hx
          have hmem : n ∈ ws := List.mem_of_getElem? q
          refine q_when (b := decide (n < 48) || decide (57 < n)) (et_or (fd_ltN2 (i := n) (j := 48) (ev_var rfl) ev_c) (fun _ => et_I (ev_var rfl) ev_c (by rw [decide_eq_decide]; omega))) (fun hb2 H4 e4 => ?_) (fun hb2 H4 e4 => ?_)
          · refine s_ret (v := optN (toldN ws)) (ev_is ev_c ?_) fun H5 e5 => k H5 ((e3.trans e4).trans e5)
            have : Vbbrac.isNumeral ws = false := by
              unfold Vbbrac.isNumeral
              have : ws.all (fun b => decide (48 ≤ b) && decide (b ≤ 57)) = false := by
                rw [List.all_eq_false]
                refine ⟨n, hmem, ?_⟩
                simp at hb2
                simp; omega
              rw [this]; simp
            unfold toldN
            rw [this]; rfl
          · have hb3 : 48 ≤ n ∧ n ≤ 57 := by simp at hb2; omega
            refine s_asg (v := iV (Vbbrac.numeral (ws.take (i + 1)))) (ev_I (a := ((Vbbrac.numeral (ws.take i) : Nat) : Int) * 10 + (n : Int)) (ev_I (ev_op (ev_var rfl) ev_c (rv_I (C := CMul) (g := fun i j => .int (i * j)) mul_ok)) (ev_var rfl) rfl) ev_c ?_) fun H5 e5 => ⟨(e3.trans e4).trans e5, ?_, _, rfl⟩
            · rw [take_more q]
              unfold Vbbrac.numeral
              rw [List.foldl_append]
              show V.int _ = V.int ((10 * _ + (n - 48) : Nat) : Int)
              congr 1
              omega
            · rw [take_more q]; exact all_snoc hall hb3
      · rintro σ' H' ⟨e3, hall, u, rfl⟩
        rw [List.length_map, List.take_of_length_le (Nat.le_refl _)] at hall
        refine s_ret (v := optN (toldN ws)) (ev_is (ev_var rfl) ?_) fun H5 e5 => k H5 (e3.trans e5)
        rw [List.length_map, List.take_of_length_le (Nat.le_refl _)]
        have : Vbbrac.isNumeral ws = true := by
          unfold Vbbrac.isNumeral
          have h1 : ws.all (fun b => decide (48 ≤ b) && decide (b ≤ 57)) = true := by
            rw [List.all_eq_true]
            intro x hx
            have := hall x hx
            simp [this]
          rw [h1, hb.2]
          cases ws with
          | nil => exact absurd rfl hb.1
          | cons n r => rfl
        unfold toldN
        rw [this]; rfl
end
end Bb
namespace Bb
open PySem PySem.Spec PyProof.Rows L2 Evl
/-- zip of a list and a tuple: the items in new pairs -/
def ItzX (K : PySem.W.Frag) (a b : Addr) : It :=
  ⟨fun i H => ∃ (xs ys : List V) (x y : V), SqL K H a xs ∧ SqT K H b ys ∧ xs[i]? = some x ∧ ys[i]? = some y, fun i H v H' => ∃ T x y, v = .ref T ∧ H T = none ∧ H' = upd H T (.tup [x, y]) ∧ (∀ xs, SqL K H a xs → xs[i]? = some x) ∧ ∀ ys, SqT K H b ys → ys[i]? = some y,
    fun i H => ∃ xs ys : List V, SqL K H a xs ∧ SqT K H b ys ∧ i ≤ xs.length ∧ i ≤ ys.length ∧ (i = xs.length ∨ i = ys.length)⟩
theorem turn_zipX {P : Program} {w : World} {K : PySem.W.Frag} {elts : List Expr} {kk : Nat} {tpos : Pos} {a b z TI TO i1 i2 : Addr} (D : ZipSep2 z TI TO i1 i2 [i1, a] [i2, b]) :
    Turn P w K (.Tuple elts kk tpos) (ItzX K a b) [z, TI, TO, i1, i2] z (fun i h => IsZip h z TI TO .none ∧ IsTupOf2 h TI (.ref i1) (.ref i2) ∧ (∃ x y, IsTupOf2 h TO x y) ∧ h.IsListIter i1 a i ∧ h.IsTupleIter i2 b i) where
  mem := List.mem_cons_self
  obj := fun i h ⟨hz, hTI, ⟨x, y, hTO⟩, ⟨o1, e1, _, d1⟩, ⟨o2, e2, _, d2⟩⟩ c hc => by
    have e' : c = z ∨ c = TI ∨ c = TO ∨ c = i1 ∨ c = i2 := by simpa using hc
    rcases e' with rfl | rfl | rfl | rfl | rfl
    · exact ⟨_, hz, fun v q => nomatch q⟩
    · exact ⟨_, hTI, fun v q => nomatch q⟩
    · exact ⟨_, hTO, fun v q => nomatch q⟩
    · exact ⟨o1, e1, fun v q => by rw [d1] at q; cases q⟩
    · exact ⟨o2, e2, fun v q => by rw [d2] at q; cases q⟩
  keep := fun i h h' ⟨hz, hTI, ⟨x, y, hTO⟩, h1, h2⟩ k => ⟨k z (by simp) _ hz, k TI (by simp) _ hTI, ⟨x, y, k TO (by simp) _ hTO⟩, h1.at fun o q => k i1 (by simp) o q, h2.at fun o q => k i2 (by simp) o q⟩
  item := by
    intro X hP hw hK hc i pins s σ H E I hf ⟨hz, hTI, ⟨x0, y0, hTO⟩, h1, h2⟩ ⟨xs, ys, x, y, hqx, hqy, hx, hy⟩
    subst hP hw hK
    obtain ⟨its, rv, p, _⟩ := I.list hqx
    obtain ⟨its2, rv2, p2, _⟩ := I.tuple hqy
    obtain ⟨u, hu, ru⟩ := rv.get hx
    obtain ⟨u2, hu2, ru2⟩ := rv2.get hy
    have hh : X.A.in1.handled = none := I.ok.hd hc
    have na : a ≠ i1 := fun e => by
      obtain ⟨o, e1, c1, _⟩ := h1; obtain ⟨o2, e2, c2, _⟩ := p.isList
      rw [e, e1] at e2; cases e2; rw [c1] at c2; injection c2 with c3; exact absurd c3 (by decide)
    have nb : b ≠ i2 := fun e => by
      obtain ⟨o, e1, c1, _⟩ := h2; obtain ⟨o2, e2, c2, _⟩ := p2
      rw [e, e1] at e2; cases e2; rw [c1] at c2; injection c2 with c3; exact absurd c3 (by decide)
    have hzl := Heap.lt_size hz
    refine wpAny_pyNext_zipD2_item D (Draws.list hh i1 a na its.toArray) (Draws.tuple hh i2 b nb its2.toArray) hz hTI hTO ⟨h1, p.isList⟩ ⟨h2, p2⟩ (Array.getElem?_eq_some_iff.mp (by simpa using hu)).1 (Array.getElem?_eq_some_iff.mp (by simpa using hu2)).1 fun v1 v2 h' tk P1 P2 z' TO' st1 st2 hT hsz hk => ?_
    have q1 : u = v1 := Option.some.inj ((show its.toArray[i]? = some u by simpa using hu).symm.trans P1)
    have q2 : u2 = v2 := Option.some.inj ((show its2.toArray[i]? = some u2 by simpa using hu2).symm.trans P2)
    subst q1 q2
    refine ⟨_, rfl, wpAny_letOwnedTupleGo_zip (s := { s with heap := h', toks := tk }) z' fun h'' z'' sb => ?_⟩
    have hT2 : h''.get? s.heap.objs.size = some { cls := .type "tuple", data := .seq #[u, u2] } := sb.extBut _ _ (Nat.ne_of_gt hzl) hT
    have new : ObjOk X.prog X.w (upd H s.heap.objs.size (.tup [x, y])) h'' s.heap.objs.size (.tup [x, y]) := ⟨by show 2 ≤ sizeLine; decide, [u, u2], .cons ru (.cons ru2 .nil), ⟨_, hT2, rfl, _, rfl⟩⟩
    have nin : ∀ {c : Addr}, c ∉ [z, TI, TO, i1, i2] → c ≠ z ∧ c ≠ TO ∧ c ≠ i1 ∧ c ≠ i2 := fun h => ⟨fun e => h (by simp [e]), fun e => h (by simp [e]), fun e => h (by simp [e]), fun e => h (by simp [e])⟩
    have I1 : Inv X pins σ (upd H s.heap.objs.size (.tup [x, y])) { s with heap := h'', toks := tk } :=
      I.turnedNew (t' := tk) (ch := [z, TI, TO, i1, i2]) (fun c o hb q => by obtain ⟨g1, g2, g3, g4⟩ := nin hb; exact sb.extBut _ _ g1 (hk c o g1 g2 g3 g4 q)) hf (Nat.le_refl _) new
    refine ⟨.ref s.heap.objs.size, _, I1, rfl, ⟨_, x, y, rfl, I.hok.fresh (Nat.le_refl _), rfl, fun l hl => by rw [I.list_inj hl hqx]; exact hx, fun l hl => by rw [I.tuple_inj hl hqy]; exact hy⟩, ⟨z'', ?_, ⟨u, u2, ?_⟩, ?_, ?_⟩, fun c hcm => ?_⟩
    · exact sb.extBut _ _ D.TIz (hk _ _ D.TIz D.TITO D.TIi1 D.TIi2 hTI)
    · exact sb.extBut _ _ D.TOz TO'
    · exact st1.1.at fun o q => sb.extBut _ _ (Ne.symm D.zi1) q
    · exact st2.1.at fun o q => sb.extBut _ _ (Ne.symm D.zi2) q
    · have hlt : c < s.heap.objs.size := by
        have e' : c = z ∨ c = TI ∨ c = TO ∨ c = i1 ∨ c = i2 := by simpa using hcm
        rcases e' with rfl | rfl | rfl | rfl | rfl
        · exact hzl
        · exact Heap.lt_size hTI
        · exact Heap.lt_size hTO
        · obtain ⟨_, e1, _⟩ := h1; exact Heap.lt_size e1
        · obtain ⟨_, e2, _⟩ := h2; exact Heap.lt_size e2
      rw [upd_ne (Nat.ne_of_lt hlt)]; exact (hf c hcm).1
  done := by
    intro X hP hw hK hc i pins s σ H E I hf ⟨hz, hTI, ⟨x0, y0, hTO⟩, h1, h2⟩ ⟨xs, ys, hqx, hqy, l1, l2, hend⟩
    subst hP hw hK
    obtain ⟨its, rv, p, _⟩ := I.list hqx
    obtain ⟨its2, rv2, p2, _⟩ := I.tuple hqy
    have hh : X.A.in1.handled = none := I.ok.hd hc
    have na : a ≠ i1 := fun e => by
      obtain ⟨o, e1, c1, _⟩ := h1; obtain ⟨o2, e2, c2, _⟩ := p.isList
      rw [e, e1] at e2; cases e2; rw [c1] at c2; injection c2 with c3; exact absurd c3 (by decide)
    have nb : b ≠ i2 := fun e => by
      obtain ⟨o, e1, c1, _⟩ := h2; obtain ⟨o2, e2, c2, _⟩ := p2
      rw [e, e1] at e2; cases e2; rw [c1] at c2; injection c2 with c3; exact absurd c3 (by decide)
    have g1 : its.toArray.size = xs.length := by rw [List.size_toArray, rv.length]
    have g2 : its2.toArray.size = ys.length := by rw [List.size_toArray, rv2.length]
    refine wpAny_pyNext_zipD2_end D (Draws.list hh i1 a na its.toArray) (Draws.tuple hh i2 b nb its2.toArray) hz hTI hTO ⟨h1, p.isList⟩ ⟨h2, p2⟩ (by omega) (by omega) (by omega) fun h' tk hk => ⟨rfl, I.turnedL (t' := tk) (ch := [z, TI, TO, i1, i2]) (fun c o hb q => hk c o (fun e => hb (by simp [e])) (fun e => hb (by simp [e])) (fun e => hb (by simp [e])) (fun e => hb (by simp [e])) q) hf⟩
  self := fun A i s Q E st h => wpAny_pyIter_zip st.1 h
theorem notin2 {x y z : Nat} (h : x ≠ y) (h2 : x ≠ z) : x ∉ [y, z] := fun q => (List.mem_cons.mp q).elim h fun q => h2 (List.mem_singleton.mp q)
theorem sep_zipX {n a b : Nat} (ha : a < n) (hb : b < n) : ZipSep2 (n + 4) (n + 2) (n + 3) n (n + 1) [n, a] [n + 1, b] where
  TIz := show (n + 2 : Nat) ≠ n + 4 by omega
  TOz := show (n + 3 : Nat) ≠ n + 4 by omega
  TITO := show (n + 2 : Nat) ≠ n + 3 by omega
  TIi1 := show (n + 2 : Nat) ≠ n by omega
  mem1 := List.mem_cons_self
  zf1 := notin2 (by omega) (by omega)
  Tf1 := notin2 (by omega) (by omega)
  TIi2 := show (n + 2 : Nat) ≠ n + 1 by omega
  mem2 := List.mem_cons_self
  zf2 := notin2 (by omega) (by omega)
  Tf2 := notin2 (by omega) (by omega)
  sep1_2 := notin2 (by omega) (by omega)
  sep2_1 := notin2 (by omega) (by omega)
def iZipX (K : PySem.W.Frag) (ta : TA) : TI := fun σ H R => ta σ H fun vs H1 => ∃ a b xs ys, vs = [.ref a, .ref b] ∧ SqL K H1 a xs ∧ SqT K H1 b ys ∧ R (ItzX K a b) H1
theorem pi_zipX {X : Cx} {e e2 : Expr} {ta : TA} {p pos tpos : Pos} {elts : List Expr} {kk : Nat} (hg : Gl X "zip") (hm : X.mg "zip" = none) (ha : PA X [e, e2] ta)
    (hs : starEach [e, e2] X.env = (false, eval e X.env) :: starEach [e2] X.env := by rfl) (hpl : (backTo pos (starEach [e2] X.env)).any (·.1) = false := by rfl) : PI X (.Tuple elts kk tpos) (.Call (.Name "zip" p) [e, e2] [] pos) (iZipX X.K ta) := by
  refine ⟨fun pins s σ H R I h => PyProof.Rows.Call_ (ld_blt I hg hm PyProof.Rows.boot_zip (PyProof.Rows.callWith_type1 (thn (ha.run pos pins s σ H _ I h) fun us s1 ⟨vs, H1, I1, r1, q1⟩ => ?_) hs hpl))⟩
  obtain ⟨a, b, xs, ys, rfl, hqx, hqy, q⟩ := q1
  cases r1 with
  | cons r rr =>
    cases rr with
    | cons r' rr =>
      cases rr; cases r; cases r'
      obtain ⟨its, rv, p1, _⟩ := I1.list hqx
      obtain ⟨its2, rv2, p2, _⟩ := I1.tuple hqy
      obtain ⟨oa, hoa, _⟩ := id p1.isList
      obtain ⟨ob, hob, _⟩ := id p2
      have la := Heap.lt_size hoa
      have lb := Heap.lt_size hob
      refine zip_begins2 (begins_list a its.toArray) (begins_tuple b its2.toArray) p1.isList p2 fun h' hz hTI hTO h1 h2 hsz hk => wpAny_pyIter_zip hz ?_
      refine ⟨s1.heap.objs.size + 4, [s1.heap.objs.size + 4, s1.heap.objs.size + 2, s1.heap.objs.size + 3, s1.heap.objs.size, s1.heap.objs.size + 1], _, _, H1, rfl, I1.kept (t' := s1.toks) hk, turn_zipX (sep_zipX la lb), ⟨hz, hTI, ⟨_, _, hTO⟩, ⟨_, h1, rfl, rfl⟩, ⟨_, h2, rfl, rfl⟩⟩, fun c hcm => ?_, q⟩
      have e' : c = s1.heap.objs.size + 4 ∨ c = s1.heap.objs.size + 2 ∨ c = s1.heap.objs.size + 3 ∨ c = s1.heap.objs.size ∨ c = s1.heap.objs.size + 1 := by simpa using hcm
      have hle : s1.heap.objs.size ≤ c := by
        rcases e' with z | z | z | z | z <;> rw [z] <;> first | exact Nat.le_add_right _ _ | exact Nat.le_refl _
      exact I1.fpOk hle (I1.hok.fresh hle)
end Bb
namespace Bb
open Vbbrac (State Deed Call begun replay keeping does step act did ranged isSeat inside isBytes nats DEEDS bar stands partner turnOf behind turn legal over passes lastWord doubled ways lastBid)
/-! ### what a table has gone through -/
structure Hist (s : State) (ss : List State) : Prop where
  len : ss.length = s.deeds.length + 1
  at_ : ∀ j, j ≤ s.deeds.length → ss[j]? = some (replay (begun s.dealer s.vul) (s.deeds.take j))
  self : replay (begun s.dealer s.vul) s.deeds = s
  deeds : ∀ j, j ≤ s.deeds.length → (replay (begun s.dealer s.vul) (s.deeds.take j)).deeds = s.deeds.take j
  all : ∀ x ∈ ss, Wf x ∧ x.made.length ≤ x.deeds.length ∧ x.on = true ∧ x.dealer = s.dealer ∧ x.vul = s.vul
  cap : s.deeds.length ≤ 320
theorem replay_snoc (d : Deed) : ∀ (l : List Deed) (s : State), replay s (l ++ [d]) = replay (replay s l) [d]
  | [], s => rfl
  | e :: l, s => by
    show (match keeping s e with
      | .error _ => replay s (l ++ [d])
      | .ok x => replay x.1 (l ++ [d])) = replay (match keeping s e with
      | .error _ => replay s l
      | .ok x => replay x.1 l) [d]
    cases keeping s e with
    | error z => exact replay_snoc d l s
    | ok x => exact replay_snoc d l x.1
theorem replay_one {s s' : State} {d : Deed} {n : Nat} (h : keeping s d = .ok (s', n)) : replay s [d] = s' := by
  show (match keeping s d with
    | .error _ => replay s []
    | .ok x => replay x.1 []) = s'
  rw [h]; rfl
theorem Hist.last {s : State} {ss : List State} (h : Hist s ss) : ss.getLast? = some s := by
  rw [List.getLast?_eq_getElem?, h.len]
  have := h.at_ s.deeds.length (Nat.le_refl _)
  rw [List.take_length, h.self] at this
  exact this
theorem Hist.mem {s : State} {ss : List State} (h : Hist s ss) : s ∈ ss := List.mem_of_getLast? h.last
theorem hist_begun {d v : Nat} (hd : d < 4) : Hist (begun d v) [begun d v] :=
  ⟨rfl, fun j hj => by rw [show j = 0 from Nat.le_zero.mp hj]; rfl, rfl, fun j hj => by rw [show j = 0 from Nat.le_zero.mp hj]; rfl, fun x hx => by
    rw [List.mem_singleton.mp hx]; exact ⟨wf_begun hd, Nat.le_refl _, rfl, rfl, rfl⟩, Nat.zero_le _⟩
theorem hist_step {s s' : State} {ss : List State} {d : Deed} {n : Nat} (h : Hist s ss) (hk : keeping s d = .ok (s', n)) (hds : s'.deeds = s.deeds ++ [d]) (hc : s.deeds.length < 320) (hd : s'.dealer = s.dealer) (hv : s'.vul = s.vul) (ho : s'.on = true) (hw : Wf s') (hm : s'.made.length ≤ s.made.length + 1) : Hist s' (ss ++ [s']) := by
  have hl := h.len
  have hself : replay (begun s'.dealer s'.vul) s'.deeds = s' := by rw [hds, hd, hv, replay_snoc, h.self, replay_one hk]
  have hlen : s'.deeds.length = s.deeds.length + 1 := by rw [hds, List.length_append]; rfl
  refine ⟨by rw [List.length_append, hl, hlen]; rfl, fun j hj => ?_, hself, fun j hj => ?_, fun x hx => ?_, by omega⟩
  · by_cases hjs : j ≤ s.deeds.length
    · rw [List.getElem?_append_left (by omega), h.at_ j hjs, hd, hv, hds, List.take_append_of_le_length hjs]
    · have : j = ss.length := by omega
      subst this
      rw [List.getElem?_append_right (Nat.le_refl _), Nat.sub_self, List.take_of_length_le (by omega), hself]; rfl
  · by_cases hjs : j ≤ s.deeds.length
    · rw [hd, hv, hds, List.take_append_of_le_length hjs]; exact h.deeds j hjs
    · rw [List.take_of_length_le (by omega), hself]
  · rcases List.mem_append.mp hx with hx | hx
    · obtain ⟨g1, g2, g3, g4, g5⟩ := h.all x hx
      exact ⟨g1, g2, g3, by rw [g4, hd], by rw [g5, hv]⟩
    · rw [List.mem_singleton.mp hx]
      have := (h.all s h.mem).2.1
      exact ⟨hw, by omega, ho, rfl, rfl⟩
theorem hist_undo {s : State} {ss : List State} (h : Hist s ss) {j : Nat} (hj : j ≤ s.deeds.length) : Hist (replay (begun s.dealer s.vul) (s.deeds.take j)) (ss.take (j + 1)) := by
  have hl := h.len
  have hdj := h.deeds j hj
  have hm : replay (begun s.dealer s.vul) (s.deeds.take j) ∈ ss := List.mem_of_getElem? (h.at_ j hj)
  obtain ⟨g1, g2, g3, g4, g5⟩ := h.all _ hm
  generalize hr : replay (begun s.dealer s.vul) (s.deeds.take j) = r at *
  have hrl : r.deeds.length = j := by rw [hdj, List.length_take]; omega
  have hcap := h.cap
  refine ⟨by rw [List.length_take, hrl]; omega, fun i hi => ?_, by rw [g4, g5, hdj, hr], fun i hi => ?_, fun x hx => ?_, by omega⟩
  · rw [List.getElem?_take_of_lt (by omega), h.at_ i (by omega), g4, g5, hdj, List.take_take, Nat.min_eq_left (by omega)]
  · rw [g4, g5, hdj, List.take_take, Nat.min_eq_left (by omega)]
    exact h.deeds i (by omega)
  · obtain ⟨q1, q2, q3, q4, q5⟩ := h.all x (List.mem_of_mem_take hx)
    exact ⟨q1, q2, q3, by rw [q4, g4], by rw [q5, g5]⟩
/-! ### a deed done -/
theorem takeS_keeps (s : State) (i c : Nat) : (takeS s i c).1.dealer = s.dealer ∧ (takeS s i c).1.vul = s.vul ∧ (takeS s i c).1.on = s.on ∧ (takeS s i c).1.made.length ≤ s.made.length + 1 := by
  have hs : (stands s i c).made.length ≤ s.made.length + 1 := by
    show (s.made ++ [(i, c)]).length ≤ _
    rw [List.length_append]; exact Nat.le_refl _
  unfold takeS
  split
  · exact ⟨rfl, rfl, rfl, Nat.le_succ _⟩
  · split
    · exact ⟨rfl, rfl, rfl, Nat.le_succ _⟩
    · split
      · exact ⟨rfl, rfl, rfl, Nat.le_succ _⟩
      · split
        · exact ⟨rfl, rfl, rfl, hs⟩
        · show (if _ then _ else _ : State).dealer = _ ∧ (if _ then _ else _ : State).vul = _ ∧ (if _ then _ else _ : State).on = _ ∧ (if _ then _ else _ : State).made.length ≤ _
          split
          · exact ⟨rfl, rfl, rfl, hs⟩
          · exact ⟨rfl, rfl, rfl, hs⟩
theorem withS_keeps (s : State) (k i c : Nat) : (withS s k i c).1.dealer = s.dealer ∧ (withS s k i c).1.vul = s.vul ∧ (withS s k i c).1.on = s.on ∧ (withS s k i c).1.made.length ≤ s.made.length + 1 := by
  unfold withS
  split
  · exact ⟨rfl, rfl, rfl, Nat.le_succ _⟩
  · split
    · exact ⟨rfl, rfl, rfl, Nat.le_succ _⟩
    · exact ⟨rfl, rfl, rfl, Nat.le_succ _⟩
def dd (s : State) (x : State) (d : Deed) : State := { x with deeds := s.deeds ++ [d] }
theorem keeping_call {s : State} (h : Wf s) {i c : Nat} (hc : c ≤ 37) : keeping s (0, i, c) = if whyN s i c = 0 then (if 320 ≤ s.deeds.length then .error (-9) else .ok (dd s (takeS s i c).1 (0, i, c), (takeS s i c).2)) else .error (whyN s i c) := by
  unfold Vbbrac.keeping
  rw [does_call h hc]
  by_cases h0 : whyN s i c = 0
  · rw [if_pos h0, if_pos h0]; rfl
  · rw [if_neg h0, if_neg h0]
theorem keeping_decide {s : State} (y : Nat) : keeping s (1, y, 0) = match s.waits with
    | none => .error (-7)
    | some x => if 320 ≤ s.deeds.length then .error (-9) else .ok (dd s (if y = 1 then (stands s x.2.1 x.2.2, 0) else withS s x.1 x.2.1 x.2.2).1 (1, y, 0), (if y = 1 then (stands s x.2.1 x.2.2, 0) else withS s x.1 x.2.1 x.2.2).2) := by
  unfold Vbbrac.keeping
  rw [does_decide]
  cases s.waits with
  | none => rfl
  | some x => rfl
theorem wf_dd {s x : State} {d : Deed} (h : Wf x) : Wf (dd s x d) := ⟨h.calls, h.fine, h.dealer, h.seats, h.waits, h.mend⟩
theorem whyN_le (s : State) (i c : Nat) : whyN s i c ≤ 0 := by
  unfold whyN
  split
  · decide
  · split
    · decide
    · split
      · decide
      · split <;> decide
theorem hist_call {s : State} {ss : List State} (h : Hist s ss) (hon : s.on = true) {i c : Nat} (h4 : i < 4) (hc : c ≤ 37) (h0 : whyN s i c = 0) (hcap : s.deeds.length < 320) : keeping s (0, i, c) = .ok (dd s (takeS s i c).1 (0, i, c), (takeS s i c).2) ∧ Hist (dd s (takeS s i c).1 (0, i, c)) (ss ++ [dd s (takeS s i c).1 (0, i, c)]) := by
  have w := (h.all s h.mem).1
  have hk := keeping_call (i := i) w hc
  rw [if_pos h0, if_neg (by omega)] at hk
  obtain ⟨g1, g2, g3, g4⟩ := takeS_keeps s i c
  exact ⟨hk, hist_step h hk rfl hcap g1 g2 (g3.trans hon) (wf_dd (wf_take w h4 hc h0)) g4⟩
/-! ### ranges -/
theorem inside_nat {lo hi : Nat} {z : Int} (h : inside (lo : Int) (hi : Int) z = true) : ∃ n : Nat, z = (n : Int) ∧ lo ≤ n ∧ n ≤ hi := by
  unfold Vbbrac.inside at h
  rw [Bool.and_eq_true] at h
  have h1 := of_decide_eq_true h.1
  have h2 := of_decide_eq_true h.2
  exact ⟨z.toNat, by omega, by omega, by omega⟩
theorem seat_nat {z : Int} (h : isSeat z = true) : ∃ n : Nat, z = (n : Int) ∧ n < 4 := by
  obtain ⟨n, h1, _, h2⟩ := inside_nat (lo := 0) (hi := 3) h
  exact ⟨n, h1, by omega⟩
theorem bytes_nat {tx : List Int} (h : isBytes tx = true) : tx = (nats tx).map fun n : Nat => (n : Int) := by
  unfold Vbbrac.nats
  rw [List.map_map]
  conv => lhs; rw [← List.map_id tx]
  refine List.map_congr_left fun z hz => ?_
  unfold Vbbrac.isBytes at h
  obtain ⟨n, hn, _⟩ := inside_nat (lo := 0) (hi := 255) (List.all_eq_true.mp h z hz)
  show z = ((z.toNat : Nat) : Int)
  omega
end Bb
namespace Bb
open PySem PySem.Spec PyProof.Rows L2 Evl
open PySem.W (Codec)
open Vbbrac (State)
/-! ### a session in the heap -/
/-- a list that stands beside the session -/
class GX where
  gx : Addr
section
variable [GX]
def hid (sa L : Addr) (H : Hp) : Hp := fun b => if b = GX.gx ∨ b = sa ∨ b = L then none else H b
def Gk (H : Hp) (L : Addr) : Prop := (∃ gs, H GX.gx = some (.lst gs)) ∧ L ≠ GX.gx
theorem hid_ex {sa L : Addr} {H : Hp} : Ex (hid sa L H) H := fun b o h => by
  unfold hid at h
  split at h
  · cases h
  · exact h
theorem hid_of {sa L b : Addr} {H : Hp} {o : HO} (h : H b = some o) (n1 : b ≠ sa) (n2 : b ≠ L) (n3 : b ≠ GX.gx) : hid sa L H b = some o := by
  unfold hid
  rw [if_neg (fun z => z.elim n3 fun z => z.elim n1 n2)]
  exact h
theorem hid_ne {sa L b : Addr} {H : Hp} {o : HO} (h : hid sa L H b = some o) : b ≠ sa ∧ b ≠ L := by
  unfold hid at h
  split at h
  · cases h
  · rename_i n; exact ⟨fun z => n (.inr (.inl z)), fun z => n (.inr (.inr z))⟩
theorem hid_ng {sa L b : Addr} {H : Hp} {o : HO} (h : hid sa L H b = some o) : b ≠ GX.gx := by
  unfold hid at h
  split at h
  · cases h
  · rename_i n; exact fun z => n (.inl z)
theorem hid_frm {sa L : Addr} {H H' : Hp} (f : Frm (fun b => b = sa ∨ b = L) H H') : Ex (hid sa L H) (hid sa L H') := fun b o h => by
  obtain ⟨n1, n2⟩ := hid_ne h
  exact hid_of (f b o (hid_ex b o h) fun z => z.elim n1 n2) n1 n2 (hid_ng h)
end
def seF (L : Addr) : List (Str × V) := [("positions", .ref L)]
theorem seF_pos (L : Addr) : (seF L).lookup ("positions" : Str) = some (.ref L) := lk_here
theorem seF_no {L : Addr} {f : Str} (h : (f == ("positions" : Str)) = false := by decide +kernel) : (seF L).lookup f = none := (lk_past h).trans rfl
inductive PosL (CA CW CP : Addr) (H : Hp) : List V → List State → Prop
  | nil : PosL CA CW CP H [] []
  | cons {v : V} {vs : List V} {s : State} {ss : List State} : (∃ p a m bl ol, v = .ref p ∧ PosM CA CW CP H p a m bl ol s) → PosL CA CW CP H vs ss → PosL CA CW CP H (v :: vs) (s :: ss)
section
variable {CA CW CP CS : Addr}
theorem PosL.mono {H H' : Hp} (e : Ex H H') : ∀ {vs : List V} {ss : List State}, PosL CA CW CP H vs ss → PosL CA CW CP H' vs ss
  | _, _, .nil => .nil
  | _, _, .cons h t => by
    obtain ⟨p, a, m, bl, ol, h1, h2⟩ := h
    exact .cons ⟨p, a, m, bl, ol, h1, h2.mono e⟩ (PosL.mono e t)
theorem PosL.len {H : Hp} : ∀ {vs : List V} {ss : List State}, PosL CA CW CP H vs ss → vs.length = ss.length
  | _, _, .nil => rfl
  | _, _, .cons _ t => by rw [List.length_cons, List.length_cons, t.len]
theorem PosL.snoc {H : Hp} {v : V} {s : State} (q : ∃ p a m bl ol, v = .ref p ∧ PosM CA CW CP H p a m bl ol s) : ∀ {vs : List V} {ss : List State}, PosL CA CW CP H vs ss → PosL CA CW CP H (vs ++ [v]) (ss ++ [s])
  | _, _, .nil => .cons q .nil
  | _, _, .cons h t => .cons h (PosL.snoc q t)
theorem PosL.take {H : Hp} : ∀ (n : Nat) {vs : List V} {ss : List State}, PosL CA CW CP H vs ss → PosL CA CW CP H (vs.take n) (ss.take n)
  | 0, _, _, _ => by rw [List.take_zero, List.take_zero]; exact .nil
  | n + 1, _, _, .nil => .nil
  | n + 1, _, _, .cons h t => .cons h (PosL.take n t)
theorem PosL.last {H : Hp} : ∀ {vs : List V} {ss : List State}, PosL CA CW CP H vs ss → ∀ {s : State}, ss.getLast? = some s → ∃ p a m bl ol, vs.getLast? = some (.ref p) ∧ PosM CA CW CP H p a m bl ol s
  | _, _, .nil, s, h => by simp at h
  | _, _, .cons (vs := []) h t, s, hs => by
    cases t
    obtain ⟨p, a, m, bl, ol, rfl, h2⟩ := h
    cases hs
    exact ⟨p, a, m, bl, ol, rfl, h2⟩
  | _, _, .cons (vs := v2 :: vs) h t, s, hs => by
    cases t with
    | cons h2 t2 =>
      rw [List.getLast?_cons_cons] at hs ⊢
      exact PosL.last (.cons h2 t2) hs
structure SesM [GX] (CA CW CP CS : Addr) (H : Hp) (sa L : Addr) (ss : List State) : Prop where
  obj : ∃ dx, H sa = some (.ins CS dx (seF L))
  lst : ∃ vs, H L = some (.lst vs) ∧ PosL CA CW CP (hid sa L H) vs ss
  gk : Gk H L
theorem SesM.mono [GX] {H H' : Hp} {sa L : Addr} {ss : List State} (e : Ex H H') (h : SesM CA CW CP CS H sa L ss) : SesM CA CW CP CS H' sa L ss := by
  obtain ⟨⟨dx, h1⟩, ⟨vs, h2, h3⟩, ⟨gs, h4⟩, h5⟩ := h
  exact ⟨⟨dx, e _ _ h1⟩, ⟨vs, e _ _ h2, h3.mono (hid_frm (Frm.of e))⟩, ⟨gs, e _ _ h4⟩, h5⟩
theorem SesM.has [GX] {H : Hp} {sa L : Addr} {ss : List State} (h : SesM CA CW CP CS H sa L ss) {f : Str} (hf : (f == ("positions" : Str)) = false := by decide +kernel) : Has CS H sa f := by
  obtain ⟨⟨dx, h1⟩, _⟩ := h
  exact ⟨dx, _, h1, seF_no hf⟩
/-- a position that stands beside the session's own things -/
theorem PosM.hid [GX] {H : Hp} {p a m bl ol sa L dx : Addr} {vs : List V} {s : State} (h : PosM CA CW CP H p a m bl ol s) (h1 : H sa = some (.ins CS dx (seF L))) (h2 : H L = some (.lst vs)) (n1 : m ≠ L) (n2 : bl ≠ L) (n3 : ol ≠ L) (hg : ∃ gs, H GX.gx = some (.lst gs)) (k1 : m ≠ GX.gx) (k2 : bl ≠ GX.gx) (k3 : ol ≠ GX.gx) : PosM CA CW CP (hid sa L H) p a m bl ol s := by
  obtain ⟨gs, hg⟩ := hg
  obtain ⟨⟨dp, wv, g1, g2⟩, ⟨⟨da, g3⟩, us, g4, g5⟩, g6, g7, g8, g9, g10⟩ := h
  have ft : ∀ {b : Addr} {xs : List V}, H b = some (.tup xs) → Bb.hid sa L H b = some (.tup xs) := fun hb => hid_of hb (ne_kind hb h1 tup_ne_ins) (ne_kind hb h2 tup_ne_lst) (ne_kind hb hg tup_ne_lst)
  have tups : ∀ {ws : List V} {l : Mad}, Tups H ws l → Tups (Bb.hid sa L H) ws l := by
    intro ws l ht
    induction ht with
    | nil => exact .nil
    | cons hx _ ih =>
      obtain ⟨t, q1, q2⟩ := hx
      exact .cons ⟨t, q1, ft q2⟩ ih
  refine ⟨⟨dp, wv, hid_of g1 (ne_kind g1 h1 (ins_ne_len (by show 6 ≠ 1; decide))) (ne_kind g1 h2 ins_ne_lst) (ne_kind g1 hg ins_ne_lst), ?_⟩, ⟨⟨da, hid_of g3 (ne_kind g3 h1 (ins_ne_len (by show 2 ≠ 1; decide))) (ne_kind g3 h2 ins_ne_lst) (ne_kind g3 hg ins_ne_lst)⟩, us, hid_of g4 (ne_kind g4 h1 lst_ne_ins) n1 k1, tups g5⟩, hid_of g6 (ne_kind g6 h1 lst_ne_ins) n2 k2, hid_of g7 (ne_kind g7 h1 lst_ne_ins) n3 k3, g8, g9, g10⟩
  cases ew : s.waits with
  | none => rw [ew] at g2; exact g2
  | some x =>
    rw [ew] at g2
    obtain ⟨wa, dw, q1, q2⟩ := g2
    exact ⟨wa, dw, q1, hid_of q2 (ne_kind q2 h1 (ins_ne_len (by show 3 ≠ 1; decide))) (ne_kind q2 h2 ins_ne_lst) (ne_kind q2 hg ins_ne_lst)⟩
theorem PosM.same {H : Hp} {p a m bl ol : Addr} {s : State} {ds : List Vbbrac.Deed} (h : PosM CA CW CP H p a m bl ol s) : PosM CA CW CP H p a m bl ol { s with deeds := ds } := ⟨h.obj, h.auc, h.bar, h.onc, h.n1, h.n2, h.n3⟩
end
def spSInit (CS : Addr) : Sp := fun vs H Q _ => ∃ (sa dx : Addr), vs = [.ref sa] ∧ H sa = some (.ins CS dx []) ∧ ∀ H' L, H L = none → H' sa = some (.ins CS dx (seF L)) → H' L = some (.lst []) → Frm (· = sa) H H' → Q .non H'
def spNow (CS : Addr) (K : PySem.W.Frag) : Sp := fun vs H Q _ => ∃ (sa dx L p : Addr) (us : List V), vs = [.ref sa] ∧ H sa = some (.ins CS dx (seF L)) ∧ H L = some (.lst us) ∧ us.getLast? = some (.ref p) ∧ RetV (.ref p) H Q
section
variable [GX] (CA CW CP CS : Addr)
def spStart : Sp := fun vs H Q _ => ∃ (sa L : Addr) (ss : List State) (d v : Nat), vs = [.ref sa, iV d, iV v] ∧ SesM CA CW CP CS H sa L ss ∧ ∀ H' L', H L' = none → SesM CA CW CP CS H' sa L' [Vbbrac.begun d v] → Frm (· = sa) H H' → Q .non H'
def spDone : Sp := fun vs H Q _ => ∃ (sa L : Addr) (ss : List State), vs = [.ref sa] ∧ SesM CA CW CP CS H sa L ss ∧ RetV (.int ((ss.length : Int) - 1)) H Q
def spGoOn : Sp := fun vs H Q _ => ∃ (sa L : Addr) (ss : List State) (s : State), vs = [.ref sa] ∧ SesM CA CW CP CS H sa L ss ∧ ss.getLast? = some s ∧ ss.length < 1000 ∧
  ∀ H' p a m bl ol us, H L = some (.lst us) → PosL CA CW CP (hid sa L H) us ss → PosM CA CW CP H' p a m bl ol s → (∀ b, Fp p m bl ol b → H b = none) → H' L = some (.lst (us ++ [.ref p])) → Frm (· = L) H H' → Q (.ref p) H'
end
section
variable {P : Program} {w : World} {K : PySem.W.Frag} {mg : Str → Option Value} {base : Heap} {fa : Nat → Addr} {fd : Nat → FuncData} {CA CW CP CS aN aR aA aW aO : Addr}
section
variable [GX] {σ : L2.St} {H : Hp} {ta tb tc : TE} {E : XK} {sa L : Addr} {ss : List State} {s : State} {D : Ends} {tz : TS}
theorem ev_positions (T : Txt K mg fa fd CA CW CP CS aN aR aA aW aO) (ho : Ev ta σ H (.ref sa)) (h : SesM CA CW CP CS H sa L ss) : Ev (tFld K ta "positions") σ H (.ref L) := by
  obtain ⟨⟨dx, h1⟩, _⟩ := h
  exact ev_fld ho h1 T.cl_CS T.n_CS_positions (seF_pos L)
theorem now_of (h : SesM CA CW CP CS H sa L ss) (hs : ss.getLast? = some s) : ∃ p a m bl ol us, H L = some (.lst us) ∧ us.getLast? = some (.ref p) ∧ PosM CA CW CP (hid sa L H) p a m bl ol s := by
  obtain ⟨_, ⟨us, h2, h3⟩, _⟩ := h
  obtain ⟨p, a, m, bl, ol, h4, h5⟩ := h3.last hs
  exact ⟨p, a, m, bl, ol, us, h2, h4, h5⟩
theorem ev_now {p : Addr} {us : List V} (ho : Ev ta σ H (.ref sa)) (h : SesM CA CW CP CS H sa L ss) (hu : H L = some (.lst us)) (hp : us.getLast? = some (.ref p)) : Ev (tMeth CS "now" (spNow CS K) [] E ta tNil) σ H (.ref p) := by
  obtain ⟨dx, h1⟩ := h.obj
  exact ev_meth ho h.has ea_nil fun H1 e Q q E => ⟨sa, dx, L, p, us, rfl, e _ _ h1, e _ _ hu, hp, q⟩
theorem ev_done (ho : Ev ta σ H (.ref sa)) (h : SesM CA CW CP CS H sa L ss) : Ev (tMeth CS "done" (spDone CA CW CP CS) [] E ta tNil) σ H (.int ((ss.length : Int) - 1)) :=
  ev_meth ho h.has ea_nil fun H1 e Q q E => ⟨sa, L, ss, rfl, h.mono e, q⟩
theorem q_start {d v : Nat} (ho : Ev ta σ H (.ref sa)) (h : SesM CA CW CP CS H sa L ss) (hd : Ev tb σ H (iV d)) (hv : Ev tc σ H (iV v)) (k : ∀ H' L', H L' = none → SesM CA CW CP CS H' sa L' [Vbbrac.begun d v] → Frm (· = sa) H H' → tz D σ H') : tSeq (tDrop (tMeth CS "start" (spStart CA CW CP CS) [] E ta (tCons tb (tCons tc tNil)))) tz D σ H :=
  ho H (Ex.refl H) _ fun H1 e1 => by
    obtain ⟨dx, fs, h1, h2⟩ := h.has (f := "start")
    exact ⟨sa, dx, fs, rfl, e1 _ _ h1, h2, (ea_cons hd (ea_cons hv ea_nil)) H1 e1 _ fun H2 e2 => ⟨sa, L, ss, d, v, rfl, h.mono (e1.trans e2), fun H' L' hL hS f => k H' L' (fresh_back (e1.trans e2) hL) hS (fun b o hb n => f b o ((e1.trans e2) b o hb) n)⟩⟩
theorem s_start {d v : Nat} (ho : Ev ta σ H (.ref sa)) (h : SesM CA CW CP CS H sa L ss) (hd : Ev tb σ H (iV d)) (hv : Ev tc σ H (iV v)) (k : ∀ H' L', H L' = none → SesM CA CW CP CS H' sa L' [Vbbrac.begun d v] → Frm (· = sa) H H' → D.nx σ H') : tDrop (tMeth CS "start" (spStart CA CW CP CS) [] E ta (tCons tb (tCons tc tNil))) D σ H := q_start (D := D) (tz := fun D σ H => D.nx σ H) ho h hd hv k
end
theorem ok_s_init (T : Txt K mg fa fd CA CW CP CS aN aR aA aW aO) : FnOk P w K mg base CX0 1 (fa 51) (fd 51) P_s_init (spSInit CS) := by
  refine T.d_s_init.F.ok sc_s_init (fun vs H Q E h => ?_) (fun cdv A outer s H vs Q E hr h => ⟨_, (pss_one (ps_fld (pv 0) (pe_lst pa_nil) rfl)), ?_⟩)
  · obtain ⟨sa, dx, rfl, _⟩ := h; rfl
  · obtain ⟨sa, dx, rfl, hp, k⟩ := h
    refine s_setF (P := fun v H1 => ∃ L, v = .ref L ∧ H L = none ∧ H1 L = some (.lst [])) (evp_L (el_lst (vs := []) ea_nil (by decide)) fun p H' _ h1 h2 => ⟨p, rfl, h1, h2⟩) (fun _ _ _ e h => by obtain ⟨q, h1, h2, h3⟩ := h; exact ⟨q, h1, h2, e _ _ h3⟩) (ev_var rfl) hp T.cl_CS T.n_CS_positions (by show 0 < 1000; decide) fun v H1 e1 hv => ?_
    obtain ⟨L, rfl, hL, h1⟩ := hv
    have n : L ≠ sa := ne_of_free hL hp
    exact k _ L hL upd_same (by rw [upd_ne n]; exact h1) ((Frm.of e1).trans (Frm.upd rfl))
section
variable [GX]
theorem ok_s_start (T : Txt K mg fa fd CA CW CP CS aN aR aA aW aO) : FnOk P w K mg base CX0 5 (fa 52) (fd 52) P_s_start (spStart CA CW CP CS) := by
  refine T.d_s_start.F.ok sc_s_start (fun vs H Q E h => ?_) (fun cdv A outer s H vs Q E hr h => ⟨_, (pss_one (ps_fld (pv 0) (pe_lst (pa_cons (pe_make T.k_Position (ok_p_init T) (hr.mono (by decide)) rfl T.c_Position T.d_p_init.b .nil pass0 (pa_cons (pv 1) (pa_cons (pv 2) pa_nil))) pa_nil)) rfl)), ?_⟩)
  · obtain ⟨sa, L, ss, d, v, rfl, _⟩ := h; rfl
  · obtain ⟨sa, L, ss, d, v, rfl, hS, k⟩ := h
    obtain ⟨⟨dx, hsa⟩, _, ⟨gs, hg⟩, _⟩ := hS
    have hlst : EvP (tLst (tCons (tMake CP (spPInit CA CW CP) [] E0 (tCons (tVar 1) (tCons (tVar 2) tNil))) tNil)) [some (.ref sa), some (iV d), some (iV v)] H (fun u H1 => ∃ L' p a m bl ol, u = .ref L' ∧ H L' = none ∧ (∀ b, Fp p m bl ol b → b ≠ L') ∧ (∀ b, Fp p m bl ol b → H b = none) ∧ H1 L' = some (.lst [.ref p]) ∧ PosM CA CW CP H1 p a m bl ol (Vbbrac.begun d v)) := fun H1 e Q q => by
      have hnew : EvP (tMake CP (spPInit CA CW CP) [] E0 (tCons (tVar 1) (tCons (tVar 2) tNil))) [some (.ref sa), some (iV d), some (iV v)] H (NewP CA CW CP H (Vbbrac.begun d v)) := evp_newP (ev_var rfl) (ev_var rfl)
      unfold tLst tCons tNil
      refine hnew H1 e _ fun u H2 e2 hn => ?_
      obtain ⟨p, a, m, bl, ol, rfl, hP, hf⟩ := hn
      refine ⟨(by show 1 ≤ sizeLine; decide), fun L' hL => q _ _ (e2.trans (Ex.new hL)) ⟨L', p, a, m, bl, ol, rfl, fresh_back (e.trans e2) hL, fun b hb z => ?_, hf, upd_same, hP.mono (Ex.new hL)⟩⟩
      obtain ⟨⟨_, _, g1, _⟩, ⟨_, _, g4, _⟩, g6, g7, _⟩ := hP
      rcases hb with rfl | rfl | rfl | rfl
      · rw [z, hL] at g1; cases g1
      · rw [z, hL] at g4; cases g4
      · rw [z, hL] at g6; cases g6
      · rw [z, hL] at g7; cases g7
    refine s_setF hlst (fun v H1 H2 e h => ?_) (ev_var rfl) hsa T.cl_CS T.n_CS_positions (by show 1 < 1000; decide) fun u H1 e1 hv => ?_
    · obtain ⟨L', p, a, m, bl, ol, q1, q2, q3, q4, q5, q6⟩ := h
      exact ⟨L', p, a, m, bl, ol, q1, q2, q3, q4, e _ _ q5, q6.mono e⟩
    obtain ⟨L', p, a, m, bl, ol, rfl, q2, q3, q4, q5, q6⟩ := hv
    have n : L' ≠ sa := ne_of_free q2 hsa
    have hput : putF ("positions" : Str) (.ref L') (seF L) = seF L' := put_here
    rw [hput]
    have hsa1 := e1 _ _ hsa
    have ng : ∀ b, Fp p m bl ol b → b ≠ GX.gx := fun b hb z => by have := q4 b hb; rw [z, hg] at this; cases this
    have hgs : GX.gx ≠ sa := ne_kind hg hsa lst_ne_ins
    have hid1 : PosM CA CW CP (hid sa L' H1) p a m bl ol (Vbbrac.begun d v) := by
      have hx : PosM CA CW CP (upd H1 sa (.ins CS dx (seF L'))) p a m bl ol (Vbbrac.begun d v) := by
        obtain ⟨⟨dp, wv, g1, g2⟩, g3, g6, g7, g8, g9, g10⟩ := q6
        have f : Frm (· = sa) H1 (upd H1 sa (.ins CS dx (seF L'))) := Frm.upd rfl
        have g30 := g3
        obtain ⟨⟨da, g31⟩, us, g4, g5⟩ := g30
        refine ⟨⟨dp, wv, f _ _ g1 (ne_kind g1 hsa1 (ins_ne_len (by show 6 ≠ 1; decide))), g2⟩, g3.frm f (ne_kind g31 hsa1 (ins_ne_len (by show 2 ≠ 1; decide))) (ne_kind g4 hsa1 lst_ne_ins) (fun b hb xs z => by rw [hb, hsa1] at z; cases z), f _ _ g6 (ne_kind g6 hsa1 lst_ne_ins), f _ _ g7 (ne_kind g7 hsa1 lst_ne_ins), g8, g9, g10⟩
      have := PosM.hid (CS := CS) hx upd_same (by rw [upd_ne n]; exact q5) (q3 m (.inr (.inl rfl))) (q3 bl (.inr (.inr (.inl rfl)))) (q3 ol (.inr (.inr (.inr rfl)))) ⟨gs, by rw [upd_ne hgs]; exact e1 _ _ hg⟩ (ng m (.inr (.inl rfl))) (ng bl (.inr (.inr (.inl rfl)))) (ng ol (.inr (.inr (.inr rfl))))
      refine this.mono fun b o hb => ?_
      obtain ⟨n1, n2⟩ := hid_ne hb
      have := hid_ex b o hb
      rw [upd_ne n1] at this
      exact hid_of this n1 n2 (hid_ng hb)
    refine k _ L' q2 ⟨⟨dx, upd_same⟩, ⟨[.ref p], by rw [upd_ne n]; exact q5, .cons ⟨p, a, m, bl, ol, rfl, hid1.mono (hid_frm (Frm.upd (.inl rfl)))⟩ .nil⟩, ⟨gs, by rw [upd_ne hgs]; exact e1 _ _ hg⟩, fun z => by rw [z, hg] at q2; cases q2⟩ ((Frm.of e1).trans (Frm.upd rfl))
theorem ok_s_now (T : Txt K mg fa fd CA CW CP CS aN aR aA aW aO) : FnOk P w K mg base CX0 1 (fa 53) (fd 53) P_s_now (spNow CS K) := by
  refine T.d_s_now.F.ok sc_s_now (fun vs H Q E h => ?_) (fun cdv A outer s H vs Q E hr h => ⟨_, (pss_one (ps_ret (pe_ix ix_list (pe_fld (pv 0) rfl) (pe_un un_neg pe_int) (fun _ _ => rfl)))), ?_⟩)
  · obtain ⟨sa, dx, L, p, us, rfl, _⟩ := h; rfl
  · obtain ⟨sa, dx, L, p, us, rfl, h1, h2, h3, k⟩ := h
    exact s_ret (ev_op (ev_fld (ev_var rfl) h1 T.cl_CS T.n_CS_positions (seF_pos L)) (ev_un ev_c ru_neg) (rv_ixL (sq_of h2) (atI_last h3))) k
theorem ok_s_done (T : Txt K mg fa fd CA CW CP CS aN aR aA aW aO) : FnOk P w K mg base CX0 1 (fa 54) (fd 54) P_s_done (spDone CA CW CP CS) := by
  refine T.d_s_done.F.ok sc_s_done (fun vs H Q E h => ?_) (fun cdv A outer s H vs Q E hr h => ⟨_, (pss_one (ps_ret (pe_op op_sub (pe_callB call_len_seq (by rfl) T.b_len PySem.boot_len (pa_cons (pe_fld (pv 0) rfl) pa_nil)) pe_int))), ?_⟩)
  · obtain ⟨sa, L, ss, rfl, _⟩ := h; rfl
  · obtain ⟨sa, L, ss, rfl, hS, k⟩ := h
    obtain ⟨us, h2, h3⟩ := hS.lst
    refine s_ret (ev_I (ev_is (ev_len (ev_positions T (ev_var rfl) hS) (sq_of h2)) (by rw [h3.len])) ev_c rfl) k
theorem ok_s_go_on (T : Txt K mg fa fd CA CW CP CS aN aR aA aW aO) : FnOk P w K mg base CX0 6 (fa 55) (fd 55) P_s_go_on (spGoOn CA CW CP CS) := by
  refine T.d_s_go_on.F.ok sc_s_go_on (fun vs H Q E h => ?_) (fun cdv A outer s H vs Q E hr h => ⟨_, (pss_cons (ps_expr (pe_bm PySem.F.plainAttrs_list PySem.F.slot_list_append PySem.F.type_list_append mt_append (pe_fld (pv 0) rfl) (pa_cons (pe_meth0 (pe_meth0 (pv 0) T.cl_CS T.m_s_now (ok_s_now T) (hr.mono (by decide)) T.d_s_now.b .nil pass0) T.cl_CP T.m_p_copied (ok_p_copied T) (hr.mono (by decide)) T.d_p_copied.b .nil pass0) pa_nil))) (pss_one (ps_ret (pe_meth0 (pv 0) T.cl_CS T.m_s_now (ok_s_now T) (hr.mono (by decide)) T.d_s_now.b .nil pass0)))), ?_⟩)
  · obtain ⟨sa, L, ss, s, rfl, _⟩ := h; rfl
  · obtain ⟨sa, L, ss, s, rfl, hS, hs, hlen, k⟩ := h
    obtain ⟨us, h2, h3⟩ := hS.lst
    obtain ⟨dx, h1⟩ := hS.obj
    obtain ⟨⟨gs, hg⟩, _⟩ := hS.gk
    obtain ⟨p0, a0, m0, bl0, ol0, hl, hP0⟩ := h3.last hs
    have hP := hP0.mono hid_ex
    refine q_appP h2 (ev_positions T (ev_var rfl) hS) (evp_copyP (CA := CA) (CW := CW) (CP := CP) (ev_now (ev_var rfl) hS h2 hl) hP) (by rw [h3.len]; omega) fun v H1 e1 hn => ?_
    obtain ⟨p, a, m, bl, ol, rfl, hPn, hf⟩ := hn
    have nL : ∀ b, Fp p m bl ol b → b ≠ L := fun b hb z => by have := hf b hb; rw [z, h2] at this; cases this
    have ng : ∀ b, Fp p m bl ol b → b ≠ GX.gx := fun b hb z => by have := hf b hb; rw [z, hg] at this; cases this
    have hPn1 : PosM CA CW CP (upd H1 L (.lst (us ++ [.ref p]))) p a m bl ol s := by
      have hx := PosM.hid (CS := CS) (sa := sa) (L := L) hPn (e1 _ _ h1) (e1 _ _ h2) (nL m (.inr (.inl rfl))) (nL bl (.inr (.inr (.inl rfl)))) (nL ol (.inr (.inr (.inr rfl)))) ⟨gs, e1 _ _ hg⟩ (ng m (.inr (.inl rfl))) (ng bl (.inr (.inr (.inl rfl)))) (ng ol (.inr (.inr (.inr rfl))))
      refine hx.mono fun b o hb => ?_
      rw [upd_ne (hid_ne hb).2]
      exact hid_ex b o hb
    have hsa' : (upd H1 L (.lst (us ++ [.ref p]))) sa = some (.ins CS dx (seF L)) := by rw [upd_ne (ne_kind h1 h2 ins_ne_lst)]; exact e1 _ _ h1
    refine s_ret (v := .ref p) (ev_meth (ev_var rfl) ⟨dx, seF L, hsa', seF_no⟩ ea_nil fun H2 e Q q E => ⟨sa, dx, L, p, us ++ [.ref p], rfl, e _ _ hsa', e _ _ upd_same, by rw [List.getLast?_append]; rfl, q⟩) fun H2 e2 => ?_
    exact k H2 p a m bl ol us h2 h3 (hPn1.mono e2) hf (e2 _ _ upd_same) (((Frm.of e1).trans (Frm.upd (S := fun x => x = L) rfl)).trans (Frm.of e2))
end
end
end Bb
namespace Bb
open PySem PySem.Spec PyProof.Rows L2 Evl
open PySem.W (Codec)
open Vbbrac (State Call ranged)
def callAt : Nat → List Int → List Int → Option Call
  | 0, [a, b], _ => some (.deal a b)
  | 1, [a], _ => some (.board a)
  | 2, [a, b], _ => some (.call a b)
  | 3, [a], _ => some (.decide a)
  | 4, [a], _ => some (.undo a)
  | 5, [], _ => some .table
  | 6, [], _ => some .legals
  | 7, [], _ => some .contract
  | 8, [], _ => some .ways
  | 9, [], _ => some .longest
  | 10, [], _ => some .number
  | 11, [a], t => some (.nth a t)
  | 12, [], _ => some .text
  | 13, [a], t => some (.look a t)
  | 14, [a, b], t => some (.read a b t)
  | 15, [], _ => some .made
  | 16, [a, b], _ => some (.named a b)
  | _, _, _ => none
def St (s : State) (ss : List State) : Prop := (s.on = true ∧ Hist s ss) ∨ (s = Vbbrac.start ∧ ss = [])
def needs (k : Nat) : Bool := !([0, 1, 11, 13, 14] : List Nat).contains k
def DoneA [GX] (CA CW CP CS : Addr) (H : Hp) (sa L : Addr) (s : State) (c : Call) (Q : VK) : Prop := ∀ p H' L' ss', H p = none → Frm (fun b => b = sa ∨ b = L) H H' → SesM CA CW CP CS H' sa L' ss' → St (Vbbrac.step s c).1 ss' → H' p = some (.lst ((Vbbrac.step s c).2.map V.int)) → (L' = L ∨ H L' = none) → Q (.ref p) H'
def spAns [GX] (CA CW CP CS : Addr) (k : Nat) : Sp := fun vs H Q _ => ∃ (sa L : Addr) (ss : List State) (s : State) (pa ta : Addr) (pl tx : List Int) (c : Call), vs = [.ref sa, .ref pa, .ref ta] ∧ SesM CA CW CP CS H sa L ss ∧ St s ss ∧ H pa = some (.lst (pl.map V.int)) ∧ H ta = some (.lst (tx.map V.int)) ∧
  callAt k pl tx = some c ∧ ranged c = true ∧ (needs k = true → s.on = true) ∧ tx.length ≤ 1000 ∧ (k = 11 → tx.length ≤ 60) ∧ DoneA CA CW CP CS H sa L s c Q
theorem st_hist {s : State} {ss : List State} (h : St s ss) (ho : s.on = true) : Hist s ss := by
  rcases h with h | ⟨rfl, _⟩
  · exact h.2
  · cases ho
theorem ok_map (l : List Nat) : (Vbbrac.ok l).map V.int = [V.int 0] ++ l.map iV := by
  unfold Vbbrac.ok Vbbrac.ints
  rw [List.map_cons, List.map_map]
  rfl
theorem done_pure [GX] {CA CW CP CS : Addr} {H : Hp} {sa L : Addr} {s : State} {ss : List State} {c : Call} {Q : VK} {xs : List Int} (hk : DoneA CA CW CP CS H sa L s c Q) (hS : SesM CA CW CP CS H sa L ss) (hst : St s ss) (hstep : Vbbrac.step s c = (s, xs)) : RetL (xs.map V.int) H Q := fun p H' hp e h =>
  hk p H' L ss hp (Frm.of e) (hS.mono e) (by rw [hstep]; exact hst) (by rw [hstep]; exact h) (.inl rfl)
theorem step_act {s : State} {c : Call} (hr : ranged c = true) (ho : s.on = true) (hc : (match c with
    | .deal _ _ => false
    | .board _ => false
    | .nth _ _ => false
    | .look _ _ => false
    | .read _ _ _ => false
    | _ => true) = true) : Vbbrac.step s c = Vbbrac.act s c := by
  unfold Vbbrac.step
  rw [if_neg (by rw [hr]; exact Bool.noConfusion)]
  cases c <;> first
    | (show (if s.on = false then (s, [-3]) else Vbbrac.act s _) = _; exact if_neg (by rw [ho]; exact Bool.noConfusion))
    | exact Bool.noConfusion hc
section
variable [GX] {P : Program} {w : World} {K : PySem.W.Frag} {mg : Str → Option Value} {base : Heap} {fa : Nat → Addr} {fd : Nat → FuncData} {CA CW CP CS aN aR aA aW aO : Addr}
section
variable {σ : L2.St} {H : Hp} {ta tb tc : TE} {E E' : XK} {sa L : Addr} {ss : List State} {s : State} {D : Ends} {tz : TS} {i c : Nat}
theorem at_plain {pa : Addr} {pl : List Int} {z : Int} {i : Nat} (h : Ev ta σ H (.ref pa)) (hp : H pa = some (.lst (pl.map V.int))) (hz : pl[i]? = some z) : Ev (tOp (rIxL K) ta (tC (.int (i : Int)))) σ H (.int z) :=
  ev_op h ev_c (rv_ixL (sq_of hp) (atI_n (by rw [List.getElem?_map, hz]; rfl)))
theorem goOn {Q' : VK} (ho : Ev ta σ H (.ref sa)) (hS : SesM CA CW CP CS H sa L ss) (hs : ss.getLast? = some s) (hlen : ss.length < 1000)
    (k : ∀ H' p a m bl ol us, H L = some (.lst us) → PosL CA CW CP (hid sa L H) us ss → PosM CA CW CP H' p a m bl ol s → (∀ b, Fp p m bl ol b → H b = none) → H' L = some (.lst (us ++ [.ref p])) → Frm (· = L) H H' → Q' (.ref p) H') : tMeth CS "go_on" (spGoOn CA CW CP CS) [] E ta tNil σ H Q' :=
  ho H (Ex.refl H) _ fun H1 e1 => by
    obtain ⟨dx, fs, h1, h2⟩ := hS.has (f := "go_on")
    obtain ⟨us0, hu0, _⟩ := hS.lst
    refine ⟨sa, dx, fs, rfl, e1 _ _ h1, h2, sa, L, ss, s, rfl, hS.mono e1, hs, hlen, fun H' p a m bl ol us g1 g2 g3 g4 g5 g6 => k H' p a m bl ol us ?_ ?_ g3 (fun b hb => fresh_back e1 (g4 b hb)) g5 (fun b o hb n => g6 b o (e1 b o hb) n)⟩
    · rw [e1 _ _ hu0] at g1
      rw [← Option.some.inj g1]; exact hu0
    · obtain ⟨us1, hu1, hp1⟩ := hS.lst
      have : us1 = us := by
        have := e1 _ _ hu1
        rw [g1] at this
        cases this; rfl
      rw [← this]; exact hp1
theorem ses_after {H' H'' : Hp} {p a m bl ol : Addr} {us : List V} {s'' : State} (hS : SesM CA CW CP CS H sa L ss) (g1 : H L = some (.lst us)) (g2 : PosL CA CW CP (hid sa L H) us ss) (g4 : ∀ b, Fp p m bl ol b → H b = none) (g5 : H' L = some (.lst (us ++ [.ref p]))) (g6 : Frm (· = L) H H')
    (f : Frm (Fp p m bl ol) H' H'') (hP : PosM CA CW CP H'' p a m bl ol s'') : SesM CA CW CP CS H'' sa L (ss ++ [s'']) ∧ Frm (fun b => b = sa ∨ b = L) H H'' := by
  obtain ⟨⟨dx, h1⟩, _, ⟨gs, hg⟩, hgL⟩ := hS
  have nf : ∀ {b o}, H b = some o → ¬ Fp p m bl ol b := fun hb z => by rw [g4 _ z] at hb; cases hb
  have n1 : sa ≠ L := ne_kind h1 g1 ins_ne_lst
  have h1' : H'' sa = some (.ins CS dx (seF L)) := f _ _ (g6 _ _ h1 n1) (nf h1)
  have hL'' : H'' L = some (.lst (us ++ [.ref p])) := f _ _ g5 (nf g1)
  have fr : Frm (fun b => b = sa ∨ b = L) H H'' := fun b o hb n => f _ _ (g6 _ _ hb fun z => n (.inr z)) (nf hb)
  have nL : ∀ b, Fp p m bl ol b → b ≠ L := fun b hb z => by have := g4 b hb; rw [z, g1] at this; cases this
  have hg'' : H'' GX.gx = some (.lst gs) := fr _ _ hg fun z => z.elim (ne_kind hg h1 lst_ne_ins) fun z => hgL z.symm
  have ng : ∀ b, Fp p m bl ol b → b ≠ GX.gx := fun b hb z => by have := g4 b hb; rw [z, hg] at this; cases this
  refine ⟨⟨⟨dx, h1'⟩, ⟨_, hL'', PosL.snoc ⟨p, a, m, bl, ol, rfl, hP.hid h1' hL'' (nL m (.inr (.inl rfl))) (nL bl (.inr (.inr (.inl rfl)))) (nL ol (.inr (.inr (.inr rfl)))) ⟨gs, hg''⟩ (ng m (.inr (.inl rfl))) (ng bl (.inr (.inr (.inl rfl)))) (ng ol (.inr (.inr (.inr rfl))))⟩ (g2.mono (hid_frm fr))⟩, ⟨gs, hg''⟩, hgL⟩, fr⟩
/-- session.go_on().take_call(i, c) -/
theorem goTake {Q' : VK} (ho : Ev ta σ H (.ref sa)) (hS : SesM CA CW CP CS H sa L ss) (hh : Hist s ss) (hon : s.on = true) (h4 : i < 4) (h37 : c ≤ 37) (hb : ∀ H1, Frm (fun b => b = sa ∨ b = L) H H1 → Ev tb σ H1 (iV i)) (hc : ∀ H1, Frm (fun b => b = sa ∨ b = L) H H1 → Ev tc σ H1 (iV c))
    (k : ∀ H', SesM CA CW CP CS H' sa L (ss ++ [dd s (takeS s i c).1 (0, i, c)]) → Frm (fun b => b = sa ∨ b = L) H H' → Q' (iV (takeS s i c).2) H') : tMeth CP "take_call" (spTake CA CW CP) [] E (tMeth CS "go_on" (spGoOn CA CW CP CS) [] E' ta tNil) (tCons tb (tCons tc tNil)) σ H Q' := by
  have hcap := hh.cap
  have hl := hh.len
  have hw := (hh.all s hh.mem).1
  have hm := (hh.all s hh.mem).2.1
  unfold tMeth
  refine goOn (E := E') ho hS hh.last (by omega) fun H' p a m bl ol us g1 g2 g3 g4 g5 g6 => ?_
  obtain ⟨dx, fs, q1, q2⟩ := g3.has (f := "take_call")
  refine ⟨p, dx, fs, rfl, q1, q2, ?_⟩
  have fr : Frm (fun b => b = sa ∨ b = L) H H' := fun b o hb n => g6 b o hb fun z => n (.inr z)
  refine (ea_cons (hb H' fr) (ea_cons (hc H' fr) ea_nil)) H' (Ex.refl _) _ fun H2 e2 => ⟨p, a, m, bl, ol, s, i, c, rfl, g3.mono e2, hw, h4, h37, by omega, fun H3 hP3 f3 => ?_⟩
  obtain ⟨r1, r2⟩ := ses_after hS g1 g2 g4 g5 g6 ((Frm.of e2).trans f3) (PosM.same (ds := s.deeds ++ [(0, i, c)]) hP3)
  exact k H3 r1 r2
theorem pa_ne {pa : Addr} {pl : List Int} (hS : SesM CA CW CP CS H sa L ss) (hne : ss ≠ []) (hp : H pa = some (.lst (pl.map V.int))) : pa ≠ sa ∧ pa ≠ L := by
  obtain ⟨⟨dx, h1⟩, ⟨us, h2, h3⟩, _⟩ := hS
  refine ⟨ne_kind hp h1 lst_ne_ins, fun z => ?_⟩
  rw [z, h2] at hp
  have hp := Option.some.inj hp
  injection hp with hp
  cases h3 with
  | nil => exact hne rfl
  | cons hx _ =>
    obtain ⟨p, _, _, _, _, rfl, _⟩ := hx
    cases pl with
    | nil => cases hp
    | cons y r => rw [List.map_cons] at hp; injection hp with hp _; cases hp
theorem s_ret0X {X : TE} (h : X σ H (fun v H1 => [V.int 0, v].length ≤ sizeLine ∧ ∀ p, H1 p = none → D.rt (.ref p) (upd H1 p (.lst [V.int 0, v])))) : tRet (tLst (tCons (tC (.int 0)) (tCons X tNil))) D σ H := h
end
theorem ok_answer_deal (T : Txt K mg fa fd CA CW CP CS aN aR aA aW aO) : FnOk P w K mg base CX0 6 (fa 56) (fd 56) P_answer_deal (spAns CA CW CP CS 0) := by
  refine T.d_answer_deal.F.ok sc_answer_deal (fun vs H Q E h => ?_) (fun cdv A outer s H vs Q E hr h => ⟨_, (pss_cons (ps_expr (pe_meth (pv 0) T.cl_CS T.m_s_start (ok_s_start T) (hr.mono (by decide)) T.d_s_start.b .nil pass0 (pa_cons (pe_ix ix_list (pv 1) pe_int (fun _ _ => rfl)) (pa_cons (pe_ix ix_list (pv 1) pe_int (fun _ _ => rfl)) pa_nil)))) (pss_one (ps_ret (pe_lst (pa_cons pe_int pa_nil))))), ?_⟩)
  · obtain ⟨sa, L, ss, s, pa, ta, pl, tx, c, rfl, _⟩ := h; rfl
  · obtain ⟨sa, L, ss, s, pa, ta, pl, tx, c, rfl, hS, hst, hp, ht, hc, hr, hn, hl, hl2, k⟩ := h
    obtain ⟨a, b, rfl, rfl⟩ : ∃ a b, pl = [a, b] ∧ c = .deal a b := by
      match pl, hc with
      | [a, b], hc => exact ⟨a, b, rfl, (Option.some.inj hc).symm⟩
    have hr2 : Vbbrac.isSeat a = true ∧ Vbbrac.inside 0 3 b = true := Bool.and_eq_true_iff.mp hr
    obtain ⟨d, rfl, hd⟩ := seat_nat hr2.1
    obtain ⟨v, rfl, _, hv⟩ := inside_nat (lo := 0) (hi := 3) hr2.2
    refine q_start (d := d) (v := v) (ev_var rfl) hS (at_plain (i := 0) (ev_var rfl) hp rfl) (at_plain (i := 1) (ev_var rfl) hp rfl) fun H1 L' hL hS1 f1 => ?_
    have hstep : Vbbrac.step s (.deal d v) = (Vbbrac.begun d v, [0]) := by
      unfold Vbbrac.step
      rw [if_neg (by rw [hr]; exact Bool.noConfusion)]; rfl
    refine s_retL (el_lst (vs := [.int 0]) (ea_cons ev_c ea_nil) (by decide)) fun p H2 hp2 e2 h2 => k p H2 L' [Vbbrac.begun d v] ?_ ((fun b o hb n => e2 _ _ (f1 b o hb fun z => n (.inl z)))) (hS1.mono e2) ?_ ?_ (.inr hL)
    · cases z : H p with
      | none => rfl
      | some o =>
        by_cases zs : p = sa
        · obtain ⟨⟨dx, g⟩, _⟩ := hS1
          rw [zs, g] at hp2; cases hp2
        · rw [f1 _ _ z zs] at hp2; cases hp2
    · rw [hstep]; exact .inl ⟨rfl, hist_begun hd⟩
    · rw [hstep]; exact h2
theorem ok_answer_board (T : Txt K mg fa fd CA CW CP CS aN aR aA aW aO) : FnOk P w K mg base CX0 6 (fa 57) (fd 57) P_answer_board (spAns CA CW CP CS 1) := by
  refine T.d_answer_board.F.ok sc_answer_board (fun vs H Q E h => ?_) (fun cdv A outer s H vs Q E hr h => ⟨_, (pss_cons (ps_set (i := 3) sc_answer_board.nd rfl (.inl rfl) (pe_op op_mod (pe_op op_add (pe_ix ix_list (pv 1) pe_int (fun _ _ => rfl)) pe_int) pe_int)) (pss_cons (ps_set (i := 4) sc_answer_board.nd rfl (.inl rfl) (pe_op op_mod (pe_op op_add (pv 3) (pe_op op_fdiv (pe_op op_add (pe_ix ix_list (pv 1) pe_int (fun _ _ => rfl)) pe_int) pe_int)) pe_int)) (pss_cons (ps_expr (pe_meth (pv 0) T.cl_CS T.m_s_start (ok_s_start T) (hr.mono (by decide)) T.d_s_start.b .nil pass0 (pa_cons (pv 3) (pa_cons (pv 4) pa_nil)))) (pss_one (ps_ret (pe_lst (pa_cons pe_int (pa_cons (pv 3) (pa_cons (pv 4) pa_nil))))))))), ?_⟩)
  · obtain ⟨sa, L, ss, s, pa, ta, pl, tx, c, rfl, _⟩ := h; rfl
  · obtain ⟨sa, L, ss, s, pa, ta, pl, tx, c, rfl, hS, hst, hp, ht, hc, hr, hn, hl, hl2, k⟩ := h
    obtain ⟨a, rfl, rfl⟩ : ∃ a, pl = [a] ∧ c = .board a := by
      match pl, hc with
      | [a], hc => exact ⟨a, rfl, (Option.some.inj hc).symm⟩
    obtain ⟨n, rfl, hn1, _⟩ := inside_nat (lo := 1) (hi := 1000000000) (show Vbbrac.inside ((1 : Nat) : Int) ((1000000000 : Nat) : Int) a = true from hr)
    refine q_asg (ev_modN (i := n + 3) (by decide) (ev_addN (j := 3) (at_plain (i := 0) (ev_var rfl) hp rfl) ev_c) (j := 4) ev_c) fun H1 e1 => ?_
    have hdiv : Ev (tOp (rI CDiv fun i j => .int (i / j)) (tOp (rI0 fun i j => .int (i + j)) (tOp (rIxL K) (tVar 1) (tC (.int 0))) (tC (.int 15))) (tC (.int 4))) [some (.ref sa), some (.ref pa), some (.ref ta), some (iV ((n + 3) % 4)), none] H1 (iV ((n + 15) / 4)) := ev_is (ev_op (ev_addN (i := n) (j := 15) (at_plain (i := 0) (ev_var rfl) (e1 _ _ hp) rfl) ev_c) ev_c (rv_I (C := CDiv) (g := fun i j => .int (i / j)) ⟨by decide, by decide⟩)) (congrArg V.int (Int.natCast_ediv _ _).symm)
    refine q_asg (ev_modN (i := (n + 3) % 4 + (n + 15) / 4) (by decide) (ev_addN (ev_var rfl) hdiv) (j := 4) ev_c) fun H2 e2 => ?_
    refine q_start (d := (n + 3) % 4) (v := ((n + 3) % 4 + (n + 15) / 4) % 4) (ev_var rfl) (hS.mono (e1.trans e2)) (ev_var rfl) (ev_var rfl) fun H3 L' hL hS1 f1 => ?_
    have hstep : Vbbrac.step s (.board n) = (Vbbrac.begun ((n + 3) % 4) (((n + 3) % 4 + (n + 15) / 4) % 4), Vbbrac.ok [(n + 3) % 4, ((n + 3) % 4 + (n + 15) / 4) % 4]) := by
      unfold Vbbrac.step
      rw [if_neg (by rw [hr]; exact Bool.noConfusion)]
      show (Vbbrac.begun (Vbbrac.dealerOf n) (Vbbrac.vulOf n), Vbbrac.ok [Vbbrac.dealerOf n, Vbbrac.vulOf n]) = _
      have : Vbbrac.vulOf n = ((n + 3) % 4 + (n + 15) / 4) % 4 := by unfold Vbbrac.vulOf; omega
      rw [this]; rfl
    refine s_retL (el_lst (vs := [.int 0, iV ((n + 3) % 4), iV (((n + 3) % 4 + (n + 15) / 4) % 4)]) (ea_cons ev_c (ea_cons (ev_var rfl) (ea_cons (ev_var rfl) ea_nil))) (by show 3 ≤ 100000; decide)) fun p H4 hp2 e4 h4 => k p H4 L' [Vbbrac.begun ((n + 3) % 4) (((n + 3) % 4 + (n + 15) / 4) % 4)] ?_ (fun b o hb nn => e4 _ _ (f1 _ _ (e2 _ _ (e1 _ _ hb)) fun z => nn (.inl z))) (hS1.mono e4) ?_ ?_ (.inr (fresh_back (e1.trans e2) hL))
    · cases z : H p with
      | none => rfl
      | some o =>
        by_cases zs : p = sa
        · obtain ⟨⟨dx, g⟩, _⟩ := hS1
          rw [zs, g] at hp2; cases hp2
        · rw [f1 _ _ (e2 _ _ (e1 _ _ z)) zs] at hp2; cases hp2
    · rw [hstep]; exact .inl ⟨rfl, hist_begun (Nat.mod_lt _ (by decide))⟩
    · rw [hstep, ok_map]; exact h4
theorem ok_answer_call (T : Txt K mg fa fd CA CW CP CS aN aR aA aW aO) : FnOk P w K mg base CX0 7 (fa 58) (fd 58) P_answer_call (spAns CA CW CP CS 2) := by
  refine T.d_answer_call.F.ok sc_answer_call (fun vs H Q E h => ?_) (fun cdv A outer s H vs Q E hr h => ⟨_, (pss_cons (ps_set (i := 3) sc_answer_call.nd rfl (.inl rfl) (pe_meth (pe_meth0 (pv 0) T.cl_CS T.m_s_now (ok_s_now T) (hr.mono (by decide)) T.d_s_now.b .nil pass0) T.cl_CP T.m_p_why_no_call (ok_p_why_no_call T) (hr.mono (by decide)) T.d_p_why_no_call.b .nil pass0 (pa_cons (pe_ix ix_list (pv 1) pe_int (fun _ _ => rfl)) (pa_cons (pe_ix ix_list (pv 1) pe_int (fun _ _ => rfl)) pa_nil)))) (pss_cons (ps_if (pt_cmpR op_lt (pv 3) pe_int (nomark _)) (pss_one (ps_ret (pe_lst (pa_cons (pv 3) pa_nil)))) pss_nil) (pss_cons (ps_if (pt_cmpR op_ge (pe_meth0 (pv 0) T.cl_CS T.m_s_done (ok_s_done T) (hr.mono (by decide)) T.d_s_done.b .nil pass0) (pe_globI rfl T.g_MOST_DONE) (nomark _)) (pss_one (ps_ret (pe_lst (pa_cons (pe_un un_neg pe_int) pa_nil)))) pss_nil) (pss_one (ps_ret (pe_lst (pa_cons pe_int (pa_cons (pe_meth (pe_meth0 (pv 0) T.cl_CS T.m_s_go_on (ok_s_go_on T) (hr.mono (by decide)) T.d_s_go_on.b .nil pass0) T.cl_CP T.m_p_take_call (ok_p_take_call T) (hr.mono (by decide)) T.d_p_take_call.b .nil pass0 (pa_cons (pe_ix ix_list (pv 1) pe_int (fun _ _ => rfl)) (pa_cons (pe_ix ix_list (pv 1) pe_int (fun _ _ => rfl)) pa_nil))) pa_nil)))))))), ?_⟩)
  · obtain ⟨sa, L, ss, s, pa, ta, pl, tx, c, rfl, _⟩ := h; rfl
  · obtain ⟨sa, L, ss, s, pa, ta, pl, tx, c, rfl, hS, hst, hp, ht, hc, hr, hn, hl, hl2, k⟩ := h
    obtain ⟨a, b, rfl, rfl⟩ : ∃ a b, pl = [a, b] ∧ c = .call a b := by
      match pl, hc with
      | [a, b], hc => exact ⟨a, b, rfl, (Option.some.inj hc).symm⟩
    have hon := hn rfl
    have hh := st_hist hst hon
    have hr2 : Vbbrac.isSeat a = true ∧ Vbbrac.inside 0 37 b = true := Bool.and_eq_true_iff.mp hr
    obtain ⟨i, rfl, h4⟩ := seat_nat hr2.1
    obtain ⟨c, rfl, _, h37⟩ := inside_nat (lo := 0) (hi := 37) hr2.2
    have hw := (hh.all s hh.mem).1
    have hact : Vbbrac.step s (.call i c) = Vbbrac.did s (Vbbrac.keeping s (0, i, c)) := step_act hr hon rfl
    rw [keeping_call hw h37] at hact
    obtain ⟨p, a, m, bl, ol, us, hu, hpl, hP⟩ := now_of hS hh.last
    refine q_asg (v := .int (whyN s i c)) (ev_pos2 (f := fun s i c => .int (whyN s i c)) (ev_now (ev_var rfl) hS hu hpl) (hP.mono hid_ex) hw (at_plain (i := 0) (ev_var rfl) hp rfl) h4 (at_plain (i := 1) (ev_var rfl) hp rfl) h37) fun H1 e1 => ?_
    have hle := whyN_le s i c
    refine q_when (b := decide (whyN s i c < 0)) (et_I (ev_var rfl) ev_c rfl) (fun hb H2 e2 => ?_) (fun hb H2 e2 => ?_)
    · have hlt := of_decide_eq_true hb
      rw [if_neg (by omega)] at hact
      have kk := done_pure k hS hst hact
      exact s_retL (el_lst (vs := [.int (whyN s i c)]) (ea_cons (ev_var rfl) ea_nil) (by show 1 ≤ 100000; decide)) fun p H3 hp3 e3 h3 => kk p H3 (fresh_back (e1.trans e2) hp3) ((e1.trans e2).trans e3) h3
    · have h0 : whyN s i c = 0 := by have := of_decide_eq_false hb; omega
      rw [if_pos h0] at hact
      have e12 := e1.trans e2
      refine q_when (b := decide (320 ≤ s.deeds.length)) (et_I (ev_done (ev_var rfl) (hS.mono e12)) ev_c (by rw [hh.len, decide_eq_decide]; omega)) (fun hb3 H3 e3 => ?_) (fun hb3 H3 e3 => ?_)
      · rw [if_pos (of_decide_eq_true hb3)] at hact
        have kk := done_pure k hS hst hact
        exact s_retL (el_lst (vs := [.int (-9)]) (ea_cons (ev_un ev_c ru_neg) ea_nil) (by show 1 ≤ 100000; decide)) fun p H4 hp4 e4 h4 => kk p H4 (fresh_back (e12.trans e3) hp4) ((e12.trans e3).trans e4) h4
      · have hcap := of_decide_eq_false hb3
        rw [if_neg hcap] at hact
        have e13 := e12.trans e3
        obtain ⟨hk, hh2⟩ := hist_call hh hon h4 h37 h0 (by omega)
        have hss : ss ≠ [] := fun z => by rw [z] at hh; exact absurd hh.len (by simp)
        obtain ⟨np1, np2⟩ := pa_ne hS hss hp
        have hpk : ∀ {H' : Hp}, Frm (fun b => b = sa ∨ b = L) H3 H' → H' pa = some (.lst ([(i : Int), (c : Int)].map V.int)) := fun f => f _ _ (e13 _ _ hp) fun z => z.elim np1 np2
        refine s_ret0X (goTake (ev_var rfl) (hS.mono e13) hh hon h4 h37 (fun H' f => at_plain (i := 0) (ev_var rfl) (hpk f) rfl) (fun H' f => at_plain (i := 1) (ev_var rfl) (hpk f) rfl) fun H' hS' f' => ⟨(by show 2 ≤ sizeLine; decide), fun q hq => ?_⟩)
        have eq : Ex H' (upd H' q (.lst [V.int 0, iV (takeS s i c).2])) := Ex.new hq
        refine k q _ L _ ?_ ((fun b o hb n => eq _ _ (f' _ _ (e13 _ _ hb) n))) (hS'.mono eq) ?_ ?_ (.inl rfl)
        · cases z : H q with
          | none => rfl
          | some o =>
            exfalso
            by_cases zs : q = sa ∨ q = L
            · obtain ⟨⟨dx, g⟩, ⟨us2, g2, _⟩, _⟩ := hS'
              rcases zs with rfl | rfl
              · rw [g] at hq; cases hq
              · rw [g2] at hq; cases hq
            · rw [f' _ _ (e13 _ _ z) zs] at hq; cases hq
        · rw [hact]; exact .inl ⟨(takeS_keeps s i c).2.2.1.trans hon, hh2⟩
        · rw [hact]; exact upd_same
end
end Bb
namespace Bb
open PySem PySem.Spec PyProof.Rows L2 Evl
open PySem.W (Codec)
open Vbbrac (State Call ranged)
theorem toldL_is (s : State) : toldL s = [Vbbrac.turnOf s, (match Vbbrac.lastBid s.made with
      | some x => x.2 + 1
      | none => 0), Vbbrac.doubled s.made, Vbbrac.passes s.made, if Vbbrac.over s.made = true then 1 else 0, (match s.waits with
      | some x => x.1
      | none => 0), (match s.mend with
      | some _ => 1
      | none => 0)] ++ [0, 1, 2, 3].map fun p => if s.barred.contains p = true then 2 else if s.once.contains p = true then 1 else 0 := by
  have : lbN s.made = (match Vbbrac.lastBid s.made with
      | some x => x.2 + 1
      | none => 0) := by
    unfold lbN
    cases e : lbm s.made with
    | none => rw [lb_none e]
    | some x =>
      have := lbm_ge e
      rw [lb_some e]
      show x.2 - 2 = x.2 - 3 + 1
      omega
  unfold toldL heldN
  rw [this]
  rfl
def decS (s : State) (x : Nat × Nat × Nat) (y : Nat) : State × Nat := if y = 1 then (Vbbrac.stands s x.2.1 x.2.2, 0) else withS s x.1 x.2.1 x.2.2
theorem keeping_dec {s : State} {x : Nat × Nat × Nat} (e : s.waits = some x) (y : Nat) : Vbbrac.keeping s (1, y, 0) = if 320 ≤ s.deeds.length then .error (-9) else .ok (dd s (decS s x y).1 (1, y, 0), (decS s x y).2) := by
  rw [keeping_decide, e]; rfl
theorem con_ok (s : State) : (match Vbbrac.contract s.made with
    | none => [0]
    | some x => Vbbrac.ok [x.1, x.2.1, x.2.2, Vbbrac.nextSeat x.2.2, Vbbrac.partner x.2.2]) = Vbbrac.ok (conL s.made) := by
  unfold conL
  cases Vbbrac.contract s.made with
  | none => rfl
  | some x => rfl
section
variable [GX] {P : Program} {w : World} {K : PySem.W.Frag} {mg : Str → Option Value} {base : Heap} {fa : Nat → Addr} {fd : Nat → FuncData} {CA CW CP CS aN aR aA aW aO : Addr}
section
variable {σ : L2.St} {H : Hp} {ta tb tc : TE} {E E' : XK} {sa L : Addr} {ss : List State} {s : State} {D : Ends} {tz : TS} {i c : Nat}
theorem free_fr {H' : Hp} {q : Addr} (f : Frm (fun b => b = sa ∨ b = L) H H') (h1 : ∃ o, H' sa = some o) (h2 : ∃ o, H' L = some o) (hq : H' q = none) : H q = none := by
  cases z : H q with
  | none => rfl
  | some o =>
    exfalso
    by_cases zs : q = sa ∨ q = L
    · rcases zs with rfl | rfl
      · obtain ⟨o, h⟩ := h1; rw [h] at hq; cases hq
      · obtain ⟨o, h⟩ := h2; rw [h] at hq; cases hq
    · rw [f _ _ z zs] at hq; cases hq
theorem SesM.there {H : Hp} {sa L : Addr} {ss : List State} (h : SesM CA CW CP CS H sa L ss) : (∃ o, H sa = some o) ∧ (∃ o, H L = some o) := by
  obtain ⟨⟨dx, h1⟩, ⟨vs, h2, _⟩, _⟩ := h
  exact ⟨⟨_, h1⟩, ⟨_, h2⟩⟩
theorem el_zero : EvL (tLst (tCons (tC (.int 0)) tNil)) σ H [V.int 0] := el_lst (ea_cons ev_c ea_nil) (by decide)
/-- [z] alone -/
theorem s_ret1 {te : TE} {z : Int} {Q : VK} (h : Ev te σ H (.int z)) (kk : RetL ([z].map V.int) H Q) : tRet (tLst (tCons te tNil)) { nx := fun _ H' => Q .non H', rt := Q } σ H := s_retL (el_lst (vs := [.int z]) (ea_cons h ea_nil) (by show 1 ≤ 100000; decide)) kk
theorem retl_back {H H' : Hp} {xs : List V} {Q : VK} (k : RetL xs H Q) (e : Ex H H') : RetL xs H' Q := fun p H2 hp e2 h => k p H2 (fresh_back e hp) (e.trans e2) h
end
theorem ok_answer_decide (T : Txt K mg fa fd CA CW CP CS aN aR aA aW aO) : FnOk P w K mg base CX0 7 (fa 59) (fd 59) P_answer_decide (spAns CA CW CP CS 3) := by
  refine T.d_answer_decide.F.ok sc_answer_decide (fun vs H Q E h => ?_) (fun cdv A outer s H vs Q E hr h => ⟨_, (pss_cons (ps_if (pt_cmpR op_isN (pe_fld (pe_meth0 (pv 0) T.cl_CS T.m_s_now (ok_s_now T) (hr.mono (by decide)) T.d_s_now.b .nil pass0) rfl) pe_non (nomark _)) (pss_one (ps_ret (pe_lst (pa_cons (pe_un un_neg pe_int) pa_nil)))) pss_nil) (pss_cons (ps_if (pt_cmpR op_ge (pe_meth0 (pv 0) T.cl_CS T.m_s_done (ok_s_done T) (hr.mono (by decide)) T.d_s_done.b .nil pass0) (pe_globI rfl T.g_MOST_DONE) (nomark _)) (pss_one (ps_ret (pe_lst (pa_cons (pe_un un_neg pe_int) pa_nil)))) pss_nil) (pss_cons (ps_set (i := 3) sc_answer_decide.nd rfl (.inl rfl) (pe_meth0 (pv 0) T.cl_CS T.m_s_go_on (ok_s_go_on T) (hr.mono (by decide)) T.d_s_go_on.b .nil pass0)) (pss_one (ps_ret (pe_lst (pa_cons pe_int (pa_cons (pe_ifExp (pt_cmpR op_eq (pe_ix ix_list (pv 1) pe_int (fun _ _ => rfl)) pe_int (nomark _)) (pe_meth0 (pv 3) T.cl_CP T.m_p_accept (ok_p_accept T) (hr.mono (by decide)) T.d_p_accept.b .nil pass0) (pe_meth0 (pv 3) T.cl_CP T.m_p_withdraw (ok_p_withdraw T) (hr.mono (by decide)) T.d_p_withdraw.b .nil pass0)) pa_nil)))))))), ?_⟩)
  · obtain ⟨sa, L, ss, s, pa, ta, pl, tx, c, rfl, _⟩ := h; rfl
  · obtain ⟨sa, L, ss, s, pa, ta, pl, tx, c, rfl, hS, hst, hp, ht, hc, hr, hn, hl, hl2, k⟩ := h
    obtain ⟨a, rfl, rfl⟩ : ∃ a, pl = [a] ∧ c = .decide a := by
      match pl, hc with
      | [a], hc => exact ⟨a, rfl, (Option.some.inj hc).symm⟩
    have hon := hn rfl
    have hh := st_hist hst hon
    obtain ⟨y, rfl, _, hy⟩ := inside_nat (lo := 0) (hi := 1) hr
    have hw := (hh.all s hh.mem).1
    have hml := (hh.all s hh.mem).2.1
    have hcap0 := hh.cap
    have hln := hh.len
    have hact : Vbbrac.step s (.decide y) = Vbbrac.did s (Vbbrac.keeping s (1, y, 0)) := step_act hr hon rfl
    obtain ⟨p, a, m, bl, ol, us, hu, hpl, hP⟩ := now_of hS hh.last
    refine q_when (b := s.waits.isNone) (et_test (ev_waitN T (ev_now (ev_var rfl) hS hu hpl) (hP.mono hid_ex))) (fun hb H1 e1 => ?_) (fun hb H1 e1 => ?_)
    · cases ew : s.waits with
      | some x => rw [ew] at hb; cases hb
      | none =>
        rw [keeping_decide, ew] at hact
        exact s_ret1 (ev_un ev_c ru_neg) (retl_back (done_pure k hS hst hact) e1)
    · cases ew : s.waits with
      | none => rw [ew] at hb; cases hb
      | some x =>
        rw [keeping_dec ew] at hact
        refine q_when (b := decide (320 ≤ s.deeds.length)) (et_I (ev_done (ev_var rfl) (hS.mono e1)) ev_c (by rw [hh.len, decide_eq_decide]; omega)) (fun hb3 H3 e3 => ?_) (fun hb3 H3 e3 => ?_)
        · rw [if_pos (of_decide_eq_true hb3)] at hact
          exact s_ret1 (ev_un ev_c ru_neg) (retl_back (done_pure k hS hst hact) (e1.trans e3))
        · have hcap := of_decide_eq_false hb3
          have e13 := e1.trans e3
          have hk := keeping_dec ew y
          rw [if_neg hcap] at hk
          have hr0 : (if y = 1 then (Vbbrac.stands s x.2.1 x.2.2, 0) else withS s x.1 x.2.1 x.2.2) = decS s x y := rfl
          generalize decS s x y = r at hact hk hr0
          rw [if_neg hcap] at hact
          obtain ⟨x1, x2, x3, x4, x5⟩ := hw.waits x ew
          have hkeep : r.1.dealer = s.dealer ∧ r.1.vul = s.vul ∧ r.1.on = s.on ∧ r.1.made.length ≤ s.made.length + 1 := by
            rw [← hr0]
            split
            · refine ⟨rfl, rfl, rfl, ?_⟩
              show (s.made ++ [(x.2.1, x.2.2)]).length ≤ _
              rw [List.length_append]; exact Nat.le_refl _
            · exact withS_keeps s _ _ _
          have hwr : Wf r.1 := by
            rw [← hr0]
            split
            · exact wf_stands hw x1 x2 x3
            · exact wf_with hw ew
          have hh2 := hist_step hh hk rfl (by omega) hkeep.1 hkeep.2.1 (hkeep.2.2.1.trans hon) (wf_dd hwr) hkeep.2.2.2
          have hss : ss ≠ [] := fun z => by rw [z] at hln; exact absurd hln (by simp)
          obtain ⟨np1, np2⟩ := pa_ne hS hss hp
          unfold tSeq
          refine goOn (ev_var rfl) (hS.mono e13) hh.last (by omega) fun H4 q a4 m4 bl4 ol4 us4 g1 g2 g3 g4 g5 g6 => ?_
          have hpa4 : H4 pa = some (.lst ([(y : Int)].map V.int)) := g6 _ _ (e13 _ _ hp) np2
          -- behind the decision
          have fin : ∀ (v : V) (H5 : Hp), v = iV r.2 → PosM CA CW CP H5 q a4 m4 bl4 ol4 r.1 → Frm (Fp q m4 bl4 ol4) H4 H5 → [V.int 0, v].length ≤ sizeLine ∧ ∀ t, H5 t = none → Q (.ref t) (upd H5 t (.lst [V.int 0, v])) := by
            intro v H5 hv hP5 f5
            subst hv
            obtain ⟨r1, r2⟩ := ses_after (hS.mono e13) g1 g2 g4 g5 g6 f5 (PosM.same (ds := s.deeds ++ [(1, y, 0)]) hP5)
            refine ⟨(by show 2 ≤ sizeLine; decide), fun t ht => ?_⟩
            have eq : Ex H5 (upd H5 t (.lst [V.int 0, iV r.2])) := Ex.new ht
            refine k t _ L _ (fresh_back e13 (free_fr r2 r1.there.1 r1.there.2 ht)) (fun b o hb n => eq _ _ (r2 _ _ (e13 _ _ hb) n)) (r1.mono eq) ?_ ?_ (.inl rfl)
            · rw [hact]; exact .inl ⟨hkeep.2.2.1.trans hon, hh2⟩
            · rw [hact]; exact upd_same
          show tRet (tLst (tCons (tC (.int 0)) (tCons (tIf (tTest (tOp rEq (tOp (rIxL K) (tVar 1) (tC (.int 0))) (tC (.int 1)))) (tMeth CP "accept" (spAccept CA CW CP) [] E0 (tVar 3) tNil) (tMeth CP "withdraw" (spWithdraw CA CW CP) [] E0 (tVar 3) tNil)) tNil))) { nx := fun _ H' => Q .non H', rt := Q } [some (.ref sa), some (.ref pa), some (.ref ta), some (.ref q)] H4
          refine s_ret0X ?_
          unfold tIf
          refine (et_is (et_eqN (i := y) (j := 1) (at_plain (i := 0) (ev_var rfl) hpa4 rfl) ev_c) rfl) H4 (Ex.refl _) _ fun H5 e5 => ?_
          obtain ⟨dx, fs, q1, q2⟩ := (g3.mono e5).has (f := "accept")
          obtain ⟨dx', fs', q1', q2'⟩ := (g3.mono e5).has (f := "withdraw")
          by_cases hy1 : y = 1
          · rw [if_pos hy1] at hr0
            rw [if_pos (decide_eq_true hy1)]
            exact (ev_var (i := 3) (v := .ref q) rfl) H5 (Ex.refl _) _ fun H6 e6 => ⟨q, dx, fs, rfl, e6 _ _ q1, q2, q, a4, m4, bl4, ol4, s, x, rfl, (g3.mono e5).mono e6, hw, ew, by omega, fun H7 hP7 f7 => fin _ H7 (by rw [← hr0]) (by rw [← hr0]; exact hP7) ((Frm.of (e5.trans e6)).trans f7)⟩
          · rw [if_neg hy1] at hr0
            rw [if_neg (by rw [decide_eq_false hy1]; exact Bool.false_ne_true)]
            exact (ev_var (i := 3) (v := .ref q) rfl) H5 (Ex.refl _) _ fun H6 e6 => ⟨q, dx', fs', rfl, e6 _ _ q1', q2', q, a4, m4, bl4, ol4, s, x, rfl, (g3.mono e5).mono e6, hw, ew, fun H7 hP7 f7 => fin _ H7 (by rw [← hr0]) (by rw [← hr0]; exact hP7) ((Frm.of (e5.trans e6)).trans f7)⟩
theorem ok_answer_undo (T : Txt K mg fa fd CA CW CP CS aN aR aA aW aO) : FnOk P w K mg base CX0 2 (fa 60) (fd 60) P_answer_undo (spAns CA CW CP CS 4) := by
  refine T.d_answer_undo.F.ok sc_answer_undo (fun vs H Q E h => ?_) (fun cdv A outer s H vs Q E hr h => ⟨_, (pss_cons (ps_set (i := 3) sc_answer_undo.nd rfl (.inl rfl) (pe_op op_sub (pe_meth0 (pv 0) T.cl_CS T.m_s_done (ok_s_done T) (hr.mono (by decide)) T.d_s_done.b .nil pass0) (pe_ix ix_list (pv 1) pe_int (fun _ _ => rfl)))) (pss_cons (ps_if (pt_cmpR op_lt (pv 3) pe_int (nomark _)) (pss_one (ps_ret (pe_lst (pa_cons (pe_un un_neg pe_int) pa_nil)))) pss_nil) (pss_cons (ps_fld (pv 0) (pe_slice sl_list (pe_fld (pv 0) rfl) po_none (po_some (pe_op op_add (pv 3) pe_int))) rfl) (pss_one (ps_ret (pe_lst (pa_cons pe_int pa_nil))))))), ?_⟩)
  · obtain ⟨sa, L, ss, s, pa, ta, pl, tx, c, rfl, _⟩ := h; rfl
  · obtain ⟨sa, L, ss, s, pa, ta, pl, tx, c, rfl, hS, hst, hp, ht, hc, hr, hn, hl, hl2, k⟩ := h
    obtain ⟨a, rfl, rfl⟩ : ∃ a, pl = [a] ∧ c = .undo a := by
      match pl, hc with
      | [a], hc => exact ⟨a, rfl, (Option.some.inj hc).symm⟩
    have hon := hn rfl
    have hh := st_hist hst hon
    obtain ⟨n, rfl, _, hn4⟩ := inside_nat (lo := 0) (hi := 400) hr
    have hln := hh.len
    have hact : Vbbrac.step s (.undo n) = if s.deeds.length < n then (s, [-14]) else (Vbbrac.replay (Vbbrac.begun s.dealer s.vul) (s.deeds.take (s.deeds.length - n)), [0]) := step_act hr hon rfl
    refine q_asg (v := .int ((s.deeds.length : Int) - n)) (ev_I (ev_done (ev_var rfl) hS) (at_plain (i := 0) (ev_var rfl) hp rfl) (congrArg V.int (by omega))) fun H1 e1 => ?_
    refine q_when (b := decide (s.deeds.length < n)) (et_I (ev_var rfl) ev_c (by rw [decide_eq_decide]; omega)) (fun hb H2 e2 => ?_) (fun hb H2 e2 => ?_)
    · rw [if_pos (of_decide_eq_true hb)] at hact
      exact s_ret1 (ev_un ev_c ru_neg) (retl_back (done_pure k hS hst hact) (e1.trans e2))
    · have hle : n ≤ s.deeds.length := by have := of_decide_eq_false hb; omega
      rw [if_neg (of_decide_eq_false hb)] at hact
      have e12 := e1.trans e2
      have hS2 := hS.mono e12
      obtain ⟨⟨dx, h1⟩, ⟨us, h2, h3⟩, ⟨gs, hg⟩, hgL⟩ := hS2
      have hsl : EvL (tSl (rSlL K) (tFld K (tVar 0) "positions") tNoPart (tPart (tOp (rI0 fun i j => .int (i + j)) (tVar 3) (tC (.int 1))))) [some (.ref sa), some (.ref pa), some (.ref ta), some (.int ((s.deeds.length : Int) - n))] H2 (us.take (s.deeds.length - n + 1)) := by
        have := el_sl (K := K) (σ := [some (.ref sa), some (.ref pa), some (.ref ta), some (.int ((s.deeds.length : Int) - n))]) (H := H2) (te := tFld K (tVar 0) "positions") (tl := tNoPart) (th := tPart (tOp (rI0 fun i j => .int (i + j)) (tVar 3) (tC (.int 1)))) (a := L) (lo := none) (hi := some ((s.deeds.length - n + 1 : Nat) : Int)) (ev_fld (ev_var rfl) h1 T.cl_CS T.n_CS_positions (seF_pos L)) eo_none (eo_some (ev_I (ev_var rfl) ev_c (congrArg V.int (by omega)))) (sq_of h2)
        have hcut : cutV us none (some ((s.deeds.length - n + 1 : Nat) : Int)) = us.take (s.deeds.length - n + 1) := by
          unfold cutV
          rw [HT.sIx_none, HT.sIx_nat, List.drop_zero, Nat.sub_zero, Nat.min_eq_left (by rw [h3.len]; omega)]
        rw [hcut] at this
        exact this
      refine q_setF (P := fun v H' => ∃ L', v = .ref L' ∧ H2 L' = none ∧ H' L' = some (.lst (us.take (s.deeds.length - n + 1)))) (evp_L hsl fun q H' _ g1 g2 => ⟨q, rfl, g1, g2⟩) (fun _ _ _ e h => by obtain ⟨q, g1, g2, g3⟩ := h; exact ⟨q, g1, g2, e _ _ g3⟩) (ev_var rfl) h1 T.cl_CS T.n_CS_positions (by show 1 < 1000; decide) fun v H3 e3 hv => ?_
      obtain ⟨L', rfl, g1, g2⟩ := hv
      have hput : putF ("positions" : Str) (.ref L') (seF L) = seF L' := put_here
      rw [hput]
      have n1 : L' ≠ sa := ne_of_free g1 h1
      have hpos : PosL CA CW CP (hid sa L' (upd H3 sa (.ins CS dx (seF L')))) (us.take (s.deeds.length - n + 1)) (ss.take (s.deeds.length - n + 1)) := by
        refine (h3.take _).mono fun b o hb => ?_
        obtain ⟨m1, m2⟩ := hid_ne hb
        have hb2 := hid_ex b o hb
        exact hid_of (by rw [upd_ne m1]; exact e3 _ _ hb2) m1 (fun z => by rw [z, g1] at hb2; cases hb2) (hid_ng hb)
      have hS3 : SesM CA CW CP CS (upd H3 sa (.ins CS dx (seF L'))) sa L' (ss.take (s.deeds.length - n + 1)) := ⟨⟨dx, upd_same⟩, ⟨_, by rw [upd_ne n1]; exact g2, hpos⟩, ⟨gs, by rw [upd_ne (ne_kind hg h1 lst_ne_ins)]; exact e3 _ _ hg⟩, fun z => by rw [z, hg] at g1; cases g1⟩
      have f3 : Frm (fun b => b = sa ∨ b = L) H (upd H3 sa (.ins CS dx (seF L'))) := fun b o hb nn => by
        rw [upd_ne (fun z => nn (.inl z))]
        exact e3 _ _ (e12 _ _ hb)
      refine s_retL el_zero fun p H4 hp4 e4 h4 => k p H4 L' _ ?_ (fun b o hb nn => e4 _ _ (f3 _ _ hb nn)) (hS3.mono e4) ?_ ?_ (.inr (fresh_back e12 g1))
      · refine free_fr (sa := sa) (L := L) f3 ⟨_, upd_same⟩ ⟨.lst us, ?_⟩ hp4
        rw [upd_ne (fun z => by rw [z, h1] at h2; cases h2)]; exact e3 _ _ h2
      · rw [hact]
        have hu := hist_undo hh (j := s.deeds.length - n) (by omega)
        exact .inl ⟨(hh.all _ (List.mem_of_getElem? (hh.at_ _ (show s.deeds.length - n ≤ _ by omega)))).2.2.1, hu⟩
      · rw [hact]; exact h4
theorem ok_answer_table (T : Txt K mg fa fd CA CW CP CS aN aR aA aW aO) : FnOk P w K mg base CX0 5 (fa 61) (fd 61) P_answer_table (spAns CA CW CP CS 5) := by
  refine T.d_answer_table.F.ok sc_answer_table (fun vs H Q E h => ?_) (fun cdv A outer s H vs Q E hr h => ⟨_, (pss_one (ps_ret (pe_op op_cat (pe_lst (pa_cons pe_int pa_nil)) (pe_meth0 (pe_meth0 (pv 0) T.cl_CS T.m_s_now (ok_s_now T) (hr.mono (by decide)) T.d_s_now.b .nil pass0) T.cl_CP T.m_p_told (ok_p_told T) (hr.mono (by decide)) T.d_p_told.b .nil pass0)))), ?_⟩)
  · obtain ⟨sa, L, ss, s, pa, ta, pl, tx, c, rfl, _⟩ := h; rfl
  · obtain ⟨sa, L, ss, s, pa, ta, pl, tx, c, rfl, hS, hst, hp, ht, hc, hr, hn, hl, hl2, k⟩ := h
    obtain ⟨rfl, rfl⟩ : pl = [] ∧ c = .table := by
      match pl, hc with
      | [], hc => exact ⟨rfl, (Option.some.inj hc).symm⟩
    have hon := hn rfl
    have hh := st_hist hst hon
    have hw := (hh.all s hh.mem).1
    have hact : Vbbrac.step s .table = (s, Vbbrac.ok (toldL s)) := (step_act hr hon rfl).trans (by rw [toldL_is]; rfl)
    have kk := done_pure k hS hst hact
    rw [ok_map] at kk
    obtain ⟨p, a, m, bl, ol, us, hu, hpl, hP⟩ := now_of hS hh.last
    exact s_retL (el_catLL el_zero (el_pos (f := toldL) (ev_now (ev_var rfl) hS hu hpl) (hP.mono hid_ex) hw) (by show 1 + 11 ≤ 100000; decide)) kk
theorem ok_answer_legals (T : Txt K mg fa fd CA CW CP CS aN aR aA aW aO) : FnOk P w K mg base CX0 6 (fa 62) (fd 62) P_answer_legals (spAns CA CW CP CS 6) := by
  refine T.d_answer_legals.F.ok sc_answer_legals (fun vs H Q E h => ?_) (fun cdv A outer s H vs Q E hr h => ⟨_, (pss_cons (ps_if (pt_cmpR op_notN (pe_fld (pe_meth0 (pv 0) T.cl_CS T.m_s_now (ok_s_now T) (hr.mono (by decide)) T.d_s_now.b .nil pass0) rfl) pe_non (nomark _)) (pss_one (ps_ret (pe_lst (pa_cons (pe_un un_neg pe_int) pa_nil)))) pss_nil) (pss_one (ps_ret (pe_op op_cat (pe_lst (pa_cons pe_int pa_nil)) (pe_meth0 (pe_meth0 (pv 0) T.cl_CS T.m_s_now (ok_s_now T) (hr.mono (by decide)) T.d_s_now.b .nil pass0) T.cl_CP T.m_p_legals (ok_p_legals T) (hr.mono (by decide)) T.d_p_legals.b .nil pass0))))), ?_⟩)
  · obtain ⟨sa, L, ss, s, pa, ta, pl, tx, c, rfl, _⟩ := h; rfl
  · obtain ⟨sa, L, ss, s, pa, ta, pl, tx, c, rfl, hS, hst, hp, ht, hc, hr, hn, hl, hl2, k⟩ := h
    obtain ⟨rfl, rfl⟩ : pl = [] ∧ c = .legals := by
      match pl, hc with
      | [], hc => exact ⟨rfl, (Option.some.inj hc).symm⟩
    have hon := hn rfl
    have hh := st_hist hst hon
    have hw := (hh.all s hh.mem).1
    have hact : Vbbrac.step s .legals = (s, if s.waits.isSome = true then [-5] else Vbbrac.ok (legalsL s)) := step_act hr hon rfl
    have kk := done_pure k hS hst hact
    obtain ⟨p, a, m, bl, ol, us, hu, hpl, hP⟩ := now_of hS hh.last
    refine q_when (et_test (ev_waitS T (ev_now (ev_var rfl) hS hu hpl) (hP.mono hid_ex))) (fun hb H1 e1 => ?_) (fun hb H1 e1 => ?_)
    · rw [if_pos hb] at kk
      exact s_ret1 (ev_un ev_c ru_neg) (retl_back kk e1)
    · rw [if_neg (by rw [hb]; exact Bool.false_ne_true), ok_map] at kk
      have hlen : (legalsL s).length ≤ 38 := Nat.le_trans (List.length_filter_le _ _) (Nat.le_trans (List.length_filter_le _ _) (by rw [List.length_range]; exact Nat.le_refl _))
      exact s_retL (el_catLL el_zero (el_pos (f := legalsL) (ev_now (ev_var rfl) (hS.mono e1) (e1 _ _ hu) hpl) ((hP.mono hid_ex).mono e1) hw) (by rw [List.length_map]; show 1 + _ ≤ 100000; omega)) (retl_back kk e1)
theorem ok_answer_contract (T : Txt K mg fa fd CA CW CP CS aN aR aA aW aO) : FnOk P w K mg base CX0 4 (fa 63) (fd 63) P_answer_contract (spAns CA CW CP CS 7) := by
  refine T.d_answer_contract.F.ok sc_answer_contract (fun vs H Q E h => ?_) (fun cdv A outer s H vs Q E hr h => ⟨_, (pss_cons (ps_set (i := 3) sc_answer_contract.nd rfl (.inl rfl) (pe_fld (pe_meth0 (pv 0) T.cl_CS T.m_s_now (ok_s_now T) (hr.mono (by decide)) T.d_s_now.b .nil pass0) rfl)) (pss_cons (ps_if (pt_not (pt_val (pe_meth0 (pv 3) T.cl_CA T.m_a_over (ok_a_over T) (hr.mono (by decide)) T.d_a_over.b .nil pass0))) (pss_one (ps_ret (pe_lst (pa_cons (pe_un un_neg pe_int) pa_nil)))) pss_nil) (pss_one (ps_ret (pe_op op_cat (pe_lst (pa_cons pe_int pa_nil)) (pe_meth0 (pv 3) T.cl_CA T.m_a_contract (ok_a_contract T) (hr.mono (by decide)) T.d_a_contract.b .nil pass0)))))), ?_⟩)
  · obtain ⟨sa, L, ss, s, pa, ta, pl, tx, c, rfl, _⟩ := h; rfl
  · obtain ⟨sa, L, ss, s, pa, ta, pl, tx, c, rfl, hS, hst, hp, ht, hc, hr, hn, hl, hl2, k⟩ := h
    obtain ⟨rfl, rfl⟩ : pl = [] ∧ c = .contract := by
      match pl, hc with
      | [], hc => exact ⟨rfl, (Option.some.inj hc).symm⟩
    have hon := hn rfl
    have hh := st_hist hst hon
    have hact : Vbbrac.step s .contract = (s, if Vbbrac.over s.made = false then [-10] else Vbbrac.ok (conL s.made)) := (step_act hr hon rfl).trans (by rw [← con_ok]; rfl)
    have kk := done_pure k hS hst hact
    obtain ⟨p, a, m, bl, ol, us, hu, hpl, hP⟩ := now_of hS hh.last
    have hP := hP.mono hid_ex
    refine q_asg (ev_auction T (ev_now (ev_var rfl) hS hu hpl) hP) fun H1 e1 => ?_
    have hA := hP.auc.mono e1
    refine q_when (et_not (et_B (ev_auc (f := fun _ l => .bl (Vbbrac.over l)) (ev_var rfl) hA))) (fun hb H2 e2 => ?_) (fun hb H2 e2 => ?_)
    · rw [if_pos (by simpa using hb)] at kk
      exact s_ret1 (ev_un ev_c ru_neg) (retl_back kk (e1.trans e2))
    · rw [if_neg (by simpa using hb), ok_map] at kk
      have hlen : (conL s.made).length ≤ 5 := by
        unfold conL
        cases Vbbrac.contract s.made with
        | none => show 0 ≤ 5; decide
        | some x => show 5 ≤ 5; decide
      exact s_retL (el_catLL el_zero (el_con (ev_var rfl) (hA.mono e2)) (by rw [List.length_map]; show 1 + _ ≤ 100000; omega)) (retl_back kk (e1.trans e2))
end
end Bb
namespace Bb
open Vbbrac (State Deed Call begun replay keeping behind turn legal legals over passes lastWord doubled ways lastBid rankFrom nth pick callText callOfText joined cut textOf readWords readText decimal)
theorem behind_mono : ∀ {a b : Nat}, a ≤ b → behind a ≤ behind b
  | a, 0, h => by rw [Nat.le_zero.mp h]; exact Nat.le_refl _
  | a, b + 1, h => by
    rcases Nat.lt_or_ge a (b + 1) with g | g
    · have := behind_mono (Nat.le_of_lt_succ g)
      show _ ≤ 22 * behind b + 7
      omega
    · rw [Nat.le_antisymm h g]; exact Nat.le_refl _
theorem behind_35 : behind 35 < 10 ^ 50 := by decide +kernel
theorem wbS_le (h d p : Nat) (f : Bool) (hd : d ≤ 2) (hp : p ≤ 2) : wbS h d p f ≤ 30 + 30 * h := by
  refine small3 (P := fun d => wbS h d p f ≤ 30 + 30 * h) hd ?_ ?_ ?_ <;>
  (refine small3 (P := fun p => wbS h _ p f ≤ 30 + 30 * h) hp ?_ ?_ ?_) <;>
  cases f <;> simp [wbS, opp, Vbbrac.tail] <;> omega
theorem ways_lt {d : Nat} {l : Mad} (G : Good l) : ways d l < 10 ^ 60 := by
  have hb := behind_35
  cases ho : over l with
  | true => rw [ways_over d ho]; exact (show 1 < 10 ^ 60 by decide +kernel)
  | false =>
    have hp := not_over_passes ho
    have h60 : 31 * 10 ^ 50 < 10 ^ 60 := by decide +kernel
    cases e : lbm l with
    | none =>
      rw [ways_none d ho e]
      have : (4 - passes l) * behind 35 ≤ 4 * behind 35 := Nat.mul_le_mul_right _ (by omega)
      omega
    | some x =>
      rw [ways_some d G ho e]
      have h1 := wbS_le (behind (34 - (x.2 - 3))) (doubled l) (passes l) (faces l (turn d l)) (dbl_le l) (hp.2 (by rw [e]; exact Option.some_ne_none x))
      have h2 := behind_mono (show 34 - (x.2 - 3) ≤ 35 by omega)
      have h3 : 30 < 10 ^ 50 := by decide +kernel
      omega
theorem rank_lt {d : Nat} : ∀ (rest pre : Mad), TurnBy d pre rest = true → over (pre ++ rest) = true → Fine pre → Calls (pre ++ rest) → rankFrom d pre (rest.map fun x => x.2) < ways d pre
  | [], pre, _, ho, _, _ => by
    rw [List.append_nil] at ho
    rw [ways_over d ho]
    exact Nat.zero_lt_one
  | x :: r, pre, ht, ho, hf, hc => by
    have ht : decide (x.1 = turn d pre) = true ∧ legal pre x.1 x.2 = true ∧ TurnBy d (pre ++ [x]) r = true := by
      have : (decide (x.1 = turn d pre) && (legal pre x.1 x.2 && TurnBy d (pre ++ [x]) r)) = true := ht
      rw [Bool.and_eq_true, Bool.and_eq_true] at this
      exact this
    have h1 := of_decide_eq_true ht.1
    have hleg : legal pre (turn d pre) x.2 = true := by rw [← h1]; exact ht.2.1
    have hx : x.2 ≤ 37 := hc x (List.mem_append_right _ List.mem_cons_self)
    have hcp : Calls pre := fun y hy => hc y (List.mem_append_left _ hy)
    have ih := rank_lt r (pre ++ [x]) ht.2.2 (by rw [List.append_assoc]; exact ho) (fine_snoc hf (put_legal ht.2.1)) (by rw [List.append_assoc]; exact hc)
    rw [List.map_cons, rank_cons (by omega), ← h1]
    show Sc d pre x.2 + rankFrom d (pre ++ [x]) _ < _
    have hs : Sc d pre (x.2 + 1) = Sc d pre x.2 + ways d (pre ++ [x]) := by
      show Sc d pre x.2 + (if legal pre (turn d pre) x.2 = true then Wc d pre x.2 else 0) = _
      rw [if_pos hleg]
      show _ + ways d (pre ++ [(turn d pre, x.2)]) = _
      rw [← h1]
    have hm := Sc_mono (d := d) (l := pre) (show x.2 + 1 ≤ 38 by omega)
    rw [Sc_all hf hcp (legal_not_over hleg)] at hm
    omega
def numI' (d : Nat) (l : Mad) : Option Nat := if TurnBy d [] l = true then some (rankFrom d [] (l.map fun x => x.2)) else none
theorem num_lt {d n : Nat} {l : Mad} (h : numI' d l = some n) (ho : over l = true) (hc : Calls l) : n < 10 ^ 60 := by
  unfold numI' at h
  split at h
  · cases h
    exact Nat.lt_trans (rank_lt l [] (by assumption) ho fine_nil hc) (ways_lt fine_nil.1)
  · cases h
/-! ### reading a text back -/
theorem cut_word : ∀ (w r : List Nat), 32 ∉ w → cut (w ++ 32 :: r) = w :: cut r
  | [], r, _ => by
    show (if 32 = 32 then [] :: cut r else _) = _
    rw [if_pos rfl]
  | b :: w, r, h => by
    have hb : b ≠ 32 := fun z => h (by rw [z]; exact List.mem_cons_self)
    show (if b = 32 then [] :: cut (w ++ 32 :: r) else match cut (w ++ 32 :: r) with
      | [] => [[b]]
      | w :: l => (b :: w) :: l) = _
    rw [if_neg hb, cut_word w r fun z => h (List.mem_cons_of_mem _ z)]
theorem cut_last : ∀ w : List Nat, 32 ∉ w → cut w = [w]
  | [], _ => rfl
  | b :: w, h => by
    have hb : b ≠ 32 := fun z => h (by rw [z]; exact List.mem_cons_self)
    show (if b = 32 then [] :: cut w else match cut w with
      | [] => [[b]]
      | w :: l => (b :: w) :: l) = _
    rw [if_neg hb, cut_last w fun z => h (List.mem_cons_of_mem _ z)]
theorem cut_joined : ∀ ws : List (List Nat), ws ≠ [] → (∀ w ∈ ws, 32 ∉ w) → cut (joined ws) = ws
  | [], h, _ => absurd rfl h
  | [w], _, h => cut_last w (h w List.mem_cons_self)
  | w :: v :: r, _, h => by
    show cut (w ++ 32 :: joined (v :: r)) = _
    rw [cut_word w _ (h w List.mem_cons_self), cut_joined (v :: r) (List.cons_ne_nil _ _) fun x hx => h x (List.mem_cons_of_mem _ hx)]
theorem no_blank {c : Nat} (h : c ≤ 37) : 32 ∉ callText c := by
  have : ∀ c : Fin 38, (callText c.1).contains 32 = false := by decide
  have := this ⟨c, by omega⟩
  rw [List.contains_eq_mem] at this
  exact of_decide_eq_false this
theorem read_textOf {d : Nat} {l : Mad} (hc : Calls l) : readText d (textOf l) = readWords d [] 0 (l.map fun x => callText x.2) := by
  unfold Vbbrac.readText
  cases l with
  | nil => rfl
  | cons x r =>
    have hne : (textOf (x :: r)).isEmpty = false := by
      have := textOf_pos (List.cons_ne_nil x r)
      cases e : textOf (x :: r) with
      | nil => rw [e] at this; exact absurd this (by decide)
      | cons y q => rfl
    rw [hne, if_neg Bool.false_ne_true]
    unfold Vbbrac.textOf
    rw [cut_joined]
    · rw [List.map_cons]; exact List.cons_ne_nil _ _
    · intro w hw
      obtain ⟨y, hy, rfl⟩ := List.mem_map.mp hw
      exact no_blank (hc y hy)
/-- what is read goes on from what was there, turn by turn -/
theorem readWords_ok {d : Nat} : ∀ {ws : List (List Nat)} {l m : Mad} {at_ : Nat}, readWords d l at_ ws = .ok m → ∃ rest, m = l ++ rest ∧ TurnBy d l rest = true ∧ Calls rest
  | [], l, m, at_, h => by
    have h : Except.ok l = (Except.ok m : Except (Nat × Nat) Mad) := h
    cases h
    exact ⟨[], (List.append_nil l).symm, rfl, fun _ h => by cases h⟩
  | w :: r, l, m, at_, h => by
    rw [readWords_step] at h
    by_cases h0 : wrongN d l w = 0
    · rw [if_pos h0] at h
      obtain ⟨c, hc, h37, hleg⟩ := wrong_zero h0
      rw [hc] at h
      obtain ⟨rest, h1, h2, h3⟩ := readWords_ok h
      refine ⟨(turn d l, c) :: rest, by rw [h1, List.append_assoc]; rfl, ?_, ?_⟩
      · show (decide (turn d l = turn d l) && (legal l (turn d l) c && TurnBy d (l ++ [(turn d l, c)]) rest)) = true
        rw [decide_eq_true rfl, hleg]
        exact h2
      · intro y hy
        rcases List.mem_cons.mp hy with rfl | hy
        · exact h37
        · exact h3 y hy
    · rw [if_neg h0] at h; cases h
theorem readWords_turn {d : Nat} : ∀ (rest l : Mad) (at_ : Nat), Calls rest → TurnBy d l rest = true → readWords d l at_ (rest.map fun x => callText x.2) = .ok (l ++ rest)
  | [], l, _, _, _ => by rw [List.append_nil]; rfl
  | x :: r, l, at_, hc, ht => by
    have ht : decide (x.1 = turn d l) = true ∧ legal l x.1 x.2 = true ∧ TurnBy d (l ++ [x]) r = true := by
      have : (decide (x.1 = turn d l) && (legal l x.1 x.2 && TurnBy d (l ++ [x]) r)) = true := ht
      rw [Bool.and_eq_true, Bool.and_eq_true] at this
      exact this
    have h1 := of_decide_eq_true ht.1
    have hx : x.2 ≤ 37 := hc x List.mem_cons_self
    have hof : callOfText (callText x.2) = some x.2 := callOf_iff.mpr ⟨hx, rfl⟩
    have h0 : wrongN d l (callText x.2) = 0 := by
      unfold wrongN
      rw [hof]
      show (if over l = true then 3 else if legal l (turn d l) x.2 = true then 0 else 2) = 0
      rw [← h1, if_neg (by rw [legal_not_over ht.2.1]; exact Bool.false_ne_true), if_pos ht.2.1]
    rw [List.map_cons, readWords_step, if_pos h0, hof]
    show readWords d (l ++ [(turn d l, x.2)]) _ _ = _
    rw [← h1]
    show readWords d (l ++ [x]) _ _ = _
    rw [readWords_turn r (l ++ [x]) _ (fun y hy => hc y (List.mem_cons_of_mem _ hy)) ht.2.2, List.append_assoc]
    rfl
theorem number_is {d : Nat} {l : Mad} (hc : Calls l) : (match readText d (textOf l) with
    | .error _ => [-11]
    | .ok m => if m = l then Vbbrac.ok (decimal (rankFrom d [] (l.map fun x => x.2))) else [-11]) = (match numI' d l with
    | none => [-11]
    | some n => Vbbrac.ok (decimal n)) := by
  rw [read_textOf hc]
  unfold numI'
  by_cases ht : TurnBy d [] l = true
  · rw [if_pos ht, readWords_turn l [] 0 hc ht]
    show (if [] ++ l = l then _ else _) = _
    rw [if_pos (List.nil_append l)]
  · rw [if_neg ht]
    cases e : readWords d [] 0 (l.map fun x => callText x.2) with
    | error z => rfl
    | ok m =>
      show (if m = l then _ else _) = _
      rw [if_neg fun z => ?_]
      obtain ⟨rest, h1, h2, _⟩ := readWords_ok e
      rw [List.nil_append] at h1
      rw [← z, h1] at ht
      exact ht h2
/-! ### lengths -/
theorem turn_len {d : Nat} : ∀ (rest l : Mad), TurnBy d l rest = true → Fine l → Calls rest → (l ++ rest).length + Phi (l ++ rest) ≤ l.length + Phi l
  | [], l, _, _, _ => by rw [List.append_nil]; exact Nat.le_refl _
  | x :: r, l, ht, hf, hc => by
    have ht : decide (x.1 = turn d l) = true ∧ legal l x.1 x.2 = true ∧ TurnBy d (l ++ [x]) r = true := by
      have : (decide (x.1 = turn d l) && (legal l x.1 x.2 && TurnBy d (l ++ [x]) r)) = true := ht
      rw [Bool.and_eq_true, Bool.and_eq_true] at this
      exact this
    have h1 := of_decide_eq_true ht.1
    have hx : x.2 ≤ 37 := hc x List.mem_cons_self
    have hleg : legal l (turn d l) x.2 = true := by rw [← h1]; exact ht.2.1
    have ih := turn_len r (l ++ [x]) ht.2.2 (fine_snoc hf (put_legal ht.2.1)) fun y hy => hc y (List.mem_cons_of_mem _ hy)
    have hp := phi_step hf hx hleg
    rw [← h1] at hp
    have hp : Phi (l ++ [x]) + 1 ≤ Phi l := hp
    rw [List.append_assoc] at ih
    have ih : (l ++ x :: r).length + Phi (l ++ x :: r) ≤ (l ++ [x]).length + Phi (l ++ [x]) := ih
    rw [List.length_append (as := l) (bs := [x])] at ih
    have : [x].length = 1 := rfl
    omega
theorem read_len {d : Nat} {t : List Nat} {m : Mad} (h : readText d t = .ok m) : TurnBy d [] m = true ∧ Calls m ∧ m.length ≤ 319 := by
  unfold Vbbrac.readText at h
  have : TurnBy d [] m = true ∧ Calls m := by
    split at h
    · cases h; exact ⟨rfl, fun _ h => by cases h⟩
    · obtain ⟨rest, h1, h2, h3⟩ := readWords_ok h
      rw [List.nil_append] at h1
      rw [h1]; exact ⟨h2, h3⟩
  refine ⟨this.1, this.2, ?_⟩
  have := turn_len m [] this.1 fine_nil this.2
  rw [List.nil_append, phi_nil] at this
  have h0 : ([] : Mad).length = 0 := rfl
  omega
theorem pick_mem {d : Nat} {l : Mad} {s : Nat} : ∀ {cs : List Nat} {n : Nat} {x : Nat × Nat}, pick d l s cs n = some x → x.1 ∈ cs
  | [], n, x, h => by cases h
  | c :: r, n, x, h => by
    have h : (if n < ways d (l ++ [(s, c)]) then some (c, n) else pick d l s r (n - ways d (l ++ [(s, c)]))) = some x := h
    split at h
    · cases h; exact List.mem_cons_self
    · exact List.mem_cons_of_mem _ (pick_mem h)
theorem nth_len {d : Nat} : ∀ (k : Nat) (l : Mad) (n : Nat), Calls l → Calls (nth d k l n) ∧ (nth d k l n).length ≤ l.length + k
  | 0, l, n, h => ⟨h, Nat.le_refl _⟩
  | k + 1, l, n, h => by
    show Calls (if over l = true then l else match pick d l (turn d l) (legals l (turn d l)) n with
      | none => l
      | some x => nth d k (l ++ [(turn d l, x.1)]) x.2) ∧ (if over l = true then l else match pick d l (turn d l) (legals l (turn d l)) n with
      | none => l
      | some x => nth d k (l ++ [(turn d l, x.1)]) x.2).length ≤ _
    split
    · exact ⟨h, by omega⟩
    · cases e : pick d l (turn d l) (legals l (turn d l)) n with
      | none => exact ⟨h, by show l.length ≤ _; omega⟩
      | some x =>
        have hm := List.mem_range.mp (List.mem_filter.mp (pick_mem e)).1
        obtain ⟨h1, h2⟩ := nth_len k (l ++ [(turn d l, x.1)]) x.2 (calls_snoc h (by omega))
        refine ⟨h1, Nat.le_trans h2 ?_⟩
        rw [List.length_append]
        show l.length + 1 + k ≤ _
        omega
/-! ### the table behind a text that was read -/
structure Clean (d v : Nat) (pre : Mad) (s : State) : Prop where
  made : s.made = pre
  waits : s.waits = none
  mend : s.mend = none
  barred : s.barred = []
  once : s.once = []
  on : s.on = true
  dealer : s.dealer = d
  vul : s.vul = v
  deeds : s.deeds = pre.map fun x => (0, x.1, x.2)
theorem clean_begun (d v : Nat) : Clean d v [] (begun d v) := ⟨rfl, rfl, rfl, rfl, rfl, rfl, rfl, rfl, rfl⟩
theorem clean_step {d v : Nat} {pre : Mad} {s : State} (h : Clean d v pre s) {x : Nat × Nat} (hx : x.1 = turn d pre) (hl : legal pre x.1 x.2 = true) : whyN s x.1 x.2 = 0 ∧ Clean d v (pre ++ [x]) (dd s (takeS s x.1 x.2).1 (0, x.1, x.2)) := by
  obtain ⟨h1, h2, h3, h4, h5, h6, h7, h8, h9⟩ := h
  have ht : Vbbrac.turnOf s = x.1 := by unfold Vbbrac.turnOf; rw [h1, h7, hx]
  constructor
  · unfold whyN mustPass
    rw [h1, legal_not_over hl, if_neg Bool.false_ne_true, h2, if_neg (by decide), h4, h5, if_neg (fun z => by cases z.2), h3, if_neg (fun z => by cases z.1)]
  · have he : Vbbrac.empty_ pre x.1 x.2 = false := by
      unfold Vbbrac.empty_
      have hm := put_legal hl
      rcases hm with e | e | ⟨e, y, g1, g2, g3⟩ | ⟨e, y, g1, g2, g3⟩
      · rw [e]; rfl
      · have e1 : (x.2 == 1) = false := by rw [Bool.beq_eq_decide_eq]; exact decide_eq_false (by omega)
        have e2 : (x.2 == 2) = false := by rw [Bool.beq_eq_decide_eq]; exact decide_eq_false (by omega)
        rw [e1, e2]; rfl
      · have : Vbbrac.mayDouble pre x.1 = true := by unfold Vbbrac.mayDouble Vbbrac.sameSide; rw [g1]; simp [g2, g3]
        rw [e, this]; rfl
      · have : Vbbrac.mayRedouble pre x.1 = true := by unfold Vbbrac.mayRedouble Vbbrac.sameSide; rw [g1]; simp [g2, g3]
        rw [e, this]; rfl
    have hS : takeS s x.1 x.2 = (Vbbrac.stands s x.1 x.2, 0) := by
      unfold takeS
      rw [h1, he, if_neg Bool.false_ne_true, ht, if_neg (fun z => z rfl), hl, if_neg Bool.noConfusion, h3]
    rw [hS]
    refine ⟨?_, rfl, rfl, h4, ?_, h6, h7, h8, ?_⟩
    · show s.made ++ [(x.1, x.2)] = _
      rw [h1]
    · show s.once.filter _ = []
      rw [h5]; rfl
    · show s.deeds ++ [(0, x.1, x.2)] = _
      rw [h9, List.map_append]; rfl
end Bb
namespace Bb
open PySem PySem.Spec PyProof.Rows L2 Evl
open PySem.W (Codec)
open Vbbrac (State Call ranged nats decimal textOf)
theorem dec_len (n : Nat) : (decimal n).length ≤ 60 := by
  have : ∀ k n, (Vbbrac.digits k n).length ≤ k := by
    intro k
    induction k with
    | zero => intro n; exact Nat.le_refl _
    | succ k ih =>
      intro n
      unfold Vbbrac.digits
      split
      · show 1 ≤ k + 1; omega
      · rw [List.length_append]; have := ih (n / 10); show _ + 1 ≤ _; omega
  exact this 60 n
theorem numI_is (d : Nat) (l : Mad) : numI' d l = numI d l := rfl
theorem turnby_tail {d : Nat} : ∀ {a l b : Mad}, TurnBy d l (a ++ b) = true → TurnBy d (l ++ a) b = true
  | [], l, b, h => by rw [List.append_nil]; exact h
  | x :: r, l, b, h => by
    have h : (decide (x.1 = Vbbrac.turn d l) && (Vbbrac.legal l x.1 x.2 && TurnBy d (l ++ [x]) (r ++ b))) = true := h
    rw [Bool.and_eq_true, Bool.and_eq_true] at h
    have := turnby_tail h.2.2
    rw [List.append_assoc] at this
    exact this
theorem turnby_head {d : Nat} {x : Nat × Nat} {l r : Mad} (h : TurnBy d l (x :: r) = true) : x.1 = Vbbrac.turn d l ∧ Vbbrac.legal l x.1 x.2 = true := by
  have h : (decide (x.1 = Vbbrac.turn d l) && (Vbbrac.legal l x.1 x.2 && TurnBy d (l ++ [x]) r)) = true := h
  rw [Bool.and_eq_true, Bool.and_eq_true] at h
  exact ⟨of_decide_eq_true h.1, h.2.1⟩
theorem readWords_err {d : Nat} : ∀ {ws : List (List Nat)} {l : Mad} {at_ : Nat} {e : Nat × Nat}, Vbbrac.readWords d l at_ ws = .error e → e.1 ≠ 0
  | [], l, at_, e, h => by cases h
  | w :: r, l, at_, e, h => by
    rw [readWords_step] at h
    by_cases h0 : wrongN d l w = 0
    · rw [if_pos h0] at h; exact readWords_err h
    · rw [if_neg h0] at h; cases h; exact h0
theorem readText_err {d : Nat} {t : List Nat} {e : Nat × Nat} (h : Vbbrac.readText d t = .error e) : e.1 ≠ 0 := by
  unfold Vbbrac.readText at h
  split at h
  · cases h
  · exact readWords_err h
section
variable [GX] {P : Program} {w : World} {K : PySem.W.Frag} {mg : Str → Option Value} {base : Heap} {fa : Nat → Addr} {fd : Nat → FuncData} {CA CW CP CS aN aR aA aW aO : Addr}
section
variable {σ : L2.St} {H : Hp} {ta tb tc : TE} {tt : TT} {xs : List V} {E E' : XK} {sa L a m : Addr} {ss : List State} {s : State} {D : Ends} {tz : TS} {d i c : Nat} {l : Mad}
theorem el_if {b : Bool} (h : EvT tt σ H b) (h1 : b = true → EvL ta σ H xs) (h2 : b = false → EvL tb σ H xs) : EvL (tIf tt ta tb) σ H xs := fun H1 e Q q => h H1 e _ fun H2 e2 => by
  cases b with
  | true =>
    show ta σ H2 Q
    exact h1 rfl H2 (e.trans e2) Q fun p H3 hp e3 h3 => q p H3 (fresh_back e2 hp) (e2.trans e3) h3
  | false =>
    show tb σ H2 Q
    exact h2 rfl H2 (e.trans e2) Q fun p H3 hp e3 h3 => q p H3 (fresh_back e2 hp) (e2.trans e3) h3
theorem el_neg1 {z : Int} (h : Ev ta σ H (.int z)) : EvL (tLst (tCons ta tNil)) σ H ([z].map V.int) := el_lst (vs := [.int z]) (ea_cons h ea_nil) (by show 1 ≤ 100000; decide)
theorem ev_waysOnL (h1 : Ev ta σ H (.ref a)) (h2 : EvL tb σ H (aboveL.map iV)) (hA : AucM CA H a m d l) (hc : Calls l) (hg : Good l) : Ev (tCall (spWaysOn K CA) [] E (tCons ta (tCons tb tNil))) σ H (iV (Vbbrac.ways d l)) := fun H1 e Q q =>
  h1 H1 e _ fun H2 e2 => h2 H2 (e.trans e2) _ fun p H3 hp e3 h3 => ⟨a, m, d, l, p, rfl, hA.mono ((e.trans e2).trans e3), hc, hg, sq_of h3, fun H4 e4 => q H4 ((e2.trans e3).trans e4)⟩
theorem el_lookG {te : TE} {t : List Nat} {b : Addr} (h : ∀ H1, Ex H H1 → EvP te σ H1 (NewA CA H1 d [])) (h2 : Ev tb σ H (.ref b)) (hb : H b = some (.lst (t.map iV))) (hl : t.length ≤ 1000) : EvL (tCall (spMakeWords K CA) [] E (tCons te (tCons tb tNil))) σ H ((lookL d t).map iV) := fun H1 e Q q =>
  h H1 e H1 (Ex.refl _) _ fun v H2 e2 hn => by
    obtain ⟨x, m, rfl, hx, hm, hA⟩ := hn
    exact h2 H2 (e.trans e2) _ fun H3 e3 => ⟨x, m, d, b, t, rfl, hA.mono e3, e3 _ _ (e2 _ _ (e _ _ hb)), hl, fun p H4 hp f h4 _ => q p H4 (fresh_back (e2.trans e3) hp) (fun z o hz => f _ _ (e3 _ _ (e2 _ _ hz)) fun y => by rw [y, hm] at hz; cases hz) h4⟩
theorem el_look {t : List Nat} {b : Addr} (h : Ev ta σ H (iV d)) (h2 : Ev tb σ H (.ref b)) (hb : H b = some (.lst (t.map iV))) (hl : t.length ≤ 1000) : EvL (tCall (spMakeWords K CA) [] E (tCons (tMake CA (spAInit CA) [] E' (tCons ta tNil)) (tCons tb tNil))) σ H ((lookL d t).map iV) := el_lookG (fun H1 e => evp_newA (h.mono e)) h2 hb hl
theorem Tup2.hid {v : V} {x : Nat × Nat} {dx : Addr} {fs : List (Str × V)} (h : Tup2 H v x) (h1 : H sa = some (.ins CS dx fs)) (h2 : H L = none) (hg : ∃ gs, H GX.gx = some (.lst gs)) : Tup2 (hid sa L H) v x := by
  obtain ⟨q, rfl, g⟩ := h
  obtain ⟨gs, hg⟩ := hg
  refine ⟨q, rfl, hid_of g (fun z => ?_) (fun z => ?_) (ne_kind g hg tup_ne_lst)⟩
  · rw [z, h1] at g; cases g
  · rw [z, h2] at g; cases g
theorem Tups.hid {dx : Addr} {fs : List (Str × V)} (h1 : H sa = some (.ins CS dx fs)) (h2 : H L = none) (hg : ∃ gs, H GX.gx = some (.lst gs)) : ∀ {vs : List V} {l : Mad}, Tups H vs l → Tups (hid sa L H) vs l
  | _, _, .nil => .nil
  | _, _, .cons g r => .cons (g.hid h1 h2 hg) (Tups.hid h1 h2 hg r)
theorem AucM.hid {dx : Addr} {fs : List (Str × V)} (h : AucM CA H a m d l) (h1 : H sa = some (.ins CS dx fs)) (h2 : H L = none) (n : a ≠ sa) (hg : ∃ gs, H GX.gx = some (.lst gs)) (nm : m ≠ GX.gx) : AucM CA (hid sa L H) a m d l := by
  obtain ⟨⟨da, g1⟩, vs, g2, g3⟩ := h
  obtain ⟨gs, hg⟩ := hg
  exact ⟨⟨da, hid_of g1 n (fun z => by rw [z, h2] at g1; cases g1) (ne_kind g1 hg ins_ne_lst)⟩, vs, hid_of g2 (fun z => by rw [z, h1] at g2; cases g2) (fun z => by rw [z, h2] at g2; cases g2) nm, g3.hid h1 h2 ⟨gs, hg⟩⟩
end
theorem ok_answer_ways (T : Txt K mg fa fd CA CW CP CS aN aR aA aW aO) : FnOk P w K mg base CX0 11 (fa 64) (fd 64) P_answer_ways (spAns CA CW CP CS 8) := by
  refine T.d_answer_ways.F.ok sc_answer_ways (fun vs H Q E h => ?_) (fun cdv A outer s H vs Q E hr h => ⟨_, (pss_cons (ps_if (pt_cmpR op_notN (pe_fld (pe_meth0 (pv 0) T.cl_CS T.m_s_now (ok_s_now T) (hr.mono (by decide)) T.d_s_now.b .nil pass0) rfl) pe_non (nomark _)) (pss_one (ps_ret (pe_lst (pa_cons (pe_un un_neg pe_int) pa_nil)))) pss_nil) (pss_one (ps_ret (pe_op op_cat (pe_lst (pa_cons pe_int pa_nil)) (pe_call (ok_numeral T) (hr.mono (by decide)) rfl T.m_numeral T.d_numeral.F.kp T.d_numeral.b .nil pass0 (pa_cons (pe_call (ok_ways_on T) (hr.mono (by decide)) rfl T.m_ways_on T.d_ways_on.F.kp T.d_ways_on.b .nil pass0 (pa_cons (pe_fld (pe_meth0 (pv 0) T.cl_CS T.m_s_now (ok_s_now T) (hr.mono (by decide)) T.d_s_now.b .nil pass0) rfl) (pa_cons (pe_call0 (ok_ways_above T) (hr.mono (by decide)) rfl T.m_ways_above T.d_ways_above.F.kp T.d_ways_above.b .nil pass0) pa_nil))) pa_nil)))))), ?_⟩)
  · obtain ⟨sa, L, ss, s, pa, ta, pl, tx, c, rfl, _⟩ := h; rfl
  · obtain ⟨sa, L, ss, s, pa, ta, pl, tx, c, rfl, hS, hst, hp, ht, hc, hr, hn, hl, hl2, k⟩ := h
    obtain ⟨rfl, rfl⟩ : pl = [] ∧ c = .ways := by
      match pl, hc with
      | [], hc => exact ⟨rfl, (Option.some.inj hc).symm⟩
    have hon := hn rfl
    have hh := st_hist hst hon
    have hw := (hh.all s hh.mem).1
    have hact : Vbbrac.step s .ways = (s, if s.waits.isSome = true then [-5] else Vbbrac.ok (decimal (Vbbrac.ways s.dealer s.made))) := step_act hr hon rfl
    have kk := done_pure k hS hst hact
    obtain ⟨p, a, m, bl, ol, us, hu, hpl, hP⟩ := now_of hS hh.last
    have hP := hP.mono hid_ex
    refine q_when (et_test (ev_waitS T (ev_now (ev_var rfl) hS hu hpl) hP)) (fun hb H1 e1 => ?_) (fun hb H1 e1 => ?_)
    · rw [if_pos hb] at kk
      exact s_ret1 (ev_un ev_c ru_neg) (retl_back kk e1)
    · rw [if_neg (by rw [hb]; exact Bool.false_ne_true), ok_map] at kk
      have hlen := dec_len (Vbbrac.ways s.dealer s.made)
      exact s_retL (el_catLL el_zero (el_numeral (ev_waysOnL (ev_auction T (ev_now (ev_var rfl) (hS.mono e1) (e1 _ _ hu) hpl) (hP.mono e1)) el_above (hP.auc.mono e1) hw.calls hw.fine.1) (ways_lt hw.fine.1)) (by rw [List.length_map]; show 1 + _ ≤ 100000; omega)) (retl_back kk e1)
theorem ok_answer_longest (T : Txt K mg fa fd CA CW CP CS aN aR aA aW aO) : FnOk P w K mg base CX0 12 (fa 65) (fd 65) P_answer_longest (spAns CA CW CP CS 9) := by
  refine T.d_answer_longest.F.ok sc_answer_longest (fun vs H Q E h => ?_) (fun cdv A outer s H vs Q E hr h => ⟨_, (pss_cons (ps_if (pt_cmpR op_notN (pe_fld (pe_meth0 (pv 0) T.cl_CS T.m_s_now (ok_s_now T) (hr.mono (by decide)) T.d_s_now.b .nil pass0) rfl) pe_non (nomark _)) (pss_one (ps_ret (pe_lst (pa_cons (pe_un un_neg pe_int) pa_nil)))) pss_nil) (pss_one (ps_ret (pe_lst (pa_cons pe_int (pa_cons (pe_call (ok_longest_on T) (hr.mono (by decide)) rfl T.m_longest_on T.d_longest_on.F.kp T.d_longest_on.b .nil pass0 (pa_cons (pe_fld (pe_meth0 (pv 0) T.cl_CS T.m_s_now (ok_s_now T) (hr.mono (by decide)) T.d_s_now.b .nil pass0) rfl) pa_nil)) pa_nil)))))), ?_⟩)
  · obtain ⟨sa, L, ss, s, pa, ta, pl, tx, c, rfl, _⟩ := h; rfl
  · obtain ⟨sa, L, ss, s, pa, ta, pl, tx, c, rfl, hS, hst, hp, ht, hc, hr, hn, hl, hl2, k⟩ := h
    obtain ⟨rfl, rfl⟩ : pl = [] ∧ c = .longest := by
      match pl, hc with
      | [], hc => exact ⟨rfl, (Option.some.inj hc).symm⟩
    have hon := hn rfl
    have hh := st_hist hst hon
    have hw := (hh.all s hh.mem).1
    have hact : Vbbrac.step s .longest = (s, if s.waits.isSome = true then [-5] else Vbbrac.ok [Vbbrac.longest s.dealer s.made]) := step_act hr hon rfl
    have kk := done_pure k hS hst hact
    obtain ⟨p, a, m, bl, ol, us, hu, hpl, hP⟩ := now_of hS hh.last
    have hP := hP.mono hid_ex
    refine q_when (et_test (ev_waitS T (ev_now (ev_var rfl) hS hu hpl) hP)) (fun hb H1 e1 => ?_) (fun hb H1 e1 => ?_)
    · rw [if_pos hb] at kk
      exact s_ret1 (ev_un ev_c ru_neg) (retl_back kk e1)
    · rw [if_neg (by rw [hb]; exact Bool.false_ne_true), ok_map] at kk
      exact s_retL (el_lst (vs := [.int 0, iV (Vbbrac.longest s.dealer s.made)]) (ea_cons ev_c (ea_cons (ev_lgOn (ev_auction T (ev_now (ev_var rfl) (hS.mono e1) (e1 _ _ hu) hpl) (hP.mono e1)) (hP.auc.mono e1) hw.calls hw.fine.1) ea_nil)) (by show 2 ≤ 100000; decide)) (retl_back kk e1)
theorem ok_answer_number (T : Txt K mg fa fd CA CW CP CS aN aR aA aW aO) : FnOk P w K mg base CX0 14 (fa 66) (fd 66) P_answer_number (spAns CA CW CP CS 10) := by
  refine T.d_answer_number.F.ok sc_answer_number (fun vs H Q E h => ?_) (fun cdv A outer s H vs Q E hr h => ⟨_, (pss_cons (ps_set (i := 3) sc_answer_number.nd rfl (.inl rfl) (pe_fld (pe_meth0 (pv 0) T.cl_CS T.m_s_now (ok_s_now T) (hr.mono (by decide)) T.d_s_now.b .nil pass0) rfl)) (pss_cons (ps_if (pt_not (pt_val (pe_meth0 (pv 3) T.cl_CA T.m_a_over (ok_a_over T) (hr.mono (by decide)) T.d_a_over.b .nil pass0))) (pss_one (ps_ret (pe_lst (pa_cons (pe_un un_neg pe_int) pa_nil)))) pss_nil) (pss_cons (ps_set (i := 4) sc_answer_number.nd rfl (.inl rfl) (pe_call (ok_number_of T) (hr.mono (by decide)) rfl T.m_number_of T.d_number_of.F.kp T.d_number_of.b .nil pass0 (pa_cons (pv 3) pa_nil))) (pss_one (ps_ret (pe_ifExp (pt_cmpR op_isN (pv 4) pe_non (nomark _)) (pe_lst (pa_cons (pe_un un_neg pe_int) pa_nil)) (pe_op op_cat (pe_lst (pa_cons pe_int pa_nil)) (pe_call (ok_numeral T) (hr.mono (by decide)) rfl T.m_numeral T.d_numeral.F.kp T.d_numeral.b .nil pass0 (pa_cons (pv 4) pa_nil))))))))), ?_⟩)
  · obtain ⟨sa, L, ss, s, pa, ta, pl, tx, c, rfl, _⟩ := h; rfl
  · obtain ⟨sa, L, ss, s, pa, ta, pl, tx, c, rfl, hS, hst, hp, ht, hc, hr, hn, hl, hl2, k⟩ := h
    obtain ⟨rfl, rfl⟩ : pl = [] ∧ c = .number := by
      match pl, hc with
      | [], hc => exact ⟨rfl, (Option.some.inj hc).symm⟩
    have hon := hn rfl
    have hh := st_hist hst hon
    have hw := (hh.all s hh.mem).1
    have hml := (hh.all s hh.mem).2.1
    have hcap := hh.cap
    have hact : Vbbrac.step s .number = (s, if Vbbrac.over s.made = false then [-10] else match numI s.dealer s.made with
        | none => [-11]
        | some n => Vbbrac.ok (decimal n)) := (step_act hr hon rfl).trans (congrArg (fun z => (s, if Vbbrac.over s.made = false then [-10] else z)) (number_is (d := s.dealer) hw.calls))
    have kk := done_pure k hS hst hact
    obtain ⟨p, a, m, bl, ol, us, hu, hpl, hP⟩ := now_of hS hh.last
    have hP := hP.mono hid_ex
    refine q_asg (ev_auction T (ev_now (ev_var rfl) hS hu hpl) hP) fun H1 e1 => ?_
    have hA := hP.auc.mono e1
    refine q_when (et_not (et_B (ev_auc (f := fun _ l => .bl (Vbbrac.over l)) (ev_var rfl) hA))) (fun hb H2 e2 => ?_) (fun hb H2 e2 => ?_)
    · rw [if_pos (by simpa using hb)] at kk
      exact s_ret1 (ev_un ev_c ru_neg) (retl_back kk (e1.trans e2))
    · have ho : Vbbrac.over s.made = true := by simpa using hb
      rw [if_neg (by simpa using hb)] at kk
      refine q_asg (ev_numberOf (ev_var rfl) (hA.mono e2) (by omega) hw.calls) fun H3 e3 => ?_
      cases en : numI s.dealer s.made with
      | none =>
        rw [en] at kk
        exact s_retL (el_if (b := true) (et_test (ev_is (ev_isN (ev_var rfl)) (by rw [decide_eq_true (by rfl)]))) (fun _ => el_neg1 (z := -11) (ev_un ev_c ru_neg)) (fun h => by cases h)) (retl_back kk ((e1.trans e2).trans e3))
      | some n =>
        rw [en] at kk
        have kk : RetL ((Vbbrac.ok (decimal n)).map V.int) H Q := kk
        rw [ok_map] at kk
        have hlt := num_lt (d := s.dealer) (l := s.made) (n := n) en ho hw.calls
        have hlen := dec_len n
        exact s_retL (el_if (b := false) (et_test (ev_is (ev_isN (ev_var rfl)) (by rw [decide_eq_false (fun h => by cases h)]))) (fun h => by cases h) (fun _ => el_catLL el_zero (el_numeral (n := n) (ev_var rfl) hlt) (by rw [List.length_map]; show 1 + _ ≤ 100000; omega))) (retl_back kk ((e1.trans e2).trans e3))
theorem ok_answer_text (T : Txt K mg fa fd CA CW CP CS aN aR aA aW aO) : FnOk P w K mg base CX0 4 (fa 68) (fd 68) P_answer_text (spAns CA CW CP CS 12) := by
  refine T.d_answer_text.F.ok sc_answer_text (fun vs H Q E h => ?_) (fun cdv A outer s H vs Q E hr h => ⟨_, (pss_one (ps_ret (pe_op op_cat (pe_lst (pa_cons pe_int pa_nil)) (pe_call (ok_auction_text T) (hr.mono (by decide)) rfl T.m_auction_text T.d_auction_text.F.kp T.d_auction_text.b .nil pass0 (pa_cons (pe_fld (pe_meth0 (pv 0) T.cl_CS T.m_s_now (ok_s_now T) (hr.mono (by decide)) T.d_s_now.b .nil pass0) rfl) pa_nil))))), ?_⟩)
  · obtain ⟨sa, L, ss, s, pa, ta, pl, tx, c, rfl, _⟩ := h; rfl
  · obtain ⟨sa, L, ss, s, pa, ta, pl, tx, c, rfl, hS, hst, hp, ht, hc, hr, hn, hl, hl2, k⟩ := h
    obtain ⟨rfl, rfl⟩ : pl = [] ∧ c = .text := by
      match pl, hc with
      | [], hc => exact ⟨rfl, (Option.some.inj hc).symm⟩
    have hon := hn rfl
    have hh := st_hist hst hon
    have hw := (hh.all s hh.mem).1
    have hml := (hh.all s hh.mem).2.1
    have hcap := hh.cap
    have hact : Vbbrac.step s .text = (s, Vbbrac.ok (textOf s.made)) := step_act hr hon rfl
    have kk := done_pure k hS hst hact
    rw [ok_map] at kk
    obtain ⟨p, a, m, bl, ol, us, hu, hpl, hP⟩ := now_of hS hh.last
    have hP := hP.mono hid_ex
    have htl := textOf_len s.made
    exact s_retL (el_catLL el_zero (el_aucText (ev_auction T (ev_now (ev_var rfl) hS hu hpl) hP) hP.auc hw.calls (by omega)) (by rw [List.length_map]; show 1 + _ ≤ 100000; omega)) kk
theorem ok_answer_made (T : Txt K mg fa fd CA CW CP CS aN aR aA aW aO) : FnOk P w K mg base CX0 2 (fa 71) (fd 71) P_answer_made (spAns CA CW CP CS 15) := by
  refine T.d_answer_made.F.ok sc_answer_made (fun vs H Q E h => ?_) (fun cdv A outer s H vs Q E hr h => ⟨_, (pss_cons (ps_set (i := 3) sc_answer_made.nd rfl (.inl rfl) (pe_lst (pa_cons pe_int pa_nil))) (pss_cons (ps_for PassesOwn.never rfl (pi_list (pe_fld (pe_fld (pe_meth0 (pv 0) T.cl_CS T.m_s_now (ok_s_now T) (hr.mono (by decide)) T.d_s_now.b .nil pass0) rfl) rfl)) (pg_tup (by rfl) (pgs_cons (pg_name (i := 4) sc_answer_made.nd rfl (.inl rfl)) (pgs_cons (pg_name (i := 5) sc_answer_made.nd rfl (.inl rfl)) pgs_nil))) (pss_one (ps_expr (pe_bm PySem.F.plainAttrs_list PySem.F.slot_list_extend PySem.F.type_list_extend mt_extend (pv 3) (pa_cons (pe_lst (pa_cons (pv 4) (pa_cons (pv 5) pa_nil))) pa_nil))))) (pss_one (ps_ret (pv 3))))), ?_⟩)
  · obtain ⟨sa, L, ss, s, pa, ta, pl, tx, c, rfl, _⟩ := h; rfl
  · obtain ⟨sa, L, ss, s, pa, ta, pl, tx, c, rfl, hS, hst, hp, ht, hc, hr, hn, hl, hl2, k⟩ := h
    obtain ⟨rfl, rfl⟩ : pl = [] ∧ c = .made := by
      match pl, hc with
      | [], hc => exact ⟨rfl, (Option.some.inj hc).symm⟩
    have hon := hn rfl
    have hh := st_hist hst hon
    have hw := (hh.all s hh.mem).1
    have hml := (hh.all s hh.mem).2.1
    have hcap := hh.cap
    have hact : Vbbrac.step s .made = (s, Vbbrac.ok (s.made.flatMap fun x => [x.1, x.2])) := step_act hr hon rfl
    have kk := done_pure k hS hst hact
    rw [ok_map] at kk
    obtain ⟨p, a, m, bl, ol, us, hu, hpl, hP⟩ := now_of hS hh.last
    have hP := hP.mono hid_ex
    refine q_asgL (xs := [.int 0]) el_zero fun x H1 hx e1 h1 => ?_
    refine q_forMade2 (H0 := H) e1 hP.auc (ev_made T (ev_auction T (ev_now (ev_var rfl) (hS.mono e1) (e1 _ _ hu) hpl) (hP.mono e1)) (hP.auc.mono e1)) (fun pre σ' H' => Ex H H' ∧ H' x = some (.lst ([V.int 0] ++ (pre.flatMap fun x => [x.1, x.2]).map iV)) ∧ ∃ u v, σ' = [some (.ref sa), some (.ref pa), some (.ref ta), some (.ref x), u, v]) (fun H2 e2 => ⟨e1.trans e2, e2 _ _ h1, _, _, rfl⟩) (fun _ _ _ p => p.1) ?_ ?_
    · rintro pre y post σ' H' hl2 ⟨e2, h2, u, v, rfl⟩
      have hpre : (pre.flatMap fun x => [x.1, x.2]).length = 2 * pre.length := by
        clear hl2 h2
        induction pre with
        | nil => rfl
        | cons z r ih => rw [List.flatMap_cons, List.length_append, ih]; show 2 + 2 * r.length = 2 * (r.length + 1); omega
      have hpl2 : pre.length ≤ s.made.length := by rw [hl2, List.length_append]; omega
      refine s_extL (ys := [iV y.1, iV y.2]) h2 (ev_var rfl) (el_lst (ea_cons (ev_var rfl) (ea_cons (ev_var rfl) ea_nil)) (by show 2 ≤ 100000; decide)) ?_ fun H3 e3 => ⟨(e2.trans e3).mut hx, ?_, _, _, rfl⟩
      · rw [List.length_append, List.length_map, hpre]; show 1 + 2 * pre.length + 2 ≤ _; omega
      · rw [upd_same, List.flatMap_append, List.map_append, ← List.append_assoc]; rfl
    · rintro σ' H' ⟨e2, h2, u, v, rfl⟩
      exact s_ret (v := .ref x) (ev_var rfl) fun H3 e3 => kk x H3 hx (e2.trans e3) (e3 _ _ h2)
theorem ok_answer_named (T : Txt K mg fa fd CA CW CP CS aN aR aA aW aO) : FnOk P w K mg base CX0 3 (fa 72) (fd 72) P_answer_named (spAns CA CW CP CS 16) := by
  refine T.d_answer_named.F.ok sc_answer_named (fun vs H Q E h => ?_) (fun cdv A outer s H vs Q E hr h => ⟨_, (pss_cons (ps_set (i := 3) sc_answer_named.nd rfl (.inl rfl) (pe_meth (pe_fld (pe_meth0 (pv 0) T.cl_CS T.m_s_now (ok_s_now T) (hr.mono (by decide)) T.d_s_now.b .nil pass0) rfl) T.cl_CA T.m_a_first_to_bid (ok_a_first_to_bid T) (hr.mono (by decide)) T.d_a_first_to_bid.b .nil pass0 (pa_cons (pe_ix ix_list (pv 1) pe_int (fun _ _ => rfl)) (pa_cons (pe_ix ix_list (pv 1) pe_int (fun _ _ => rfl)) pa_nil)))) (pss_one (ps_ret (pe_lst (pa_cons pe_int (pa_cons (pe_ifExp (pt_cmpR op_isN (pv 3) pe_non (nomark _)) pe_int (pe_op op_add (pv 3) pe_int)) pa_nil)))))), ?_⟩)
  · obtain ⟨sa, L, ss, s, pa, ta, pl, tx, c, rfl, _⟩ := h; rfl
  · obtain ⟨sa, L, ss, s, pa, ta, pl, tx, c, rfl, hS, hst, hp, ht, hc, hr, hn, hl, hl2, k⟩ := h
    obtain ⟨a, b, rfl, rfl⟩ : ∃ a b, pl = [a, b] ∧ c = .named a b := by
      match pl, hc with
      | [a, b], hc => exact ⟨a, b, rfl, (Option.some.inj hc).symm⟩
    have hon := hn rfl
    have hh := st_hist hst hon
    have hr2 : Vbbrac.inside 0 1 a = true ∧ Vbbrac.inside 0 4 b = true := Bool.and_eq_true_iff.mp hr
    obtain ⟨i, rfl, _, _⟩ := inside_nat (lo := 0) (hi := 1) hr2.1
    obtain ⟨j, rfl, _, _⟩ := inside_nat (lo := 0) (hi := 4) hr2.2
    have hact : Vbbrac.step s (.named i j) = (s, match Vbbrac.firstNamed s.made i j with
      | some p => Vbbrac.ok [p + 1]
      | none => [0, 0]) := step_act hr hon rfl
    have kk := done_pure k hS hst hact
    obtain ⟨p, a, m, bl, ol, us, hu, hpl, hP⟩ := now_of hS hh.last
    have hP := hP.mono hid_ex
    refine q_asg (ev_first (ev_auction T (ev_now (ev_var rfl) hS hu hpl) hP) hP.auc (at_plain (i := 0) (ev_var rfl) hp rfl) (at_plain (i := 1) (ev_var rfl) hp rfl)) fun H1 e1 => ?_
    cases en : Vbbrac.firstNamed s.made i j with
    | none =>
      rw [en] at kk
      exact s_retL (el_lst (vs := [.int 0, .int 0]) (ea_cons ev_c (ea_cons (ev_if (b := true) (et_test (ev_is (ev_isN (ev_var rfl)) (by rw [decide_eq_true (by rfl)]))) (fun _ => ev_c) (fun h => by cases h)) ea_nil)) (by show 2 ≤ 100000; decide)) (retl_back kk e1)
    | some n =>
      rw [en] at kk
      exact s_retL (el_lst (vs := [.int 0, iV (n + 1)]) (ea_cons ev_c (ea_cons (ev_if (b := false) (et_test (ev_is (ev_isN (ev_var rfl)) (by rw [decide_eq_false (fun h => by cases h)]))) (fun h => by cases h) (fun _ => ev_addN (i := n) (j := 1) (ev_var rfl) ev_c)) ea_nil)) (by show 2 ≤ 100000; decide)) (retl_back kk e1)
end
end Bb
namespace Bb
open PySem PySem.Spec PyProof.Rows L2 Evl
open PySem.W (Codec)
open Vbbrac (State Call ranged nats decimal textOf)
theorem text_is {H : Hp} {ta : Addr} {tx : List Int} (h : H ta = some (.lst (tx.map V.int))) (hb : Vbbrac.isBytes tx = true) : H ta = some (.lst ((nats tx).map iV)) := by
  rw [h]
  congr 2
  conv => lhs; rw [bytes_nat hb]
  rw [List.map_map]; rfl
theorem nats_len (tx : List Int) : (nats tx).length = tx.length := List.length_map _
section
variable [GX] {P : Program} {w : World} {K : PySem.W.Frag} {mg : Str → Option Value} {base : Heap} {fa : Nat → Addr} {fd : Nat → FuncData} {CA CW CP CS aN aR aA aW aO : Addr}
theorem q_words {σ : L2.St} {H : Hp} {ta tb : TE} {E : XK} {D : Ends} {tz : TS} {i x m d b : Nat} {t : List Nat} (h1 : Ev ta σ H (.ref x)) (h2 : Ev tb σ H (.ref b)) (hA : AucM CA H x m d []) (hb : H b = some (.lst (t.map iV))) (hl : t.length ≤ 1000)
    (k : ∀ H2, Ex H H2 → ∀ p H', H2 p = none → Frm (· = m) H2 H' → H' p = some (.lst ((lookL d t).map iV)) → (∀ l, Vbbrac.readText d t = .ok l → AucM CA H' x m d l) → tz D (σ.set i (some (.ref p))) H') : tSeq (tAsg (tCall (spMakeWords K CA) [] E (tCons ta (tCons tb tNil))) (gName i)) tz D σ H :=
  h1 H (Ex.refl H) _ fun H1 e1 => h2 H1 e1 _ fun H2 e2 => ⟨x, m, d, b, t, rfl, hA.mono (e1.trans e2), e2 _ _ (e1 _ _ hb), hl, k H2 (e1.trans e2)⟩
theorem ok_answer_nth (T : Txt K mg fa fd CA CW CP CS aN aR aA aW aO) : FnOk P w K mg base CX0 15 (fa 67) (fd 67) P_answer_nth (spAns CA CW CP CS 11) := by
  refine T.d_answer_nth.F.ok sc_answer_nth (fun vs H Q E h => ?_) (fun cdv A outer s H vs Q E hr h => ⟨_, (pss_cons (ps_set (i := 3) sc_answer_nth.nd rfl (.inl rfl) (pe_call (ok_number_told T) (hr.mono (by decide)) rfl T.m_number_told T.d_number_told.F.kp T.d_number_told.b .nil pass0 (pa_cons (pv 2) pa_nil))) (pss_cons (ps_if (pt_cmpR op_isN (pv 3) pe_non (nomark _)) (pss_one (ps_ret (pe_lst (pa_cons (pe_un un_neg pe_int) pa_nil)))) pss_nil) (pss_cons (ps_set (i := 4) sc_answer_nth.nd rfl (.inl rfl) (pe_call (ok_auction_with T) (hr.mono (by decide)) rfl T.m_auction_with T.d_auction_with.F.kp T.d_auction_with.b .nil pass0 (pa_cons (pe_ix ix_list (pv 1) pe_int (fun _ _ => rfl)) (pa_cons (pv 3) pa_nil)))) (pss_one (ps_ret (pe_ifExp (pt_cmpR op_isN (pv 4) pe_non (nomark _)) (pe_lst (pa_cons (pe_un un_neg pe_int) pa_nil)) (pe_op op_cat (pe_lst (pa_cons pe_int pa_nil)) (pe_call (ok_auction_text T) (hr.mono (by decide)) rfl T.m_auction_text T.d_auction_text.F.kp T.d_auction_text.b .nil pass0 (pa_cons (pv 4) pa_nil))))))))), ?_⟩)
  · obtain ⟨sa, L, ss, s, pa, ta, pl, tx, c, rfl, _⟩ := h; rfl
  · obtain ⟨sa, L, ss, s, pa, ta, pl, tx, c, rfl, hS, hst, hp, ht, hc, hr, hn, hl, hl2, k⟩ := h
    obtain ⟨a, rfl, rfl⟩ : ∃ a, pl = [a] ∧ c = .nth a tx := by
      match pl, hc with
      | [a], hc => exact ⟨a, rfl, (Option.some.inj hc).symm⟩
    have hr2 : Vbbrac.isSeat a = true ∧ Vbbrac.isBytes tx = true := Bool.and_eq_true_iff.mp hr
    obtain ⟨d, rfl, hd⟩ := seat_nat hr2.1
    have ht := text_is ht hr2.2
    have hact : Vbbrac.step s (.nth d tx) = if Vbbrac.isNumeral (nats tx) = false then (s, [-12]) else if Vbbrac.BIGGEST ≤ Vbbrac.numeral (nats tx) then (s, [-13]) else (s, Vbbrac.ok (textOf (Vbbrac.nth d 320 [] (Vbbrac.numeral (nats tx))))) := by
      unfold Vbbrac.step
      rw [if_neg (by rw [hr]; exact Bool.noConfusion)]; rfl
    refine q_asg (ev_numTold (ev_var rfl) (sq_of ht)) fun H1 e1 => ?_
    cases en : Vbbrac.isNumeral (nats tx) with
    | false =>
      have e0 : toldN (nats tx) = none := by unfold toldN; rw [en]; exact if_neg Bool.false_ne_true
      rw [if_pos en] at hact
      rw [e0]
      refine q_when (b := true) (et_test (ev_is (ev_isN (ev_var rfl)) (by rw [decide_eq_true (by rfl)]))) (fun _ H2 e2 => ?_) (fun h => by cases h)
      exact s_ret1 (ev_un ev_c ru_neg) (retl_back (done_pure k hS hst hact) (e1.trans e2))
    | true =>
      have e0 : toldN (nats tx) = some (Vbbrac.numeral (nats tx)) := by unfold toldN; exact if_pos en
      rw [if_neg (by rw [en]; exact Bool.noConfusion)] at hact
      rw [e0]
      refine q_when (b := false) (et_test (ev_is (ev_isN (ev_var rfl)) (by rw [decide_eq_false (fun h => by cases h)]))) (fun h => by cases h) (fun _ H2 e2 => ?_)
      have e12 := e1.trans e2
      refine q_asgP (evp_aucWith (d := d) (n := Vbbrac.numeral (nats tx)) (at_plain (i := 0) (ev_var rfl) (e12 _ _ hp) rfl) (ev_var rfl)) fun v H3 e3 hv => ?_
      unfold NthP at hv
      by_cases hB : Vbbrac.BIGGEST ≤ Vbbrac.numeral (nats tx)
      · rw [if_pos hB] at hact hv
        subst hv
        exact s_retL (el_if (b := true) (et_test (ev_is (ev_isN (ev_var rfl)) (by rw [decide_eq_true (by rfl)]))) (fun _ => el_neg1 (z := -13) (ev_un ev_c ru_neg)) (fun h => by cases h)) (retl_back (done_pure k hS hst hact) (e12.trans e3))
      · rw [if_neg hB] at hact hv
        obtain ⟨x, m, rfl, _, _, hA⟩ := hv
        have kk := done_pure k hS hst hact
        rw [ok_map] at kk
        obtain ⟨n1, n2⟩ := nth_len (d := d) 320 [] (Vbbrac.numeral (nats tx)) fun _ h => by cases h
        have n2 : (Vbbrac.nth d 320 [] (Vbbrac.numeral (nats tx))).length ≤ 320 := Nat.le_trans n2 (by show 0 + 320 ≤ 320; omega)
        have htl := textOf_len (Vbbrac.nth d 320 [] (Vbbrac.numeral (nats tx)))
        exact s_retL (el_if (b := false) (et_test (ev_is (ev_isN (ev_var rfl)) (by rw [decide_eq_false (fun h => by cases h)]))) (fun h => by cases h) (fun _ => el_catLL el_zero (el_aucText (ev_var rfl) hA n1 (by omega)) (by rw [List.length_map]; show 1 + _ ≤ 100000; omega))) (retl_back kk (e12.trans e3))
theorem ok_answer_look (T : Txt K mg fa fd CA CW CP CS aN aR aA aW aO) : FnOk P w K mg base CX0 7 (fa 69) (fd 69) P_answer_look (spAns CA CW CP CS 13) := by
  refine T.d_answer_look.F.ok sc_answer_look (fun vs H Q E h => ?_) (fun cdv A outer s H vs Q E hr h => ⟨_, (pss_one (ps_ret (pe_op op_cat (pe_lst (pa_cons pe_int pa_nil)) (pe_call (ok_make_words T) (hr.mono (by decide)) rfl T.m_make_words T.d_make_words.F.kp T.d_make_words.b .nil pass0 (pa_cons (pe_make T.k_Auction (ok_a_init T) (hr.mono (by decide)) rfl T.c_Auction T.d_a_init.b .nil pass0 (pa_cons (pe_ix ix_list (pv 1) pe_int (fun _ _ => rfl)) pa_nil)) (pa_cons (pv 2) pa_nil)))))), ?_⟩)
  · obtain ⟨sa, L, ss, s, pa, ta, pl, tx, c, rfl, _⟩ := h; rfl
  · obtain ⟨sa, L, ss, s, pa, ta, pl, tx, c, rfl, hS, hst, hp, ht, hc, hr, hn, hl, hl2, k⟩ := h
    obtain ⟨a, rfl, rfl⟩ : ∃ a, pl = [a] ∧ c = .look a tx := by
      match pl, hc with
      | [a], hc => exact ⟨a, rfl, (Option.some.inj hc).symm⟩
    have hr2 : Vbbrac.isSeat a = true ∧ Vbbrac.isBytes tx = true := Bool.and_eq_true_iff.mp hr
    obtain ⟨d, rfl, hd⟩ := seat_nat hr2.1
    have ht := text_is ht hr2.2
    have hact : Vbbrac.step s (.look d tx) = (s, Vbbrac.ok (lookL d (nats tx))) := by
      unfold Vbbrac.step
      rw [if_neg (by rw [hr]; exact Bool.noConfusion)]
      show (s, match Vbbrac.readText d (nats tx) with
        | .error e => Vbbrac.ok [e.1, e.2]
        | .ok m => Vbbrac.ok [0, m.length]) = _
      unfold lookL
      cases Vbbrac.readText d (nats tx) <;> rfl
    have kk := done_pure k hS hst hact
    rw [ok_map] at kk
    have hlen : (lookL d (nats tx)).length = 2 := by
      unfold lookL
      cases Vbbrac.readText d (nats tx) <;> rfl
    exact s_retL (el_catLL el_zero (el_look (d := d) (at_plain (i := 0) (ev_var rfl) hp rfl) (ev_var rfl) ht (by rw [nats_len]; exact hl)) (by rw [List.length_map, hlen]; decide)) kk
theorem ok_answer_read (T : Txt K mg fa fd CA CW CP CS aN aR aA aW aO) : FnOk P w K mg base CX0 7 (fa 70) (fd 70) P_answer_read (spAns CA CW CP CS 14) := by
  refine T.d_answer_read.F.ok sc_answer_read (fun vs H Q E h => ?_) (fun cdv A outer s H vs Q E hr h => ⟨_, (pss_cons (ps_set (i := 3) sc_answer_read.nd rfl (.inl rfl) (pe_make T.k_Auction (ok_a_init T) (hr.mono (by decide)) rfl T.c_Auction T.d_a_init.b .nil pass0 (pa_cons (pe_ix ix_list (pv 1) pe_int (fun _ _ => rfl)) pa_nil))) (pss_cons (ps_set (i := 4) sc_answer_read.nd rfl (.inl rfl) (pe_call (ok_make_words T) (hr.mono (by decide)) rfl T.m_make_words T.d_make_words.F.kp T.d_make_words.b .nil pass0 (pa_cons (pv 3) (pa_cons (pv 2) pa_nil)))) (pss_cons (ps_if (pt_cmpR op_ne (pe_ix ix_list (pv 4) pe_int (fun _ _ => rfl)) (pe_globI rfl T.g_RIGHT) (nomark _)) (pss_one (ps_ret (pe_lst (pa_cons (pe_un un_neg pe_int) pa_nil)))) pss_nil) (pss_cons (ps_expr (pe_meth (pv 0) T.cl_CS T.m_s_start (ok_s_start T) (hr.mono (by decide)) T.d_s_start.b .nil pass0 (pa_cons (pe_ix ix_list (pv 1) pe_int (fun _ _ => rfl)) (pa_cons (pe_ix ix_list (pv 1) pe_int (fun _ _ => rfl)) pa_nil)))) (pss_cons (ps_for PassesOwn.never rfl (pi_list (pe_fld (pv 3) rfl)) (pg_tup (by rfl) (pgs_cons (pg_name (i := 5) sc_answer_read.nd rfl (.inl rfl)) (pgs_cons (pg_name (i := 6) sc_answer_read.nd rfl (.inl rfl)) pgs_nil))) (pss_one (ps_expr (pe_meth (pe_meth0 (pv 0) T.cl_CS T.m_s_go_on (ok_s_go_on T) (hr.mono (by decide)) T.d_s_go_on.b .nil pass0) T.cl_CP T.m_p_take_call (ok_p_take_call T) (hr.mono (by decide)) T.d_p_take_call.b .nil pass0 (pa_cons (pv 5) (pa_cons (pv 6) pa_nil)))))) (pss_one (ps_ret (pe_lst (pa_cons pe_int (pa_cons (pe_ix ix_list (pv 4) pe_int (fun _ _ => rfl)) pa_nil)))))))))), ?_⟩)
  · obtain ⟨sa, L, ss, s, pa, ta, pl, tx, c, rfl, _⟩ := h; rfl
  · obtain ⟨sa, L, ss, s, pa, ta, pl, tx, c, rfl, hS, hst, hp, ht, hc, hr, hn, hl, hl2, k⟩ := h
    obtain ⟨a, b, rfl, rfl⟩ : ∃ a b, pl = [a, b] ∧ c = .read a b tx := by
      match pl, hc with
      | [a, b], hc => exact ⟨a, b, rfl, (Option.some.inj hc).symm⟩
    have hr2 : Vbbrac.isSeat a = true ∧ (Vbbrac.inside 0 3 b && Vbbrac.isBytes tx) = true := Bool.and_eq_true_iff.mp hr
    have hr3 := Bool.and_eq_true_iff.mp hr2.2
    obtain ⟨d, rfl, hd⟩ := seat_nat hr2.1
    obtain ⟨v, rfl, _, hv⟩ := inside_nat (lo := 0) (hi := 3) hr3.1
    have ht := text_is ht hr3.2
    have hact : Vbbrac.step s (.read d v tx) = match Vbbrac.readText d (nats tx) with
        | .error _ => (s, [-12])
        | .ok m => (Vbbrac.replay (Vbbrac.begun d v) (m.map fun x => (0, x.1, x.2)), Vbbrac.ok [m.length]) := by
      unfold Vbbrac.step
      rw [if_neg (by rw [hr]; exact Bool.noConfusion)]; rfl
    refine q_asgP (evp_newA (d := d) (at_plain (i := 0) (ev_var rfl) hp rfl)) fun u H1 e1 hu => ?_
    obtain ⟨x, m, rfl, hx, hm, hA⟩ := hu
    refine q_words (ev_var rfl) (ev_var rfl) hA (e1 _ _ ht) (by rw [nats_len]; exact hl) fun H2 e2 p H3 hp3 f3 h3 hA3 => ?_
    have e03 : Ex H H3 := fun z o hz => f3 _ _ (e2 _ _ (e1 _ _ hz)) fun y => by rw [y, hm] at hz; cases hz
    cases er : Vbbrac.readText d (nats tx) with
    | error e =>
      rw [er] at hact
      have hne := readText_err er
      have hlk : lookL d (nats tx) = [e.1, e.2] := by unfold lookL; rw [er]
      rw [hlk] at h3
      refine q_when (b := true) (et_is (et_neN (i := e.1) (j := 0) (ev_op (ev_var rfl) ev_c (rv_ixL (sq_of h3) (atI_n (i := 0) rfl))) ev_c) (by rw [decide_eq_false hne]; rfl)) (fun _ H4 e4 => ?_) (fun h => by cases h)
      exact s_ret1 (ev_un ev_c ru_neg) (retl_back (done_pure k hS hst hact) (e03.trans e4))
    | ok l =>
      rw [er] at hact
      have hlk : lookL d (nats tx) = [0, l.length] := by unfold lookL; rw [er]
      rw [hlk] at h3
      have hA3 := hA3 l er
      obtain ⟨htb, hcl, hlen⟩ := read_len er
      refine q_when (b := false) (et_is (et_neN (i := 0) (j := 0) (ev_op (ev_var rfl) ev_c (rv_ixL (sq_of h3) (atI_n (i := 0) rfl))) ev_c) (by rw [decide_eq_true rfl]; rfl)) (fun h => by cases h) (fun _ H4 e4 => ?_)
      have e04 := e03.trans e4
      have hS4 := hS.mono e04
      obtain ⟨dx, g4⟩ := hS4.obj
      refine q_start (d := d) (v := v) (ev_var rfl) hS4 (at_plain (i := 0) (ev_var rfl) (e04 _ _ hp) rfl) (at_plain (i := 1) (ev_var rfl) (e04 _ _ hp) rfl) fun H5 L' hL hS5 f5 => ?_
      have nx : x ≠ sa := fun z => by
        obtain ⟨dy, g⟩ := hS.obj
        rw [z, g] at hx; cases hx
      have h5 : Ex (hid sa L' H4) (hid sa L' H5) := hid_frm fun z o hz n => f5 _ _ hz fun y => n (.inl y)
      obtain ⟨⟨gs, hgx⟩, _⟩ := hS4.gk
      obtain ⟨⟨gs0, hgx0⟩, _⟩ := hS.gk
      have nm : m ≠ GX.gx := fun z => by rw [z, hgx0] at hm; cases hm
      have hA4 := ((hA3.mono e4).hid (CS := CS) (sa := sa) (L := L') g4 hL nx ⟨gs, hgx⟩ nm).mono h5
      have hA5 := hA4.mono hid_ex
      refine q_forMade2 (H0 := hid sa L' H5) hid_ex hA4 (ev_made T (ev_var rfl) hA5) (fun pre σ' H' => Frm (fun z => z = sa ∨ z = L') H5 H' ∧ ∃ s' ss' u w, SesM CA CW CP CS H' sa L' ss' ∧ Hist s' ss' ∧ Clean d v pre s' ∧ σ' = [some (.ref sa), some (.ref pa), some (.ref ta), some (.ref x), some (.ref p), u, w]) (fun H6 e6 => ⟨Frm.of e6, Vbbrac.begun d v, [Vbbrac.begun d v], _, _, hS5.mono e6, hist_begun hd, clean_begun d v, rfl⟩) (fun pre σ' H' q => (hid_frm q.1).trans hid_ex) ?_ ?_
      · rintro pre y post σ' H' hl2 ⟨f6, s', ss', u, w, hS6, hh6, hC, rfl⟩
        have htb2 : TurnBy d pre (y :: post) = true := by
          rw [hl2] at htb
          have := turnby_tail htb
          rwa [List.nil_append] at this
        obtain ⟨t1, t2⟩ := turnby_head htb2
        have hy : y.2 ≤ 37 := hcl y (by rw [hl2]; exact List.mem_append_right _ List.mem_cons_self)
        have hplen : pre.length < 320 := by
          have : l.length = pre.length + (post.length + 1) := by rw [hl2, List.length_append, List.length_cons]
          omega
        have hw6 := (hh6.all s' hh6.mem).1
        have hturn : Vbbrac.turnOf s' = y.1 := by
          unfold Vbbrac.turnOf
          rw [hC.made, hC.dealer, t1]
        have hy4 : y.1 < 4 := by rw [← hturn]; exact hw6.turn4
        obtain ⟨c1, c2⟩ := clean_step hC t1 t2
        have hdl : s'.deeds.length < 320 := by rw [hC.deeds, List.length_map]; exact hplen
        obtain ⟨_, c4⟩ := hist_call hh6 hC.on hy4 hy c1 hdl
        exact goTake (ev_var rfl) hS6 hh6 hC.on hy4 hy (fun _ _ => ev_var rfl) (fun _ _ => ev_var rfl) fun H7 hS7 f7 => ⟨f6.trans f7, _, _, _, _, hS7, c4, c2, rfl⟩
      · rintro σ' H' ⟨f6, s', ss', u, w, hS6, hh6, hC, rfl⟩
        have hself := hh6.self
        rw [hC.dealer, hC.vul, hC.deeds] at hself
        have np : ∀ {z : Addr} {o : HO}, H z = some o → z ≠ sa → H' z = some o := fun {z o} hz n => f6 _ _ (f5 _ _ (e04 _ _ hz) n) fun y => y.elim n fun y => by
          have := e04 _ _ hz
          rw [y, hL] at this; cases this
        have hp4 := e4 _ _ h3
        have hpn : p ≠ sa := fun z => by rw [z, g4] at hp4; cases hp4
        have hp6 : H' p = some (.lst ([0, l.length].map iV)) := f6 _ _ (f5 _ _ hp4 hpn) fun y => y.elim hpn fun y => by rw [y, hL] at hp4; cases hp4
        refine s_retL (el_lst (vs := [.int 0, iV l.length]) (ea_cons ev_c (ea_cons (ev_op (ev_var rfl) ev_c (rv_ixL (sq_of hp6) (atI_n (i := 1) rfl))) ea_nil)) (by show 2 ≤ 100000; decide)) fun q H7 hq e7 h7 => k q H7 L' ss' ?_ (fun z o hz n => e7 _ _ (np hz fun y => n (.inl y))) (hS6.mono e7) ?_ ?_ (.inr (fresh_back e04 hL))
        · cases z : H q with
          | none => rfl
          | some o =>
            exfalso
            by_cases zs : q = sa
            · obtain ⟨⟨dy, g⟩, _⟩ := hS6
              rw [zs, g] at hq; cases hq
            · rw [np z zs] at hq; cases hq
        · rw [hact]
          show St (Vbbrac.replay (Vbbrac.begun d v) (l.map fun x => (0, x.1, x.2))) ss'
          rw [hself]
          exact .inl ⟨hC.on, hh6⟩
        · rw [hact]
          show H7 q = some (.lst ((Vbbrac.ok [l.length]).map V.int))
          rw [ok_map]; exact h7
end
end Bb
namespace Bb
open PySem PySem.Spec PyProof.Rows L2 Evl
open PySem.W (Codec)
open Vbbrac (State Call ranged nats decimal textOf)
/-! ### ranges -/
def okR : List Int → List (Int × Int) → Bool
  | z :: r, b :: s => (decide (b.1 ≤ z) && decide (z ≤ b.2)) && okR r s
  | _, _ => true
theorem okR_no : ∀ {pl : List Int} {bs : List (Int × Int)} {i : Nat} {z : Int} {b : Int × Int}, pl[i]? = some z → bs[i]? = some b → (decide (b.1 ≤ z) && decide (z ≤ b.2)) = false → okR pl bs = false
  | [], _, i, z, b, h, _, _ => by cases i <;> cases h
  | _ :: _, [], i, z, b, _, h, _ => by cases i <;> cases h
  | x :: r, c :: s, 0, z, b, h1, h2, h3 => by
    cases h1; cases h2
    show ((decide (c.1 ≤ x) && decide (x ≤ c.2)) && okR r s) = false
    rw [h3]; rfl
  | x :: r, c :: s, i + 1, z, b, h1, h2, h3 => by
    rw [List.getElem?_cons_succ] at h1 h2
    show ((decide (c.1 ≤ x) && decide (x ≤ c.2)) && okR r s) = false
    rw [okR_no h1 h2 h3, Bool.and_false]
theorem okR_yes : ∀ {pl : List Int} {bs : List (Int × Int)}, (∀ (i : Nat) (z : Int) (b : Int × Int), pl[i]? = some z → bs[i]? = some b → (decide (b.1 ≤ z) && decide (z ≤ b.2)) = true) → okR pl bs = true
  | [], [], _ => rfl
  | [], _ :: _, _ => rfl
  | _ :: _, [], _ => rfl
  | x :: r, c :: s, h => by
    show ((decide (c.1 ≤ x) && decide (x ≤ c.2)) && okR r s) = true
    rw [h 0 x c rfl rfl, okR_yes fun i z b h1 h2 => h (i + 1) z b (by rw [List.getElem?_cons_succ]; exact h1) (by rw [List.getElem?_cons_succ]; exact h2)]
    rfl
def okB (z : Int) : Bool := decide (0 ≤ z) && decide (z ≤ 255)
def withT (k : Nat) : Bool := k == 11 || (k == 13 || k == 14)
theorem ranged_is {k : Nat} {pl tx : List Int} {c : Call} {bs : List (Int × Int)} (h1 : callAt k pl tx = some c) (h2 : rangesL[k]? = some bs) (h3 : withT k = true ∨ tx = []) : pl.length = bs.length ∧ ranged c = (okR pl bs && tx.all okB) := by
  have hk : k < 17 := (List.getElem?_eq_some_iff.mp h2).1
  have : k = 0 ∨ k = 1 ∨ k = 2 ∨ k = 3 ∨ k = 4 ∨ k = 5 ∨ k = 6 ∨ k = 7 ∨ k = 8 ∨ k = 9 ∨ k = 10 ∨ k = 11 ∨ k = 12 ∨ k = 13 ∨ k = 14 ∨ k = 15 ∨ k = 16 := by omega
  rcases this with rfl | rfl | rfl | rfl | rfl | rfl | rfl | rfl | rfl | rfl | rfl | rfl | rfl | rfl | rfl | rfl | rfl <;> rcases pl with _ | ⟨a, _ | ⟨b, _ | ⟨x, r⟩⟩⟩ <;>
    first
    | (exfalso; cases h1; done)
    | (cases h1; cases h2; refine ⟨rfl, ?_⟩; rcases h3 with h3 | h3 <;> first | (exfalso; cases h3; done) | (try subst h3); simp [ranged, okR, Vbbrac.isSeat, Vbbrac.inside, Vbbrac.isBytes, Bool.and_assoc]; try rfl)
theorem step_no {s : State} {c : Call} (h : ranged c = false) : Vbbrac.step s c = (s, [-1]) := by
  unfold Vbbrac.step
  rw [if_pos h]
theorem step_off {s : State} {k : Nat} {pl tx : List Int} {c : Call} (h1 : callAt k pl tx = some c) (hr : ranged c = true) (ho : s.on = false) (hk : k < 17) (hn : needs k = true) : Vbbrac.step s c = (s, [-3]) := by
  have : k = 0 ∨ k = 1 ∨ k = 2 ∨ k = 3 ∨ k = 4 ∨ k = 5 ∨ k = 6 ∨ k = 7 ∨ k = 8 ∨ k = 9 ∨ k = 10 ∨ k = 11 ∨ k = 12 ∨ k = 13 ∨ k = 14 ∨ k = 15 ∨ k = 16 := by omega
  unfold Vbbrac.step
  rw [if_neg (by rw [hr]; exact Bool.noConfusion)]
  rcases this with rfl | rfl | rfl | rfl | rfl | rfl | rfl | rfl | rfl | rfl | rfl | rfl | rfl | rfl | rfl | rfl | rfl <;> rcases pl with _ | ⟨a, _ | ⟨b, _ | ⟨x, r⟩⟩⟩ <;>
    first
    | (exfalso; cases h1; done)
    | (exfalso; cases hn; done)
    | (cases h1; exact if_pos ho)
theorem paired_get {α β : Type} {F : α → β → Prop} : ∀ {as : List α} {bs : List β}, Paired F as bs → ∀ {i : Nat} {b : β}, bs[i]? = some b → ∃ a, as[i]? = some a ∧ F a b
  | _, _, .cons h t, 0, b, e => ⟨_, rfl, by cases e; exact h⟩
  | _, _, .cons h t, i + 1, b, e => by
    rw [List.getElem?_cons_succ] at e
    obtain ⟨a, h1, h2⟩ := paired_get t e
    exact ⟨a, by rw [List.getElem?_cons_succ]; exact h1, h2⟩
  | _, _, .nil, i, b, e => by cases i <;> cases e
theorem paired_len {α β : Type} {F : α → β → Prop} : ∀ {as : List α} {bs : List β}, Paired F as bs → as.length = bs.length
  | _, _, .nil => rfl
  | _, _, .cons _ t => congrArg (· + 1) (paired_len t)
def SqTA (K : PySem.W.Frag) (p : Addr) (xs : List V) : Prop := ∀ H, SqT K H p xs
def RngAt (K : PySem.W.Frag) (aR : Addr) (k : Nat) (bs : List (Int × Int)) (rs : List V) (r : Addr) (qs : List Addr) : Prop := SqTA K aR rs ∧ rs[k]? = some (.ref r) ∧ SqTA K r (qs.map .ref) ∧ Paired (fun q b => ∀ H, SqT K H q [.int b.1, .int b.2]) qs bs
section
variable {P : Program} {w : World} {K : PySem.W.Frag} {mg : Str → Option Value} {base : Heap} {fa : Nat → Addr} {fd : Nat → FuncData} {CA CW CP CS aN aR aA aW aO : Addr}
theorem ranges_at (T : Txt K mg fa fd CA CW CP CS aN aR aA aW aO) {k : Nat} {bs : List (Int × Int)} (h : rangesL[k]? = some bs) : ∃ rs r qs, RngAt K aR k bs rs r qs := by
  obtain ⟨rs, h1, h2⟩ := T.t_RANGES
  obtain ⟨r, g1, qs, g2, g3⟩ := paired_get h2 h
  exact ⟨rs.map .ref, r, qs, h1, by rw [List.getElem?_map, g1]; rfl, g2, g3⟩
section
variable {σ : L2.St} {H : Hp} {ta tb tc te : TE} {D : Ends} {tz tu : TS}
theorem ev_rngAt {k : Nat} {bs : List (Int × Int)} {rs : List V} {r : Addr} {qs : List Addr} (R : RngAt K aR k bs rs r qs) (h : Ev ta σ H (.int k)) : Ev (tOp (rIxT K) (tC (.ref aR)) ta) σ H (.ref r) := ev_op ev_c h (rv_ixT (R.1 H) (atI_n R.2.1))
theorem ev_lenT {p : Addr} {xs : List V} (ha : Ev ta σ H (.ref p)) (h : SqT K H p xs) : Ev (tCB (rLenS K) (tCons ta tNil)) σ H (.int (xs.length : Int)) := fun H1 e Q q =>
  ha H1 e _ fun H2 e2 => ⟨p, xs, rfl, Or.inr (ex_t (e.trans e2) h), q H2 e2⟩
theorem ev_chain {a b c : Int} (h1 : Ev ta σ H (.int a)) (h2 : Ev tb σ H (.int b)) (h3 : Ev tc σ H (.int c)) : Ev (tChain (rI0 fun i j => .bl (decide (i ≤ j))) (rI0 fun i j => .bl (decide (i ≤ j))) ta tb tc) σ H (.bl (decide (a ≤ b) && decide (b ≤ c))) := fun H1 e Q q =>
  h1 H1 e _ fun H2 e2 => h2 H2 (e.trans e2) _ fun H3 e3 => rv_I0 (g := fun i j => .bl (decide (i ≤ j))) H3 (Ex.refl _) _ fun H4 e4 => by
    refine ⟨decide (a ≤ b), rfl, ?_⟩
    cases hb : decide (a ≤ b) with
    | false => exact (hb ▸ q) H4 ((e2.trans e3).trans e4)
    | true =>
      show tc σ H4 _
      refine h3 H4 (((e.trans e2).trans e3).trans e4) _ fun H5 e5 => rv_I0 (g := fun i j => .bl (decide (i ≤ j))) H5 (Ex.refl _) _ fun H6 e6 => ?_
      have := q H6 ((((e2.trans e3).trans e4).trans e5).trans e6)
      rw [hb, Bool.true_and] at this
      exact this
theorem el_lcI {a : Addr} {L : List Int} {tl te : TE} {j : Nat} {vs : List Nat} (g : Int → V) (h : Ev tl σ H (.ref a)) (hx : SqL K H a (L.map V.int)) (hz : L.length ≤ 40000) (hw : ∀ x, wipe ((wipe σ vs).set j (some x)) vs = wipe σ vs)
    (he : ∀ (x : Int) H1, Ex H H1 → Ev te ((wipe σ vs).set j (some (.int x))) H1 (g x)) :
    EvL (tLc (iList K tl) (gName j) tYes te vs) σ H (L.map g) := fun H0 e Q q => h H0 e _ fun H1 e1 => ⟨a, rfl, ⟨L.map V.int, ex_l (e.trans e1) hx⟩, fun Dl hD =>
  lc_list (xs := L.map V.int) (fun i H' => Ex H1 H' ∧ H' Dl = some (.lst ((L.take i).map g))) ⟨Ex.new hD, upd_same⟩ (fun i H' _ q => ex_l ((e.trans e1).trans q.1) hx) (fun i x H' hi q2 => ⟨hw x, by
    rw [List.getElem?_map] at hi
    cases hL : L[i]? with
    | none => rw [hL] at hi; cases hi
    | some n =>
      rw [hL] at hi
      obtain rfl : V.int n = x := Option.some.inj hi
      have hlen : (L.take i).length ≤ L.length := by rw [List.length_take]; omega
      show te _ H' _
      refine he n H1 (e.trans e1) H' q2.1 _ fun H4 e4 => ⟨_, e4 _ _ q2.2, ?_, (q2.1.trans e4).mut hD, ?_⟩
      · rw [List.length_map]; exact sz_lt (by omega)
      · rw [upd_same, take_more hL, List.map_append]; rfl⟩) (fun H' p => q Dl H' (fresh_back e1 hD) (e1.trans p.1) (by
      have := p.2
      rw [List.length_map, List.take_of_length_le (Nat.le_refl _)] at this
      exact this))⟩
theorem ev_all {bs : List Bool} {tl : TE} (h : EvL tl σ H (bs.map V.bl)) : Ev (tCB (rAll K) (tCons tl tNil)) σ H (.bl (bs.all id)) := fun H1 e Q q =>
  h H1 e _ fun p H2 hp e2 h2 => ⟨p, bs, rfl, sq_of h2, q H2 e2⟩
theorem walk_zipX {a b : Addr} {xs ys : List V} {n : Nat} (h1 : xs.length = n) (h2 : ys.length = n) : Walk (ItzX K a b) n (fun H => SqL K H a xs ∧ SqT K H b ys) (YPair (fun i => xs[i]?) (fun i => ys[i]?)) := by
  refine ⟨fun i _ hi q => ?_, fun _ q => ⟨xs, ys, q.1, q.2, by omega, by omega, by omega⟩, fun i H v H' _ q y => ?_⟩
  · have h1 : i < xs.length := by omega
    have h2 : i < ys.length := by omega
    exact ⟨xs, ys, xs[i], ys[i], q.1, q.2, by simp [h1], by simp [h2]⟩
  · obtain ⟨T, x, z, h1, h2, h3, h4, h5⟩ := y
    exact ⟨T, x, z, h1, h2, h3, h4 xs q.1, h5 ys q.2⟩
theorem q_forZip {a b : Addr} {xs ys : List V} {n j i' : Nat} {tr : TA} (h1 : xs.length = n) (h2 : ys.length = n) (h : EvA tr σ H [.ref a, .ref b]) (hx : SqL K H a xs) (hy : SqT K H b ys) (Pv : Nat → L2.St → Hp → Prop) (h0 : ∀ H1, Ex H H1 → Pv 0 σ H1) (hl : ∀ i σ' H', Pv i σ' H' → SqL K H' a xs ∧ SqT K H' b ys)
    (hs : ∀ i x y σ' H' t, H' t = none → xs[i]? = some x → ys[i]? = some y → Pv i σ' H' → tu { D with nx := Pv (i + 1), ct := Pv (i + 1), bk := tz D } ((σ'.set j (some x)).set i' (some y)) (upd H' t (.tup [x, y])))
    (hd : ∀ σ' H', Pv n σ' H' → tz D σ' H') : tSeq (tFor (iZipX K tr) (gTup K 2 (gCons (gName j) (gCons (gName i') gNil))) tu) tz D σ H :=
  h H (Ex.refl H) _ fun H1 e => ⟨a, b, xs, ys, rfl, ex_l e hx, ex_t e hy, for_it (D := { D with nx := tz D }) (walk_zipX (K := K) h1 h2) Pv (h0 H1 e) (fun i σ' H' _ q => hl i σ' H' q)
    (fun i x σ' H2 H3 hi q y => by
      obtain ⟨t, u, z, rfl, ht, rfl, hu, hz⟩ := y
      exact ⟨t, _, rfl, st_of upd_same, rfl, _, _, rfl, _, _, rfl, rfl, hs i u z σ' H2 t ht hu hz q⟩) hd⟩
end
def spInR (K : PySem.W.Frag) : Sp := fun vs H Q _ => ∃ (k : Nat) (pa ta : Addr) (pl tx : List Int) (bs : List (Int × Int)), vs = [.int k, .ref pa, .ref ta] ∧ rangesL[k]? = some bs ∧ H pa = some (.lst (pl.map V.int)) ∧ H ta = some (.lst (tx.map V.int)) ∧ pl.length = bs.length ∧ tx.length ≤ 1000 ∧ RetV (.bl (okR pl bs && tx.all okB)) H Q
theorem ok_in_ranges (T : Txt K mg fa fd CA CW CP CS aN aR aA aW aO) : FnOk P w K mg base CX0 1 (fa 73) (fd 73) P_in_ranges (spInR K) := by
  refine T.d_in_ranges.F.ok sc_in_ranges (fun vs H Q E h => ?_) (fun cdv A outer s H vs Q E hr h => ⟨_, (pss_cons (ps_for PassesOwn.never rfl (pi_zipX (by rfl) T.b_zip (pa_cons (pv 1) (pa_cons (pe_ix ix_tup (pe_globR rfl T.g_RANGES) (pv 0) (fun _ _ => rfl)) pa_nil))) (pg_tup (by rfl) (pgs_cons (pg_name (i := 3) sc_in_ranges.nd rfl (.inl rfl)) (pgs_cons (pg_name (i := 4) sc_in_ranges.nd rfl (.inl rfl)) pgs_nil))) (pss_one (ps_if (PW.pt (pw_or (pt_cmpR op_lt (pv 3) (pe_ix ix_tup (pv 4) pe_int (fun _ _ => rfl)) (nomark _)) (pw_or1 (pt_cmpR op_gt (pv 3) (pe_ix ix_tup (pv 4) pe_int (fun _ _ => rfl)) (nomark _))))) (pss_one (ps_ret pe_bl)) pss_nil))) (pss_one (ps_ret (pe_callB (cr_all rfl) (by rfl) T.b_all (by decide +kernel) (pa_cons (pe_lc (own := [("value", 3)]) (g := gName 3) (by rfl) sc_in_ranges.nd (pi_list (pv 2)) (blkOk_by (N := N_in_ranges) (sc := defScope st_in_ranges) (by decide +kernel)) (fun _ _ _ _ _ => pg_name (i := 3) sc_in_ranges.nd rfl (.inl rfl)) (fun _ _ _ _ _ => by exact pts_nil) (fun _ _ _ _ _ => by exact (pe_chain op_le op_le pe_int (pv 3) (pe_globI rfl T.g_GREATEST_BYTE)))) pa_nil))))), ?_⟩)
  · obtain ⟨k, pa, ta, pl, tx, bs, rfl, _⟩ := h; rfl
  · obtain ⟨k, pa, ta, pl, tx, bs, rfl, hb, hp, ht, hl, hx, kk⟩ := h
    obtain ⟨rs, r, qs, R⟩ := ranges_at T hb
    refine q_forZip (xs := pl.map V.int) (ys := qs.map V.ref) (n := pl.length) (by rw [List.length_map]) (by rw [List.length_map, paired_len R.2.2.2, hl]) (ea_cons (ev_var rfl) (ea_cons (ev_rngAt R (ev_var rfl)) ea_nil)) (sq_of hp) (R.2.2.1 H) (fun i σ' H' => Ex H H' ∧ (∀ (i' : Nat) (z : Int) (b : Int × Int), i' < i → pl[i']? = some z → bs[i']? = some b → (decide (b.1 ≤ z) && decide (z ≤ b.2)) = true) ∧ ∃ u v, σ' = [some (.int k), some (.ref pa), some (.ref ta), u, v]) (fun H1 e1 => ⟨e1, fun _ _ _ h => absurd h (Nat.not_lt_zero _), _, _, rfl⟩) (fun i σ' H' q => ⟨sq_of (q.1 _ _ hp), R.2.2.1 H'⟩) ?_ ?_
    · rintro i x y σ' H' t ht' hx1 hy1 ⟨e1, hok, u, v, rfl⟩
      rw [List.getElem?_map] at hx1 hy1
      cases ez : pl[i]? with
      | none => rw [ez] at hx1; cases hx1
      | some z =>
        rw [ez] at hx1
        obtain rfl : V.int z = x := Option.some.inj hx1
        have hi : i < bs.length := by rw [← hl]; exact (List.getElem?_eq_some_iff.mp ez).1
        have eb : bs[i]? = some bs[i] := List.getElem?_eq_getElem hi
        generalize bs[i] = b at eb
        obtain ⟨q, g1, g2⟩ := paired_get R.2.2.2 eb
        rw [g1] at hy1
        obtain rfl : V.ref q = y := Option.some.inj hy1
        refine s_if (b := decide (z < b.1) || decide (z > b.2)) (et_or (et_I (ev_var rfl) (ev_op (ev_var rfl) ev_c (rv_ixT (g2 _) (atI_n (i := 0) rfl))) rfl) (fun _ => et_I (ev_var rfl) (ev_op (ev_var rfl) ev_c (rv_ixT (g2 _) (atI_n (i := 1) rfl))) rfl)) (fun hb1 H2 e2 => ?_) (fun hb1 H2 e2 => ?_)
        · refine s_ret ev_c fun H3 e3 => ?_
          have hno : (decide (b.1 ≤ z) && decide (z ≤ b.2)) = false := by
            rw [Bool.or_eq_true, decide_eq_true_iff, decide_eq_true_iff] at hb1
            rw [Bool.and_eq_false_iff, decide_eq_false_iff_not, decide_eq_false_iff_not]
            omega
          have kk2 := kk H3 (((e1.trans (Ex.new ht')).trans e2).trans e3)
          rw [okR_no ez eb hno, Bool.false_and] at kk2
          exact kk2
        · refine ⟨(e1.trans (Ex.new ht')).trans e2, fun i' z' b' hlt hz' hb' => ?_, _, _, rfl⟩
          by_cases he : i' = i
          · subst he
            rw [ez] at hz'; rw [eb] at hb'
            cases hz'; cases hb'
            rw [Bool.or_eq_false_iff, decide_eq_false_iff_not, decide_eq_false_iff_not] at hb1
            rw [Bool.and_eq_true, decide_eq_true_iff, decide_eq_true_iff]
            omega
          · exact hok i' z' b' (by omega) hz' hb'
    · rintro σ' H' ⟨e1, hok, u, v, rfl⟩
      have hyes : okR pl bs = true := okR_yes fun i z b h1 h2 => hok i z b (List.getElem?_eq_some_iff.mp h1).1 h1 h2
      rw [hyes, Bool.true_and] at kk
      refine s_ret (ev_all (bs := tx.map okB) ?_) fun H2 e2 => ?_
      · rw [List.map_map]
        exact el_lcI (L := tx) (fun z => .bl (okB z)) (ev_var (i := 2) (v := .ref ta) rfl) (sq_of (e1 _ _ ht)) (by omega) (fun x => rfl) (fun x H2 e2 => ev_chain ev_c (ev_var rfl) ev_c)
      · have := kk H2 (e1.trans e2)
        rw [List.all_map]
        exact this
end
end Bb
namespace Bb
open PySem PySem.Spec PyProof.Rows L2 Evl
open PySem.W (Codec)
open Vbbrac (State Call ranged nats decimal textOf)
def SAns [GX] (fa : Nat → Addr) (CA CW CP CS : Addr) (f : Addr) (sp : Sp) : Prop := ∃ k, k < 17 ∧ f = fa (56 + k) ∧ sp = spAns CA CW CP CS k
def spOne [GX] (CA CW CP CS : Addr) : Sp := fun vs H Q _ => ∃ (k : Nat) (sa L : Addr) (ss : List State) (s : State) (pa ta : Addr) (pl tx : List Int) (c : Call), vs = [.ref sa, .int k, .ref pa, .ref ta] ∧ k < 17 ∧ SesM CA CW CP CS H sa L ss ∧ St s ss ∧ H pa = some (.lst (pl.map V.int)) ∧ H ta = some (.lst (tx.map V.int)) ∧
  callAt k pl tx = some c ∧ tx.length ≤ 1000 ∧ (k = 11 → tx.length ≤ 60) ∧ (withT k = true ∨ tx = []) ∧ DoneA CA CW CP CS H sa L s c Q
theorem DoneA.mono [GX] {CA CW CP CS : Addr} {H H1 : Hp} {sa L : Addr} {s : State} {c : Call} {Q : VK} (h : DoneA CA CW CP CS H sa L s c Q) (e : Ex H H1) : DoneA CA CW CP CS H1 sa L s c Q := fun p H' L' ss' h1 h2 h3 h4 h5 h6 =>
  h p H' L' ss' (fresh_back e h1) (fun b o hb n => h2 _ _ (e _ _ hb) n) h3 h4 h5 (h6.imp id fun z => fresh_back e z)
theorem needs_is {k : Nat} (hk : k < 17) : (!inV (.int k) [.int 0, .int 1, .int 11, .int 13, .int 14]) = needs k := by
  have : k = 0 ∨ k = 1 ∨ k = 2 ∨ k = 3 ∨ k = 4 ∨ k = 5 ∨ k = 6 ∨ k = 7 ∨ k = 8 ∨ k = 9 ∨ k = 10 ∨ k = 11 ∨ k = 12 ∨ k = 13 ∨ k = 14 ∨ k = 15 ∨ k = 16 := by omega
  rcases this with rfl | rfl | rfl | rfl | rfl | rfl | rfl | rfl | rfl | rfl | rfl | rfl | rfl | rfl | rfl | rfl | rfl <;> rfl
theorem withT_is {k : Nat} (hk : k < 17) : inV (.int k) [.int 11, .int 13, .int 14] = withT k := by
  have : k = 0 ∨ k = 1 ∨ k = 2 ∨ k = 3 ∨ k = 4 ∨ k = 5 ∨ k = 6 ∨ k = 7 ∨ k = 8 ∨ k = 9 ∨ k = 10 ∨ k = 11 ∨ k = 12 ∨ k = 13 ∨ k = 14 ∨ k = 15 ∨ k = 16 := by omega
  rcases this with rfl | rfl | rfl | rfl | rfl | rfl | rfl | rfl | rfl | rfl | rfl | rfl | rfl | rfl | rfl | rfl | rfl <;> rfl
theorem ranges_some {k : Nat} (hk : k < 17) : ∃ bs, rangesL[k]? = some bs := ⟨_, List.getElem?_eq_getElem hk⟩
section
variable [GX] {P : Program} {w : World} {K : PySem.W.Frag} {mg : Str → Option Value} {base : Heap} {fa : Nat → Addr} {fd : Nat → FuncData} {CA CW CP CS aN aR aA aW aO : Addr}
theorem held_ans (T : Txt K mg fa fd CA CW CP CS aN aR aA aW aO) : ∀ f sp, SAns fa CA CW CP CS f sp → Held P w K mg base 15 f sp := by
  rintro f sp ⟨k, hk, rfl, rfl⟩
  have : k = 0 ∨ k = 1 ∨ k = 2 ∨ k = 3 ∨ k = 4 ∨ k = 5 ∨ k = 6 ∨ k = 7 ∨ k = 8 ∨ k = 9 ∨ k = 10 ∨ k = 11 ∨ k = 12 ∨ k = 13 ∨ k = 14 ∨ k = 15 ∨ k = 16 := by omega
  rcases this with rfl | rfl | rfl | rfl | rfl | rfl | rfl | rfl | rfl | rfl | rfl | rfl | rfl | rfl | rfl | rfl | rfl
  · exact ⟨fd 56, P_answer_deal, (ok_answer_deal T).mono (by decide), T.d_answer_deal.F.kp, T.d_answer_deal.b⟩
  · exact ⟨fd 57, P_answer_board, (ok_answer_board T).mono (by decide), T.d_answer_board.F.kp, T.d_answer_board.b⟩
  · exact ⟨fd 58, P_answer_call, (ok_answer_call T).mono (by decide), T.d_answer_call.F.kp, T.d_answer_call.b⟩
  · exact ⟨fd 59, P_answer_decide, (ok_answer_decide T).mono (by decide), T.d_answer_decide.F.kp, T.d_answer_decide.b⟩
  · exact ⟨fd 60, P_answer_undo, (ok_answer_undo T).mono (by decide), T.d_answer_undo.F.kp, T.d_answer_undo.b⟩
  · exact ⟨fd 61, P_answer_table, (ok_answer_table T).mono (by decide), T.d_answer_table.F.kp, T.d_answer_table.b⟩
  · exact ⟨fd 62, P_answer_legals, (ok_answer_legals T).mono (by decide), T.d_answer_legals.F.kp, T.d_answer_legals.b⟩
  · exact ⟨fd 63, P_answer_contract, (ok_answer_contract T).mono (by decide), T.d_answer_contract.F.kp, T.d_answer_contract.b⟩
  · exact ⟨fd 64, P_answer_ways, (ok_answer_ways T).mono (by decide), T.d_answer_ways.F.kp, T.d_answer_ways.b⟩
  · exact ⟨fd 65, P_answer_longest, (ok_answer_longest T).mono (by decide), T.d_answer_longest.F.kp, T.d_answer_longest.b⟩
  · exact ⟨fd 66, P_answer_number, (ok_answer_number T).mono (by decide), T.d_answer_number.F.kp, T.d_answer_number.b⟩
  · exact ⟨fd 67, P_answer_nth, (ok_answer_nth T).mono (by decide), T.d_answer_nth.F.kp, T.d_answer_nth.b⟩
  · exact ⟨fd 68, P_answer_text, (ok_answer_text T).mono (by decide), T.d_answer_text.F.kp, T.d_answer_text.b⟩
  · exact ⟨fd 69, P_answer_look, (ok_answer_look T).mono (by decide), T.d_answer_look.F.kp, T.d_answer_look.b⟩
  · exact ⟨fd 70, P_answer_read, (ok_answer_read T).mono (by decide), T.d_answer_read.F.kp, T.d_answer_read.b⟩
  · exact ⟨fd 71, P_answer_made, (ok_answer_made T).mono (by decide), T.d_answer_made.F.kp, T.d_answer_made.b⟩
  · exact ⟨fd 72, P_answer_named, (ok_answer_named T).mono (by decide), T.d_answer_named.F.kp, T.d_answer_named.b⟩
section
variable {σ : L2.St} {H : Hp} {ta tb tc tf : TE} {tr : TA} {D : Ends} {tz : TS} {E : XK}
theorem s_callX {S : Addr → Sp → Prop} {f : Addr} {sp : Sp} {vs : List V} (hf : Ev tf σ H (.ref f)) (hS : S f sp) (ha : EvA tr σ H vs) (k : ∀ H1, Ex H H1 → sp vs H1 D.rt (fun _ _ _ => False)) : tRet (tCallX S tf tr) D σ H := hf H (Ex.refl H) _ fun H1 e1 => ⟨f, sp, rfl, hS, ha H1 e1 _ fun H2 e2 => k H2 (e1.trans e2)⟩
theorem ev_inR {k : Nat} {pa xa : Addr} {pl tx : List Int} {bs : List (Int × Int)} (h1 : Ev ta σ H (.int k)) (h2 : Ev tb σ H (.ref pa)) (h3 : Ev tc σ H (.ref xa)) (hb : rangesL[k]? = some bs) (hp : H pa = some (.lst (pl.map V.int))) (ht : H xa = some (.lst (tx.map V.int))) (hl : pl.length = bs.length) (hx : tx.length ≤ 1000) : Ev (tCall (spInR K) [] E (tCons ta (tCons tb (tCons tc tNil)))) σ H (.bl (okR pl bs && tx.all okB)) :=
  ev_call (ea_cons h1 (ea_cons h2 (ea_cons h3 ea_nil))) fun H1 e Q q E => ⟨k, pa, xa, pl, tx, bs, rfl, hb, e _ _ hp, e _ _ ht, hl, hx, q⟩
end
theorem ok_answer_one (T : Txt K mg fa fd CA CW CP CS aN aR aA aW aO) : FnOk P w K mg base CX0 16 (fa 74) (fd 74) P_answer_one (spOne CA CW CP CS) := by
  refine T.d_answer_one.F.ok sc_answer_one (fun vs H Q E h => ?_) (fun cdv A outer s H vs Q E hr h => ⟨_, (pss_cons (ps_if (pt_not (pt_val (pe_call (ok_in_ranges T) (hr.mono (by decide)) rfl T.m_in_ranges T.d_in_ranges.F.kp T.d_in_ranges.b .nil pass0 (pa_cons (pv 1) (pa_cons (pv 2) (pa_cons (pv 3) pa_nil)))))) (pss_one (ps_ret (pe_lst (pa_cons (pe_un un_neg pe_int) pa_nil)))) pss_nil) (pss_cons (ps_if (PW.pt (pw_and (pt_cmpR op_eq (pe_callB call_len_seq (by rfl) T.b_len PySem.boot_len (pa_cons (pe_fld (pv 0) rfl) pa_nil)) pe_int (nomark _)) (pw_and1 (pt_cmpR op_notIn_seq (pv 1) (pe_globR rfl T.g_WITHOUT_AUCTION) (by rfl))))) (pss_one (ps_ret (pe_lst (pa_cons (pe_un un_neg pe_int) pa_nil)))) pss_nil) (pss_one (ps_ret (pe_callX (S := SAns fa CA CW CP CS) (held_ans T) (hr.mono (by decide)) (pe_ix ix_tup (pe_globR rfl T.g_ANSWERERS) (pv 1) (fun _ _ => rfl)) (pa_cons (pv 0) (pa_cons (pv 2) (pa_cons (pv 3) pa_nil)))))))), ?_⟩)
  · obtain ⟨k, sa, L, ss, s, pa, ta, pl, tx, c, rfl, _⟩ := h; rfl
  · obtain ⟨k, sa, L, ss, s, pa, ta, pl, tx, c, rfl, hk, hS, hst, hp, ht, hc, hl, hl2, hw, kk⟩ := h
    obtain ⟨bs, hb⟩ := ranges_some hk
    obtain ⟨hlen, hrg⟩ := ranged_is hc hb hw
    refine q_when (et_not (et_B (ev_inR (ev_var rfl) (ev_var rfl) (ev_var rfl) hb hp ht hlen hl))) (fun hb1 H1 e1 => ?_) (fun hb1 H1 e1 => ?_)
    · rw [← hrg] at hb1
      have hr : ranged c = false := by simpa using hb1
      exact s_ret1 (ev_un ev_c ru_neg) (retl_back (done_pure kk hS hst (step_no hr)) e1)
    · rw [← hrg] at hb1
      have hr : ranged c = true := by simpa using hb1
      have hS1 := hS.mono e1
      obtain ⟨vs, hv, hpl⟩ := hS1.lst
      have hvl := hpl.len
      refine q_when (b := decide (vs.length = 0) && needs k) (et_and (et_eqN (i := vs.length) (j := 0) (ev_len (ev_positions T (ev_var rfl) hS1) (sq_of hv)) ev_c) (fun _ => et_test (ev_is (ev_op (ev_var (i := 1) (v := .int k) rfl) ev_c (rv_niT (T.t_WITHOUT _) rfl rfl)) (congrArg V.bl (needs_is hk))))) (fun hb2 H2 e2 => ?_) (fun hb2 H2 e2 => ?_)
      · rw [Bool.and_eq_true, decide_eq_true_iff] at hb2
        have hoff : s.on = false := by
          rcases hst with ⟨h1, h2⟩ | ⟨rfl, _⟩
          · have := h2.len; omega
          · rfl
        exact s_ret1 (ev_un ev_c ru_neg) (retl_back (done_pure kk hS hst (step_off hc hr hoff hk hb2.2)) (e1.trans e2))
      · have hon : needs k = true → s.on = true := fun hn => by
          rw [hn, Bool.and_true, decide_eq_false_iff_not] at hb2
          rcases hst with ⟨h1, h2⟩ | ⟨rfl, rfl⟩
          · exact h1
          · exact absurd hvl hb2
        have e12 := e1.trans e2
        have hget : ([.ref (fa 56), .ref (fa 57), .ref (fa 58), .ref (fa 59), .ref (fa 60), .ref (fa 61), .ref (fa 62), .ref (fa 63), .ref (fa 64), .ref (fa 65), .ref (fa 66), .ref (fa 67), .ref (fa 68), .ref (fa 69), .ref (fa 70), .ref (fa 71), .ref (fa 72)] : List V)[k]? = some (.ref (fa (56 + k))) := by
          have : k = 0 ∨ k = 1 ∨ k = 2 ∨ k = 3 ∨ k = 4 ∨ k = 5 ∨ k = 6 ∨ k = 7 ∨ k = 8 ∨ k = 9 ∨ k = 10 ∨ k = 11 ∨ k = 12 ∨ k = 13 ∨ k = 14 ∨ k = 15 ∨ k = 16 := by omega
          rcases this with rfl | rfl | rfl | rfl | rfl | rfl | rfl | rfl | rfl | rfl | rfl | rfl | rfl | rfl | rfl | rfl | rfl <;> rfl
        exact s_callX (f := fa (56 + k)) (sp := spAns CA CW CP CS k) (ev_op ev_c (ev_var (i := 1) (v := .int k) rfl) (rv_ixT (T.t_ANSW _) (atI_n hget))) ⟨k, hk, rfl, rfl⟩ (ea_cons (ev_var rfl) (ea_cons (ev_var rfl) (ea_cons (ev_var rfl) ea_nil))) fun H3 e3 => ⟨sa, L, ss, s, pa, ta, pl, tx, c, rfl, hS.mono (e12.trans e3), hst, e3 _ _ (e12 _ _ hp), e3 _ _ (e12 _ _ ht), hc, hr, hon, hl, hl2, kk.mono (e12.trans e3)⟩
end
end Bb
namespace Bb
open PySem PySem.Spec PyProof.Rows L2 Evl
open PySem.W (Codec)
open Vbbrac (State Call ranged nats decimal textOf)
/-- what one call is, read off the numbers -/
structure Parsed (p : Int) (r : List Int) (c : List (List Int)) (t : List Int) (k : Nat) (bs : List (Int × Int)) (tx : List Int) : Prop where
  hk : k < 17
  hp : p = (k : Int)
  rng : rangesL[k]? = some bs
  len : bs.length ≤ r.length
  txt : (withT k = false ∧ tx = [] ∧ c = [p :: r.take bs.length] ∧ t = r.drop bs.length) ∨ (withT k = true ∧ ∃ (m : Nat) (r2 : List Int), r.drop bs.length = (m : Int) :: r2 ∧ m ≤ r2.length ∧ tx = r2.take m ∧ c = [p :: r.take bs.length, tx] ∧ t = r2.drop m)
theorem shape_is {p : Int} {n k : Nat} (h : PyVbbrac.shape p = some (n, k)) : ∃ (i : Nat) (bs : List (Int × Int)), i < 17 ∧ p = (i : Int) ∧ rangesL[i]? = some bs ∧ n = bs.length ∧ k = (if withT i = true then 1 else 0) := by
  unfold PyVbbrac.shape at h
  by_cases h0 : p = 0
  · subst h0; cases h; exact ⟨0, _, by decide, rfl, rfl, rfl, rfl⟩
  rw [if_neg h0] at h
  by_cases h0 : p = 1
  · subst h0; cases h; exact ⟨1, _, by decide, rfl, rfl, rfl, rfl⟩
  rw [if_neg h0] at h
  by_cases h0 : p = 2
  · subst h0; cases h; exact ⟨2, _, by decide, rfl, rfl, rfl, rfl⟩
  rw [if_neg h0] at h
  by_cases h0 : p = 3
  · subst h0; cases h; exact ⟨3, _, by decide, rfl, rfl, rfl, rfl⟩
  rw [if_neg h0] at h
  by_cases h0 : p = 4
  · subst h0; cases h; exact ⟨4, _, by decide, rfl, rfl, rfl, rfl⟩
  rw [if_neg h0] at h
  by_cases h0 : p = 5
  · subst h0; cases h; exact ⟨5, _, by decide, rfl, rfl, rfl, rfl⟩
  rw [if_neg h0] at h
  by_cases h0 : p = 6
  · subst h0; cases h; exact ⟨6, _, by decide, rfl, rfl, rfl, rfl⟩
  rw [if_neg h0] at h
  by_cases h0 : p = 7
  · subst h0; cases h; exact ⟨7, _, by decide, rfl, rfl, rfl, rfl⟩
  rw [if_neg h0] at h
  by_cases h0 : p = 8
  · subst h0; cases h; exact ⟨8, _, by decide, rfl, rfl, rfl, rfl⟩
  rw [if_neg h0] at h
  by_cases h0 : p = 9
  · subst h0; cases h; exact ⟨9, _, by decide, rfl, rfl, rfl, rfl⟩
  rw [if_neg h0] at h
  by_cases h0 : p = 10
  · subst h0; cases h; exact ⟨10, _, by decide, rfl, rfl, rfl, rfl⟩
  rw [if_neg h0] at h
  by_cases h0 : p = 11
  · subst h0; cases h; exact ⟨11, _, by decide, rfl, rfl, rfl, rfl⟩
  rw [if_neg h0] at h
  by_cases h0 : p = 12
  · subst h0; cases h; exact ⟨12, _, by decide, rfl, rfl, rfl, rfl⟩
  rw [if_neg h0] at h
  by_cases h0 : p = 13
  · subst h0; cases h; exact ⟨13, _, by decide, rfl, rfl, rfl, rfl⟩
  rw [if_neg h0] at h
  by_cases h0 : p = 14
  · subst h0; cases h; exact ⟨14, _, by decide, rfl, rfl, rfl, rfl⟩
  rw [if_neg h0] at h
  by_cases h0 : p = 15
  · subst h0; cases h; exact ⟨15, _, by decide, rfl, rfl, rfl, rfl⟩
  rw [if_neg h0] at h
  by_cases h0 : p = 16
  · subst h0; cases h; exact ⟨16, _, by decide, rfl, rfl, rfl, rfl⟩
  rw [if_neg h0] at h
  cases h
theorem call_parsed {p : Int} {r : List Int} {c : List (List Int)} {t : List Int} (h : PyFlat.call PyVbbrac.shape (p :: r) = some (c, t)) : ∃ k bs tx, Parsed p r c t k bs tx := by
  have h : (match PyVbbrac.shape p with
    | none => none
    | some (n, k) => if r.length < n then none else match PyFlat.rows k (r.drop n) with
      | none => none
      | some (xs, t) => some ((p :: r.take n) :: xs, t)) = some (c, t) := h
  cases e : PyVbbrac.shape p with
  | none => rw [e] at h; cases h
  | some x =>
    obtain ⟨n, q⟩ := x
    rw [e] at h
    have h : (if r.length < n then none else match PyFlat.rows q (r.drop n) with
      | none => none
      | some (xs, t) => some ((p :: r.take n) :: xs, t)) = some (c, t) := h
    obtain ⟨k, bs, hk, hp, hb, rfl, hq⟩ := shape_is e
    by_cases hl : r.length < bs.length
    · rw [if_pos hl] at h; cases h
    · rw [if_neg hl] at h
      cases hw : withT k with
      | false =>
        rw [hw, if_neg Bool.false_ne_true] at hq
        subst hq
        cases h
        exact ⟨k, bs, [], hk, hp, hb, by omega, .inl ⟨hw, rfl, rfl, rfl⟩⟩
      | true =>
        rw [hw, if_pos rfl] at hq
        subst hq
        cases ed : r.drop bs.length with
        | nil => rw [ed] at h; cases h
        | cons z r2 =>
          rw [ed] at h
          have h : (match (match (if 0 ≤ z ∧ z.toNat ≤ r2.length then some (r2.take z.toNat, r2.drop z.toNat) else none : Option (List Int × List Int)) with
            | none => none
            | some (x, s) => (some ([x], s) : Option (List (List Int) × List Int))) with
            | none => none
            | some (xs, t) => some ((p :: r.take bs.length) :: xs, t)) = some (c, t) := h
          by_cases hz : 0 ≤ z ∧ z.toNat ≤ r2.length
          · rw [if_pos hz] at h
            cases h
            exact ⟨k, bs, r2.take z.toNat, hk, hp, hb, by omega, .inr ⟨hw, z.toNat, r2, by rw [ed]; congr 1; omega, hz.2, rfl, rfl, rfl⟩⟩
          · rw [if_neg hz] at h; cases h
theorem asked_call {k : Nat} {bs : List (Int × Int)} {pl tx : List Int} {c : List (List Int)} (hk : k < 17) (hb : rangesL[k]? = some bs) (hl : pl.length = bs.length) (hc : (withT k = false ∧ tx = [] ∧ c = [(k : Int) :: pl]) ∨ (withT k = true ∧ c = [(k : Int) :: pl, tx])) (ha : VbbracNeutral.asked1 (PyVbbrac.whole c) = true) :
    ∃ x, VbbracNeutral.callOf (PyVbbrac.whole c) = some x ∧ callAt k pl tx = some x ∧ tx.length ≤ 1000 ∧ (k = 11 → tx.length ≤ 60) := by
  have : k = 0 ∨ k = 1 ∨ k = 2 ∨ k = 3 ∨ k = 4 ∨ k = 5 ∨ k = 6 ∨ k = 7 ∨ k = 8 ∨ k = 9 ∨ k = 10 ∨ k = 11 ∨ k = 12 ∨ k = 13 ∨ k = 14 ∨ k = 15 ∨ k = 16 := by omega
  rcases this with rfl | rfl | rfl | rfl | rfl | rfl | rfl | rfl | rfl | rfl | rfl | rfl | rfl | rfl | rfl | rfl | rfl <;> cases hb <;> rcases pl with _ | ⟨a, _ | ⟨b, _ | ⟨x, r⟩⟩⟩ <;>
    first
    | (exfalso; cases hl; done)
    | (exfalso; simp at hl; done)
    | (rcases hc with ⟨h1, rfl, rfl⟩ | ⟨h1, rfl⟩ <;> first
        | (exfalso; cases h1; done)
        | exact ⟨_, rfl, rfl, Nat.zero_le _, fun _ => Nat.zero_le _⟩
        | (have ha2 : (VbbracNeutral.whole60 a && (decide (tx.length ≤ 60) && tx.all (fun (z : Int) => VbbracNeutral.whole60 z))) = true := ha
           rw [Bool.and_eq_true, Bool.and_eq_true, decide_eq_true_iff] at ha2
           exact ⟨_, rfl, rfl, by omega, fun _ => ha2.2.1⟩)
        | (have ha2 : (VbbracNeutral.whole60 a && (decide (tx.length ≤ 1000) && tx.all (fun (z : Int) => VbbracNeutral.whole60 z))) = true := ha
           rw [Bool.and_eq_true, Bool.and_eq_true, decide_eq_true_iff] at ha2
           exact ⟨_, rfl, rfl, ha2.2.1, fun h => absurd h (by decide)⟩)
        | (have ha2 : (VbbracNeutral.whole60 a && (VbbracNeutral.whole60 b && (decide (tx.length ≤ 1000) && tx.all (fun (z : Int) => VbbracNeutral.whole60 z)))) = true := ha
           rw [Bool.and_eq_true, Bool.and_eq_true, Bool.and_eq_true, decide_eq_true_iff] at ha2
           exact ⟨_, rfl, rfl, ha2.2.2.1, fun h => absurd h (by decide)⟩))
end Bb
namespace Bb
open PySem PySem.Spec PyProof.Rows L2 Evl
open PySem.W (Codec)
open Vbbrac (State Call ranged nats decimal textOf)
theorem drop_cons {α : Type} {l r : List α} {i : Nat} {x : α} (h : l.drop i = x :: r) : l[i]? = some x ∧ r = l.drop (i + 1) ∧ i + r.length + 1 = l.length := by
  have h1 : (l.drop i)[0]? = some x := by rw [h]; rfl
  rw [List.getElem?_drop] at h1
  refine ⟨h1, ?_, ?_⟩
  · rw [← List.drop_drop, h]; rfl
  · have := congrArg List.length h
    rw [List.length_drop, List.length_cons] at this
    omega
theorem cutV_int {t : List Int} {b i : Nat} (hb : b ≤ i) (hi : i ≤ t.length) : cutV (t.map V.int) (some (b : Int)) (some (i : Int)) = ((t.drop b).take (i - b)).map V.int := by
  unfold cutV
  have h1 : HT.sIx (t.map V.int).length 0 (some (b : Int)) = b := by
    rw [HT.sIx_nat, List.length_map]; omega
  have h2 : HT.sIx (t.map V.int).length (t.map V.int).length (some (i : Int)) = i := by
    rw [HT.sIx_nat, List.length_map]; omega
  rw [h1, h2, List.map_take, List.map_drop]
def spOneE (CA CW CP CS : Addr) : Sp := fun vs H Q E => ∃ g : Addr, @spOne ⟨g⟩ CA CW CP CS vs H Q E
abbrev SesG (g CA CW CP CS : Addr) (H : Hp) (sa L : Addr) (ss : List State) : Prop := @SesM ⟨g⟩ CA CW CP CS H sa L ss
theorem ses_new {g CA CW CP CS sa L dx : Addr} {H : Hp} {gs : List V} (h1 : H sa = some (.ins CS dx (seF L))) (h2 : H L = some (.lst [])) (h3 : H g = some (.lst gs)) (n : L ≠ g) : SesG g CA CW CP CS H sa L [] :=
  @SesM.mk ⟨g⟩ _ _ _ _ _ _ _ _ ⟨dx, h1⟩ ⟨[], h2, .nil⟩ ⟨⟨gs, h3⟩, n⟩
theorem ses_mono {g CA CW CP CS sa L : Addr} {H H' : Hp} {ss : List State} (e : Ex H H') (h : SesG g CA CW CP CS H sa L ss) : SesG g CA CW CP CS H' sa L ss := by
  letI : GX := ⟨g⟩
  exact SesM.mono e h
theorem ses_upd {g CA CW CP CS sa L : Addr} {H : Hp} {ss : List State} (h : SesG g CA CW CP CS H sa L ss) (gs : List V) : SesG g CA CW CP CS (upd H g (.lst gs)) sa L ss := by
  obtain ⟨⟨dx, h1⟩, ⟨vs, h2, h3⟩, ⟨gs0, h4⟩, h5⟩ := h
  have h4 : H g = some (.lst gs0) := h4
  have h5 : L ≠ g := h5
  have n1 : sa ≠ g := fun z => by rw [z, h4] at h1; cases h1
  refine @SesM.mk ⟨g⟩ _ _ _ _ _ _ _ _ ⟨dx, by rw [upd_ne n1]; exact h1⟩ ⟨vs, by rw [upd_ne h5]; exact h2, h3.mono fun b o hb => ?_⟩ ⟨⟨gs, upd_same⟩, h5⟩
  obtain ⟨m1, m2⟩ := @hid_ne ⟨g⟩ _ _ _ _ _ hb
  have m3 : b ≠ g := @hid_ng ⟨g⟩ _ _ _ _ _ hb
  have hb2 := @hid_ex ⟨g⟩ _ _ _ b o hb
  exact @hid_of ⟨g⟩ _ _ _ _ _ (by rw [upd_ne m3]; exact hb2) m1 m2 m3
theorem ses_ne {g CA CW CP CS sa L : Addr} {H : Hp} {ss : List State} (h : SesG g CA CW CP CS H sa L ss) : g ≠ sa ∧ g ≠ L := by
  obtain ⟨⟨dx, h1⟩, _, ⟨gs0, h4⟩, h5⟩ := h
  have h4 : H g = some (.lst gs0) := h4
  exact ⟨fun z => (by rw [z, h1] at h4; cases h4), fun z => h5 z.symm⟩
section
variable {P : Program} {w : World} {K : PySem.W.Frag} {mg : Str → Option Value} {base : Heap} {fa : Nat → Addr} {fd : Nat → FuncData} {CA CW CP CS aN aR aA aW aO : Addr}
theorem ok_answer_oneE (T : Txt K mg fa fd CA CW CP CS aN aR aA aW aO) : FnOk P w K mg base CX0 16 (fa 74) (fd 74) P_answer_one (spOneE CA CW CP CS) :=
  ⟨fun vs H Q E ⟨g, h⟩ => (@ok_answer_one ⟨g⟩ P w K mg base fa fd CA CW CP CS aN aR aA aW aO T).len vs H Q E h, fun A outer s H args us vs Q E hr he hb hv ⟨g, h⟩ => (@ok_answer_one ⟨g⟩ P w K mg base fa fd CA CW CP CS aN aR aA aW aO T).run A outer s H args us vs Q E hr he hb hv h⟩
section
variable {σ : L2.St} {H : Hp} {ta tb tc td te : TE} {D : Ends} {tz : TS} {E : XK}
theorem el_slI {a : Addr} {t : List Int} {b i : Nat} (h : Ev ta σ H (.ref a)) (h1 : Ev tb σ H (iV b)) (h2 : Ev tc σ H (iV i)) (hs : SqL K H a (t.map V.int)) (hb : b ≤ i) (hi : i ≤ t.length) : EvL (tSl (rSlL K) ta (tPart tb) (tPart tc)) σ H (((t.drop b).take (i - b)).map V.int) := by
  have := el_sl h (eo_some h1) (eo_some h2) hs
  rw [cutV_int hb hi] at this
  exact this
theorem q_appZ {l : Addr} {xs : List V} {v : V} (hl : H l = some (.lst xs)) (ha : Ev ta σ H (.ref l)) (h : Ev te σ H v) (hz : xs.length < sizeLine) (k : ∀ H1, Ex H H1 → tz D σ (upd H1 l (.lst (xs ++ [v])))) :
    tSeq (tDrop (tBM K "list" rAppend ta (tCons te tNil))) tz D σ H := ha H (Ex.refl H) _ fun H1 e1 =>
  ⟨Or.inl ⟨rfl, xs, sq_of (e1 l _ hl)⟩, h H1 e1 _ fun H2 e2 => ⟨l, xs, v, rfl, rfl, e2 l _ (e1 l _ hl), hz, k H2 (e1.trans e2)⟩⟩
theorem q_extZ {l p : Addr} {xs ys : List V} (hl : H l = some (.lst xs)) (ha : Ev ta σ H (.ref l)) (h : Ev te σ H (.ref p)) (hp : H p = some (.lst ys)) (hz : xs.length + ys.length ≤ sizeLine) (k : ∀ H1, Ex H H1 → tz D σ (upd H1 l (.lst (xs ++ ys)))) :
    tSeq (tDrop (tBM K "list" rExtend ta (tCons te tNil))) tz D σ H := ha H (Ex.refl H) _ fun H1 e1 =>
  ⟨Or.inl ⟨rfl, xs, sq_of (e1 l _ hl)⟩, h H1 e1 _ fun H2 e2 => ⟨l, p, xs, ys, rfl, rfl, e2 l _ (e1 l _ hl), e2 _ _ (e1 _ _ hp), hz, k H2 (e1.trans e2)⟩⟩
theorem q_one {g sa L pa xa : Addr} {k i : Nat} {pl tx : List Int} {ss : List State} {s : State} {c : Call} (h1 : Ev ta σ H (.ref sa)) (h2 : Ev tb σ H (.int k)) (h3 : Ev tc σ H (.ref pa)) (h4 : Ev td σ H (.ref xa)) (hk : k < 17) (hS : SesG g CA CW CP CS H sa L ss) (hst : St s ss) (hp : H pa = some (.lst (pl.map V.int))) (ht : H xa = some (.lst (tx.map V.int)))
    (hc : callAt k pl tx = some c) (hl : tx.length ≤ 1000) (hl2 : k = 11 → tx.length ≤ 60) (hw : withT k = true ∨ tx = [])
    (kk : ∀ p H' L' ss', H p = none → Frm (fun b => b = sa ∨ b = L) H H' → SesG g CA CW CP CS H' sa L' ss' → St (Vbbrac.step s c).1 ss' → H' p = some (.lst ((Vbbrac.step s c).2.map V.int)) → (L' = L ∨ H L' = none) → tz D (σ.set i (some (.ref p))) H') :
    tSeq (tAsg (tCall (spOneE CA CW CP CS) [] E (tCons ta (tCons tb (tCons tc (tCons td tNil))))) (gName i)) tz D σ H :=
  h1 H (Ex.refl H) _ fun H1 e1 => h2 H1 e1 _ fun H2 e2 => h3 H2 (e1.trans e2) _ fun H3 e3 => h4 H3 ((e1.trans e2).trans e3) _ fun H4 e4 =>
    ⟨g, k, sa, L, ss, s, pa, xa, pl, tx, c, rfl, hk, ses_mono (((e1.trans e2).trans e3).trans e4) hS, hst, (((e1.trans e2).trans e3).trans e4) _ _ hp, (((e1.trans e2).trans e3).trans e4) _ _ ht, hc, hl, hl2, hw,
      @DoneA.mono ⟨g⟩ _ _ _ _ H _ _ _ _ _ _ kk (((e1.trans e2).trans e3).trans e4)⟩
theorem turn_end {a sa g L pa xa : Addr} {k at_ bh : Nat} {u x : Option V} {G pl tx : List Int} {ss : List State} {s : State} {c : Call} (hk : k < 17) (hS : SesG g CA CW CP CS H sa L ss) (hst : St s ss) (hg : H g = some (.lst (G.map V.int))) (hp : H pa = some (.lst (pl.map V.int))) (ht : H xa = some (.lst (tx.map V.int)))
    (hc : callAt k pl tx = some c) (hl : tx.length ≤ 1000) (hl2 : k = 11 → tx.length ≤ 60) (hw : withT k = true ∨ tx = []) (hz : G.length + 1 + (Vbbrac.step s c).2.length ≤ sizeLine)
    (kk : ∀ p H' L' ss', Frm (fun b => b = sa ∨ b = L ∨ b = g) H H' → SesG g CA CW CP CS H' sa L' ss' → St (Vbbrac.step s c).1 ss' → H' g = some (.lst ((G ++ (((Vbbrac.step s c).2.length : Int) :: (Vbbrac.step s c).2)).map V.int)) → (L' = L ∨ H L' = none) →
      D.nx [some (.ref a), some (.ref sa), some (.ref g), some (iV bh), some (.int k), some (iV bh), some (.ref pa), some (.ref xa), u, some (.ref p)] H') :
    tSeq (tAsg (tCall (spOneE CA CW CP CS) [] E (tCons (tVar 1) (tCons (tVar 4) (tCons (tVar 6) (tCons (tVar 7) tNil))))) (gName 9)) (tSeq (tDrop (tBM K "list" rAppend (tVar 2) (tCons (tCB (rLenS K) (tCons (tVar 9) tNil)) tNil))) (tSeq (tDrop (tBM K "list" rExtend (tVar 2) (tCons (tVar 9) tNil))) (tAsg (tVar 5) (gName 3)))) D [some (.ref a), some (.ref sa), some (.ref g), some (iV at_), some (.int k), some (iV bh), some (.ref pa), some (.ref xa), u, x] H := by
  refine q_one (g := g) (ev_var rfl) (ev_var rfl) (ev_var rfl) (ev_var rfl) hk hS hst hp ht hc hl hl2 hw fun p H1 L' ss' hp1 f1 hS1 hst1 h1 hL => ?_
  obtain ⟨n1, n2⟩ := ses_ne hS
  have hg1 : H1 g = some (.lst (G.map V.int)) := f1 _ _ hg fun z => z.elim n1 n2
  have npg : p ≠ g := fun z => by rw [z, hg] at hp1; cases hp1
  refine q_appZ hg1 (ev_var rfl) (ev_len (ev_var (i := 9) (v := .ref p) rfl) (sq_of h1)) (by rw [List.length_map]; omega) fun H2 e2 => ?_
  refine q_extZ upd_same (ev_var rfl) (ev_var (i := 9) (v := .ref p) rfl) (by rw [upd_ne npg]; exact e2 _ _ h1) (by rw [List.length_append, List.length_map, List.length_map]; exact hz) fun H3 e3 => ?_
  refine s_asg (v := iV bh) (ev_var rfl) fun H4 e4 => ?_
  refine kk p H4 L' ss' (fun b o hb n => ?_) ?_ hst1 ?_ hL
  · have n1 : b ≠ g := fun z => n (.inr (.inr z))
    refine e4 _ _ ?_
    rw [upd_ne n1]
    refine e3 _ _ ?_
    rw [upd_ne n1]
    exact e2 _ _ (f1 _ _ hb fun z => z.elim (fun z => n (.inl z)) fun z => n (.inr (.inl z)))
  · exact ses_mono e4 (ses_upd (ses_mono e3 (ses_upd (ses_mono e2 hS1) _)) _)
  · refine e4 _ _ ?_
    rw [upd_same, List.length_map, List.append_assoc, List.map_append]
    rfl
end
end
end Bb
namespace Bb
open PySem PySem.Spec PyProof.Rows L2 Evl
open PySem.W (Codec)
open Vbbrac (State Call ranged nats decimal textOf)
def due (s : State) (raw : List (List (List Int))) : List Int := PyFlat.told (PyFlat.played VbbracNeutral.step s (raw.map PyVbbrac.whole))
theorem due_nil (s : State) : due s [] = [] := rfl
theorem due_cons {s : State} {c : List (List Int)} {cs : List (List (List Int))} {x : Call} (h : VbbracNeutral.callOf (PyVbbrac.whole c) = some x) : due s (c :: cs) = (((Vbbrac.step s x).2.length : Int) :: (Vbbrac.step s x).2) ++ due (Vbbrac.step s x).1 cs := by
  have e : VbbracNeutral.step s (PyVbbrac.whole c) = Vbbrac.step s x := by
    unfold VbbracNeutral.step
    rw [h]
  unfold due
  rw [List.map_cons]
  show PyFlat.told ((VbbracNeutral.step s (PyVbbrac.whole c)).2 :: PyFlat.played VbbracNeutral.step (VbbracNeutral.step s (PyVbbrac.whole c)).1 (cs.map PyVbbrac.whole)) = _
  rw [e]
  unfold PyFlat.told
  rw [List.flatMap_cons]
theorem calls_cons {f : Nat} {p : Int} {r : List Int} {raw : List (List (List Int))} (h : PyFlat.calls PyVbbrac.shape f (p :: r) = some raw) : ∃ f' c t cs, PyFlat.call PyVbbrac.shape (p :: r) = some (c, t) ∧ PyFlat.calls PyVbbrac.shape f' t = some cs ∧ raw = c :: cs := by
  cases f with
  | zero => cases h
  | succ f =>
    have h : (match PyFlat.call PyVbbrac.shape (p :: r) with
      | none => none
      | some (c, t) => match PyFlat.calls PyVbbrac.shape f t with
        | none => none
        | some cs => some (c :: cs)) = some raw := h
    cases e : PyFlat.call PyVbbrac.shape (p :: r) with
    | none => rw [e] at h; cases h
    | some x =>
      obtain ⟨c, t⟩ := x
      rw [e] at h
      have h : (match PyFlat.calls PyVbbrac.shape f t with
        | none => none
        | some cs => some (c :: cs)) = some raw := h
      cases e2 : PyFlat.calls PyVbbrac.shape f t with
      | none => rw [e2] at h; cases h
      | some cs =>
        rw [e2] at h
        exact ⟨f, c, t, cs, rfl, e2, (Option.some.inj h).symm⟩
theorem calls_nil {f : Nat} {raw : List (List (List Int))} (h : PyFlat.calls PyVbbrac.shape f [] = some raw) : raw = [] := by
  cases f <;> exact (Option.some.inj h).symm
theorem asked_is {ns : List Int} (h : PyVbbrac.answers_asked ns = true) : ∃ raw, PyFlat.calls PyVbbrac.shape ns.length ns = some raw ∧ ((raw.map PyVbbrac.whole).all VbbracNeutral.asked1) = true ∧ PyVbbrac.answers ns = due VbbracNeutral.start raw ∧ (PyVbbrac.answers ns).length ≤ 10000000 := by
  unfold PyVbbrac.answers_asked at h
  cases e : PyFlat.calls PyVbbrac.shape ns.length ns with
  | none => rw [e] at h; cases h
  | some raw =>
    rw [e] at h
    have h : (!raw.isEmpty && PyFlat.atMost 400 raw && PyInside.calls PyVbbrac.bound raw && VbbracNeutral.asked (raw.map PyVbbrac.whole) && PyFlat.short 10000000 (PyVbbrac.answers ns)) = true := h
    rw [Bool.and_eq_true, Bool.and_eq_true] at h
    have h1 : (((raw.map PyVbbrac.whole).all VbbracNeutral.asked1) && (decide (1 ≤ (raw.map PyVbbrac.whole).length) && decide ((raw.map PyVbbrac.whole).length ≤ 400))) = true := h.1.2
    rw [Bool.and_eq_true] at h1
    refine ⟨raw, rfl, h1.1, ?_, of_decide_eq_true h.2⟩
    unfold PyVbbrac.answers PyVbbrac.calls
    rw [e]
    rfl
def spAnswers (K : PySem.W.Frag) : Sp := fun vs H Q _ => ∃ (a : Addr) (ns : List Int), vs = [.ref a] ∧ SqL K H a (ns.map V.int) ∧ PyVbbrac.answers_asked ns = true ∧ ∀ H' p, H' p = some (.lst ((PyVbbrac.answers ns).map V.int)) → Q (.ref p) H'
section
variable {P : Program} {w : World} {K : PySem.W.Frag} {mg : Str → Option Value} {base : Heap} {fa : Nat → Addr} {fd : Nat → FuncData} {CA CW CP CS aN aR aA aW aO : Addr}
theorem evp_newS {σ : L2.St} {H : Hp} {E : XK} : EvP (tMake CS (spSInit CS) [] E tNil) σ H (fun v H' => ∃ sa L dx, v = .ref sa ∧ H sa = none ∧ H L = none ∧ H' sa = some (.ins CS dx (seF L)) ∧ H' L = some (.lst [])) := fun H1 e Q q => by
  intro x dx hx hdx hne
  refine ⟨x, dx, rfl, upd_same, fun H' L hL h1 h2 f => ⟨rfl, ?_⟩⟩
  have hLx : L ≠ x := fun z => by rw [z, upd_same] at hL; cases hL
  have hL2 : H1 L = none := by
    rw [upd_ne hLx] at hL
    by_cases z : L = dx
    · rw [z, upd_same] at hL; cases hL
    · rw [upd_ne z] at hL; exact hL
  have e3 : Ex H1 (upd (upd H1 dx (.own x)) x (.ins CS dx [])) := (Ex.new hdx).trans (Ex.new (by rw [upd_ne (Ne.symm hne)]; exact hx))
  have e4 : Ex H1 H' := f.ex e3 fun b hb => by rw [hb]; exact hx
  exact q _ H' e4 ⟨x, L, dx, rfl, fresh_back e hx, fresh_back e hL2, h1, h2⟩
theorem ok_answers (T : Txt K mg fa fd CA CW CP CS aN aR aA aW aO) : FnOk P w K mg base CX0 17 (fa 75) (fd 75) P_answers (spAnswers K) := by
  refine T.d_answers.F.ok sc_answers (fun vs H Q E h => ?_) (fun cdv A outer s H vs Q E hr h => ⟨_, (pss_cons (ps_set (i := 1) sc_answers.nd rfl (.inl rfl) (pe_make0 T.k_Session (ok_s_init T) (hr.mono (by decide)) rfl T.c_Session T.d_s_init.b .nil pass0)) (pss_cons (ps_set (i := 2) sc_answers.nd rfl (.inl rfl) (pe_lst pa_nil)) (pss_cons (ps_set (i := 3) sc_answers.nd rfl (.inl rfl) pe_int) (pss_cons (ps_while PassesOwn.never (pt_cmpR op_lt (pv 3) (pe_callB call_len_seq (by rfl) T.b_len PySem.boot_len (pa_cons (pv 0) pa_nil)) (nomark _)) (pss_cons (ps_set (i := 4) sc_answers.nd rfl (.inl rfl) (pe_ix ix_list (pv 0) (pv 3) (fun _ _ => rfl))) (pss_cons (ps_set (i := 5) sc_answers.nd rfl (.inl rfl) (pe_op op_add (pe_op op_add (pv 3) pe_int) (pe_callB call_len_seq (by rfl) T.b_len PySem.boot_len (pa_cons (pe_ix ix_tup (pe_globR rfl T.g_RANGES) (pv 4) (fun _ _ => rfl)) pa_nil)))) (pss_cons (ps_set (i := 6) sc_answers.nd rfl (.inl rfl) (pe_slice sl_list (pv 0) (po_some (pe_op op_add (pv 3) pe_int)) (po_some (pv 5)))) (pss_cons (ps_set (i := 7) sc_answers.nd rfl (.inl rfl) (pe_lst pa_nil)) (pss_cons (ps_if (pt_cmpR op_in_seq (pv 4) (pe_globR rfl T.g_WITH_TEXT) (by rfl)) (pss_cons (ps_set (i := 8) sc_answers.nd rfl (.inl rfl) (pe_op op_add (pv 5) pe_int)) (pss_cons (ps_set (i := 5) sc_answers.nd rfl (.inl rfl) (pe_op op_add (pv 8) (pe_ix ix_list (pv 0) (pv 5) (fun _ _ => rfl)))) (pss_one (ps_set (i := 7) sc_answers.nd rfl (.inl rfl) (pe_slice sl_list (pv 0) (po_some (pv 8)) (po_some (pv 5))))))) pss_nil) (pss_cons (ps_set (i := 9) sc_answers.nd rfl (.inl rfl) (pe_call (ok_answer_oneE T) (hr.mono (by decide)) rfl T.m_answer_one T.d_answer_one.F.kp T.d_answer_one.b .nil pass0 (pa_cons (pv 1) (pa_cons (pv 4) (pa_cons (pv 6) (pa_cons (pv 7) pa_nil)))))) (pss_cons (ps_expr (pe_bm PySem.F.plainAttrs_list PySem.F.slot_list_append PySem.F.type_list_append mt_append (pv 2) (pa_cons (pe_callB call_len_seq (by rfl) T.b_len PySem.boot_len (pa_cons (pv 9) pa_nil)) pa_nil))) (pss_cons (ps_expr (pe_bm PySem.F.plainAttrs_list PySem.F.slot_list_extend PySem.F.type_list_extend mt_extend (pv 2) (pa_cons (pv 9) pa_nil))) (pss_one (ps_set (i := 3) sc_answers.nd rfl (.inl rfl) (pv 5)))))))))))) (pss_one (ps_ret (pv 2))))))), ?_⟩)
  · obtain ⟨a, ns, rfl, _⟩ := h; rfl
  · obtain ⟨a, ns, rfl, hq, hask, k⟩ := h
    obtain ⟨raw0, hraw0, hasked0, hA0, hshort⟩ := asked_is hask
    refine q_asgP evp_newS fun v H1 e1 hv => ?_
    obtain ⟨sa, L0, dx, rfl, hsa, hL0, hs1, hl1⟩ := hv
    refine q_asgL (xs := []) (el_lst ea_nil (by decide)) fun g H2 hg e2 h2 => ?_
    refine q_asg (v := iV 0) ev_c fun H3 e3 => ?_
    have hgL : L0 ≠ g := fun z => by rw [z, hg] at hl1; cases hl1
    have hg0 : H g = none := fresh_back e1 hg
    have hS0 : SesG g CA CW CP CS H3 sa L0 [] := ses_new (e3 _ _ (e2 _ _ hs1)) (e3 _ _ (e2 _ _ hl1)) (e3 _ _ h2) hgL
    refine q_while (fun m σ' H' => ∃ (at_ f : Nat) (raw : List (List (List Int))) (s : State) (ss : List State) (L : Addr) (G : List Int) (u1 u2 u3 u4 u5 u6 : Option V), m = raw.length ∧ at_ ≤ ns.length ∧ PyFlat.calls PyVbbrac.shape f (ns.drop at_) = some raw ∧ ((raw.map PyVbbrac.whole).all VbbracNeutral.asked1) = true ∧ PyVbbrac.answers ns = G ++ due s raw ∧
      σ' = [some (.ref a), some (.ref sa), some (.ref g), some (iV at_), u1, u2, u3, u4, u5, u6] ∧ Ex H H' ∧ H L = none ∧ SesG g CA CW CP CS H' sa L ss ∧ St s ss ∧ H' g = some (.lst (G.map V.int))) raw0.length
      ⟨0, ns.length, raw0, Vbbrac.start, [], L0, [], none, none, none, none, none, none, rfl, Nat.zero_le _, hraw0, hasked0, hA0, rfl, (e1.trans e2).trans e3, hL0, hS0, .inr ⟨rfl, rfl⟩, e3 _ _ h2⟩ ?_
    rintro m σ' H' ⟨at_, f, raw, s, ss, L, G, u1, u2, u3, u4, u5, u6, rfl, hat, hraw, hasked, hA, rfl, e, hL, hS, hst, hgH⟩
    have hq' : SqL K H' a (ns.map V.int) := ex_l e hq
    refine ⟨decide (at_ < ns.length), et_I (ev_var rfl) (ev_len (ev_var rfl) hq') (by rw [List.length_map, decide_eq_decide]; omega), fun hb H4 e4 => ?_, fun hb H4 e4 => ?_⟩
    · have hlt := of_decide_eq_true hb
      cases ed : ns.drop at_ with
      | nil =>
        have := congrArg List.length ed
        rw [List.length_drop] at this
        have h0 : ([] : List Int).length = 0 := rfl
        omega
      | cons p r =>
        rw [ed] at hraw
        obtain ⟨d1, d2, d3⟩ := drop_cons ed
        obtain ⟨f', c, t, cs, hc1, hc2, rfl⟩ := calls_cons hraw
        obtain ⟨k', bs, tx, PP⟩ := call_parsed hc1
        obtain ⟨hk, rfl, hrng, hlen, htxt⟩ := PP
        rw [List.map_cons, List.all_cons, Bool.and_eq_true] at hasked
        have hpl : (r.take bs.length).length = bs.length := by rw [List.length_take]; omega
        obtain ⟨x, hx1, hx2, hx3, hx4⟩ := asked_call (tx := tx) hk hrng hpl (htxt.imp (fun h => ⟨h.1, h.2.1, h.2.2.1⟩) fun h => ⟨h.1, by obtain ⟨_, _, _, _, _, h, _⟩ := h.2; exact h⟩) hasked.1
        rw [due_cons hx1] at hA
        have hz : G.length + 1 + (Vbbrac.step s x).2.length ≤ sizeLine := by
          have := congrArg List.length hA
          rw [List.length_append, List.length_append, List.length_cons] at this
          exact Nat.le_trans (show _ ≤ 10000000 by omega) (by decide)
        have hw : withT k' = true ∨ tx = [] := htxt.elim (fun h => .inr h.2.1) fun h => .inl h.1
        have e04 := e.trans e4
        have hq4 : SqL K H4 a (ns.map V.int) := ex_l e04 hq
        obtain ⟨rs, rr, qs, R⟩ := ranges_at T hrng
        have hqs : (qs.map V.ref).length = bs.length := by rw [List.length_map, paired_len R.2.2.2]
        refine ⟨fun σ2 H2 => ∃ (at_ f : Nat) (s : State) (ss : List State) (L : Addr) (G : List Int) (u1 u2 u3 u4 u5 u6 : Option V), at_ ≤ ns.length ∧ PyFlat.calls PyVbbrac.shape f (ns.drop at_) = some cs ∧ PyVbbrac.answers ns = G ++ due s cs ∧
          σ2 = [some (.ref a), some (.ref sa), some (.ref g), some (iV at_), u1, u2, u3, u4, u5, u6] ∧ Ex H H2 ∧ H L = none ∧ SesG g CA CW CP CS H2 sa L ss ∧ St s ss ∧ H2 g = some (.lst (G.map V.int)), ?_, ?_⟩
        · rintro σ2 H2 ⟨at_, f, s, ss, L, G, u1, u2, u3, u4, u5, u6, q1, q2, q3, q4, q5, q6, q7, q8, q9⟩
          exact ⟨cs.length, by rw [List.length_cons]; omega, at_, f, cs, s, ss, L, G, u1, u2, u3, u4, u5, u6, rfl, q1, q2, hasked.2, q3, q4, q5, q6, q7, q8, q9⟩
        refine q_asg (v := .int k') (ev_op (ev_var rfl) (ev_var rfl) (rv_ixL hq4 (atI_n (i := at_) (by rw [List.getElem?_map, d1]; rfl)))) fun H5 e5 => ?_
        refine q_asg (v := iV (at_ + 1 + bs.length)) (ev_addN (ev_addN (i := at_) (j := 1) (ev_var rfl) ev_c) (ev_is (ev_lenT (ev_rngAt R (ev_var (i := 4) (v := .int k') rfl)) (R.2.2.1 _)) (by rw [hqs]))) fun H6 e6 => ?_
        refine q_asgL (el_slI (b := at_ + 1) (i := at_ + 1 + bs.length) (ev_var rfl) (ev_addN (i := at_) (j := 1) (ev_var rfl) ev_c) (ev_var rfl) (ex_l (e5.trans e6) hq4) (by omega) (by omega)) fun pa H7 hpa e7 h7 => ?_
        have hpl2 : H7 pa = some (.lst ((r.take bs.length).map V.int)) := by
          rw [h7, show at_ + 1 + bs.length - (at_ + 1) = bs.length by omega, ← d2]
        refine q_asgL (xs := []) (el_lst ea_nil (by decide)) fun xa H8 hxa e8 h8 => ?_
        have e48 : Ex H4 H8 := ((e5.trans e6).trans e7).trans e8
        have hgo : ∀ (bh : Nat) (u : Option V) (xa' : Addr) (H9 : Hp), Ex H8 H9 → H9 xa' = some (.lst (tx.map V.int)) → bh ≤ ns.length → ns.drop bh = t →
            ∀ D : Ends, (∀ σ2 H2, (∃ (at_ f : Nat) (s : State) (ss : List State) (L : Addr) (G : List Int) (u1 u2 u3 u4 u5 u6 : Option V), at_ ≤ ns.length ∧ PyFlat.calls PyVbbrac.shape f (ns.drop at_) = some cs ∧ PyVbbrac.answers ns = G ++ due s cs ∧
              σ2 = [some (.ref a), some (.ref sa), some (.ref g), some (iV at_), u1, u2, u3, u4, u5, u6] ∧ Ex H H2 ∧ H L = none ∧ SesG g CA CW CP CS H2 sa L ss ∧ St s ss ∧ H2 g = some (.lst (G.map V.int))) → D.nx σ2 H2) →
            tSeq (tAsg (tCall (spOneE CA CW CP CS) [] E0 (tCons (tVar 1) (tCons (tVar 4) (tCons (tVar 6) (tCons (tVar 7) tNil))))) (gName 9)) (tSeq (tDrop (tBM K "list" rAppend (tVar 2) (tCons (tCB (rLenS K) (tCons (tVar 9) tNil)) tNil))) (tSeq (tDrop (tBM K "list" rExtend (tVar 2) (tCons (tVar 9) tNil))) (tAsg (tVar 5) (gName 3)))) D [some (.ref a), some (.ref sa), some (.ref g), some (iV at_), some (.int k'), some (iV bh), some (.ref pa), some (.ref xa'), u, u6] H9 := by
          intro bh u xa' H9 e9 hx9 hbh hdt D hD
          have e49 := e48.trans e9
          refine turn_end (pl := r.take bs.length) (tx := tx) (G := G) hk (ses_mono (e4.trans e49) hS) hst ((e4.trans e49) _ _ hgH) (e9 _ _ (e8 _ _ hpl2)) hx9 hx2 hx3 hx4 hw hz fun p H10 L' ss' f10 hS10 hst10 hg10 hL10 => hD _ _ ⟨bh, f', (Vbbrac.step s x).1, ss', L', _, _, _, _, _, _, _, hbh, by rw [hdt]; exact hc2, by rw [hA, List.append_assoc], rfl, fun b o hb => ?_, ?_, hS10, hst10, hg10⟩
          · refine f10 _ _ (e49 _ _ (e04 _ _ hb)) fun z => ?_
            rcases z with z | z | z
            · rw [z, hsa] at hb; cases hb
            · rw [z, hL] at hb; cases hb
            · rw [z, hg0] at hb; cases hb
          · rcases hL10 with rfl | hL10
            · exact hL
            · exact fresh_back (e04.trans e49) hL10
        rcases htxt with ⟨hw0, rfl, rfl, rfl⟩ | ⟨hw1, mm, r2, hr2, hmm, htx, rfl, rfl⟩
        · refine q_if (b := false) (et_test (ev_is (ev_op (ev_var (i := 4) (v := .int k') rfl) ev_c (rv_isT (T.t_WITH_TEXT _) rfl rfl)) (by rw [withT_is hk, hw0]))) (fun h => by cases h) (fun _ H9 e9 => ?_)
          exact hgo (at_ + 1 + bs.length) u5 xa H9 e9 (e9 _ _ h8) (by omega) (by rw [d2, List.drop_drop]) _ fun σ2 H2 h => h
        · have hdr : ns.drop (at_ + 1 + bs.length) = (mm : Int) :: r2 := by rw [← List.drop_drop, ← d2]; exact hr2
          obtain ⟨g1, g2, g3⟩ := drop_cons hdr
          refine q_if (b := true) (et_test (ev_is (ev_op (ev_var (i := 4) (v := .int k') rfl) ev_c (rv_isT (T.t_WITH_TEXT _) rfl rfl)) (by rw [withT_is hk, hw1]))) (fun _ H9 e9 => ?_) (fun h => by cases h)
          have hq9 : SqL K H9 a (ns.map V.int) := ex_l (e48.trans e9) hq4
          refine q_asg (v := iV (at_ + 1 + bs.length + 1)) (ev_addN (i := at_ + 1 + bs.length) (j := 1) (ev_var rfl) ev_c) fun H10 e10 => ?_
          refine q_asg (v := iV (at_ + 1 + bs.length + 1 + mm)) (ev_addN (i := at_ + 1 + bs.length + 1) (j := mm) (ev_var rfl) (ev_op (ev_var rfl) (ev_var rfl) (rv_ixL (ex_l e10 hq9) (atI_n (i := at_ + 1 + bs.length) (by rw [List.getElem?_map, g1]; rfl))))) fun H11 e11 => ?_
          refine s_asgL (el_slI (b := at_ + 1 + bs.length + 1) (i := at_ + 1 + bs.length + 1 + mm) (ev_var rfl) (ev_var rfl) (ev_var rfl) (ex_l (e10.trans e11) hq9) (by omega) (by omega)) fun xa' H12 hxa' e12 h12 => ?_
          refine hgo (at_ + 1 + bs.length + 1 + mm) (some (iV (at_ + 1 + bs.length + 1))) xa' H12 (((e9.trans e10).trans e11).trans e12) ?_ (by omega) ?_ _ fun σ2 H2 h => h
          · rw [h12, htx, g2, show at_ + 1 + bs.length + 1 + mm - (at_ + 1 + bs.length + 1) = mm by omega]
          · rw [g2, List.drop_drop]
    · have hge : ¬ at_ < ns.length := of_decide_eq_false hb
      have hd : ns.drop at_ = [] := List.drop_eq_nil_of_le (by omega)
      rw [hd] at hraw
      have := calls_nil hraw
      subst this
      rw [due_nil, List.append_nil] at hA
      refine s_ret (v := .ref g) (ev_var rfl) fun H5 e5 => k H5 g ?_
      rw [hA]
      exact e5 _ _ (e4 _ _ hgH)
end
end Bb
namespace Bb
open PySem PySem.Spec PyProof.Rows L2 Evl
open PySem.W (Codec)
/-! ### the end: what the top has made, by names -/
def fdOf (K : PySem.W.Frag) (p : Str × Option Str) : FuncData := match K.lookup (He.fAd K p) with
  | some ⟨_, _, .func fd, _⟩ => fd
  | _ => PySem.W.fnOf "" "" (defArgs st_partner) (defBody st_partner) (defScope st_partner) .none .none .none .none none .none .none
theorem dok_of {K : PySem.W.Frag} {p : Str × Option Str} {x qual : Str} {st : Stmt} {ps : List Str}
    (h : ∃ oc od osl kV doc pm an cdv ct, K.lookup (He.fAd K p) = some ⟨oc, od, .func (PySem.W.fnOf x qual (defArgs st) (defBody st) (defScope st) .none kV doc pm an cdv ct), osl⟩ ∧ PySem.W.codeIn K cdv qual = true) (k : PySem.W.keepIn K (.ref (He.fAd K p)) = true)
    (hb : ∀ (kV doc pm : Value) (an : Option Addr) (cdv ct : Value) (us : List Value), us.length = ps.length → bindArgs (PySem.W.fnOf x qual (defArgs st) (defBody st) (defScope st) .none kV doc pm an cdv ct) ⟨us, []⟩ = pure (ps.zip us)) : DOk K x qual st ps (He.fAd K p) (fdOf K p) := by
  obtain ⟨oc, od, osl, kV, doc, pm, an, cdv, ct, l, c⟩ := h
  have e : fdOf K p = PySem.W.fnOf x qual (defArgs st) (defBody st) (defScope st) .none kV doc pm an cdv ct := by
    unfold fdOf
    rw [l]
  rw [e]
  have F := fun_mk (st := st) l c k
  exact ⟨F, F.binds hb⟩
def tupA (K : PySem.W.Frag) (a : Addr) (vs : List V) : Bool := match K.lookup a with
  | some ⟨.type c, _, .seq its _, _⟩ => decide (c = "tuple") && (decide (its.size ≤ sizeLine) && He.relAll vs its.toList)
  | _ => false
theorem tupA_ok {K : PySem.W.Frag} {a : Addr} {vs : List V} (h : tupA K a vs = true) (H : Hp) : SqT K H a vs := by
  unfold tupA at h
  cases q : K.lookup a with
  | none => rw [q] at h; cases h
  | some o =>
    obtain ⟨oc, od, dt, osl⟩ := o
    rw [q] at h
    cases oc with
    | type c =>
      cases dt with
      | seq its n =>
        have h : (decide (c = "tuple") && (decide (its.size ≤ sizeLine) && He.relAll vs its.toList)) = true := h
        rw [Bool.and_eq_true, Bool.and_eq_true] at h
        exact .inr ⟨_, its, n, q, congrArg Value.type (of_decide_eq_true h.1), rfl, of_decide_eq_true h.2.1, He.relAll_ok h.2.2⟩
      | _ => cases h
    | _ => cases dt <;> cases h
def itemsA (K : PySem.W.Frag) (a : Addr) : List Addr := match K.lookup a with
  | some ⟨_, _, .seq its _, _⟩ => its.toList.map fun v => match v with
    | .ref b => b
    | _ => 0
  | _ => []
def pairB {α β : Type} (p : α → β → Bool) : List α → List β → Bool
  | [], [] => true
  | a :: r, b :: s => p a b && pairB p r s
  | _, _ => false
theorem pairB_ok {α β : Type} {p : α → β → Bool} {F : α → β → Prop} (hp : ∀ a b, p a b = true → F a b) : ∀ {as : List α} {bs : List β}, pairB p as bs = true → Paired F as bs
  | [], [], _ => .nil
  | [], _ :: _, h => by cases h
  | _ :: _, [], h => by cases h
  | a :: r, b :: s, h => by
    have h : (p a b && pairB p r s) = true := h
    rw [Bool.and_eq_true] at h
    exact .cons (hp a b h.1) (pairB_ok hp h.2)
def rngB (K : PySem.W.Frag) : Bool := tupA K (He.ga K "RANGES") ((itemsA K (He.ga K "RANGES")).map .ref) && pairB (fun r bs => tupA K r ((itemsA K r).map .ref) && pairB (fun q (b : Int × Int) => tupA K q [.int b.1, .int b.2]) (itemsA K r) bs) (itemsA K (He.ga K "RANGES")) rangesL
def answL (K : PySem.W.Frag) : List V := [.ref (He.ga K "answer_deal"), .ref (He.ga K "answer_board"), .ref (He.ga K "answer_call"), .ref (He.ga K "answer_decide"), .ref (He.ga K "answer_undo"), .ref (He.ga K "answer_table"), .ref (He.ga K "answer_legals"), .ref (He.ga K "answer_contract"), .ref (He.ga K "answer_ways"), .ref (He.ga K "answer_longest"), .ref (He.ga K "answer_number"), .ref (He.ga K "answer_nth"), .ref (He.ga K "answer_text"), .ref (He.ga K "answer_look"), .ref (He.ga K "answer_read"), .ref (He.ga K "answer_made"), .ref (He.ga K "answer_named")]
def tupsB (K : PySem.W.Frag) : Bool := tupA K (He.ga K "NO_BIDS") [.str "P", .str "X", .str "XX"] && (tupA K (He.ga K "WITH_TEXT") [.int 11, .int 13, .int 14] && (tupA K (He.ga K "WITHOUT_AUCTION") [.int 0, .int 1, .int 11, .int 13, .int 14] && (tupA K (He.ga K "ANSWERERS") (answL K) && rngB K)))
theorem tups_ok {K : PySem.W.Frag} (h : tupsB K = true) : (∀ H, SqT K H (He.ga K "NO_BIDS") [.str "P", .str "X", .str "XX"]) ∧ (∀ H, SqT K H (He.ga K "WITH_TEXT") [.int 11, .int 13, .int 14]) ∧ (∀ H, SqT K H (He.ga K "WITHOUT_AUCTION") [.int 0, .int 1, .int 11, .int 13, .int 14]) ∧ (∀ H, SqT K H (He.ga K "ANSWERERS") (answL K)) ∧
    ∃ rs : List Addr, (∀ H, SqT K H (He.ga K "RANGES") (rs.map .ref)) ∧ Paired (fun r bs => ∃ qs : List Addr, (∀ H, SqT K H r (qs.map .ref)) ∧ Paired (fun q (b : Int × Int) => ∀ H, SqT K H q [.int b.1, .int b.2]) qs bs) rs rangesL := by
  unfold tupsB rngB at h
  rw [Bool.and_eq_true, Bool.and_eq_true, Bool.and_eq_true, Bool.and_eq_true, Bool.and_eq_true] at h
  obtain ⟨h1, h2, h3, h4, h5, h6⟩ := h
  refine ⟨tupA_ok h1, tupA_ok h2, tupA_ok h3, tupA_ok h4, _, tupA_ok h5, pairB_ok (fun r bs hr => ?_) h6⟩
  rw [Bool.and_eq_true] at hr
  exact ⟨_, tupA_ok hr.1, pairB_ok (fun q b hq => tupA_ok hq) hr.2⟩
abbrev gp (x : Str) : Str × Option Str := (x, none)
abbrev mp (x m : Str) : Str × Option Str := (x, some m)
def atL : List (Str × Option Str) := [(gp "partner"), (gp "is_bid"), (mp "Auction" "__init__"), (mp "Auction" "copied"), (mp "Auction" "make"), (mp "Auction" "on_turn"), (mp "Auction" "last_bid_made"), (mp "Auction" "last_bid"), (mp "Auction" "last_word"), (mp "Auction" "doubled"), (mp "Auction" "passes"), (mp "Auction" "over"), (mp "Auction" "faces_last_word"), (mp "Auction" "may_stand"), (mp "Auction" "legal"), (mp "Auction" "first_to_bid"), (mp "Auction" "contract"), (gp "ways_behind_bid"), (gp "ways_above"), (gp "ways_on"), (gp "longest_behind_bid"), (gp "longest_above"), (gp "longest_on"), (gp "ways_with"), (gp "ways_before"), (gp "number_of"), (gp "call_at"), (gp "auction_with"), (mp "Waiting" "__init__"), (mp "Position" "__init__"), (mp "Position" "copied"), (mp "Position" "must_pass"), (mp "Position" "may_mend"), (mp "Position" "why_no_call"), (mp "Position" "take_call"), (mp "Position" "mending_bid"), (mp "Position" "bar"), (mp "Position" "let_stand"), (mp "Position" "accept"), (mp "Position" "withdraw"), (mp "Position" "held"), (mp "Position" "told"), (mp "Position" "legals"), (gp "call_text"), (gp "call_of"), (gp "auction_text"), (gp "words_of"), (gp "what_is_wrong"), (gp "make_words"), (gp "numeral"), (gp "number_told"), (mp "Session" "__init__"), (mp "Session" "start"), (mp "Session" "now"), (mp "Session" "done"), (mp "Session" "go_on"), (gp "answer_deal"), (gp "answer_board"), (gp "answer_call"), (gp "answer_decide"), (gp "answer_undo"), (gp "answer_table"), (gp "answer_legals"), (gp "answer_contract"), (gp "answer_ways"), (gp "answer_longest"), (gp "answer_number"), (gp "answer_nth"), (gp "answer_text"), (gp "answer_look"), (gp "answer_read"), (gp "answer_made"), (gp "answer_named"), (gp "in_ranges"), (gp "answer_one"), (gp "answers")]
def atN (i : Nat) : Str × Option Str := atL.getD i ("", none)
def FAS : List He.Fa := [.glo "partner", .keep "partner", .glo "is_bid", .keep "is_bid", .meth "Auction" "__init__", .meth "Auction" "copied", .meth "Auction" "make", .meth "Auction" "on_turn", .meth "Auction" "last_bid_made", .meth "Auction" "last_bid", .meth "Auction" "last_word", .meth "Auction" "doubled", .meth "Auction" "passes", .meth "Auction" "over", .meth "Auction" "faces_last_word", .meth "Auction" "may_stand", .meth "Auction" "legal", .meth "Auction" "first_to_bid", .meth "Auction" "contract", .glo "ways_behind_bid", .keep "ways_behind_bid", .glo "ways_above", .keep "ways_above", .glo "ways_on", .keep "ways_on", .glo "longest_behind_bid", .keep "longest_behind_bid", .glo "longest_above", .keep "longest_above", .glo "longest_on", .keep "longest_on", .glo "ways_with", .keep "ways_with", .glo "ways_before", .keep "ways_before", .glo "number_of", .keep "number_of", .glo "call_at", .keep "call_at", .glo "auction_with", .keep "auction_with", .meth "Waiting" "__init__", .meth "Position" "__init__", .meth "Position" "copied", .meth "Position" "must_pass", .meth "Position" "may_mend", .meth "Position" "why_no_call", .meth "Position" "take_call", .meth "Position" "mending_bid", .meth "Position" "bar", .meth "Position" "let_stand", .meth "Position" "accept", .meth "Position" "withdraw", .meth "Position" "held", .meth "Position" "told", .meth "Position" "legals", .glo "call_text", .keep "call_text", .glo "call_of", .keep "call_of", .glo "auction_text", .keep "auction_text", .glo "words_of", .keep "words_of", .glo "what_is_wrong", .keep "what_is_wrong", .glo "make_words", .keep "make_words", .glo "numeral", .keep "numeral", .glo "number_told", .keep "number_told", .meth "Session" "__init__", .meth "Session" "start", .meth "Session" "now", .meth "Session" "done", .meth "Session" "go_on", .glo "answer_deal", .keep "answer_deal", .glo "answer_board", .keep "answer_board", .glo "answer_call", .keep "answer_call", .glo "answer_decide", .keep "answer_decide", .glo "answer_undo", .keep "answer_undo", .glo "answer_table", .keep "answer_table", .glo "answer_legals", .keep "answer_legals", .glo "answer_contract", .keep "answer_contract", .glo "answer_ways", .keep "answer_ways", .glo "answer_longest", .keep "answer_longest", .glo "answer_number", .keep "answer_number", .glo "answer_nth", .keep "answer_nth", .glo "answer_text", .keep "answer_text", .glo "answer_look", .keep "answer_look", .glo "answer_read", .keep "answer_read", .glo "answer_made", .keep "answer_made", .glo "answer_named", .keep "answer_named", .glo "in_ranges", .keep "in_ranges", .glo "answer_one", .keep "answer_one", .glo "answers", .keep "answers", .cls "Auction", .mkr "Auction", .glo "Auction", .cls "Waiting", .mkr "Waiting", .glo "Waiting", .cls "Position", .mkr "Position", .glo "Position", .cls "Session", .mkr "Session", .glo "Session", .noat "Auction" "dealer", .noat "Auction" "made", .noat "Waiting" "seat", .noat "Waiting" "call", .noat "Waiting" "why", .noat "Position" "auction", .noat "Position" "vulnerability", .noat "Position" "barred", .noat "Position" "once", .noat "Position" "waiting", .noat "Position" "mending", .noat "Session" "positions", .int "PASS" 0, .int "DOUBLE" 1, .int "REDOUBLE" 2, .int "FIRST_BID" 3, .int "CALLS" 38, .int "HIGHEST_BID" 34, .int "NOTHING" 0, .int "TOO_LOW" 1, .int "OUT_OF_TURN" 2, .int "BLANK" 32, .int "ZERO" 48, .int "NINE" 57, .str "STRAINS" "CDHSN", .glo "NO_BIDS", .int "RIGHT" 0, .int "NO_CALL" 1, .int "NOT_LEGAL" 2, .int "OVER_BEFORE" 3, .int "MOST_DONE" 320, .glo "RANGES", .glo "ANSWERERS", .glo "WITH_TEXT", .glo "WITHOUT_AUCTION", .int "GREATEST_BYTE" 255, .free "all", .free "enumerate", .free "len", .free "list", .free "max", .free "ord", .free "range", .free "reversed", .free "str", .free "zip"]
def fnD (p : Str × Option Str) (x qual : Str) (st : Stmt) : He.FnD := ⟨p, x, qual, defArgs st, defBody st, defScope st⟩
def FNS : List He.FnD := [fnD (gp "partner") "partner" "partner" st_partner,
  fnD (gp "is_bid") "is_bid" "is_bid" st_is_bid,
  fnD (mp "Auction" "__init__") "__init__" "Auction.__init__" st_a_init,
  fnD (mp "Auction" "copied") "copied" "Auction.copied" st_a_copied,
  fnD (mp "Auction" "make") "make" "Auction.make" st_a_make,
  fnD (mp "Auction" "on_turn") "on_turn" "Auction.on_turn" st_a_on_turn,
  fnD (mp "Auction" "last_bid_made") "last_bid_made" "Auction.last_bid_made" st_a_last_bid_made,
  fnD (mp "Auction" "last_bid") "last_bid" "Auction.last_bid" st_a_last_bid,
  fnD (mp "Auction" "last_word") "last_word" "Auction.last_word" st_a_last_word,
  fnD (mp "Auction" "doubled") "doubled" "Auction.doubled" st_a_doubled,
  fnD (mp "Auction" "passes") "passes" "Auction.passes" st_a_passes,
  fnD (mp "Auction" "over") "over" "Auction.over" st_a_over,
  fnD (mp "Auction" "faces_last_word") "faces_last_word" "Auction.faces_last_word" st_a_faces_last_word,
  fnD (mp "Auction" "may_stand") "may_stand" "Auction.may_stand" st_a_may_stand,
  fnD (mp "Auction" "legal") "legal" "Auction.legal" st_a_legal,
  fnD (mp "Auction" "first_to_bid") "first_to_bid" "Auction.first_to_bid" st_a_first_to_bid,
  fnD (mp "Auction" "contract") "contract" "Auction.contract" st_a_contract,
  fnD (gp "ways_behind_bid") "ways_behind_bid" "ways_behind_bid" st_ways_behind_bid,
  fnD (gp "ways_above") "ways_above" "ways_above" st_ways_above,
  fnD (gp "ways_on") "ways_on" "ways_on" st_ways_on,
  fnD (gp "longest_behind_bid") "longest_behind_bid" "longest_behind_bid" st_longest_behind_bid,
  fnD (gp "longest_above") "longest_above" "longest_above" st_longest_above,
  fnD (gp "longest_on") "longest_on" "longest_on" st_longest_on,
  fnD (gp "ways_with") "ways_with" "ways_with" st_ways_with,
  fnD (gp "ways_before") "ways_before" "ways_before" st_ways_before,
  fnD (gp "number_of") "number_of" "number_of" st_number_of,
  fnD (gp "call_at") "call_at" "call_at" st_call_at,
  fnD (gp "auction_with") "auction_with" "auction_with" st_auction_with,
  fnD (mp "Waiting" "__init__") "__init__" "Waiting.__init__" st_w_init,
  fnD (mp "Position" "__init__") "__init__" "Position.__init__" st_p_init,
  fnD (mp "Position" "copied") "copied" "Position.copied" st_p_copied,
  fnD (mp "Position" "must_pass") "must_pass" "Position.must_pass" st_p_must_pass,
  fnD (mp "Position" "may_mend") "may_mend" "Position.may_mend" st_p_may_mend,
  fnD (mp "Position" "why_no_call") "why_no_call" "Position.why_no_call" st_p_why_no_call,
  fnD (mp "Position" "take_call") "take_call" "Position.take_call" st_p_take_call,
  fnD (mp "Position" "mending_bid") "mending_bid" "Position.mending_bid" st_p_mending_bid,
  fnD (mp "Position" "bar") "bar" "Position.bar" st_p_bar,
  fnD (mp "Position" "let_stand") "let_stand" "Position.let_stand" st_p_let_stand,
  fnD (mp "Position" "accept") "accept" "Position.accept" st_p_accept,
  fnD (mp "Position" "withdraw") "withdraw" "Position.withdraw" st_p_withdraw,
  fnD (mp "Position" "held") "held" "Position.held" st_p_held,
  fnD (mp "Position" "told") "told" "Position.told" st_p_told,
  fnD (mp "Position" "legals") "legals" "Position.legals" st_p_legals,
  fnD (gp "call_text") "call_text" "call_text" st_call_text,
  fnD (gp "call_of") "call_of" "call_of" st_call_of,
  fnD (gp "auction_text") "auction_text" "auction_text" st_auction_text,
  fnD (gp "words_of") "words_of" "words_of" st_words_of,
  fnD (gp "what_is_wrong") "what_is_wrong" "what_is_wrong" st_what_is_wrong,
  fnD (gp "make_words") "make_words" "make_words" st_make_words,
  fnD (gp "numeral") "numeral" "numeral" st_numeral,
  fnD (gp "number_told") "number_told" "number_told" st_number_told,
  fnD (mp "Session" "__init__") "__init__" "Session.__init__" st_s_init,
  fnD (mp "Session" "start") "start" "Session.start" st_s_start,
  fnD (mp "Session" "now") "now" "Session.now" st_s_now,
  fnD (mp "Session" "done") "done" "Session.done" st_s_done,
  fnD (mp "Session" "go_on") "go_on" "Session.go_on" st_s_go_on,
  fnD (gp "answer_deal") "answer_deal" "answer_deal" st_answer_deal,
  fnD (gp "answer_board") "answer_board" "answer_board" st_answer_board,
  fnD (gp "answer_call") "answer_call" "answer_call" st_answer_call,
  fnD (gp "answer_decide") "answer_decide" "answer_decide" st_answer_decide,
  fnD (gp "answer_undo") "answer_undo" "answer_undo" st_answer_undo,
  fnD (gp "answer_table") "answer_table" "answer_table" st_answer_table,
  fnD (gp "answer_legals") "answer_legals" "answer_legals" st_answer_legals,
  fnD (gp "answer_contract") "answer_contract" "answer_contract" st_answer_contract,
  fnD (gp "answer_ways") "answer_ways" "answer_ways" st_answer_ways,
  fnD (gp "answer_longest") "answer_longest" "answer_longest" st_answer_longest,
  fnD (gp "answer_number") "answer_number" "answer_number" st_answer_number,
  fnD (gp "answer_nth") "answer_nth" "answer_nth" st_answer_nth,
  fnD (gp "answer_text") "answer_text" "answer_text" st_answer_text,
  fnD (gp "answer_look") "answer_look" "answer_look" st_answer_look,
  fnD (gp "answer_read") "answer_read" "answer_read" st_answer_read,
  fnD (gp "answer_made") "answer_made" "answer_made" st_answer_made,
  fnD (gp "answer_named") "answer_named" "answer_named" st_answer_named,
  fnD (gp "in_ranges") "in_ranges" "in_ranges" st_in_ranges,
  fnD (gp "answer_one") "answer_one" "answer_one" st_answer_one,
  fnD (gp "answers") "answers" "answers" st_answers]
theorem dk_partner {K : PySem.W.Frag} (c : He.SaysE FAS FNS K) : DOk K "partner" "partner" st_partner P_partner (He.fAd K (atN 0)) (fdOf K (atN 0)) := dok_of (c.def_ 0 rfl) (He.keep_ok (c.fact 1 rfl)) (fun _ _ _ _ _ _ us hl => match us, hl with | [_], _ => rfl)
theorem dk_is_bid {K : PySem.W.Frag} (c : He.SaysE FAS FNS K) : DOk K "is_bid" "is_bid" st_is_bid P_is_bid (He.fAd K (atN 1)) (fdOf K (atN 1)) := dok_of (c.def_ 1 rfl) (He.keep_ok (c.fact 3 rfl)) (fun _ _ _ _ _ _ us hl => match us, hl with | [_], _ => rfl)
theorem dk_a_init {K : PySem.W.Frag} (c : He.SaysE FAS FNS K) : DOk K "__init__" "Auction.__init__" st_a_init P_a_init (He.fAd K (atN 2)) (fdOf K (atN 2)) := dok_of (c.def_ 2 rfl) (He.meth_ok (c.fact 4 rfl)).kp (fun _ _ _ _ _ _ us hl => match us, hl with | [_, _], _ => rfl)
theorem dk_a_copied {K : PySem.W.Frag} (c : He.SaysE FAS FNS K) : DOk K "copied" "Auction.copied" st_a_copied P_a_copied (He.fAd K (atN 3)) (fdOf K (atN 3)) := dok_of (c.def_ 3 rfl) (He.meth_ok (c.fact 5 rfl)).kp (fun _ _ _ _ _ _ us hl => match us, hl with | [_], _ => rfl)
theorem dk_a_make {K : PySem.W.Frag} (c : He.SaysE FAS FNS K) : DOk K "make" "Auction.make" st_a_make P_a_make (He.fAd K (atN 4)) (fdOf K (atN 4)) := dok_of (c.def_ 4 rfl) (He.meth_ok (c.fact 6 rfl)).kp (fun _ _ _ _ _ _ us hl => match us, hl with | [_, _, _], _ => rfl)
theorem dk_a_on_turn {K : PySem.W.Frag} (c : He.SaysE FAS FNS K) : DOk K "on_turn" "Auction.on_turn" st_a_on_turn P_a_on_turn (He.fAd K (atN 5)) (fdOf K (atN 5)) := dok_of (c.def_ 5 rfl) (He.meth_ok (c.fact 7 rfl)).kp (fun _ _ _ _ _ _ us hl => match us, hl with | [_], _ => rfl)
theorem dk_a_last_bid_made {K : PySem.W.Frag} (c : He.SaysE FAS FNS K) : DOk K "last_bid_made" "Auction.last_bid_made" st_a_last_bid_made P_a_last_bid_made (He.fAd K (atN 6)) (fdOf K (atN 6)) := dok_of (c.def_ 6 rfl) (He.meth_ok (c.fact 8 rfl)).kp (fun _ _ _ _ _ _ us hl => match us, hl with | [_], _ => rfl)
theorem dk_a_last_bid {K : PySem.W.Frag} (c : He.SaysE FAS FNS K) : DOk K "last_bid" "Auction.last_bid" st_a_last_bid P_a_last_bid (He.fAd K (atN 7)) (fdOf K (atN 7)) := dok_of (c.def_ 7 rfl) (He.meth_ok (c.fact 9 rfl)).kp (fun _ _ _ _ _ _ us hl => match us, hl with | [_], _ => rfl)
theorem dk_a_last_word {K : PySem.W.Frag} (c : He.SaysE FAS FNS K) : DOk K "last_word" "Auction.last_word" st_a_last_word P_a_last_word (He.fAd K (atN 8)) (fdOf K (atN 8)) := dok_of (c.def_ 8 rfl) (He.meth_ok (c.fact 10 rfl)).kp (fun _ _ _ _ _ _ us hl => match us, hl with | [_], _ => rfl)
theorem dk_a_doubled {K : PySem.W.Frag} (c : He.SaysE FAS FNS K) : DOk K "doubled" "Auction.doubled" st_a_doubled P_a_doubled (He.fAd K (atN 9)) (fdOf K (atN 9)) := dok_of (c.def_ 9 rfl) (He.meth_ok (c.fact 11 rfl)).kp (fun _ _ _ _ _ _ us hl => match us, hl with | [_], _ => rfl)
theorem dk_a_passes {K : PySem.W.Frag} (c : He.SaysE FAS FNS K) : DOk K "passes" "Auction.passes" st_a_passes P_a_passes (He.fAd K (atN 10)) (fdOf K (atN 10)) := dok_of (c.def_ 10 rfl) (He.meth_ok (c.fact 12 rfl)).kp (fun _ _ _ _ _ _ us hl => match us, hl with | [_], _ => rfl)
theorem dk_a_over {K : PySem.W.Frag} (c : He.SaysE FAS FNS K) : DOk K "over" "Auction.over" st_a_over P_a_over (He.fAd K (atN 11)) (fdOf K (atN 11)) := dok_of (c.def_ 11 rfl) (He.meth_ok (c.fact 13 rfl)).kp (fun _ _ _ _ _ _ us hl => match us, hl with | [_], _ => rfl)
theorem dk_a_faces_last_word {K : PySem.W.Frag} (c : He.SaysE FAS FNS K) : DOk K "faces_last_word" "Auction.faces_last_word" st_a_faces_last_word P_a_faces_last_word (He.fAd K (atN 12)) (fdOf K (atN 12)) := dok_of (c.def_ 12 rfl) (He.meth_ok (c.fact 14 rfl)).kp (fun _ _ _ _ _ _ us hl => match us, hl with | [_, _], _ => rfl)
theorem dk_a_may_stand {K : PySem.W.Frag} (c : He.SaysE FAS FNS K) : DOk K "may_stand" "Auction.may_stand" st_a_may_stand P_a_may_stand (He.fAd K (atN 13)) (fdOf K (atN 13)) := dok_of (c.def_ 13 rfl) (He.meth_ok (c.fact 15 rfl)).kp (fun _ _ _ _ _ _ us hl => match us, hl with | [_, _, _], _ => rfl)
theorem dk_a_legal {K : PySem.W.Frag} (c : He.SaysE FAS FNS K) : DOk K "legal" "Auction.legal" st_a_legal P_a_legal (He.fAd K (atN 14)) (fdOf K (atN 14)) := dok_of (c.def_ 14 rfl) (He.meth_ok (c.fact 16 rfl)).kp (fun _ _ _ _ _ _ us hl => match us, hl with | [_, _, _], _ => rfl)
theorem dk_a_first_to_bid {K : PySem.W.Frag} (c : He.SaysE FAS FNS K) : DOk K "first_to_bid" "Auction.first_to_bid" st_a_first_to_bid P_a_first_to_bid (He.fAd K (atN 15)) (fdOf K (atN 15)) := dok_of (c.def_ 15 rfl) (He.meth_ok (c.fact 17 rfl)).kp (fun _ _ _ _ _ _ us hl => match us, hl with | [_, _, _], _ => rfl)
theorem dk_a_contract {K : PySem.W.Frag} (c : He.SaysE FAS FNS K) : DOk K "contract" "Auction.contract" st_a_contract P_a_contract (He.fAd K (atN 16)) (fdOf K (atN 16)) := dok_of (c.def_ 16 rfl) (He.meth_ok (c.fact 18 rfl)).kp (fun _ _ _ _ _ _ us hl => match us, hl with | [_], _ => rfl)
theorem dk_ways_behind_bid {K : PySem.W.Frag} (c : He.SaysE FAS FNS K) : DOk K "ways_behind_bid" "ways_behind_bid" st_ways_behind_bid P_ways_behind_bid (He.fAd K (atN 17)) (fdOf K (atN 17)) := dok_of (c.def_ 17 rfl) (He.keep_ok (c.fact 20 rfl)) (fun _ _ _ _ _ _ us hl => match us, hl with | [_, _, _, _], _ => rfl)
theorem dk_ways_above {K : PySem.W.Frag} (c : He.SaysE FAS FNS K) : DOk K "ways_above" "ways_above" st_ways_above P_ways_above (He.fAd K (atN 18)) (fdOf K (atN 18)) := dok_of (c.def_ 18 rfl) (He.keep_ok (c.fact 22 rfl)) (fun _ _ _ _ _ _ us hl => match us, hl with | [], _ => rfl)
theorem dk_ways_on {K : PySem.W.Frag} (c : He.SaysE FAS FNS K) : DOk K "ways_on" "ways_on" st_ways_on P_ways_on (He.fAd K (atN 19)) (fdOf K (atN 19)) := dok_of (c.def_ 19 rfl) (He.keep_ok (c.fact 24 rfl)) (fun _ _ _ _ _ _ us hl => match us, hl with | [_, _], _ => rfl)
theorem dk_longest_behind_bid {K : PySem.W.Frag} (c : He.SaysE FAS FNS K) : DOk K "longest_behind_bid" "longest_behind_bid" st_longest_behind_bid P_longest_behind_bid (He.fAd K (atN 20)) (fdOf K (atN 20)) := dok_of (c.def_ 20 rfl) (He.keep_ok (c.fact 26 rfl)) (fun _ _ _ _ _ _ us hl => match us, hl with | [_, _, _, _], _ => rfl)
theorem dk_longest_above {K : PySem.W.Frag} (c : He.SaysE FAS FNS K) : DOk K "longest_above" "longest_above" st_longest_above P_longest_above (He.fAd K (atN 21)) (fdOf K (atN 21)) := dok_of (c.def_ 21 rfl) (He.keep_ok (c.fact 28 rfl)) (fun _ _ _ _ _ _ us hl => match us, hl with | [_], _ => rfl)
theorem dk_longest_on {K : PySem.W.Frag} (c : He.SaysE FAS FNS K) : DOk K "longest_on" "longest_on" st_longest_on P_longest_on (He.fAd K (atN 22)) (fdOf K (atN 22)) := dok_of (c.def_ 22 rfl) (He.keep_ok (c.fact 30 rfl)) (fun _ _ _ _ _ _ us hl => match us, hl with | [_], _ => rfl)
theorem dk_ways_with {K : PySem.W.Frag} (c : He.SaysE FAS FNS K) : DOk K "ways_with" "ways_with" st_ways_with P_ways_with (He.fAd K (atN 23)) (fdOf K (atN 23)) := dok_of (c.def_ 23 rfl) (He.keep_ok (c.fact 32 rfl)) (fun _ _ _ _ _ _ us hl => match us, hl with | [_, _, _], _ => rfl)
theorem dk_ways_before {K : PySem.W.Frag} (c : He.SaysE FAS FNS K) : DOk K "ways_before" "ways_before" st_ways_before P_ways_before (He.fAd K (atN 24)) (fdOf K (atN 24)) := dok_of (c.def_ 24 rfl) (He.keep_ok (c.fact 34 rfl)) (fun _ _ _ _ _ _ us hl => match us, hl with | [_, _, _], _ => rfl)
theorem dk_number_of {K : PySem.W.Frag} (c : He.SaysE FAS FNS K) : DOk K "number_of" "number_of" st_number_of P_number_of (He.fAd K (atN 25)) (fdOf K (atN 25)) := dok_of (c.def_ 25 rfl) (He.keep_ok (c.fact 36 rfl)) (fun _ _ _ _ _ _ us hl => match us, hl with | [_], _ => rfl)
theorem dk_call_at {K : PySem.W.Frag} (c : He.SaysE FAS FNS K) : DOk K "call_at" "call_at" st_call_at P_call_at (He.fAd K (atN 26)) (fdOf K (atN 26)) := dok_of (c.def_ 26 rfl) (He.keep_ok (c.fact 38 rfl)) (fun _ _ _ _ _ _ us hl => match us, hl with | [_, _, _], _ => rfl)
theorem dk_auction_with {K : PySem.W.Frag} (c : He.SaysE FAS FNS K) : DOk K "auction_with" "auction_with" st_auction_with P_auction_with (He.fAd K (atN 27)) (fdOf K (atN 27)) := dok_of (c.def_ 27 rfl) (He.keep_ok (c.fact 40 rfl)) (fun _ _ _ _ _ _ us hl => match us, hl with | [_, _], _ => rfl)
theorem dk_w_init {K : PySem.W.Frag} (c : He.SaysE FAS FNS K) : DOk K "__init__" "Waiting.__init__" st_w_init P_w_init (He.fAd K (atN 28)) (fdOf K (atN 28)) := dok_of (c.def_ 28 rfl) (He.meth_ok (c.fact 41 rfl)).kp (fun _ _ _ _ _ _ us hl => match us, hl with | [_, _, _, _], _ => rfl)
theorem dk_p_init {K : PySem.W.Frag} (c : He.SaysE FAS FNS K) : DOk K "__init__" "Position.__init__" st_p_init P_p_init (He.fAd K (atN 29)) (fdOf K (atN 29)) := dok_of (c.def_ 29 rfl) (He.meth_ok (c.fact 42 rfl)).kp (fun _ _ _ _ _ _ us hl => match us, hl with | [_, _, _], _ => rfl)
theorem dk_p_copied {K : PySem.W.Frag} (c : He.SaysE FAS FNS K) : DOk K "copied" "Position.copied" st_p_copied P_p_copied (He.fAd K (atN 30)) (fdOf K (atN 30)) := dok_of (c.def_ 30 rfl) (He.meth_ok (c.fact 43 rfl)).kp (fun _ _ _ _ _ _ us hl => match us, hl with | [_], _ => rfl)
theorem dk_p_must_pass {K : PySem.W.Frag} (c : He.SaysE FAS FNS K) : DOk K "must_pass" "Position.must_pass" st_p_must_pass P_p_must_pass (He.fAd K (atN 31)) (fdOf K (atN 31)) := dok_of (c.def_ 31 rfl) (He.meth_ok (c.fact 44 rfl)).kp (fun _ _ _ _ _ _ us hl => match us, hl with | [_, _], _ => rfl)
theorem dk_p_may_mend {K : PySem.W.Frag} (c : He.SaysE FAS FNS K) : DOk K "may_mend" "Position.may_mend" st_p_may_mend P_p_may_mend (He.fAd K (atN 32)) (fdOf K (atN 32)) := dok_of (c.def_ 32 rfl) (He.meth_ok (c.fact 45 rfl)).kp (fun _ _ _ _ _ _ us hl => match us, hl with | [_, _, _], _ => rfl)
theorem dk_p_why_no_call {K : PySem.W.Frag} (c : He.SaysE FAS FNS K) : DOk K "why_no_call" "Position.why_no_call" st_p_why_no_call P_p_why_no_call (He.fAd K (atN 33)) (fdOf K (atN 33)) := dok_of (c.def_ 33 rfl) (He.meth_ok (c.fact 46 rfl)).kp (fun _ _ _ _ _ _ us hl => match us, hl with | [_, _, _], _ => rfl)
theorem dk_p_take_call {K : PySem.W.Frag} (c : He.SaysE FAS FNS K) : DOk K "take_call" "Position.take_call" st_p_take_call P_p_take_call (He.fAd K (atN 34)) (fdOf K (atN 34)) := dok_of (c.def_ 34 rfl) (He.meth_ok (c.fact 47 rfl)).kp (fun _ _ _ _ _ _ us hl => match us, hl with | [_, _, _], _ => rfl)
theorem dk_p_mending_bid {K : PySem.W.Frag} (c : He.SaysE FAS FNS K) : DOk K "mending_bid" "Position.mending_bid" st_p_mending_bid P_p_mending_bid (He.fAd K (atN 35)) (fdOf K (atN 35)) := dok_of (c.def_ 35 rfl) (He.meth_ok (c.fact 48 rfl)).kp (fun _ _ _ _ _ _ us hl => match us, hl with | [_], _ => rfl)
theorem dk_p_bar {K : PySem.W.Frag} (c : He.SaysE FAS FNS K) : DOk K "bar" "Position.bar" st_p_bar P_p_bar (He.fAd K (atN 36)) (fdOf K (atN 36)) := dok_of (c.def_ 36 rfl) (He.meth_ok (c.fact 49 rfl)).kp (fun _ _ _ _ _ _ us hl => match us, hl with | [_, _], _ => rfl)
theorem dk_p_let_stand {K : PySem.W.Frag} (c : He.SaysE FAS FNS K) : DOk K "let_stand" "Position.let_stand" st_p_let_stand P_p_let_stand (He.fAd K (atN 37)) (fdOf K (atN 37)) := dok_of (c.def_ 37 rfl) (He.meth_ok (c.fact 50 rfl)).kp (fun _ _ _ _ _ _ us hl => match us, hl with | [_, _, _], _ => rfl)
theorem dk_p_accept {K : PySem.W.Frag} (c : He.SaysE FAS FNS K) : DOk K "accept" "Position.accept" st_p_accept P_p_accept (He.fAd K (atN 38)) (fdOf K (atN 38)) := dok_of (c.def_ 38 rfl) (He.meth_ok (c.fact 51 rfl)).kp (fun _ _ _ _ _ _ us hl => match us, hl with | [_], _ => rfl)
theorem dk_p_withdraw {K : PySem.W.Frag} (c : He.SaysE FAS FNS K) : DOk K "withdraw" "Position.withdraw" st_p_withdraw P_p_withdraw (He.fAd K (atN 39)) (fdOf K (atN 39)) := dok_of (c.def_ 39 rfl) (He.meth_ok (c.fact 52 rfl)).kp (fun _ _ _ _ _ _ us hl => match us, hl with | [_], _ => rfl)
theorem dk_p_held {K : PySem.W.Frag} (c : He.SaysE FAS FNS K) : DOk K "held" "Position.held" st_p_held P_p_held (He.fAd K (atN 40)) (fdOf K (atN 40)) := dok_of (c.def_ 40 rfl) (He.meth_ok (c.fact 53 rfl)).kp (fun _ _ _ _ _ _ us hl => match us, hl with | [_, _], _ => rfl)
theorem dk_p_told {K : PySem.W.Frag} (c : He.SaysE FAS FNS K) : DOk K "told" "Position.told" st_p_told P_p_told (He.fAd K (atN 41)) (fdOf K (atN 41)) := dok_of (c.def_ 41 rfl) (He.meth_ok (c.fact 54 rfl)).kp (fun _ _ _ _ _ _ us hl => match us, hl with | [_], _ => rfl)
theorem dk_p_legals {K : PySem.W.Frag} (c : He.SaysE FAS FNS K) : DOk K "legals" "Position.legals" st_p_legals P_p_legals (He.fAd K (atN 42)) (fdOf K (atN 42)) := dok_of (c.def_ 42 rfl) (He.meth_ok (c.fact 55 rfl)).kp (fun _ _ _ _ _ _ us hl => match us, hl with | [_], _ => rfl)
theorem dk_call_text {K : PySem.W.Frag} (c : He.SaysE FAS FNS K) : DOk K "call_text" "call_text" st_call_text P_call_text (He.fAd K (atN 43)) (fdOf K (atN 43)) := dok_of (c.def_ 43 rfl) (He.keep_ok (c.fact 57 rfl)) (fun _ _ _ _ _ _ us hl => match us, hl with | [_], _ => rfl)
theorem dk_call_of {K : PySem.W.Frag} (c : He.SaysE FAS FNS K) : DOk K "call_of" "call_of" st_call_of P_call_of (He.fAd K (atN 44)) (fdOf K (atN 44)) := dok_of (c.def_ 44 rfl) (He.keep_ok (c.fact 59 rfl)) (fun _ _ _ _ _ _ us hl => match us, hl with | [_], _ => rfl)
theorem dk_auction_text {K : PySem.W.Frag} (c : He.SaysE FAS FNS K) : DOk K "auction_text" "auction_text" st_auction_text P_auction_text (He.fAd K (atN 45)) (fdOf K (atN 45)) := dok_of (c.def_ 45 rfl) (He.keep_ok (c.fact 61 rfl)) (fun _ _ _ _ _ _ us hl => match us, hl with | [_], _ => rfl)
theorem dk_words_of {K : PySem.W.Frag} (c : He.SaysE FAS FNS K) : DOk K "words_of" "words_of" st_words_of P_words_of (He.fAd K (atN 46)) (fdOf K (atN 46)) := dok_of (c.def_ 46 rfl) (He.keep_ok (c.fact 63 rfl)) (fun _ _ _ _ _ _ us hl => match us, hl with | [_], _ => rfl)
theorem dk_what_is_wrong {K : PySem.W.Frag} (c : He.SaysE FAS FNS K) : DOk K "what_is_wrong" "what_is_wrong" st_what_is_wrong P_what_is_wrong (He.fAd K (atN 47)) (fdOf K (atN 47)) := dok_of (c.def_ 47 rfl) (He.keep_ok (c.fact 65 rfl)) (fun _ _ _ _ _ _ us hl => match us, hl with | [_, _], _ => rfl)
theorem dk_make_words {K : PySem.W.Frag} (c : He.SaysE FAS FNS K) : DOk K "make_words" "make_words" st_make_words P_make_words (He.fAd K (atN 48)) (fdOf K (atN 48)) := dok_of (c.def_ 48 rfl) (He.keep_ok (c.fact 67 rfl)) (fun _ _ _ _ _ _ us hl => match us, hl with | [_, _], _ => rfl)
theorem dk_numeral {K : PySem.W.Frag} (c : He.SaysE FAS FNS K) : DOk K "numeral" "numeral" st_numeral P_numeral (He.fAd K (atN 49)) (fdOf K (atN 49)) := dok_of (c.def_ 49 rfl) (He.keep_ok (c.fact 69 rfl)) (fun _ _ _ _ _ _ us hl => match us, hl with | [_], _ => rfl)
theorem dk_number_told {K : PySem.W.Frag} (c : He.SaysE FAS FNS K) : DOk K "number_told" "number_told" st_number_told P_number_told (He.fAd K (atN 50)) (fdOf K (atN 50)) := dok_of (c.def_ 50 rfl) (He.keep_ok (c.fact 71 rfl)) (fun _ _ _ _ _ _ us hl => match us, hl with | [_], _ => rfl)
theorem dk_s_init {K : PySem.W.Frag} (c : He.SaysE FAS FNS K) : DOk K "__init__" "Session.__init__" st_s_init P_s_init (He.fAd K (atN 51)) (fdOf K (atN 51)) := dok_of (c.def_ 51 rfl) (He.meth_ok (c.fact 72 rfl)).kp (fun _ _ _ _ _ _ us hl => match us, hl with | [_], _ => rfl)
theorem dk_s_start {K : PySem.W.Frag} (c : He.SaysE FAS FNS K) : DOk K "start" "Session.start" st_s_start P_s_start (He.fAd K (atN 52)) (fdOf K (atN 52)) := dok_of (c.def_ 52 rfl) (He.meth_ok (c.fact 73 rfl)).kp (fun _ _ _ _ _ _ us hl => match us, hl with | [_, _, _], _ => rfl)
theorem dk_s_now {K : PySem.W.Frag} (c : He.SaysE FAS FNS K) : DOk K "now" "Session.now" st_s_now P_s_now (He.fAd K (atN 53)) (fdOf K (atN 53)) := dok_of (c.def_ 53 rfl) (He.meth_ok (c.fact 74 rfl)).kp (fun _ _ _ _ _ _ us hl => match us, hl with | [_], _ => rfl)
theorem dk_s_done {K : PySem.W.Frag} (c : He.SaysE FAS FNS K) : DOk K "done" "Session.done" st_s_done P_s_done (He.fAd K (atN 54)) (fdOf K (atN 54)) := dok_of (c.def_ 54 rfl) (He.meth_ok (c.fact 75 rfl)).kp (fun _ _ _ _ _ _ us hl => match us, hl with | [_], _ => rfl)
theorem dk_s_go_on {K : PySem.W.Frag} (c : He.SaysE FAS FNS K) : DOk K "go_on" "Session.go_on" st_s_go_on P_s_go_on (He.fAd K (atN 55)) (fdOf K (atN 55)) := dok_of (c.def_ 55 rfl) (He.meth_ok (c.fact 76 rfl)).kp (fun _ _ _ _ _ _ us hl => match us, hl with | [_], _ => rfl)
theorem dk_answer_deal {K : PySem.W.Frag} (c : He.SaysE FAS FNS K) : DOk K "answer_deal" "answer_deal" st_answer_deal P_answer_deal (He.fAd K (atN 56)) (fdOf K (atN 56)) := dok_of (c.def_ 56 rfl) (He.keep_ok (c.fact 78 rfl)) (fun _ _ _ _ _ _ us hl => match us, hl with | [_, _, _], _ => rfl)
theorem dk_answer_board {K : PySem.W.Frag} (c : He.SaysE FAS FNS K) : DOk K "answer_board" "answer_board" st_answer_board P_answer_board (He.fAd K (atN 57)) (fdOf K (atN 57)) := dok_of (c.def_ 57 rfl) (He.keep_ok (c.fact 80 rfl)) (fun _ _ _ _ _ _ us hl => match us, hl with | [_, _, _], _ => rfl)
theorem dk_answer_call {K : PySem.W.Frag} (c : He.SaysE FAS FNS K) : DOk K "answer_call" "answer_call" st_answer_call P_answer_call (He.fAd K (atN 58)) (fdOf K (atN 58)) := dok_of (c.def_ 58 rfl) (He.keep_ok (c.fact 82 rfl)) (fun _ _ _ _ _ _ us hl => match us, hl with | [_, _, _], _ => rfl)
theorem dk_answer_decide {K : PySem.W.Frag} (c : He.SaysE FAS FNS K) : DOk K "answer_decide" "answer_decide" st_answer_decide P_answer_decide (He.fAd K (atN 59)) (fdOf K (atN 59)) := dok_of (c.def_ 59 rfl) (He.keep_ok (c.fact 84 rfl)) (fun _ _ _ _ _ _ us hl => match us, hl with | [_, _, _], _ => rfl)
theorem dk_answer_undo {K : PySem.W.Frag} (c : He.SaysE FAS FNS K) : DOk K "answer_undo" "answer_undo" st_answer_undo P_answer_undo (He.fAd K (atN 60)) (fdOf K (atN 60)) := dok_of (c.def_ 60 rfl) (He.keep_ok (c.fact 86 rfl)) (fun _ _ _ _ _ _ us hl => match us, hl with | [_, _, _], _ => rfl)
theorem dk_answer_table {K : PySem.W.Frag} (c : He.SaysE FAS FNS K) : DOk K "answer_table" "answer_table" st_answer_table P_answer_table (He.fAd K (atN 61)) (fdOf K (atN 61)) := dok_of (c.def_ 61 rfl) (He.keep_ok (c.fact 88 rfl)) (fun _ _ _ _ _ _ us hl => match us, hl with | [_, _, _], _ => rfl)
theorem dk_answer_legals {K : PySem.W.Frag} (c : He.SaysE FAS FNS K) : DOk K "answer_legals" "answer_legals" st_answer_legals P_answer_legals (He.fAd K (atN 62)) (fdOf K (atN 62)) := dok_of (c.def_ 62 rfl) (He.keep_ok (c.fact 90 rfl)) (fun _ _ _ _ _ _ us hl => match us, hl with | [_, _, _], _ => rfl)
theorem dk_answer_contract {K : PySem.W.Frag} (c : He.SaysE FAS FNS K) : DOk K "answer_contract" "answer_contract" st_answer_contract P_answer_contract (He.fAd K (atN 63)) (fdOf K (atN 63)) := dok_of (c.def_ 63 rfl) (He.keep_ok (c.fact 92 rfl)) (fun _ _ _ _ _ _ us hl => match us, hl with | [_, _, _], _ => rfl)
theorem dk_answer_ways {K : PySem.W.Frag} (c : He.SaysE FAS FNS K) : DOk K "answer_ways" "answer_ways" st_answer_ways P_answer_ways (He.fAd K (atN 64)) (fdOf K (atN 64)) := dok_of (c.def_ 64 rfl) (He.keep_ok (c.fact 94 rfl)) (fun _ _ _ _ _ _ us hl => match us, hl with | [_, _, _], _ => rfl)
theorem dk_answer_longest {K : PySem.W.Frag} (c : He.SaysE FAS FNS K) : DOk K "answer_longest" "answer_longest" st_answer_longest P_answer_longest (He.fAd K (atN 65)) (fdOf K (atN 65)) := dok_of (c.def_ 65 rfl) (He.keep_ok (c.fact 96 rfl)) (fun _ _ _ _ _ _ us hl => match us, hl with | [_, _, _], _ => rfl)
theorem dk_answer_number {K : PySem.W.Frag} (c : He.SaysE FAS FNS K) : DOk K "answer_number" "answer_number" st_answer_number P_answer_number (He.fAd K (atN 66)) (fdOf K (atN 66)) := dok_of (c.def_ 66 rfl) (He.keep_ok (c.fact 98 rfl)) (fun _ _ _ _ _ _ us hl => match us, hl with | [_, _, _], _ => rfl)
theorem dk_answer_nth {K : PySem.W.Frag} (c : He.SaysE FAS FNS K) : DOk K "answer_nth" "answer_nth" st_answer_nth P_answer_nth (He.fAd K (atN 67)) (fdOf K (atN 67)) := dok_of (c.def_ 67 rfl) (He.keep_ok (c.fact 100 rfl)) (fun _ _ _ _ _ _ us hl => match us, hl with | [_, _, _], _ => rfl)
theorem dk_answer_text {K : PySem.W.Frag} (c : He.SaysE FAS FNS K) : DOk K "answer_text" "answer_text" st_answer_text P_answer_text (He.fAd K (atN 68)) (fdOf K (atN 68)) := dok_of (c.def_ 68 rfl) (He.keep_ok (c.fact 102 rfl)) (fun _ _ _ _ _ _ us hl => match us, hl with | [_, _, _], _ => rfl)
theorem dk_answer_look {K : PySem.W.Frag} (c : He.SaysE FAS FNS K) : DOk K "answer_look" "answer_look" st_answer_look P_answer_look (He.fAd K (atN 69)) (fdOf K (atN 69)) := dok_of (c.def_ 69 rfl) (He.keep_ok (c.fact 104 rfl)) (fun _ _ _ _ _ _ us hl => match us, hl with | [_, _, _], _ => rfl)
theorem dk_answer_read {K : PySem.W.Frag} (c : He.SaysE FAS FNS K) : DOk K "answer_read" "answer_read" st_answer_read P_answer_read (He.fAd K (atN 70)) (fdOf K (atN 70)) := dok_of (c.def_ 70 rfl) (He.keep_ok (c.fact 106 rfl)) (fun _ _ _ _ _ _ us hl => match us, hl with | [_, _, _], _ => rfl)
theorem dk_answer_made {K : PySem.W.Frag} (c : He.SaysE FAS FNS K) : DOk K "answer_made" "answer_made" st_answer_made P_answer_made (He.fAd K (atN 71)) (fdOf K (atN 71)) := dok_of (c.def_ 71 rfl) (He.keep_ok (c.fact 108 rfl)) (fun _ _ _ _ _ _ us hl => match us, hl with | [_, _, _], _ => rfl)
theorem dk_answer_named {K : PySem.W.Frag} (c : He.SaysE FAS FNS K) : DOk K "answer_named" "answer_named" st_answer_named P_answer_named (He.fAd K (atN 72)) (fdOf K (atN 72)) := dok_of (c.def_ 72 rfl) (He.keep_ok (c.fact 110 rfl)) (fun _ _ _ _ _ _ us hl => match us, hl with | [_, _, _], _ => rfl)
theorem dk_in_ranges {K : PySem.W.Frag} (c : He.SaysE FAS FNS K) : DOk K "in_ranges" "in_ranges" st_in_ranges P_in_ranges (He.fAd K (atN 73)) (fdOf K (atN 73)) := dok_of (c.def_ 73 rfl) (He.keep_ok (c.fact 112 rfl)) (fun _ _ _ _ _ _ us hl => match us, hl with | [_, _, _], _ => rfl)
theorem dk_answer_one {K : PySem.W.Frag} (c : He.SaysE FAS FNS K) : DOk K "answer_one" "answer_one" st_answer_one P_answer_one (He.fAd K (atN 74)) (fdOf K (atN 74)) := dok_of (c.def_ 74 rfl) (He.keep_ok (c.fact 114 rfl)) (fun _ _ _ _ _ _ us hl => match us, hl with | [_, _, _, _], _ => rfl)
theorem dk_answers {K : PySem.W.Frag} (c : He.SaysE FAS FNS K) : DOk K "answers" "answers" st_answers P_answers (He.fAd K (atN 75)) (fdOf K (atN 75)) := dok_of (c.def_ 75 rfl) (He.keep_ok (c.fact 116 rfl)) (fun _ _ _ _ _ _ us hl => match us, hl with | [_], _ => rfl)
theorem txt_of {K : PySem.W.Frag} {h : Heap} {mg : Str → Option Value} (X : K.In h) (G : h.Ns mainGlobals mg) (c : He.SaysE FAS FNS K) (ct : tupsB K = true) : Txt K mg (fun i => He.fAd K (atN i)) (fun i => fdOf K (atN i)) (He.ga K "Auction") (He.ga K "Waiting") (He.ga K "Position") (He.ga K "Session") (He.ga K "NO_BIDS") (He.ga K "RANGES") (He.ga K "ANSWERERS") (He.ga K "WITH_TEXT") (He.ga K "WITHOUT_AUCTION") where
  d_partner := dk_partner c
  m_partner := He.glo_ok X G (c.fact 0 rfl)
  d_is_bid := dk_is_bid c
  m_is_bid := He.glo_ok X G (c.fact 2 rfl)
  d_a_init := dk_a_init c
  d_a_copied := dk_a_copied c
  m_a_copied := He.meth_ok (c.fact 5 rfl)
  d_a_make := dk_a_make c
  m_a_make := He.meth_ok (c.fact 6 rfl)
  d_a_on_turn := dk_a_on_turn c
  m_a_on_turn := He.meth_ok (c.fact 7 rfl)
  d_a_last_bid_made := dk_a_last_bid_made c
  m_a_last_bid_made := He.meth_ok (c.fact 8 rfl)
  d_a_last_bid := dk_a_last_bid c
  m_a_last_bid := He.meth_ok (c.fact 9 rfl)
  d_a_last_word := dk_a_last_word c
  m_a_last_word := He.meth_ok (c.fact 10 rfl)
  d_a_doubled := dk_a_doubled c
  m_a_doubled := He.meth_ok (c.fact 11 rfl)
  d_a_passes := dk_a_passes c
  m_a_passes := He.meth_ok (c.fact 12 rfl)
  d_a_over := dk_a_over c
  m_a_over := He.meth_ok (c.fact 13 rfl)
  d_a_faces_last_word := dk_a_faces_last_word c
  m_a_faces_last_word := He.meth_ok (c.fact 14 rfl)
  d_a_may_stand := dk_a_may_stand c
  m_a_may_stand := He.meth_ok (c.fact 15 rfl)
  d_a_legal := dk_a_legal c
  m_a_legal := He.meth_ok (c.fact 16 rfl)
  d_a_first_to_bid := dk_a_first_to_bid c
  m_a_first_to_bid := He.meth_ok (c.fact 17 rfl)
  d_a_contract := dk_a_contract c
  m_a_contract := He.meth_ok (c.fact 18 rfl)
  d_ways_behind_bid := dk_ways_behind_bid c
  m_ways_behind_bid := He.glo_ok X G (c.fact 19 rfl)
  d_ways_above := dk_ways_above c
  m_ways_above := He.glo_ok X G (c.fact 21 rfl)
  d_ways_on := dk_ways_on c
  m_ways_on := He.glo_ok X G (c.fact 23 rfl)
  d_longest_behind_bid := dk_longest_behind_bid c
  m_longest_behind_bid := He.glo_ok X G (c.fact 25 rfl)
  d_longest_above := dk_longest_above c
  m_longest_above := He.glo_ok X G (c.fact 27 rfl)
  d_longest_on := dk_longest_on c
  m_longest_on := He.glo_ok X G (c.fact 29 rfl)
  d_ways_with := dk_ways_with c
  m_ways_with := He.glo_ok X G (c.fact 31 rfl)
  d_ways_before := dk_ways_before c
  m_ways_before := He.glo_ok X G (c.fact 33 rfl)
  d_number_of := dk_number_of c
  m_number_of := He.glo_ok X G (c.fact 35 rfl)
  d_call_at := dk_call_at c
  m_call_at := He.glo_ok X G (c.fact 37 rfl)
  d_auction_with := dk_auction_with c
  m_auction_with := He.glo_ok X G (c.fact 39 rfl)
  d_w_init := dk_w_init c
  d_p_init := dk_p_init c
  d_p_copied := dk_p_copied c
  m_p_copied := He.meth_ok (c.fact 43 rfl)
  d_p_must_pass := dk_p_must_pass c
  m_p_must_pass := He.meth_ok (c.fact 44 rfl)
  d_p_may_mend := dk_p_may_mend c
  m_p_may_mend := He.meth_ok (c.fact 45 rfl)
  d_p_why_no_call := dk_p_why_no_call c
  m_p_why_no_call := He.meth_ok (c.fact 46 rfl)
  d_p_take_call := dk_p_take_call c
  m_p_take_call := He.meth_ok (c.fact 47 rfl)
  d_p_mending_bid := dk_p_mending_bid c
  m_p_mending_bid := He.meth_ok (c.fact 48 rfl)
  d_p_bar := dk_p_bar c
  m_p_bar := He.meth_ok (c.fact 49 rfl)
  d_p_let_stand := dk_p_let_stand c
  m_p_let_stand := He.meth_ok (c.fact 50 rfl)
  d_p_accept := dk_p_accept c
  m_p_accept := He.meth_ok (c.fact 51 rfl)
  d_p_withdraw := dk_p_withdraw c
  m_p_withdraw := He.meth_ok (c.fact 52 rfl)
  d_p_held := dk_p_held c
  m_p_held := He.meth_ok (c.fact 53 rfl)
  d_p_told := dk_p_told c
  m_p_told := He.meth_ok (c.fact 54 rfl)
  d_p_legals := dk_p_legals c
  m_p_legals := He.meth_ok (c.fact 55 rfl)
  d_call_text := dk_call_text c
  m_call_text := He.glo_ok X G (c.fact 56 rfl)
  d_call_of := dk_call_of c
  m_call_of := He.glo_ok X G (c.fact 58 rfl)
  d_auction_text := dk_auction_text c
  m_auction_text := He.glo_ok X G (c.fact 60 rfl)
  d_words_of := dk_words_of c
  m_words_of := He.glo_ok X G (c.fact 62 rfl)
  d_what_is_wrong := dk_what_is_wrong c
  m_what_is_wrong := He.glo_ok X G (c.fact 64 rfl)
  d_make_words := dk_make_words c
  m_make_words := He.glo_ok X G (c.fact 66 rfl)
  d_numeral := dk_numeral c
  m_numeral := He.glo_ok X G (c.fact 68 rfl)
  d_number_told := dk_number_told c
  m_number_told := He.glo_ok X G (c.fact 70 rfl)
  d_s_init := dk_s_init c
  d_s_start := dk_s_start c
  m_s_start := He.meth_ok (c.fact 73 rfl)
  d_s_now := dk_s_now c
  m_s_now := He.meth_ok (c.fact 74 rfl)
  d_s_done := dk_s_done c
  m_s_done := He.meth_ok (c.fact 75 rfl)
  d_s_go_on := dk_s_go_on c
  m_s_go_on := He.meth_ok (c.fact 76 rfl)
  d_answer_deal := dk_answer_deal c
  m_answer_deal := He.glo_ok X G (c.fact 77 rfl)
  d_answer_board := dk_answer_board c
  m_answer_board := He.glo_ok X G (c.fact 79 rfl)
  d_answer_call := dk_answer_call c
  m_answer_call := He.glo_ok X G (c.fact 81 rfl)
  d_answer_decide := dk_answer_decide c
  m_answer_decide := He.glo_ok X G (c.fact 83 rfl)
  d_answer_undo := dk_answer_undo c
  m_answer_undo := He.glo_ok X G (c.fact 85 rfl)
  d_answer_table := dk_answer_table c
  m_answer_table := He.glo_ok X G (c.fact 87 rfl)
  d_answer_legals := dk_answer_legals c
  m_answer_legals := He.glo_ok X G (c.fact 89 rfl)
  d_answer_contract := dk_answer_contract c
  m_answer_contract := He.glo_ok X G (c.fact 91 rfl)
  d_answer_ways := dk_answer_ways c
  m_answer_ways := He.glo_ok X G (c.fact 93 rfl)
  d_answer_longest := dk_answer_longest c
  m_answer_longest := He.glo_ok X G (c.fact 95 rfl)
  d_answer_number := dk_answer_number c
  m_answer_number := He.glo_ok X G (c.fact 97 rfl)
  d_answer_nth := dk_answer_nth c
  m_answer_nth := He.glo_ok X G (c.fact 99 rfl)
  d_answer_text := dk_answer_text c
  m_answer_text := He.glo_ok X G (c.fact 101 rfl)
  d_answer_look := dk_answer_look c
  m_answer_look := He.glo_ok X G (c.fact 103 rfl)
  d_answer_read := dk_answer_read c
  m_answer_read := He.glo_ok X G (c.fact 105 rfl)
  d_answer_made := dk_answer_made c
  m_answer_made := He.glo_ok X G (c.fact 107 rfl)
  d_answer_named := dk_answer_named c
  m_answer_named := He.glo_ok X G (c.fact 109 rfl)
  d_in_ranges := dk_in_ranges c
  m_in_ranges := He.glo_ok X G (c.fact 111 rfl)
  d_answer_one := dk_answer_one c
  m_answer_one := He.glo_ok X G (c.fact 113 rfl)
  d_answers := dk_answers c
  m_answers := He.glo_ok X G (c.fact 115 rfl)
  cl_CA := He.cls_ok (c.fact 117 rfl)
  k_Auction := He.mkr_ok (c.fact 118 rfl)
  c_Auction := He.glo_ok X G (c.fact 119 rfl)
  cl_CW := He.cls_ok (c.fact 120 rfl)
  k_Waiting := He.mkr_ok (c.fact 121 rfl)
  c_Waiting := He.glo_ok X G (c.fact 122 rfl)
  cl_CP := He.cls_ok (c.fact 123 rfl)
  k_Position := He.mkr_ok (c.fact 124 rfl)
  c_Position := He.glo_ok X G (c.fact 125 rfl)
  cl_CS := He.cls_ok (c.fact 126 rfl)
  k_Session := He.mkr_ok (c.fact 127 rfl)
  c_Session := He.glo_ok X G (c.fact 128 rfl)
  n_CA_dealer := He.noat_ok (c.fact 129 rfl)
  n_CA_made := He.noat_ok (c.fact 130 rfl)
  n_CW_seat := He.noat_ok (c.fact 131 rfl)
  n_CW_call := He.noat_ok (c.fact 132 rfl)
  n_CW_why := He.noat_ok (c.fact 133 rfl)
  n_CP_auction := He.noat_ok (c.fact 134 rfl)
  n_CP_vulnerability := He.noat_ok (c.fact 135 rfl)
  n_CP_barred := He.noat_ok (c.fact 136 rfl)
  n_CP_once := He.noat_ok (c.fact 137 rfl)
  n_CP_waiting := He.noat_ok (c.fact 138 rfl)
  n_CP_mending := He.noat_ok (c.fact 139 rfl)
  n_CS_positions := He.noat_ok (c.fact 140 rfl)
  g_PASS := He.int_ok X G (c.fact 141 rfl)
  g_DOUBLE := He.int_ok X G (c.fact 142 rfl)
  g_REDOUBLE := He.int_ok X G (c.fact 143 rfl)
  g_FIRST_BID := He.int_ok X G (c.fact 144 rfl)
  g_CALLS := He.int_ok X G (c.fact 145 rfl)
  g_HIGHEST_BID := He.int_ok X G (c.fact 146 rfl)
  g_NOTHING := He.int_ok X G (c.fact 147 rfl)
  g_TOO_LOW := He.int_ok X G (c.fact 148 rfl)
  g_OUT_OF_TURN := He.int_ok X G (c.fact 149 rfl)
  g_BLANK := He.int_ok X G (c.fact 150 rfl)
  g_ZERO := He.int_ok X G (c.fact 151 rfl)
  g_NINE := He.int_ok X G (c.fact 152 rfl)
  g_STRAINS := He.str_ok X G (c.fact 153 rfl)
  g_NO_BIDS := He.glo_ok X G (c.fact 154 rfl)
  g_RIGHT := He.int_ok X G (c.fact 155 rfl)
  g_NO_CALL := He.int_ok X G (c.fact 156 rfl)
  g_NOT_LEGAL := He.int_ok X G (c.fact 157 rfl)
  g_OVER_BEFORE := He.int_ok X G (c.fact 158 rfl)
  g_MOST_DONE := He.int_ok X G (c.fact 159 rfl)
  g_RANGES := He.glo_ok X G (c.fact 160 rfl)
  g_ANSWERERS := He.glo_ok X G (c.fact 161 rfl)
  g_WITH_TEXT := He.glo_ok X G (c.fact 162 rfl)
  g_WITHOUT_AUCTION := He.glo_ok X G (c.fact 163 rfl)
  g_GREATEST_BYTE := He.int_ok X G (c.fact 164 rfl)
  t_NO_BIDS := (tups_ok ct).1
  t_WITH_TEXT := (tups_ok ct).2.1
  t_WITHOUT := (tups_ok ct).2.2.1
  t_ANSW := (tups_ok ct).2.2.2.1
  t_RANGES := (tups_ok ct).2.2.2.2
  b_all := He.free_ok X G (c.fact 165 rfl)
  b_enumerate := He.free_ok X G (c.fact 166 rfl)
  b_len := He.free_ok X G (c.fact 167 rfl)
  b_list := He.free_ok X G (c.fact 168 rfl)
  b_max := He.free_ok X G (c.fact 169 rfl)
  b_ord := He.free_ok X G (c.fact 170 rfl)
  b_range := He.free_ok X G (c.fact 171 rfl)
  b_reversed := He.free_ok X G (c.fact 172 rfl)
  b_str := He.free_ok X G (c.fact 173 rfl)
  b_zip := He.free_ok X G (c.fact 174 rfl)
theorem all_mk {P : Program} {w : World} {K : PySem.W.Frag} {h : Heap} {mg : Str → Option Value} {fa : Addr} (X : K.In h) (G : h.Ns mainGlobals mg) (hfa : mg "answers" = some (.ref fa)) (c : He.SaysE FAS FNS K) (ct : tupsB K = true) :
    ∃ fd : FuncData, (∀ (s : Shared) (us : List Value), us.length = (["calls"] : List Str).length → BindsTo s fd ⟨us, []⟩ ((["calls"] : List Str).zip us)) ∧ ∀ base : Heap, K.In base → base.Ns mainGlobals mg → FnOk P w K mg base CX0 17 fa fd ["calls"] (spAnswers K) := by
  have T := txt_of X G c ct
  have e := hfa.symm.trans T.m_answers
  cases e
  refine ⟨fdOf K (atN 75), fun s us hu => ?_, fun base _ _ => ok_answers T⟩
  obtain ⟨oc, od, osl, kV, doc, pm, an, cdv, ct, l, _⟩ := c.def_ 75 rfl
  have e : fdOf K (atN 75) = PySem.W.fnOf "answers" "answers" (defArgs st_answers) (defBody st_answers) (defScope st_answers) .none kV doc pm an cdv ct := by
    unfold fdOf
    rw [show K.lookup (He.fAd K (atN 75)) = _ from l]
    rfl
  rw [e]
  exact match us, hu with | [_], _ => .of_eq rfl
end Bb
open PySem PySem.W PyProof.Rows
set_option maxRecDepth 100000 in
set_option maxHeartbeats 0 in
theorem PySem.Challenge.cw_bridgebids_s01_answers_holds : PySem.Challenge.rw_bridgebids_s01_answers.Holds := by
  w_on; k_headS; (case hw => exact ⟨[.list [.int 0, .int 0, .int 0]], by decide +kernel, by decide +kernel⟩)
  k_fillS
  refine L2.walk_specK (r := PySem.Challenge.rw_bridgebids_s01_answers) (k := 17) (CX := L2.CX0) (ps := ["calls"]) (sp := Bb.spAnswers) (by decide +kernel) rfl rfl ⟨rfl, by decide, by decide⟩ (fun w h Y => PySem.W.kIn_of Y) ?F ?S (fun _ _ _ _ z => z)
  case F =>
    intro w mg fa h Y KX G hmg
    refine Bb.all_mk KX G hmg ?c ?ct
    · show He.obsE _ _ _ = He.valE _
      kernel_rfl
    · kernel_rfl
  case S =>
    intro K H xs a hO hwi hask hx
    cases hx with
    | cons h1 h2 =>
      cases h2
      cases h1 with
      | lst hs ha =>
        have e := L2.ints_dw a.1 _ ha
        subst e
        exact ⟨_, a.1, rfl, hs, hask, fun H' p hp => .lst (L2.SqL.of hp) (L2.dw_ints _)⟩
