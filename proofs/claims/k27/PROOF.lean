import PyProof.Rows.All
import PySem.Challenge.RW_curvehouse_k27_paid_once
import KE.KItem
import KE.KLam
import KE.KNestM
import KE.KIsAll
import KE.KLcPair
import KE.RegMulBits
import KE.KFromBytes
set_option Elab.async false
set_option linter.all false
set_option maxRecDepth 100000
local macro_rules|`(())=>`(by omega)
local macro_rules|`(∅)=>`(by decide)
local macro_rules|`(⋯)=>`(by grind)
section
open PySem
abbrev qAa:=@List.length_map
abbrev qAb:=@List.getElem?_eq_getElem
abbrev qAc:=@List.getElem?_map
abbrev qAd:=@Rat.le_refl
abbrev qAe:=@List.getElem?_eq_some_iff
abbrev qAf:=@Nat.le_refl
abbrev qAg:=@List.getD_eq_getElem?_getD
abbrev qAh:=@Heap.get?_push_of_some
abbrev qAi:=@Rat.mul_nonneg
abbrev qAj:=@Heap.lt_size
abbrev qAk:=@Rat.le_of_lt
abbrev qAl:=@List.mem_cons
abbrev qAm:=@Rat.le_trans
abbrev qAn:=@Option.some.inj
abbrev qAo:=@Rat.intCast_mul
abbrev qAp:=@List.getElem?_append_left
abbrev qAq:=@List.length_range
abbrev qAr:=@List.mem_append
abbrev qAs:=@Bool.false_ne_true
abbrev qAt:=@Heap.get?_push_size
abbrev qAu:=@List.getElem?_append_right
abbrev qAv:=@Nat.lt_of_lt_of_le
abbrev qAw:=@List.length_append
abbrev qAx:=@Nat.ne_of_lt
abbrev qAy:=@List.mem_append_right
abbrev qAz:=@Rat.not_lt
abbrev qAA:=@PySem.F.slot_list_append
abbrev qAB:=@PySem.F.type_list_append
abbrev qAC:=@List.getElem?_range
abbrev qAD:=@Nat.le_trans
abbrev qAE:=@PySem.F.plainAttrs_list
abbrev qAF:=@List.size_toArray
abbrev qAG:=@Rat.divInt_eq_div
abbrev qAH:=@List.all_eq_true
abbrev qAI:=@List.mem_singleton
abbrev qAJ:=@List.mem_range
abbrev qAK:=@List.mem_of_getElem?
abbrev qAL:=@List.length_drop
abbrev qAM:=@List.mem_map
abbrev qAN:=@List.map_append
abbrev qAO:=@List.getElem?_eq_none_iff
abbrev qAP:=@List.mem_cons_of_mem
abbrev qAQ:=@List.mem_append_left
abbrev qAR:=@Nat.mul_le_mul_right
abbrev qAS:=@List.eq_nil_of_length_eq_zero
abbrev qAT:=@W.kia_one
abbrev qAU:=@List.length_take
abbrev qAV:=@Bool.and_eq_true
abbrev qAW:=@List.length_cons
abbrev qAX:=@List.take_of_length_le
abbrev qAY:=@Rat.intCast_pos
abbrev qAZ:=@Nat.lt_irrefl
abbrev qA0:=@List.mem_filter
abbrev qA1:=@W.mg_none_of
abbrev qA2:=@List.take_add_one
abbrev qA3:=@Rat.not_le
abbrev qA4:=@Option.isSome_iff_exists
abbrev qA5:=@List.mem_cons_self
abbrev qA6:=@List.getElem_mem
abbrev qA7:=@Nat.zero_le
abbrev qA8:=@Heap.size_push
abbrev qA9:=@Nat.ne_of_gt
abbrev qBa:=@List.getElem?_drop
abbrev qBb:=@Rat.div_mul_cancel
abbrev qBc:=@Rat.lt_irrefl
abbrev qBd:=@Int.mul_pos
abbrev qBe:=@PyProof.Rows.callWith_type1
abbrev qBf:=@Nat.not_lt_zero
abbrev qBg:=@Rat.mul_eq_zero
abbrev qBh:=@List.filterMap_cons
abbrev qBi:=@Nat.lt_trans
abbrev qBj:=@Rat.mul_pos
abbrev qBk:=@List.lookup_cons
abbrev qBl:=@List.not_mem_nil
abbrev qBm:=@List.filter_cons
abbrev qBn:=@List.length_filter_le
abbrev qBo:=@Nat.eq_zero_or_pos
abbrev qBp:=@List.getElem?_zip_eq_some
abbrev qBq:=@List.append_nil
abbrev qBr:=@Nat.le_of_lt
abbrev qBs:=@Rat.intCast_add
abbrev qBt:=@Rat.intCast_sub
abbrev qBu:=@F.slot_zip_next
abbrev qBv:=@Rat.intCast_eq_zero_iff
abbrev qBw:=@List.length_reverse
abbrev qBx:=@List.getElem?_set_self
abbrev qBy:=@List.filterMap_map
abbrev qBz:=@Nat.add_sub_cancel
abbrev qBA:=@Int.ne_of_gt
abbrev qBB:=@Rat.lt_of_le_of_ne
abbrev qBC:=@List.getElem?_toArray
abbrev qBD:=@List.getElem?_reverse
abbrev qBE:=@F.slot_tuple_iterator_next
abbrev qBF:=@List.mem_iff_getElem
abbrev qBG:=@List.length_dropLast
abbrev qBH:=@List.getElem?_take_of_lt
abbrev qBI:=@List.length_filterMap_le
abbrev qBJ:=@List.map_map
abbrev qBK:=@List.getElem?_cons_succ
abbrev qBL:=@W.mg_of
abbrev qBM:=@Bool.eq_iff_iff
abbrev qBN:=@List.forIn_cons
abbrev qBO:=@Nat.min_eq_left
abbrev qBP:=@Rat.intCast_lt_intCast
abbrev qBQ:=@W.kitx_list
abbrev qBR:=@Int.toNat_natCast
abbrev qBS:=@Nat.add_comm
abbrev qBT:=@List.getElem?_set_ne
abbrev qBU:=@Nat.lt_succ_self
abbrev qBV:=@Nat.le_add_right
abbrev qBW:=@Int.sign_eq_neg_one_of_neg
abbrev qBX:=@Int.fdiv_eq_ediv_of_nonneg
abbrev qBY:=@List.map_drop
abbrev qBZ:=@Nat.le_succ
abbrev qB0:=@Nat.mul_le_mul_left
abbrev qB1:=@List.mem_filterMap
abbrev qB2:=@Rat.num_divInt_den
abbrev qB3:=@W.kla_fn
abbrev qB4:=@Int.mul_nonneg
abbrev qB5:=@F.args_zip_next_1
abbrev qB6:=@W.cellsFrom_some
abbrev qB7:=@Int.sign_eq_one_of_pos
abbrev qB8:=@Int.fmod_nonneg_of_pos
abbrev qB9:=@List.length_pos_of_mem
abbrev qCa:=@List.drop_eq_nil_of_le
abbrev qCb:=@List.map_cons
abbrev qCc:=@List.zipIdx_cons
abbrev qCd:=@F.entry_zip_next
abbrev qCe:=@List.filterMap_eq_map
abbrev qCf:=@PyProof.Rows.boot_abs
abbrev qCg:=@PyProof.Rows.slot_tuple_getitem
abbrev qCh:=@List.nodup_cons
abbrev qCi:=@List.of_mem_zip
abbrev qCj:=@List.getElem?_of_mem
abbrev qCk:=@List.pairwise_append
abbrev qCl:=@Nat.sub_self
abbrev qCm:=@List.zipIdx_nil
abbrev qCn:=@Rat.le_antisymm
abbrev qCo:=@Rat.add_comm
abbrev qCp:=@Int.mul_fdiv_cancel
abbrev qCq:=@F.args_tuple_iterator_next_1
abbrev qCr:=@List.forIn_nil
abbrev qCs:=@Nat.mul_le_mul
abbrev qCt:=@W.callWith_K
abbrev qCu:=@Int.fmod_lt_of_pos
abbrev qCv:=@F.entry_tuple_iterator_next
abbrev qCw:=@Bool.and_true
abbrev qCx:=@Int.fmod_eq_emod_of_nonneg
abbrev qCy:=@List.ext_getElem?
abbrev qCz:=@List.pairwise_iff_getElem
abbrev qCA:=@PySem.F.args_tuple_add_2
abbrev qCB:=@Nat.le_of_not_lt
abbrev qCC:=@PyProof.Rows.boot_sorted
abbrev qCD:=@Nat.succ_mul
abbrev qCE:=@Nat.mul_comm
abbrev qCF:=@List.getElem?_replicate
abbrev qCG:=@PySem.F.entry_tuple_add
abbrev qCH:=@PyProof.Rows.boot_tuple
abbrev qCI:=@PyProof.Rows.intBits_le
abbrev qCJ:=@List.pairwise_singleton
abbrev qCK:=@Rat.zero_divInt
abbrev qCL:=@PySem.F.slot_tuple_add
abbrev qCM:=@PyProof.Rows.boot_bool
abbrev qCN:=@List.take_append_drop
abbrev qCO:=@List.filterMap_append
abbrev qCP:=@List.drop_zero
abbrev qCQ:=@Heap.get?_update_self
abbrev qCR:=@PyProof.Rows.boot_zip
abbrev qCS:=@List.take_zero
abbrev qCT:=@PyProof.Rows.boot_int
abbrev qCU:=@Rat.add_nonneg
abbrev qCV:=@List.map_take
abbrev qCW:=@List.map_nil
end
namespace L2
open PySem
def F3 (s:Stmt):Arguments:=match s with
 |.FunctionDef _ a _ _ _ _ _ _ _ _=>a
 |_=>{ posonlyargs:=[],args:=[],vararg:=none,kwonlyargs:=[],kw_defaults:=[],kwarg:=none,defaults:=[] }
def Ce (s:Stmt):List Stmt:=match s with
 |.FunctionDef _ _ b _ _ _ _ _ _ _=>b
 |_=>[]
def Ab (s:Stmt):Scope:=match s with
 |.FunctionDef _ _ _ _ _ _ sc _ _ _=>sc
 |_=>{ kind:=.function,names:=[],isGenerator:=false,isCoroutine:=false }
end L2
namespace L3
open PySem L2
abbrev rA (K:W.Frag)(n:Str)(f:Addr):Prop:=W.nsIn K mainGlobals n=some (some (.ref f))
abbrev rL (K:W.Frag)(f:Addr)(n:Str)(st:Stmt)(oc:Value)(od:Option Addr)(kV dc pm:Value)(an:Option Addr)(cd ct:Value)(sl:Array (Option Value)):Prop:=K.lookup f=some ⟨oc,od,.func (W.fnOf n n (F3 st) (Ce st) (Ab st) .none kV dc pm an cd ct),sl⟩
abbrev rC (K:W.Frag)(cd:Value)(n:Str):Prop:=W.codeIn K cd n=true
abbrev rK (K:W.Frag)(f:Addr):Prop:=W.keepIn K (.ref f)=true
inductive Rw (K:W.Frag)(n:Str)(st:Stmt):Prop
 |mk {f:Addr}{oc:Value}{od:Option Addr}{kV dc pm:Value}{an:Option Addr}{cd ct:Value}{sl:Array (Option Value)}(a:rA K n f) (l:rL K f n st oc od kV dc pm an cd ct sl) (c:rC K cd n) (k:rK K f)
end L3
namespace CL
open PySem L2 L3
def top (i:Nat):Stmt:=PySem.Challenge.pw_curvehouse_k27_paid_once.main.body.getD i (.Pass ⟨0,0,0,0⟩)
abbrev G2:Stmt:=top 6
abbrev II:Stmt:=top 7
abbrev MQ:Stmt:=top 10
abbrev QK:Stmt:=top 11
abbrev MO:Stmt:=top 12
abbrev Ms:Stmt:=top 13
abbrev Qd:Stmt:=top 14
abbrev J4:Stmt:=top 15
abbrev Kb:Stmt:=top 16
abbrev IG:Stmt:=top 17
abbrev MM:Stmt:=top 19
abbrev Er:Stmt:=top 20
abbrev EF:Stmt:=top 21
abbrev Hb:Stmt:=top 22
abbrev Fi:Stmt:=top 23
abbrev EA:Stmt:=top 24
abbrev CZ:Stmt:=top 25
abbrev Ds:Stmt:=top 26
abbrev Bh:Stmt:=top 27
abbrev BL:Stmt:=top 28
abbrev BK:Stmt:=top 29
abbrev He:Stmt:=top 30
abbrev Jj:Stmt:=top 31
abbrev Ek:Stmt:=top 32
abbrev Gj:Stmt:=top 34
abbrev Ia:Stmt:=top 35
abbrev Ih:Stmt:=top 36
abbrev Kv:Stmt:=top 38
abbrev C8:Stmt:=top 39
abbrev CJ:Stmt:=top 40
abbrev DL:Stmt:=top 41
abbrev CG:Stmt:=top 42
abbrev Hl:Stmt:=top 43
abbrev Ie:Stmt:=top 45
abbrev Dq:Stmt:=top 46
abbrev Kw:Stmt:=top 47
abbrev Jk:Stmt:=top 48
abbrev Il:Stmt:=top 49
abbrev Ei:Stmt:=top 51
abbrev DU:Stmt:=top 52
abbrev Fe:Stmt:=top 53
abbrev FU:Stmt:=top 54
abbrev MY:Stmt:=top 55
abbrev EL:Stmt:=top 56
abbrev EK:Stmt:=top 57
abbrev Gf:Stmt:=top 58
abbrev F6:Stmt:=top 59
abbrev C9:Stmt:=top 60
abbrev EJ:Stmt:=top 61
abbrev CM:Stmt:=top 62
abbrev DT:Stmt:=top 63
abbrev Pt:Stmt:=top 64
abbrev P4:Stmt:=top 65
abbrev QT:Stmt:=top 66
abbrev FR:Stmt:=top 67
abbrev F0:Stmt:=top 68
abbrev Hg:Stmt:=top 69
abbrev KR:Stmt:=top 71
abbrev CY:Stmt:=top 72
abbrev Cp:Stmt:=top 73
abbrev Hm:Stmt:=top 74
abbrev B3:Stmt:=top 75
abbrev Kg:Stmt:=top 77
abbrev B0:Stmt:=top 78
abbrev D4:Stmt:=top 80
abbrev Hj:Stmt:=top 81
abbrev G8:Stmt:=top 82
abbrev FH:Stmt:=top 83
abbrev E6:Stmt:=top 84
abbrev E3:Stmt:=top 85
abbrev E7:Stmt:=top 86
abbrev Es:Stmt:=top 87
abbrev EY:Stmt:=top 88
abbrev EZ:Stmt:=top 89
abbrev Fd:Stmt:=top 90
abbrev DZ:Stmt:=top 91
abbrev FO:Stmt:=top 92
abbrev EB:Stmt:=top 93
abbrev Mi:Stmt:=top 94
inductive Facts (l:W.OpenLaw)(K:W.Frag):Prop
 |mk {kV dc pm cd ct oc:Value}{od an:Option Addr}{sl:Array (Option Value)}{fL K_NoCurve K_NoTime:Addr}{gt_NOUGHT_0:Tok}{gt_NOUGHT_1:Tok}{ga_NOUGHT_2:Addr}{gd_NOUGHT_3:Option Addr}{gn_NOUGHT_3:Nat}{gs_NOUGHT_3:Array (Option Value)}
  (r0:Rw K "is_whole" G2)
  (r1:Rw K "divisor" II)
  (r2:Rw K "ratio" MQ)
  (r3:Rw K "plus" QK)
  (r4:Rw K "minus" MO)
  (r5:Rw K "times" Ms)
  (r6:Rw K "over" Qd)
  (r7:Rw K "under" J4)
  (r8:Rw K "lesser" Kb)
  (r9:Rw K "greater" IG)
  (r10:Rw K "check_begin" Er)
  (r11:Rw K "check_rise" EF)
  (r12:Rw K "slope_between" Ds)
  (r13:Rw K "slopes_behind" Bh)
  (r14:Rw K "curve" MM)
  (r15:Rw K "check_time" EA)
  (r16:Rw K "count_while" Ek)
  (r17:Rw K "piece_at" Fi)
  (r18:Rw K "slope_of_piece" CZ)
  (r19:Rw K "value_at" Hb)
  (r20:Rw K "steeper_corners" BL)
  (r21:Rw K "flatter_corners" BK)
  (r22:Rw K "outgrows" He)
  (r23:Rw K "time_of" Jj)
  (r24:Rw K "climbed" Ih)
  (r25:Rw K "reached" Gj)
  (r26:Rw K "passed" Ia)
  (r27:Rw K "corner_times" CJ)
  (r28:Rw K "corner_rows" C8)
  (r29:Rw K "gap_points" DL)
  (r30:Rw K "opposite" Hl)
  (r31:Rw K "crossed_rows" CG)
  (r32:Rw K "least" Kv)
  (r33:Rw K "tallest_point" Dq)
  (r34:Rw K "tallest" Ie)
  (r35:Rw K "between" Il)
  (r36:Rw K "wide_at" Jk)
  (r37:Rw K "widest" Kw)
  (r38:Rw K "line_through" DU)
  (r39:Rw K "pieces_of" Ei)
  (r40:Rw K "corner_of" FU)
  (r41:Rw K "curve_of" Fe)
  (r42:Rw K "moved_time" EL)
  (r43:Rw K "moved_line" EK)
  (r44:Rw K "laid" MY)
  (r45:Rw K "flipped" Gf)
  (r46:Rw K "turned" F6)
  (r47:Rw K "from_nought" C9)
  (r48:Rw K "sooner_begin" DT)
  (r49:Rw K "side_by_side" CM)
  (r50:Rw K "sign" QT)
  (r51:Rw K "side" Pt)
  (r52:Rw K "lean" P4)
  (r53:Rw K "add_piece" F0)
  (r54:Rw K "crossing" Hg)
  (r55:Rw K "add_lower" FR)
  (r56:Rw K "lowered" EJ)
  (r57:Rw K "joined_by_corners" B3)
  (r58:Rw K "by_slope" Hm)
  (r59:Rw K "stretches_under" Cp)
  (r60:Rw K "flattest_first" CY)
  (r61:Rw K "joined" KR)
  (r62:Rw K "begin_and_steeper" B0)
  (r63:Rw K "undone" Kg)
  (r64:Rw K "_law_cell_at" D4)
  (r65:Rw K "_law_low" Hj)
  (r66:Rw K "_law_add" G8)
  (r67:Rw K "_law_take" FH)
  (r68:Rw K "_law_up_to" E6)
  (r69:Rw K "_law_slope" E3)
  (r70:Rw K "_law_ratio" E7)
  (r71:Rw K "_law_slopes" Es)
  (r72:Rw K "_law_drawn" EY)
  (r73:Rw K "_law_ended" EZ)
  (r74:Rw K "_law_few" Fd)
  (r75:Rw K "_law_no_less" DZ)
  (r76:Rw K "_law_paid" FO)
  (r77:Rw K "_law_house" EB)
  (aL:rA K "law" fL) (lL:rL K fL "law" Mi oc od kV dc pm an cd ct sl) (cL:rC K cd "law") (kL:rK K fL)
  (z0:W.nsIn K mainGlobals "isinstance"=some none)
  (z1:W.nsIn K mainGlobals "int"=some none)
  (z2:W.nsIn K mainGlobals "bool"=some none)
  (z3:W.nsIn K mainGlobals "abs"=some none)
  (z4:W.nsIn K mainGlobals "len"=some none)
  (z5:W.nsIn K mainGlobals "range"=some none)
  (z6:W.nsIn K mainGlobals "tuple"=some none)
  (z7:W.nsIn K mainGlobals "enumerate"=some none)
  (z8:W.nsIn K mainGlobals "zip"=some none)
  (z9:W.nsIn K mainGlobals "sorted"=some none)
  (n_NoCurve:rA K "NoCurve" K_NoCurve)
  (n_NoTime:rA K "NoTime" K_NoTime)
  (n_NOUGHT:W.nsIn K mainGlobals "NOUGHT"=some (some (.ref ga_NOUGHT_2)))
  (n_gl_NOUGHT_6:K.lookup ga_NOUGHT_2=some ⟨.type "tuple",gd_NOUGHT_3,.seq #[(.int 0 gt_NOUGHT_0),(.int 1 gt_NOUGHT_1)] gn_NOUGHT_3,gs_NOUGHT_3⟩)
  (x_NoCurve:W.excIn K K_NoCurve [.type "ValueError",.type "Exception",.type "BaseException",.type "object"] "ValueError.__new__"=true)
  (x_NoTime:W.excIn K K_NoTime [.type "ValueError",.type "Exception",.type "BaseException",.type "object"] "ValueError.__new__"=true)
  (ht_piece_at:(W.tabIn K "piece_at").isSome=true)
  (hp_piece_at:(PyProof.Rows.recsOf l.prog).any (fun d=>d.name == "piece_at")=true)
  (ht_reached:(W.tabIn K "reached").isSome=true)
  (hp_reached:(PyProof.Rows.recsOf l.prog).any (fun d=>d.name == "reached")=true)
  (ht_passed:(W.tabIn K "passed").isSome=true)
  (hp_passed:(PyProof.Rows.recsOf l.prog).any (fun d=>d.name == "passed")=true)
  (ht_from_nought:(W.tabIn K "from_nought").isSome=true)
  (hp_from_nought:(PyProof.Rows.recsOf l.prog).any (fun d=>d.name == "from_nought")=true)
  (ht_side_by_side:(W.tabIn K "side_by_side").isSome=true)
  (hp_side_by_side:(PyProof.Rows.recsOf l.prog).any (fun d=>d.name == "side_by_side")=true)
  (ht_lowered:(W.tabIn K "lowered").isSome=true)
  (hp_lowered:(PyProof.Rows.recsOf l.prog).any (fun d=>d.name == "lowered")=true)
end CL
section
set_option maxRecDepth 100000
set_option maxHeartbeats 0
open PySem PySem.W PyProof.Rows
theorem HD.ws:OpenLaw.wellSaid PySem.Challenge.rw_curvehouse_k27_paid_once=true:=by kernel_rfl
noncomputable abbrev HD.pr:Program:=(OpenLaw.row PySem.Challenge.rw_curvehouse_k27_paid_once).toRowW.prog
noncomputable def HD.qv:Program:={ PySem.Challenge.pw_curvehouse_k27_paid_once with main:={ PySem.Challenge.pw_curvehouse_k27_paid_once.main with body:=[CL.top 1,CL.top 2,CL.top 3,CL.top 4,CL.top 6,CL.top 7,CL.top 9,CL.top 10,CL.top 11,CL.top 12,CL.top 13,CL.top 14,CL.top 15,CL.top 16,CL.top 17,CL.top 19,CL.top 20,CL.top 21,CL.top 22,CL.top 23,CL.top 24,CL.top 25,CL.top 26,CL.top 27,CL.top 28,CL.top 29,CL.top 30,CL.top 31,CL.top 32,CL.top 34,CL.top 35,CL.top 36,CL.top 38,CL.top 39,CL.top 40,CL.top 41,CL.top 42,CL.top 43,CL.top 45,CL.top 46,CL.top 47,CL.top 48,CL.top 49,CL.top 51,CL.top 52,CL.top 53,CL.top 54,CL.top 55,CL.top 56,CL.top 57,CL.top 58,CL.top 59,CL.top 60,CL.top 61,CL.top 62,CL.top 63,CL.top 64,CL.top 65,CL.top 66,CL.top 67,CL.top 68,CL.top 69,CL.top 71,CL.top 72,CL.top 73,CL.top 74,CL.top 75,CL.top 77,CL.top 78,CL.top 80,CL.top 81,CL.top 82,CL.top 83,CL.top 84,CL.top 85,CL.top 86,CL.top 87,CL.top 88,CL.top 89,CL.top 90,CL.top 91,CL.top 92,CL.top 93,CL.top 94] } }
structure HD.R where
 o:List Obj
 e:List DictEntry
 p:List Value
 s:List Value
 n:Nat
 k:Nat
 m:Value
def HD.tx:List Str->Nat->List Value
 |[],_=>[]
 |x::l,k=>.str x k::HD.tx l (k+1)
def HD.tu (l:List Value):Obj:=⟨.type "tuple",none,.seq l.toArray 0,#[]⟩
def HD.fo (c:Value)(l:List Value):Obj:=⟨c,none,.fields l.toArray,#[]⟩
def HD.co (x:Str)(k i j f:Nat)(a:Value)(b:Bool)(c d e t:Value)(k':Nat):Obj :=
 HD.fo (.type "code") [.str x k,.str x (k+1),.str "/claim/cut.py" (k+2),.int i 0,.int j 0,.int 0 0,.int 0 0,.int f 0,a,.bool b,.int 181 0,c,.none,d,e,t,.int k' 0,.int i 0,.str "/claim/cut.py" (k'+1)]
def HD.fd (x:Str)(p:Arguments)(b:List Stmt)(s:Scope)(g:Addr)(m c:Value):Data:=.func ⟨x,x,p,.stmts b,s,g,[],.none,.none,.none,m,none,c,.none,0⟩
def HD.en (P:Params)(x:Str)(k:Nat)(v:Value):DictEntry:=⟨PyData.keyHash P x,.str x k,v⟩
def HD.cl (P:Params)(x:Str)(q:Pos)(a k:Nat)(m:Value)(b:List Value)(mro:List Value)(s:List Value)(r:Bool):List Obj :=
 let u (j:Nat):Value:=.ref (a+j)
 let f:=HD.en P "__firstlineno__" (k+11) (.int q.line (k+10))
 let g:=HD.en P "__static_attributes__" (k+12) (u 7)
 let n:=HD.en P "__module__" (k+7) m
 [HD.tu b,HD.fo (.type "builtin_function_or_method") [.builtin "type.__prepare__",.type "type"],
  ⟨.type "dict",none,.dict [n,HD.en P "__qualname__" (k+9) (.str x (k+8)),f,g].toArray 4,#[]⟩,HD.tu [],HD.fo .none [],
  HD.co x (k+2) q.line 0 0 (u 3) false (u 4) .none .none .none (k+5),
  ⟨.type "frame",none,.plain,#[some (u 5),some (.ref 3),some (u 2),none,some m,none,some (.ref 0)]⟩,HD.tu [],
  ⟨.type "dict",none,.dict ([n,f,g]++(match r with|true=>[HD.en P "__weakref__" (k+14) (u 10),HD.en P "__doc__" (k+15) .none]|false=>[HD.en P "__doc__" (k+13) .none])).toArray (match r with|true=>3|false=>2),#[]⟩,
  ⟨.type "type",none,.cls ⟨x,b,u 9::mro,a+8,x,true,[],s,false,none,false⟩,#[some (u 0),none,some (.str x k),some (.str x (k+8)),some (.builtin "ValueError.__new__"),some (.bool true)]⟩] ++
 (match r with|true=>[HD.fo (.type "getset_descriptor") [.str "__weakref__" (k+13),u 9,.builtin "ExceptionGroup.__weakref__",.none]]|false=>[]) ++
 [HD.fo (.type "super") [u 9,u 9,u 9],HD.fo (.type "builtin_function_or_method") [.builtin "object.__init_subclass__",u 9]]
def HD.ve:List Value:=[.type "ValueError",.type "Exception",.type "BaseException",.type "object"]
def HD.cs:List PySem.Expr->Nat->List Value
 |.Constant (.int i) _ _::l,k=>.int i k::HD.cs l (k+1)
 |_,_=>[]
def HD.one (P:Params)(t:Stmt)(a k:Nat)(m:Value)(r:Nat->Nat->Value->HD.R):HD.R:=match t with
 |.FunctionDef x p b _ _ _ s _ _ q=>match localNames p s (.stmts b) with
  |some (y,z)=>match r (a+7) (k+3+y.length+z.length+3) m with
   |⟨o,e,l,u,n,i,j⟩=>⟨HD.tu []::HD.fo .none []::HD.tu (HD.tx y (k+3))::HD.tu (HD.tx z (k+3+y.length)) :: ⟨.none,none,HD.fd x p b s 0 .none .none,#[]⟩ ::
    HD.co x k q.line p.args.length 3 (.ref a) true (.ref (a+1)) (.ref (a+2)) (.ref (a+3)) (.ref (a+4)) (k+3+y.length+z.length) :: ⟨.type "function",none,HD.fd x p b s 3 m (.ref (a+5)),#[]⟩::o,
    HD.en P x (k+3+y.length+z.length+2) (.ref (a+6))::e,.int q.line 0 :: .int q.col 0 :: .ref (a+5)::l,u,n,i,j⟩
  |none=>match r (a+5) (k+6) m with
   |⟨o,e,l,u,n,i,j⟩=>⟨HD.tu []::HD.fo .none [] :: ⟨.none,none,HD.fd x p b s 0 .none .none,#[]⟩ ::
    HD.co x k q.line p.args.length 3 (.ref a) true (.ref (a+1)) .none .none (.ref (a+2)) (k+3) :: ⟨.type "function",none,HD.fd x p b s 3 m (.ref (a+3)),#[]⟩::o,
    HD.en P x (k+5) (.ref (a+4))::e,.int q.line 0 :: .int q.col 0 :: .ref (a+3)::l,u,n,i,j⟩
 |.ClassDef x _ _ _ _ _ _ _ _ _ q=>match Nat.beq a 15 with
  |true=>match r (a+13) (k+18) m with
   |⟨o,e,l,u,n,i,j⟩=>⟨HD.cl P x q a k m [.type "ValueError"] HD.ve u true++o,HD.en P x (k+17) (.ref (a+9))::e,.int q.line 0 :: .int q.col 0 :: .ref (a+5)::l,u,n,i,j⟩
  |false=>match r (a+12) (k+16) m with
   |⟨o,e,l,u,n,i,j⟩=>⟨HD.cl P x q a k m [.ref 24] (.ref 24::HD.ve) [] false++o,HD.en P x (k+15) (.ref (a+9))::e,.int q.line 0 :: .int q.col 0 :: .ref (a+5)::l,.ref (a+9)::u,n,i,j⟩
 |.Assign _ (.Constant (.str x) _ _) _=>r a (k+2) (.str x k)
 |.Assign [.Name x _] (.Tuple b _ _) _=>match r (a+1) (k+b.length+1) m with
  |⟨o,e,l,u,n,i,j⟩=>⟨HD.tu (HD.cs b k)::o,HD.en P x (k+b.length) (.ref a)::e,l,u,n,i,j⟩
 |_=>r a k m
def HD.go (P:Params):List Stmt->Nat->Nat->Value->HD.R
 |[],a,k,m=>⟨[],[],[],[],a,k,m⟩
 |t::l,a,k,m=>HD.one P t a k m (fun a k m=>HD.go P l a k m)
def HD.alt:List Obj->List Obj
 |x::_::l=>x::HD.alt l
 |l=>l
def HD.bt:Nat->List Obj->BT
 |n+1,x::l=>.node x (HD.bt n (HD.alt l)) (HD.bt n (HD.alt l.tail))
 |_,_=>.nil
def HD.bu:Nat->List Obj->BT
 |n+1,x::l=>.node x (HD.bu n (HD.alt l)) (HD.bu n (HD.alt l.tail))
 |_,_=>.nil
noncomputable def HD.ob (P:Params)(r:HD.R):List Obj :=
 boot_o_0 P::boot_o_1 P::boot_o_2 P::(match boot_o_3 P with
  |⟨c,d,.dict es n,s⟩=>(match es.toList with
   |x::l=>⟨c,d,.dict (⟨x.hash,x.key,r.m⟩::(l++r.e)).toArray (n+r.e.length),s⟩
   |[]=>default)
  |o=>o)::boot_o_4 P::boot_o_5 P::boot_o_6 P::boot_o_7 P::boot_o_8 P::boot_o_9 P::boot_o_10 P::HD.tu []::HD.fo .none r.p ::
 HD.co "<module>" 182 1 0 0 (.ref 11) false (.ref 12) .none .none .none 185 :: ⟨.type "frame",none,.plain,#[some (.ref 13),some (.ref 3),some (.ref 3),none,some (.str "__main__" 164),none,some (.ref 0)]⟩::r.o
noncomputable def HD.S (f:Nat->List Obj->BT)(l:List Stmt)(P:Params)(os:OsState):SharedT :=
 match HD.go P l 15 187 (.str "__main__" 164) with
 |r=>⟨f 12 (HD.ob P r),r.n,(boot_heap P).life,Array.mk [],boot_drawn,r.k,os⟩
theorem HD.ap {tb:String->Option Builtin}{p:Program}{w:World}{n₀:Nat}{ann:Option Value}{env:Env}{q:Pos}{n N:Nat}{s s':SharedT}{r:Shared}{l:List Stmt}{c:Code}{pos p':Pos}(i:Nat) (h:segRunT tb p w n₀ ann 1 n s (piecesOf (l.take i) env c pos [topFrame q])=some (.next,s',c,p'))
 (k:topRun tb p w n₀ ann N s'.abs (restOf (l.drop i) env c p' [topFrame q])=some r):topRun tb p w n₀ ann (n+N) s.abs (restOf l env c pos [topFrame q])=some r:=by
 have:=piece_app (segRun_of h) k
 rwa [qCN] at this
theorem HD.ae {tb:String->Option Builtin}{p:Program}{w:World}{n₀:Nat}{ann:Option Value}{env:Env}{q:Pos}{n N:Nat}{s s':SharedT}{r:Shared}{l:List Stmt}{c:Code}{pos p':Pos}(h:segRunT tb p w n₀ ann 1 n s (piecesOf l env c pos [topFrame q])=some (.next,s',c,p'))
 (k:topRun tb p w n₀ ann N s'.abs ⟨doneF .next,c,p',[topFrame q]⟩=some r):topRun tb p w n₀ ann (n+N) s.abs (restOf l env c pos [topFrame q])=some r:=by
 have:=piece_app (rest:=[]) (segRun_of h) (piece_nil k)
 rwa [qBq] at this
noncomputable def HD.ok (p:Program)(w:World)(s:Shared):Bool :=
 staticsOk (importedModules p.main.body) (boot_heap w.params) s.heap&&namesBound p s.heap &&
 gensDone s&&laidKept (boot_heap w.params) s.heap
theorem HD.lo {p q:Program}{Xt:Shared->Bool}{α:Type}{Yf:Shared->α}{Ya:World->α}{N M k:Nat}{H:Params->Heap}(le:Nat.ble M N=true)
 (o:∀w:World,(fencedOpening treeTable p w N).map (fun s=>(s.heap,s.gens,s.drawn,s.toks))=some (boot_heap w.params,Array.mk [],boot_drawn,boot_toks))
 (r:∀(w:World)(os:OsState),topRun treeTable p w 11 (some (.ref 6)) M ⟨boot_heap w.params,Array.mk [],boot_drawn,boot_toks,os⟩ (topStub p)=some ⟨H w.params,Array.mk [],boot_drawn,k,os⟩)
 (a:∀(w:World)(os:OsState),(HD.ok p w ⟨H w.params,Array.mk [],boot_drawn,k,os⟩,openSeen q [] (importedModules p.main.body) Xt true ⟨H w.params,Array.mk [],boot_drawn,k,os⟩)=(true,openGood q []))
 (b:∀(w:World)(os:OsState),Yf ⟨H w.params,Array.mk [],boot_drawn,k,os⟩=Ya w):LeftO p q [] Xt Yf Ya N true :=
 LeftO.of_pieces o (fun w=>by kernel_rfl) r le fun w=>funext fun os=>by
  obtain⟨e,f⟩:=Prod.mk.inj (a w os)
  exact looks_pair e (looks_pair f (b w os))
theorem HD.tri {β γ δ ε ζ η θ ι κ:Type}{b:Bool}{x y:β×γ×δ×ε×ζ×η×θ×ι×κ}(h0:b=true) (h1:x.1=y.1) (h2:x.2.1=y.2.1) (h3:x.2.2.1=y.2.2.1) (h4:x.2.2.2.1=y.2.2.2.1) (h5:x.2.2.2.2.1=y.2.2.2.2.1) (h6:x.2.2.2.2.2.1=y.2.2.2.2.2.1) (h7:x.2.2.2.2.2.2.1=y.2.2.2.2.2.2.1) (h8:x.2.2.2.2.2.2.2.1=y.2.2.2.2.2.2.2.1) (h9:x.2.2.2.2.2.2.2.2=y.2.2.2.2.2.2.2.2):(b,x)=(true,y) :=
 Prod.ext h0 (Prod.ext h1 (Prod.ext h2 (Prod.ext h3 (Prod.ext h4 (Prod.ext h5 (Prod.ext h6 (Prod.ext h7 (Prod.ext h8 h9))))))))
theorem HD.op (w:World):(fencedOpening treeTable HD.pr w 6898).map (fun s=>(s.heap,s.gens,s.drawn,s.toks))=some (boot_heap w.params,Array.mk [],boot_drawn,boot_toks):=boot_open (by kernel_rfl) (by decide +kernel) (fun s=>by kernel_rfl) w
noncomputable def HD.bd:List Stmt:=behindTheImports HD.pr
noncomputable def HD.ev:Env:={ scope:=HD.pr.main.scope,locals:=3,globals:=3,cells:=[],code:=.ref 13,frame:=some 14 }
noncomputable def HD.cE:Code:=.body HD.bd HD.ev
noncomputable def HD.H (P:Params):Heap:=absHeap (HD.S HD.bt HD.bd P default).tree 588 (boot_heap P).life
noncomputable def HD.Z (w:World)(os:OsState):Shared:=⟨HD.H w.params,Array.mk [],boot_drawn,983,os⟩
theorem HD.pre (w:World)(os:OsState):topGo treeTable HD.pr w 11 (some (.ref 6)) 12 ⟨boot_heap w.params,Array.mk [],boot_drawn,boot_toks,os⟩ (topStub HD.pr)=some ((HD.S HD.bt [] w.params os).abs,⟨denote treeTable HD.cE,HD.cE,⟨0,0,0,0⟩,[topFrame ⟨0,0,0,0⟩]⟩):=by kernel_rfl
theorem HD.blk (w:World)(os:OsState):segRun treeTable HD.pr w 11 (some (.ref 6)) 1 1 (HD.S HD.bt [] w.params os).abs (blockOf HD.bd HD.ev HD.cE ⟨0,0,0,0⟩ [topFrame ⟨0,0,0,0⟩])=some (.next,(HD.S HD.bt [] w.params os).abs,HD.cE,⟨0,0,0,0⟩):=by kernel_rfl
theorem HD.q0 (w:World)(os:OsState):segRunT treeTable HD.pr w 11 (some (.ref 6)) 1 844 (HD.S HD.bt [] w.params os) (piecesOf (HD.bd.take 6) HD.ev HD.cE ⟨0,0,0,0⟩ [topFrame ⟨0,0,0,0⟩])=some (.next,(HD.S HD.bu (HD.bd.take 6) w.params os),HD.cE,⟨10,0,10,8⟩):=by kernel_rfl
theorem HD.q1 (w:World)(os:OsState):segRunT treeTable HD.pr w 11 (some (.ref 6)) 1 858 (HD.S HD.bu (HD.bd.take 6) w.params os) (piecesOf ((HD.bd.drop 6).take 31) HD.ev HD.cE ⟨10,0,10,8⟩ [topFrame ⟨0,0,0,0⟩])=some (.next,(HD.S HD.bt (HD.bd.take 37) w.params os),HD.cE,⟨131,0,135,47⟩):=by kernel_rfl
theorem HD.q2 (w:World)(os:OsState):segRunT treeTable HD.pr w 11 (some (.ref 6)) 1 814 (HD.S HD.bt (HD.bd.take 37) w.params os) (piecesOf (((HD.bd.drop 6).drop 31).take 30) HD.ev HD.cE ⟨131,0,135,47⟩ [topFrame ⟨0,0,0,0⟩])=some (.next,(HD.S HD.bu (HD.bd.take 67) w.params os),HD.cE,⟨264,0,269,12⟩):=by kernel_rfl
theorem HD.q3 (w:World)(os:OsState):segRunT treeTable HD.pr w 11 (some (.ref 6)) 1 837 (HD.S HD.bu (HD.bd.take 67) w.params os) (piecesOf (((HD.bd.drop 6).drop 31).drop 30) HD.ev HD.cE ⟨264,0,269,12⟩ [topFrame ⟨0,0,0,0⟩])=some (.next,(HD.S HD.bt HD.bd w.params os),HD.cE,⟨445,0,462,15⟩):=by kernel_rfl
theorem HD.fn (w:World)(os:OsState):topRun treeTable HD.pr w 11 (some (.ref 6)) 2 (HD.S HD.bt HD.bd w.params os).abs ⟨doneF .next,HD.cE,⟨445,0,462,15⟩,[topFrame ⟨0,0,0,0⟩]⟩=some (HD.Z w os):=by kernel_rfl
theorem HD.run (w:World)(os:OsState):topRun treeTable HD.pr w 11 (some (.ref 6)) (12+(1+(844+(858+(814+(837+2)))))) ⟨boot_heap w.params,Array.mk [],boot_drawn,boot_toks,os⟩ (topStub HD.pr)=some (HD.Z w os):=go_top (HD.pre w os) (piece_block (HD.blk w os) (HD.ap 6 (HD.q0 w os) (HD.ap 31 (HD.q1 w os) (HD.ap 30 (HD.q2 w os) (HD.ae (HD.q3 w os) (HD.fn w os))))))
noncomputable abbrev HD.xt:Shared->Bool:=fun s=>xlAt HD.qv [] s&&recOk (RowW.records (OpenRow.toRowW (OpenLaw.row PySem.Challenge.rw_curvehouse_k27_paid_once))) s
noncomputable abbrev HD.sn (w:World)(os:OsState):=openSeen HD.qv [] (importedModules HD.pr.main.body) HD.xt true (HD.Z w os)
theorem HD.l0 (w:World)(os:OsState):HD.ok HD.pr w (HD.Z w os)=true:=by kernel_rfl
theorem HD.l1 (w:World)(os:OsState):(HD.sn w os).1=expectedOf HD.qv:=by kernel_rfl
theorem HD.l2 (w:World)(os:OsState):(HD.sn w os).2.1=bltViewBooted:=by kernel_rfl
theorem HD.l3 (w:World)(os:OsState):(HD.sn w os).2.2.1=true:=by kernel_rfl
theorem HD.l4 (w:World)(os:OsState):(HD.sn w os).2.2.2.1=true:=by kernel_rfl
theorem HD.l5 (w:World)(os:OsState):(HD.sn w os).2.2.2.2.1=pinGoodD (drecsOf HD.qv):=by kernel_rfl
theorem HD.l6 (w:World)(os:OsState):(HD.sn w os).2.2.2.2.2.1=plainGoodE HD.qv (looseW HD.qv []):=by kernel_rfl
theorem HD.l7 (w:World)(os:OsState):(HD.sn w os).2.2.2.2.2.2.1=plainGoodD HD.qv []:=by kernel_rfl
theorem HD.l8 (w:World)(os:OsState):(HD.sn w os).2.2.2.2.2.2.2.1=wideGood HD.qv:=by kernel_rfl
theorem HD.l9 (w:World)(os:OsState):(HD.sn w os).2.2.2.2.2.2.2.2=clsGoodW HD.qv []:=by kernel_rfl
theorem HD.lA (w:World)(os:OsState):(HD.ok HD.pr w (HD.Z w os),HD.sn w os)=(true,openGood HD.qv []):=HD.tri (HD.l0 w os) (HD.l1 w os) (HD.l2 w os) (HD.l3 w os) (HD.l4 w os) (HD.l5 w os) (HD.l6 w os) (HD.l7 w os) (HD.l8 w os) (HD.l9 w os)
end
section
open PySem PySem.W PyProof.Rows
local macro_rules|`(tactic| o_head $H)=>`(tactic| (
 refine holds_open (q:=HD.qv) (loose:=[]) (N:=6898)
  (Xt:=(fun s=>xlAt HD.qv [] s&&recOk (RowW.records (OpenRow.toRowW (OpenLaw.row PySem.Challenge.rw_curvehouse_k27_paid_once))) s))
  (XP:=XL HD.qv []) (Yf:=Hook.obs $H) (Ya:=Hook.val $H)
  (YP:=Hook.says $H) ?hl (Hook.of $H) (Hook.keeps $H)
  (fun s e=>xl_of s (Bool.and_eq_true_iff.mp e).1) XL.keeps (by rfl) (by rfl) (by rfl)
  (fun s e=>recFacts_of (Bool.and_eq_true_iff.mp e).2) (by rfl) (by first|assumption|decide +kernel)
  (by decide +kernel) ⟨rfl,rfl,rfl,rfl,rfl,by decide +kernel⟩ ?hw ?hc
 case hl =>
  refine HD.lo (by decide +kernel) HD.op HD.run HD.lA ?_
  intro w os
  kernel_rfl))
set_option maxRecDepth 100000 in
set_option maxHeartbeats 0 in
theorem CL.front (hF:∀{q:Program}{loose:List Str}{XP:(Str->Option Value)->Heap->Prop}{YP:World->Heap->Prop}{d:DefRec}{K:Params->W.Frag},d.params.defaults=[]->(∀y:Str,(recsOf PySem.Challenge.rw_curvehouse_k27_paid_once.prog).any (fun d=>d.name==y)=true->(recsOf q).any (fun d=>d.name==y)=true)->(∀(w:World)(h:Heap),YP w h->(K w.params).In h)->(∀w:World,W.noTabs (K w.params)=true)->d.name="law"->(∀w:World,CL.Facts PySem.Challenge.rw_curvehouse_k27_paid_once (K w.params))->W.WalkO q loose XP YP PySem.Challenge.rw_curvehouse_k27_paid_once.row.toRowW d [] (fun f vs=>PySem.call f vs)):PySem.Challenge.rw_curvehouse_k27_paid_once.Holds:=by
 w_on;refine holds_law HD.ws fun said=>?_;k_head;(case hw=>w_witness2)
 k_fill
 refine hF rfl (fun _ h=>h) (fun w h Y=>W.km_in_of Y) (fun w=>?nt) rfl (fun w=>?F)
 case nt=>kernel_rfl
 case F =>
  refine' CL.Facts.mk (.mk ?a0 ?l0 ?c0 ?k0) (.mk ?a1 ?l1 ?c1 ?k1) (.mk ?a2 ?l2 ?c2 ?k2) (.mk ?a3 ?l3 ?c3 ?k3) (.mk ?a4 ?l4 ?c4 ?k4) (.mk ?a5 ?l5 ?c5 ?k5) (.mk ?a6 ?l6 ?c6 ?k6) (.mk ?a7 ?l7 ?c7 ?k7) (.mk ?a8 ?l8 ?c8 ?k8) (.mk ?a9 ?l9 ?c9 ?k9) (.mk ?a10 ?l10 ?c10 ?k10) (.mk ?a11 ?l11 ?c11 ?k11) (.mk ?a12 ?l12 ?c12 ?k12) (.mk ?a13 ?l13 ?c13 ?k13) (.mk ?a14 ?l14 ?c14 ?k14) (.mk ?a15 ?l15 ?c15 ?k15) (.mk ?a16 ?l16 ?c16 ?k16) (.mk ?a17 ?l17 ?c17 ?k17) (.mk ?a18 ?l18 ?c18 ?k18) (.mk ?a19 ?l19 ?c19 ?k19) (.mk ?a20 ?l20 ?c20 ?k20) (.mk ?a21 ?l21 ?c21 ?k21) (.mk ?a22 ?l22 ?c22 ?k22) (.mk ?a23 ?l23 ?c23 ?k23) (.mk ?a24 ?l24 ?c24 ?k24) (.mk ?a25 ?l25 ?c25 ?k25) (.mk ?a26 ?l26 ?c26 ?k26) (.mk ?a27 ?l27 ?c27 ?k27) (.mk ?a28 ?l28 ?c28 ?k28) (.mk ?a29 ?l29 ?c29 ?k29) (.mk ?a30 ?l30 ?c30 ?k30) (.mk ?a31 ?l31 ?c31 ?k31) (.mk ?a32 ?l32 ?c32 ?k32) (.mk ?a33 ?l33 ?c33 ?k33) (.mk ?a34 ?l34 ?c34 ?k34) (.mk ?a35 ?l35 ?c35 ?k35) (.mk ?a36 ?l36 ?c36 ?k36) (.mk ?a37 ?l37 ?c37 ?k37) (.mk ?a38 ?l38 ?c38 ?k38) (.mk ?a39 ?l39 ?c39 ?k39) (.mk ?a40 ?l40 ?c40 ?k40) (.mk ?a41 ?l41 ?c41 ?k41) (.mk ?a42 ?l42 ?c42 ?k42) (.mk ?a43 ?l43 ?c43 ?k43) (.mk ?a44 ?l44 ?c44 ?k44) (.mk ?a45 ?l45 ?c45 ?k45) (.mk ?a46 ?l46 ?c46 ?k46) (.mk ?a47 ?l47 ?c47 ?k47) (.mk ?a48 ?l48 ?c48 ?k48) (.mk ?a49 ?l49 ?c49 ?k49) (.mk ?a50 ?l50 ?c50 ?k50) (.mk ?a51 ?l51 ?c51 ?k51) (.mk ?a52 ?l52 ?c52 ?k52) (.mk ?a53 ?l53 ?c53 ?k53) (.mk ?a54 ?l54 ?c54 ?k54) (.mk ?a55 ?l55 ?c55 ?k55) (.mk ?a56 ?l56 ?c56 ?k56) (.mk ?a57 ?l57 ?c57 ?k57) (.mk ?a58 ?l58 ?c58 ?k58) (.mk ?a59 ?l59 ?c59 ?k59) (.mk ?a60 ?l60 ?c60 ?k60) (.mk ?a61 ?l61 ?c61 ?k61) (.mk ?a62 ?l62 ?c62 ?k62) (.mk ?a63 ?l63 ?c63 ?k63) (.mk ?a64 ?l64 ?c64 ?k64) (.mk ?a65 ?l65 ?c65 ?k65) (.mk ?a66 ?l66 ?c66 ?k66) (.mk ?a67 ?l67 ?c67 ?k67) (.mk ?a68 ?l68 ?c68 ?k68) (.mk ?a69 ?l69 ?c69 ?k69) (.mk ?a70 ?l70 ?c70 ?k70) (.mk ?a71 ?l71 ?c71 ?k71) (.mk ?a72 ?l72 ?c72 ?k72) (.mk ?a73 ?l73 ?c73 ?k73) (.mk ?a74 ?l74 ?c74 ?k74) (.mk ?a75 ?l75 ?c75 ?k75) (.mk ?a76 ?l76 ?c76 ?k76) (.mk ?a77 ?l77 ?c77 ?k77) ?aL ?lL ?cL ?kL ?z0 ?z1 ?z2 ?z3 ?z4 ?z5 ?z6 ?z7 ?z8 ?z9 ?n_NoCurve ?n_NoTime ?n_NOUGHT ?n_gl_NOUGHT_6 ?x_NoCurve ?x_NoTime ?ht_piece_at ?hp_piece_at ?ht_reached ?hp_reached ?ht_passed ?hp_passed ?ht_from_nought ?hp_from_nought ?ht_side_by_side ?hp_side_by_side ?ht_lowered ?hp_lowered
  case a0|l0|c0|k0|a1|l1|c1|k1|a2|l2|c2|k2|a3|l3|c3|k3|a4|l4|c4|k4|a5|l5|c5|k5|a6|l6|c6|k6|a7|l7|c7|k7|a8|l8|c8|k8|a9|l9|c9|k9|a10|l10|c10|k10|a11|l11|c11|k11|a12|l12|c12|k12|a13|l13|c13|k13|a14|l14|c14|k14|a15|l15|c15|k15|a16|l16|c16|k16|a17|l17|c17|k17|a18|l18|c18|k18|a19|l19|c19|k19|a20|l20|c20|k20|a21|l21|c21|k21|a22|l22|c22|k22|a23|l23|c23|k23|a24|l24|c24|k24|a25|l25|c25|k25|a26|l26|c26|k26|a27|l27|c27|k27|a28|l28|c28|k28|a29|l29|c29|k29|a30|l30|c30|k30|a31|l31|c31|k31|a32|l32|c32|k32|a33|l33|c33|k33|a34|l34|c34|k34|a35|l35|c35|k35|a36|l36|c36|k36|a37|l37|c37|k37|a38|l38|c38|k38|a39|l39|c39|k39|a40|l40|c40|k40|a41|l41|c41|k41|a42|l42|c42|k42|a43|l43|c43|k43|a44|l44|c44|k44|a45|l45|c45|k45|a46|l46|c46|k46|a47|l47|c47|k47|a48|l48|c48|k48|a49|l49|c49|k49|a50|l50|c50|k50|a51|l51|c51|k51|a52|l52|c52|k52|a53|l53|c53|k53|a54|l54|c54|k54|a55|l55|c55|k55|a56|l56|c56|k56|a57|l57|c57|k57|a58|l58|c58|k58|a59|l59|c59|k59|a60|l60|c60|k60|a61|l61|c61|k61|a62|l62|c62|k62|a63|l63|c63|k63|a64|l64|c64|k64|a65|l65|c65|k65|a66|l66|c66|k66|a67|l67|c67|k67|a68|l68|c68|k68|a69|l69|c69|k69|a70|l70|c70|k70|a71|l71|c71|k71|a72|l72|c72|k72|a73|l73|c73|k73|a74|l74|c74|k74|a75|l75|c75|k75|a76|l76|c76|k76|a77|l77|c77|k77|aL|lL|cL|kL|z0|z1|z2|z3|z4|z5|z6|z7|z8|z9|n_NoCurve|n_NoTime|n_NOUGHT|n_gl_NOUGHT_6=>(show _=_;k_is)
  case x_NoCurve|x_NoTime|ht_piece_at|hp_piece_at|ht_reached|hp_reached|ht_passed|hp_passed|ht_from_nought|hp_from_nought|ht_side_by_side|hp_side_by_side|ht_lowered|hp_lowered=>kernel_rfl
end
local macro_rules|`(#[$xs,*])=>`(⟨$xs,*⟩)
namespace L2
open PySem PySem.Spec PyProof.Rows
abbrev Key:=Sum Int Str
def Wj:Key->Value->Bool
 |.inl k,v=>Value.isInt k v
 |.inr x,v=>Value.isStrOf x v
def Zm (w:World):Key->Int
 |.inl k=>hashInt k
 |.inr x=>hashStr w x
theorem Bs:∀{k:Key}{v:Value},Wj k v=true->(∃i t,k=Sum.inl i/\v=Value.int i t)\/(∃x t,k=Sum.inr x/\v=Value.str x t)
 |.inl i,v,h=>by
  obtain⟨t,e⟩:=Value.isInt_shape (k:=i) (v:=v) h
  exact .inl #[i,t,rfl,e]
 |.inr x,v,h=>by
  obtain⟨t,e⟩:=Value.isStrOf_shape (x:=x) (v:=v) h
  exact .inr #[x,t,rfl,e]
theorem Wb (a b:Int):decide ((Sum.inl a:Key)=Sum.inl b)=(a==b):=by
 by_cases e:a=b
 .subst e;simp
 .have h:¬(Sum.inl a:Key)=Sum.inl b:=fun q=>e (Sum.inl.inj q)
  rw[decide_eq_false h]
  exact(beq_eq_false_iff_ne.mpr e).symm
theorem WA (a b:Str):decide ((Sum.inr a:Key)=Sum.inr b)=decide (a=b):=by
 by_cases e:a=b
 .subst e;simp
 .have h:¬(Sum.inr a:Key)=Sum.inr b:=fun q=>e (Sum.inr.inj q)
  rw[decide_eq_false h,decide_eq_false e]
theorem Wg (a:Int)(b:Str):decide ((Sum.inl a:Key)=Sum.inr b)=false:=decide_eq_false (fun q=>nomatch q)
theorem Wu (a:Str)(b:Int):decide ((Sum.inr a:Key)=Sum.inl b)=false:=decide_eq_false (fun q=>nomatch q)
def MI (prog:Program)(w:World):PySem.KeyKind prog w Key where
 is:=Wj
 hash:=Zm w
 inj:=fun v a b ha hb=>by
  rcases Bs ha with⟨i,t,rfl,rfl⟩|⟨x,t,rfl,rfl⟩
  .rcases Bs hb with⟨j,u,rfl,e⟩|⟨y,u,rfl,e⟩
   .injection e with e1 _;rw[e1]
   .exact nomatch e
  .rcases Bs hb with⟨j,u,rfl,e⟩|⟨y,u,rfl,e⟩
   .exact nomatch e
   .injection e with e1 _;rw[e1]
 byValue:=fun k v h=>by
  rcases Bs h with⟨i,t,rfl,rfl⟩|⟨x,t,rfl,rfl⟩<;>rfl
 pyHash:=fun hv h=>by
  rcases Bs hv with⟨i,t,rfl,rfl⟩|⟨x,t,rfl,rfl⟩
  .exact wpAny_pyHash_int h
  .exact wpAny_pyHash_str h
 eqBool:=fun hu hv h=>by
  rcases Bs hu with⟨i,t,rfl,rfl⟩|⟨x,t,rfl,rfl⟩
  .rcases Bs hv with⟨j,u,rfl,rfl⟩|⟨y,u,rfl,rfl⟩
   .rw[Wb] at h;exact wpAny_eqBool_int h
   .rw[Wg] at h;exact SeqAt.EqAt.int_str i t y u _ _ _ _ h
  .rcases Bs hv with⟨j,u,rfl,rfl⟩|⟨y,u,rfl,rfl⟩
   .rw[Wu] at h;exact SeqAt.EqAt.str_int x t j u _ _ _ _ h
   .rw[WA] at h;exact wpAny_eqBool_str h
 «strs»:=fun k x t v h=>by
  rcases Bs h with⟨i,u,rfl,e⟩|⟨y,u,rfl,e⟩
  .exact nomatch e
  .injection e with e1 _
   subst e1
   cases v<;>rfl
inductive V where
 |non|bl (b:Bool)|int (i:Int)|str (x:Str)|byt (b:Array UInt8)|flt (b:UInt64)|ref (a:Addr)|ty (n:String)
 deriving DecidableEq
def CK:V->Value->Prop
 |.non,u=>u=Value.none
 |.bl b,u=>u=Value.bool b
 |.int i,u=>∃t,u=Value.int i t
 |.str x,u=>∃t,u=Value.str x t
 |.byt b,u=>∃t,u=Value.bytes b t
 |.flt b,u=>∃t,u=Value.float b t
 |.ref a,u=>u=Value.ref a
 |.ty n,u=>u=Value.type n
abbrev B8:List V->List Value->Prop:=Paired CK
theorem B8.length {xs:List V}{us:List Value}(r:B8 xs us):xs.length=us.length:=Paired.length r
theorem B8.get:∀{xs:List V}{us:List Value}{i:Nat}{x:V},B8 xs us->xs[i]? = some x->∃u,us[i]? = some u/\CK x u
 |_,_,_,_,.nil,e=>by simp at e
 |_,_,0,_,.cons r _,e=>by simp at e;subst e;exact#[_,rfl,r]
 |_,_,i+1,x,.cons _ t,e=>by
  obtain⟨u,h1,h2⟩:=B8.get (i:=i) (x:=x) t (by simpa using e)
  exact#[u,by simpa using h1,h2]
theorem B8.append:∀{xs ys:List V}{us ws:List Value},B8 xs us->B8 ys ws->B8 (xs++ys) (us++ws)
 |_,_,_,_,.nil,s=>s
 |_,_,_,_,.cons r t,s=>.cons r (B8.append t s)
theorem B8.take:∀{xs:List V}{us:List Value}(n:Nat),B8 xs us->B8 (xs.take n) (us.take n)
 |_,_,0,_=>.nil
 |_,_,_+1,.nil=>.nil
 |_,_,n+1,.cons r t=>.cons r (B8.take n t)
theorem B8.drop:∀{xs:List V}{us:List Value}(n:Nat),B8 xs us->B8 (xs.drop n) (us.drop n)
 |_,_,0,r=>r
 |_,_,_+1,.nil=>.nil
 |_,_,n+1,.cons _ t=>B8.drop n t
def XO:Option V->Option Value->Prop
 |some v,some u=>CK v u
 |none,none=>True
 |_,_=>False
def KV {κ:Type}:List (κ×V)->List (κ×Value)->Prop:=Paired fun(p:κ×V)(q:κ×Value)=>p.1=q.1/\CK p.2 q.2
def kV:Key->V
 |.inl i=>.int i
 |.inr x=>.str x
inductive HO where
 |lst (xs:List V)
 |tup (xs:List V)
 |dK (kvs:List (Key×V))|dT (kvs:List (List Key×V))
 |set (S:Int->Bool) (n:Nat)
 |ins (C dx:Addr) (fs:List (Str×V))
 |own (x:Addr)
 |xd (fs:List (Str×V))
 |met (f x:Addr)
 |rng (lo hi:Int)
 |frz (o:Obj) (u:HO)
 |tbl (ps:Array Value)
 |ext (φ:Heap->Prop)
abbrev Hp:=Addr->Option HO
def upd (H:Hp)(a:Addr)(o:HO):Hp:=fun b=>if b=a then some o else H b
theorem Ap {H:Hp}{a:Addr}{o:HO}:upd H a o a=some o:=by unfold upd;rw[if_pos rfl]
theorem Ag {H:Hp}{a b:Addr}{o:HO}(h:b≠a):upd H a o b=H b:=by unfold upd;rw[if_neg h]
theorem Ao {H:Hp}{a b:Addr}{o:HO}(h:H a=some o) (h':H b=none):a≠b:=by
 intro e;subst e;rw[h] at h';cases h'
def ME (H:Hp)(h:Heap)(a:Addr):Prop:=∃tab:Array Value,h.get? a=some { cls:=.none,data:=.fields tab }/\TriplesOk tab.toList /\
 ∀(pos:Pos)(cv:Value),codeAmong pos tab.toList=some cv->∃(c:Addr)(oc:Obj)(fs:Array Value)(nm:Str)(t:Nat),cv=.ref c/\H c=some (.frz oc (.own a))/\oc.data=.fields fs/\fs[1]? = some (.str nm t)
theorem ME.stay {H H':Hp}{h h':Heap}{a:Addr}(x:ME H h a) (k:∀o,h.get? a=some o->h'.get? a=some o) (hf:∀b o u,H b=some (.frz o u)->H' b=some (.frz o u)):ME H' h' a:=by
 obtain⟨tab,e,tr,q⟩:=x
 refine#[tab,k _ e,tr,fun pos cv z=>?_]
 obtain⟨c,oc,fs,nm,t,z1,z2,z3⟩:=q pos cv z
 exact#[c,oc,fs,nm,t,z1,hf _ _ _ z2,z3]
section
variable (P:Program) (w:World)
def Dt (H:Hp)(h:Heap)(a:Addr):HO->Prop
 |.lst xs=>xs.length<=sizeLine/\∃(its:List Value)(n:Nat),B8 xs its/\h.get? a=some { cls:=.type "list",data:=.seq its.toArray n }
 |.tup xs=>xs.length<=sizeLine/\∃its:List Value,B8 xs its/\IsTup h a its.toArray
 |.dK kvs=>kvs.length<=sizeLine/\(a==sysModules)=false/\∃vs,KV kvs vs/\h.DictOf (MI P w) a vs
 |.dT kvs=>kvs.length<=sizeLine/\(a==sysModules)=false/\∃xs:List (List Key×Addr×Value),
  Paired (fun(p:List Key×V)(q:List Key×Addr×Value)=>p.1=q.1/\H q.2.1=some (.tup (p.1.map kV))/\CK p.2 q.2.2) kvs xs /\
  ∃o es ep,h.get? a=some o/\o.ExactDict/\o.data=.dict es ep/\es.toList=xs.map (entryOfKey (tupleKind (MI P w)))/\(xs.map (·.1)).Nodup
 |.set S n=>h.SetOf (intKind P w) a S n
 |.ins C dx fs=>H dx=some (.own a)/\fs.length<=1000/\dx≠a/\h.get? a=some (W.instObj C dx) /\
  ∃mA,h.Ns1 dx mA/\(∀f,XO (fs.lookup f) (mA f))/\PySem.Within mA (fs.map (·.1))
 |.own _=>∃o,h.get? a=some o
 |.xd fs=>∃mA,h.Ns1 a mA/\∀f,XO (fs.lookup f) (mA f)
 |.rng lo hi=>∃t u v,h.get? a=some { cls:=.type "range",data:=.fields (List.toArray [.int lo t,.int hi u,.int 1 v]) }
 |.frz o u=>h.get? a=some o/\Dt H h a u
 |.tbl _=>ME H h a
 |.met f x=>h.get? a=some (W.methodObj (.ref f) (.ref x))
 |.ext φ=>φ h/\(∃o,h.get? a=some o)/\∀h1 h2:Heap,φ h1->(∀o,h1.get? a=some o->h2.get? a=some o)->φ h2
def HOk (H:Hp)(h:Heap):Prop:=∀a o,H a=some o->Dt P w H h a o
end
section
variable {P:Program}{w:World}{H H':Hp}{h h':Heap}{a:Addr}{o:HO}
theorem Dt.lt (x:Dt P w H h a o):a<h.objs.size:=by
 cases o with
 |lst xs=>obtain⟨_,_,_,_,e⟩:=x;exact qAj e
 |tup xs=>obtain⟨_,_,_,p⟩:=x;exact p.lt
 |dK kvs=>obtain⟨_,_,_,_,o,_,_,e,_⟩:=x;exact qAj e
 |dT kvs=>obtain⟨_,_,_,_,o,_,_,e,_⟩:=x;exact qAj e
 |set S n=>obtain⟨o,_,_,_,e,_⟩:=x;exact qAj e
 |ins C dx fs=>obtain⟨_,_,_,e,_⟩:=x;exact qAj e
 |own y=>obtain⟨_,e⟩:=x;exact qAj e
 |xd fs=>obtain⟨_,⟨_,_,_,e,_⟩,_⟩:=x;exact qAj e
 |rng lo hi=>obtain⟨_,_,_,e⟩:=x;exact qAj e
 |frz ob u=>obtain⟨e,_⟩:=x;exact qAj e
 |tbl ps=>obtain⟨_,e,_⟩:=x;exact qAj e
 |met f y=>exact qAj (show h.get? a=some _ from x)
 |ext φ=>obtain⟨_,⟨_,e⟩,_⟩:=x;exact qAj e
theorem Paired.mapP {α β:Type}{F G:α->β->Prop}:∀{l₁:List α}{l₂:List β},Paired F l₁ l₂->(∀a b,F a b->G a b)->Paired G l₁ l₂
 |_,_,.nil,_=>.nil
 |_,_,.cons r t,f=>.cons (f _ _ r) (Paired.mapP t f)
theorem Dt.stay (x:Dt P w H h a o)(k:∀b u,(b=a\/H b=some (.own a))->h.get? b=some u->h'.get? b=some u)
 (ho:∀b,H b=some (.own a)->H' b=some (.own a))(ht:∀b xs,H b=some (.tup xs)->H' b=some (.tup xs))(hf:∀b o u,H b=some (.frz o u)->H' b=some (.frz o u):=by intro _ _ _ q;exact q):Dt P w H' h' a o:=by
 induction o with
 |lst xs=>obtain⟨z,its,n,r,e⟩:=x;exact#[z,its,n,r,k _ _ (.inl rfl) e]
 |tup xs=>obtain⟨z,its,r,ob,e,c⟩:=x;exact#[z,its,r,ob,k _ _ (.inl rfl) e,c]
 |dK kvs=>obtain⟨z,y,vs,r,ob,es,ep,e,c⟩:=x;exact#[z,y,vs,r,ob,es,ep,k _ _ (.inl rfl) e,c]
 |dT kvs =>
  obtain⟨z,y,xs,r,ob,es,ep,e,c⟩:=x
  exact#[z,y,xs,Paired.mapP r fun p q z=>#[z.1,ht _ _ z.2.1,z.2.2],ob,es,ep,k _ _ (.inl rfl) e,c]
 |set S n=>obtain⟨ob,es,ep,t,e,c⟩:=x;exact#[ob,es,ep,t,k _ _ (.inl rfl) e,c]
 |ins C dx fs =>
  obtain⟨d,z,ne,e,mA,⟨od,es,ep,e2,c⟩,r⟩:=x
  exact#[ho _ d,z,ne,k _ _ (.inl rfl) e,mA,#[od,es,ep,k _ _ (.inr d) e2,c],r]
 |own y=>obtain⟨ob,e⟩:=x;exact#[ob,k _ _ (.inl rfl) e]
 |xd fs=>obtain⟨mA,⟨od,es,ep,e,c⟩,r⟩:=x;exact#[mA,#[od,es,ep,k _ _ (.inl rfl) e,c],r]
 |rng lo hi=>obtain⟨t,u,v,e⟩:=x;exact#[t,u,v,k _ _ (.inl rfl) e]
 |frz ob u ih=>obtain⟨e,q⟩:=x;exact#[k _ _ (.inl rfl) e,ih q]
 |tbl ps=>exact ME.stay x (fun u q=>k _ _ (.inl rfl) q) hf
 |met f y =>
  have e:h.get? a=some (W.methodObj (.ref f) (.ref y)):=x
  show h'.get? a=some (W.methodObj (.ref f) (.ref y))
  exact k a _ (.inl rfl) e
 |ext φ=>obtain⟨p,⟨o,e⟩,st⟩:=x;exact#[st _ _ p fun o q=>k _ _ (.inl rfl) q,#[o,k _ _ (.inl rfl) e],st]
theorem HOk.lt (x:HOk P w H h)(e:H a=some o):a<h.objs.size:=(x a o e).lt
theorem HOk.fresh (x:HOk P w H h)(e:h.objs.size<=a):H a=none:=by
 cases q:H a with
 |none=>rfl
 |some u=>exact absurd (qAv (x.lt q) e) (qAZ _)
theorem HOk.kept (x:HOk P w H h)(k:∀b u,h.get? b=some u->h'.get? b=some u):HOk P w H h':=fun a o e =>
 (x a o e).stay (fun b u _ q=>k b u q) (fun _ q=>q) fun _ _ q=>q
theorem HOk.laid (x:HOk P w H h)(k:∀b u,h.get? b=some u->h'.get? b=some u)(hp:h.objs.size<=a)(new:Dt P w (upd H a o) h' a o):HOk P w (upd H a o) h':=fun b u e=>by
 have hn:=x.fresh hp
 by_cases hb:b=a
 .subst hb;rw[Ap] at e;cases e;exact new
 .rw[Ag hb] at e
  exact(x b u e).stay (hf:=fun c w1 w2 q=>by rw[Ag (Ao q hn)];exact q) (fun c v _ q=>k c v q) (fun c q=>by rw[Ag (Ao q hn)];exact q) fun c xs q=>by rw[Ag (Ao q hn)];exact q
end
def Rd (H:Hp)(a:Addr)(u:HO):Prop:=H a=some u\/∃o,H a=some (.frz o u)
theorem Rd.ok {P:Program}{w:World}{H:Hp}{h:Heap}{a:Addr}{u:HO}(r:Rd H a u) (x:HOk P w H h):Dt P w H h a u:=by
 rcases r with r|⟨o,r⟩
 .exact x a u r
 .obtain⟨_,q⟩:=x a _ r
  exact q
def Mut:Option HO->Prop
 |some (.lst _)=>True
 |some (.dK _)=>True
 |some (.dT _)=>True
 |some (.set _ _)=>True
 |some (.ins _ _ _)=>True
 |some (.ext _)=>True
 |_=>False
section
variable {P:Program}{w:World}{H:Hp}{h h':Heap}{x e:Addr}{o':HO}
theorem HOk.write (ok:HOk P w H h)(mu:Mut (H x))(he:e=x\/H e=some (.own x))(k:∀b u,b≠e->h.get? b=some u->h'.get? b=some u)(heo:∃u,h'.get? e=some u)
 (new:Dt P w (upd H x o') h' x o'):HOk P w (upd H x o') h':=fun b u q=>by
 have nown:∀c y,H c=some (.own y)->c≠x:=fun c y r z=>by subst z;rw[r] at mu;exact mu
 have ntup:∀c xs,H c=some (.tup xs)->c≠x:=fun c xs r z=>by subst z;rw[r] at mu;exact mu
 by_cases hb:b=x
 .subst hb;rw[Ap] at q;cases q;exact new
 .rw[Ag hb] at q
  by_cases hbe:b=e
  .have q':H b=some (.own x):=by
    rcases he with z|z
    .exact absurd (hbe.trans z) hb
    .rw[hbe];exact z
   rw[q] at q';cases q'
   obtain⟨v,hv⟩:=heo
   exact#[v,by rw[hbe];exact hv]
  .refine(ok b u q).stay (hf:=fun c w1 w2 r=>by rw[Ag (fun z=>by subst z;rw[r] at mu;exact mu)];exact r) (fun c v hc r=>k c v ?_ r) (fun c r=>by rw[Ag (nown c b r)];exact r) fun c xs r=>by rw[Ag (ntup c xs r)];exact r
   rcases hc with rfl|hc
   .exact hbe
   .rintro rfl
    rcases he with z|z
    .exact nown c b hc z
    .rw[hc] at z;cases z;exact hb rfl
end
structure Un (fs ex:List Addr)(H H':Hp)(h h':Heap):Prop where
 keep:∀b o,h.get? b=some o->H b=none->b∉fs->b∉ex->h'.get? b=some o
 slot:∀b o,h.get? b=some o->H b=none->b∈fs->b∉ex->∃sl,h'.get? b=some { o with slots:=sl }
 free:∀b o,h.get? b=some o->H b=none->b∉ex->H' b=none
 there:∀b o,h.get? b=some o->b∉ex->∃o',h'.get? b=some o'
 tups:∀b xs,H b=some (.tup xs)->H' b=some (.tup xs)
 frzs:∀b o u,H b=some (.frz o u)->H' b=some (.frz o u)
 tbls:∀b ps,H b=some (.tbl ps)->∃more,H' b=some (.tbl (ps++more))
section
variable {fs fs' ex ex':List Addr}{H H1 H2:Hp}{h h1 h2 h':Heap}{a x e:Addr}{o:HO}
theorem Un.any (u:Un fs ex H H1 h h1){b:Addr}{ob:Obj}(q:h.get? b=some ob) (n:H b=none) (hx:b∉ex):∃sl,h1.get? b=some { ob with slots:=sl }:=by
 by_cases hb:b∈fs
 .exact u.slot b ob q n hb hx
 .exact#[ob.slots,u.keep b ob q n hb hx]
theorem Un.kept (k:∀b u,h.get? b=some u->h'.get? b=some u):Un fs ex H H h h' :=
 #[fun b ob q _ _ _=>k b ob q,fun b ob q _ _ _=>#[ob.slots,k b ob q],fun _ _ _ n _=>n,fun b ob q _=>#[ob,k b ob q],fun _ _ q=>q,fun _ _ _ q=>q,fun _ ps q=>#[(List.toArray []),by rw[q];simp]]
theorem Un.refl:Un fs ex H H h h:=Un.kept fun _ _ q=>q
theorem Un.laid (k:∀b u,h.get? b=some u->h'.get? b=some u)(hp:h.objs.size<=a)(hn:H a=none):Un fs ex H (upd H a o) h h' where
 keep:=fun b u q _ _ _=>k b u q
 slot:=fun b u q _ _ _=>#[u.slots,k b u q]
 free:=fun b u q n _=>by rw[Ag (qAx (qAv (qAj q) hp))];exact n
 there:=fun b u q _=>#[u,k b u q]
 tups:=fun b xs q=>by rw[Ag (Ao q hn)];exact q
 frzs:=fun b u xs q=>by rw[Ag (Ao q hn)];exact q
 tbls:=fun b ps q=>#[(List.toArray []),by rw[Ag (Ao q hn),q];simp]
theorem Un.write (mu:Mut (H x))(he:e=x\/H e=some (.own x))(k:∀b u,b≠e->h.get? b=some u->h'.get? b=some u)(heo:∃u,h'.get? e=some u):Un fs ex H (upd H x o) h h':=by
 have hx:∀b,H b=none->b≠x:=fun b n z=>by subst z;rw[n] at mu;exact mu
 have hb:∀b,H b=none->b≠e:=fun b n z=>by
  subst z
  rcases he with r|r
  .exact hx b n r
  .rw[n] at r;cases r
 have hm:∀b u,H b=some u->¬Mut (some u)->b≠x:=fun b u q nm z=>by subst z;rw[q] at mu;exact nm mu
 refine#[fun b u q n _ _=>k b u (hb b n) q,fun b u q n _ _=>#[u.slots,k b u (hb b n) q],fun b u q n _=>by rw[Ag (hx b n)];exact n,fun b u q _=>?_,
  fun b xs q=>by rw[Ag (hm b _ q fun z=>z)];exact q,fun b u xs q=>by rw[Ag (hm b _ q fun z=>z)];exact q,fun b ps q=>#[(List.toArray []),by rw[Ag (hm b _ q fun z=>z),q];simp]]
 by_cases hbe:b=e
 .subst hbe;exact heo
 .exact#[u,k b u hbe q]
end
def trk (h:Heap)(H:Hp):List Addr:=(List.range h.objs.size).filter fun a=>(H a).isSome
def Q4 (h:Heap)(H:Hp):Heap:=W.hideAll h (trk h H)
theorem PJ (h:Heap)(H:Hp):(Q4 h H).objs.size=h.objs.size:=W.hideAll_size _ _
theorem Rq {h:Heap}{H:Hp}{b:Addr}{o:Obj}(e:h.get? b=some o) (n:H b=none):(Q4 h H).get? b=some o :=
 W.hideAll_get _ e fun hm=>by
  have q:(H b).isSome=true:=(qA0.mp hm).2
  rw[n] at q;simp at q
theorem UC {h:Heap}{H:Hp}{b:Addr}{o:Obj}(e:(Q4 h H).get? b=some o):h.get? b=some o/\H b=none:=by
 have e':h.get? b=some o:=W.of_hideAll (trk h H) e
 refine#[e',?_]
 cases q:H b with
 |none=>rfl
 |some x =>
  have hm:b∈trk h H:=qA0.mpr #[qAJ.mpr (qAj e'),by simp[q]]
  have z:(Q4 h H).get? b=none:=W.hideAll_none (trk h H) hm
  rw[z] at e;cases e
structure Mod (K:W.Frag)(mg:Str->Option Value)(base:Heap):Prop where
 kin:K.In base
 glob:base.Ns mainGlobals mg
 blt:∃mb,base.Ns builtinsNs mb/\∀x:Str,x≠"__name__"->mb x=bootBuiltins x
 nolimit:base.NoLimit
structure Cx where
 prog:Program
 w:World
 K:W.Frag
 mg:Str->Option Value
 base:Heap
 A:Around
 N:List Str
 s₀:Shared
 H₀:Hp
 env:Env
 outer:List Env
 stack:List Env
 ex:List Addr
 fn:Str->Bool
 calm:Bool
 pn:List (Addr×Obj)
 xe:Value->Shared->Prop
 lent:Option (Nat×Addr):=none
def frs (l:List Env):List Addr:=l.filterMap (·.frame)
abbrev Cx.fs (X:Cx):List Addr:=frs X.outer
def Vis (sc:Scope)(x:Str):Prop:=sc.names.lookup x=some .local\/sc.names.lookup x=some .cell\/sc.names.lookup x=some .free
def Loc (sc:Scope)(x:Str):Prop:=sc.names.lookup x=some .local\/sc.names.lookup x=some .cell
def Zu (env:Env)(h:Heap)(m:Str->Option Value)(x:Str)(u:Value):Prop :=
 (env.kindOf x=some .local/\m x=some u)\/((env.kindOf x=some .cell\/env.kindOf x=some .free)/\∃c,env.cells.lookup x=some c/\h.IsCell c (some u))
structure TB (P:Program)(K:W.Frag)(mg:Str->Option Value)(base:Heap)(H:Hp):Prop where
 bm:∃(b:Addr)(o:Obj),mg "__builtins__"=some (.ref b)/\b≠builtinsNs/\base.get? b=some o/\o.cls=.type "module"/\o.dict=some builtinsNs/\o.data=.plain
 tab:∀(x:Str)(c T:Addr),W.tabIn K x=some (c,T)->(recsOf P).any (fun d=>d.name==x)=true->W.CodeHd base c T/\∃ps,H T=some (.tbl ps)
structure Cx.Ok (X:Cx):Prop where
 mod:Mod X.K X.mg X.base
 kind:X.env.scope.kind=.function
 glob:X.env.globals=mainGlobals
 blt:X.env.builtins=builtinsNs
 above:X.s₀.heap.objs.size<=X.env.locals
 inj:∀x y c,X.env.cells.lookup x=some c->X.env.cells.lookup y=some c->x=y
 has:∀x,(X.env.kindOf x=some .cell\/X.env.kindOf x=some .free)->∃c,X.env.cells.lookup x=some c
 cab:∀x c,X.fn x=true->X.env.cells.lookup x=some c->X.s₀.heap.objs.size<=c
 hd:X.calm=true->X.A.handled=none
 frames:X.A.frames=some X.stack
 stk:X.stack=X.outer\/(X.stack=X.env::X.outer/\X.env.frame=some X.env.locals)
 exf:∀b∈X.ex,b≠X.env.locals/\∀x c,X.env.cells.lookup x=some c->c≠b
 bs:∀b o,X.base.get? b=some o->X.s₀.heap.get? b=some o/\X.H₀ b=none
 bsz:X.base.objs.size<=X.s₀.heap.objs.size
 noex:∀b o,X.base.get? b=some o->b∉X.ex
 exfs:∀b∈X.ex,b∉X.fs
 funs:X.s₀.heap.FunFrames X.base X.outer
 frf:∀b∈X.fs,X.H₀ b=none
 tb:TB X.prog X.K X.mg X.base X.H₀
structure Inv (X:Cx)(pins:List (Addr×Obj))(σ:List (Option V))(H:Hp)(s:Shared):Prop where
 ok:X.Ok
 os:s.os=X.s₀.os
 bare:AllBare s.gens
 base:Un X.fs X.ex X.H₀ H X.s₀.heap s.heap
 loc:∃m,s.heap.Ns X.env.locals m/\∀(i:Nat)(x:Str)(v:V),X.N[i]? = some x->σ[i]? = some (some v)->Vis X.env.scope x->∃u,CK v u/\Zu X.env s.heap m x u
 cell:∀x c,X.env.cells.lookup x=some c->∃v,s.heap.IsCell c v
 free:H X.env.locals=none
 freeC:∀x c,X.env.cells.lookup x=some c->H c=none
 pin:∀p∈X.pn++pins,s.heap.get? p.1=some p.2/\H p.1=none/\p.1≠X.env.locals/\p.1∉X.fs/\∀v,p.2.data≠.cell v
 hok:HOk X.prog X.w H s.heap
 len:σ.length=X.N.length
section
variable {X:Cx}{pins:List (Addr×Obj)}{σ:List (Option V)}{H H':Hp}{s:Shared}{h':Heap}
theorem Cx.Ok.nofr (ok:X.Ok){b:Addr}{o:Obj}(e:X.base.get? b=some o):b∉X.fs:=fun hb=>by
 have:=(ok.funs.mem hb).1
 rw[e] at this;cases this
theorem Inv.bs (I:Inv X pins σ H s):∀b o,X.base.get? b=some o->s.heap.get? b=some o/\H b=none:=fun b o e =>
 #[I.base.keep b o (I.ok.bs b o e).1 (I.ok.bs b o e).2 (I.ok.nofr e) (I.ok.noex b o e),I.base.free b o (I.ok.bs b o e).1 (I.ok.bs b o e).2 (I.ok.noex b o e)]
theorem Inv.bk (I:Inv X pins σ H s):∀b o,X.base.get? b=some o->s.heap.get? b=some o:=fun b o e=>(I.bs b o e).1
theorem Inv.tb (I:Inv X pins σ H s):TB X.prog X.K X.mg X.base H:=#[I.ok.tb.bm,fun x c T h1 h2=>by
 obtain⟨z,ps,e⟩:=I.ok.tb.tab x c T h1 h2
 obtain⟨more,e'⟩:=I.base.tbls T ps e
 exact#[z,_,e']]
theorem Inv.mod (I:Inv X pins σ H s):Mod X.K X.mg X.base:=I.ok.mod
theorem Inv.kIn (I:Inv X pins σ H s):X.K.In s.heap:=I.ok.mod.kin.keeps I.bk
theorem Inv.lt (I:Inv X pins σ H s):X.env.locals<s.heap.objs.size:=let #[_,hn,_]:=I.loc;hn.lt
theorem Inv.sz (I:Inv X pins σ H s):X.s₀.heap.objs.size<=s.heap.objs.size:=qAD I.ok.above (qBr I.lt)
theorem Inv.nofs (I:Inv X pins σ H s){a:Addr}(h:s.heap.objs.size<=a):a∉X.fs:=fun hb=>by
 obtain⟨_,o,ho,_⟩:=I.ok.funs.mem hb
 exact absurd (qAv (qAj ho) (qAD I.sz h)) (qAZ _)
theorem Inv.cne (I:Inv X pins σ H s):∀x c,X.env.cells.lookup x=some c->c≠X.env.locals:=fun x c e z=>by
 obtain⟨v,o,ho,hd⟩:=I.cell x c e
 obtain⟨m,⟨o',es,ep,ho',hd',_⟩,_⟩:=I.loc
 rw[z,ho'] at ho;cases ho;rw[hd'] at hd;cases hd
theorem Inv.funs (I:Inv X pins σ H s):s.heap.FunFrames X.base X.outer:=by
 have all:∀(l:List Env),(∀b∈frs l,b∈X.fs)->X.s₀.heap.FunFrames X.base l->s.heap.FunFrames X.base l:=by
  intro l
  induction l with
  |nil=>intro _ _;trivial
  |cons env r ih =>
   intro hs hl
   obtain⟨hk,⟨L,o,hf,hn,ho,hd⟩,hr⟩:=hl
   have hL:L∈X.fs:=hs L (by unfold frs;rw[qBh,hf];exact qA5)
   obtain⟨sl,e⟩:=I.base.slot L o ho (I.ok.frf L hL) hL fun z=>I.ok.exfs L z hL
   exact#[hk,#[L,_,hf,hn,e,hd],ih (fun b hb=>hs b (by unfold frs;rw[qBh,hf];exact qAP _ hb)) hr]
 exact all X.outer (fun _ hb=>hb) I.ok.funs
theorem Inv.stack (I:Inv X pins σ H s):s.heap.FunFrames X.base X.stack:=by
 rcases I.ok.stk with e|⟨e,hf⟩
 .rw[e];exact I.funs
 .rw[e]
  obtain⟨m,hn,_⟩:=I.loc
  refine .cons (by rw[I.ok.kind];decide) hf hn ?_ I.funs
  exact Heap.get?_none_of_le (qAD I.ok.bsz I.ok.above)
theorem Inv.stkSub (I:Inv X pins σ H s):∀b∈frs X.stack,b∈X.env.locals::X.fs:=fun b hb=>by
 rcases I.ok.stk with e|⟨e,hf⟩
 .rw[e] at hb;exact qAP _ hb
 .rw[e] at hb
  unfold frs at hb
  rw[qBh,hf] at hb
  exact hb
theorem Inv.stkFree (I:Inv X pins σ H s):∀b∈frs X.stack,H b=none:=fun b hb=>by
 rcases qAl.mp (I.stkSub b hb) with e|hb
 .rw[e];exact I.free
 .obtain⟨_,o,ho,_⟩:=I.ok.funs.mem hb
  exact I.base.free b o ho (I.ok.frf b hb) fun z=>I.ok.exfs b z hb
theorem Inv.step {g':Array GenState}{t':Nat}{d':Drawn}{ch:List Addr}(I:Inv X pins σ H s)
 (hch:∀b∈ch,(b∈X.ex\/X.s₀.heap.objs.size<=b)/\b≠X.env.locals/\(∀x c,X.env.cells.lookup x=some c->c≠b)/\∀p∈X.pn++pins,p.1≠b)
 (keep:∀b o,b≠X.env.locals->b∉X.fs->b∉ch->s.heap.get? b=some o->H b=none->h'.get? b=some o)
 (slot:∀b o,b≠X.env.locals->b∈X.fs->b∉ch->s.heap.get? b=some o->H b=none->∃sl,h'.get? b=some { o with slots:=sl }) (free:∀b o,b∉ch->s.heap.get? b=some o->H b=none->H' b=none)
 (there:∀b o,b∉ch->s.heap.get? b=some o->∃o',h'.get? b=some o')
 (tups:∀b xs,H b=some (.tup xs)->H' b=some (.tup xs)) (frzs:∀b o u,H b=some (.frz o u)->H' b=some (.frz o u)) (tbls:∀b ps,H b=some (.tbl ps)->∃more,H' b=some (.tbl (ps++more)))
 (ns:∀m,s.heap.Ns X.env.locals m->h'.Ns X.env.locals m) (hok:HOk X.prog X.w H' h') (hg:AllBare g') :
 Inv X pins σ H' { s with heap:=h',gens:=g',drawn:=d',toks:=t' }:=by
 have neL:∀b o,X.s₀.heap.get? b=some o->b≠X.env.locals:=fun b o e=>qAx (qAv (qAj e) I.ok.above)
 have neC:∀b o,X.s₀.heap.get? b=some o->b∉X.ex->b∉ch:=fun b o e hx hb=>by
  rcases(hch b hb).1 with z|z
  .exact hx z
  .exact absurd (qAv (qAj e) z) (qAZ _)
 have cellK:∀x c,X.env.cells.lookup x=some c->∀v,s.heap.IsCell c v->h'.IsCell c v:=fun x c e v hh=>by
  obtain⟨o,ho,hd⟩:=hh
  have nch:c∉ch:=fun z=>(hch c z).2.2.1 x c e rfl
  by_cases hc:c∈X.fs
  .obtain⟨sl,q⟩:=slot c o (I.cne x c e) hc nch ho (I.freeC x c e)
   exact#[_,q,hd]
  .exact#[o,keep c o (I.cne x c e) hc nch ho (I.freeC x c e),hd]
 refine#[I.ok,I.os,hg,#[fun b o e n hb hx=>?_,fun b o e n hb hx=>?_,fun b o e n hx=>?_,fun b o e hx=>?_,fun b xs e=>tups b xs (I.base.tups b xs e),fun b o xs e=>frzs b o xs (I.base.frzs b o xs e),fun b ps e=>?_],?_,fun x c e=>?_,?_,fun x c e=>?_,fun p hp=>?_,hok,I.len]
 .exact keep b o (neL b o e) hb (neC b o e hx) (I.base.keep b o e n hb hx) (I.base.free b o e n hx)
 .obtain⟨sl,e1⟩:=I.base.slot b o e n hb hx
  obtain⟨sl',e2⟩:=slot b _ (neL b o e) hb (neC b o e hx) e1 (I.base.free b o e n hx)
  exact#[sl',e2]
 .obtain⟨o',e1⟩:=I.base.there b o e hx
  exact free b o' (neC b o e hx) e1 (I.base.free b o e n hx)
 .obtain⟨o',e1⟩:=I.base.there b o e hx
  exact there b o' (neC b o e hx) e1
 .obtain⟨m1,e1⟩:=I.base.tbls b ps e
  obtain⟨m2,e2⟩:=tbls b _ e1
  exact#[m1++m2,by rw[e2,Array.append_assoc]]
 .obtain⟨m,hn,hl⟩:=I.loc
  refine#[m,ns m hn,fun i x v e1 e2 e3=>?_]
  obtain⟨u,r,l⟩:=hl i x v e1 e2 e3
  refine#[u,r,?_]
  rcases l with l|⟨k,c,e,z⟩
  .exact .inl l
  .exact .inr #[k,c,e,cellK x c e _ z]
 .obtain⟨v,z⟩:=I.cell x c e
  exact#[v,cellK x c e v z]
 .obtain⟨m,⟨o,_,_,ho,_⟩,_⟩:=I.loc
  exact free _ o (fun z=>(hch _ z).2.1 rfl) ho I.free
 .obtain⟨v,o,ho,hd⟩:=I.cell x c e
  exact free c o (fun z=>(hch c z).2.2.1 x c e rfl) ho (I.freeC x c e)
 .obtain⟨e,n,ne,nf,d⟩:=I.pin p hp
  have nch:p.1∉ch:=fun z=>(hch p.1 z).2.2.2 p hp rfl
  exact#[keep p.1 p.2 ne nf nch e n,free p.1 p.2 nch e n,ne,nf,d]
theorem Inv.un {t':Nat}(I:Inv X pins σ H s) (u:Un X.fs [] H H' s.heap h') (hok:HOk X.prog X.w H' h'):Inv X pins σ H' { s with heap:=h',toks:=t' }:=by
 obtain⟨m,⟨o,es,ep,ho,r⟩,_⟩:=id I.loc
 obtain⟨sl,hL⟩:=u.any ho I.free (by simp)
 exact I.step (g':=s.gens) (d':=s.drawn) (ch:=[]) (fun _ z=>nomatch z) (fun b o _ hb _ e n=>u.keep b o e n hb (by simp)) (fun b o _ hb _ e n=>u.slot b o e n hb (by simp)) (fun b o _ e n=>u.free b o e n (by simp)) (fun b o _ e=>u.there b o e (by simp)) u.tups u.frzs u.tbls (fun m' hm=>by
  obtain⟨o',es',ep',ho',r'⟩:=hm
  rw[ho] at ho';cases ho'
  exact#[_,es',ep',hL,r']) hok I.bare
theorem Inv.call {g':Array GenState}{t':Nat}{d':Drawn}{ch:List Addr}(I:Inv X pins σ H s) (u:Un (frs X.stack) ch H H' s.heap h') (hok:HOk X.prog X.w H' h') (hg:AllBare g')
 (hch:∀b∈ch,(b∈X.ex\/X.s₀.heap.objs.size<=b)/\b≠X.env.locals/\(∀x c,X.env.cells.lookup x=some c->c≠b)/\∀p∈X.pn++pins,p.1≠b) :
 Inv X pins σ H' { s with heap:=h',gens:=g',drawn:=d',toks:=t' }:=by
 obtain⟨m,⟨o,es,ep,ho,r⟩,_⟩:=id I.loc
 obtain⟨sl,hL⟩:=u.any ho I.free fun z=>(hch _ z).2.1 rfl
 exact I.step (ch:=ch) hch (fun b o hL hb hc e n=>u.keep b o e n (fun z=>(qAl.mp (I.stkSub b z)).elim hL hb) hc) (fun b o _ _ hc e n=>u.any e n hc) (fun b o hc e n=>u.free b o e n hc) (fun b o hc e=>u.there b o e hc) u.tups u.frzs u.tbls (fun m' hm=>by
  obtain⟨o',es',ep',ho',r'⟩:=hm
  rw[ho] at ho';cases ho'
  exact#[_,es',ep',hL,r']) hok hg
theorem Inv.turned {t':Nat}{it:Addr}(I:Inv X pins σ H s) (k:∀b o,b≠it->s.heap.get? b=some o->h'.get? b=some o) (hn:H it=none) (hL:it≠X.env.locals)
 (h1:it∈X.ex\/X.s₀.heap.objs.size<=it) (h2:∀x c,X.env.cells.lookup x=some c->c≠it) (h3:∀p∈X.pn++pins,p.1≠it):Inv X pins σ H { s with heap:=h',toks:=t' }:=by
 have nit:∀b u,H b=some u->b≠it:=fun b u e z=>by rw[z,hn] at e;cases e
 refine I.step (g':=s.gens) (d':=s.drawn) (ch:=[it]) (fun b hb=>?_) (fun b o _ _ hc e _=>k b o (fun z=>hc (by simp[z])) e) (fun b o _ _ hc e _=>#[o.slots,k b o (fun z=>hc (by simp[z])) e]) (fun _ _ _ _ n=>n)
  (fun b o hc e=>#[o,k b o (fun z=>hc (by simp[z])) e]) (fun _ _ e=>e) (fun _ _ _ e=>e) (fun b ps e=>#[(List.toArray []),by rw[e];simp]) (fun m hm=>?_) (fun b u e=>?_) I.bare
 .have e:b=it:=by simpa using hb
  subst e
  exact#[h1,hL,h2,h3]
 .obtain⟨o,es,ep,ho,r⟩:=hm
  exact#[o,es,ep,k _ o (Ne.symm hL) ho,r]
 .refine(I.hok b u e).stay (fun c v hc q=>k c v ?_ q) (fun _ q=>q) fun _ _ q=>q
  rcases hc with z|z
  .rw[z];exact nit b u e
  .exact nit c _ z
theorem Inv.tok (I:Inv X pins σ H s)(t:Nat):Inv X pins σ H { s with toks:=t }:=I.un (h':=s.heap) (t':=t) Un.refl I.hok
theorem Inv.kept {t':Nat}(I:Inv X pins σ H s) (k:∀b u,s.heap.get? b=some u->h'.get? b=some u):Inv X pins σ H { s with heap:=h',toks:=t' }:=I.un (Un.kept k) (I.hok.kept k)
theorem Inv.laid {a:Addr}{o:HO}{t':Nat}(I:Inv X pins σ H s) (k:∀b u,s.heap.get? b=some u->h'.get? b=some u) (hp:s.heap.objs.size<=a) (new:Dt X.prog X.w (upd H a o) h' a o) :
 Inv X pins σ (upd H a o) { s with heap:=h',toks:=t' }:=I.un (Un.laid k hp (I.hok.fresh hp)) (I.hok.laid k hp new)
theorem Inv.write {x e:Addr}{o:HO}{t':Nat}(I:Inv X pins σ H s) (mu:Mut (H x)) (he:e=x\/H e=some (.own x)) (k:∀b u,b≠e->s.heap.get? b=some u->h'.get? b=some u) (heo:∃u,h'.get? e=some u)
 (new:Dt X.prog X.w (upd H x o) h' x o):Inv X pins σ (upd H x o) { s with heap:=h',toks:=t' }:=I.un (Un.write mu he k heo) (I.hok.write mu he k heo new)
theorem Inv.pins_of {pins':List (Addr×Obj)}(I:Inv X pins σ H s) (h:∀p∈pins',s.heap.get? p.1=some p.2/\H p.1=none/\p.1≠X.env.locals/\p.1∉X.fs/\∀v,p.2.data≠.cell v):Inv X pins' σ H s :=
 #[I.ok,I.os,I.bare,I.base,I.loc,I.cell,I.free,I.freeC,fun p hp=>(qAr.mp hp).elim (fun z=>I.pin p (qAQ _ z)) (h p),I.hok,I.len]
theorem MX {N:List Str}(hN:N.Nodup){i j:Nat}{x:Str}(a:N[i]? = some x) (b:N[j]? = some x):i=j:=by
 obtain⟨h1,e1⟩:=qAe.mp a
 obtain⟨h2,e2⟩:=qAe.mp b
 exact(List.getElem_inj hN).mp (e1.trans e2.symm)
theorem IX {M:Model}{A:Around}{E:Value->Shared->Prop}{i:Nat}{x:Str}{v:V}{u:Value}{Q:Unit->Shared->Prop}(I:Inv X pins σ H s) (hN:X.N.Nodup) (hi:X.N[i]? = some x) (hx:Loc X.env.scope x) (r:CK v u)
 (h:∀s',Inv X pins (σ.set i (some v)) H s'->(∃a,Heap.SameBut a s.heap s'.heap/\(a=X.env.locals\/X.env.cells.lookup x=some a))->Q Unit.unit s') (hf:X.fn x=true\/X.env.scope.names.lookup x=some .local:=by first|exact .inl rfl|exact .inr rfl|assumption):wpAny M A (storeName X.env x u) Q E s:=by
 obtain⟨m,hn,hl⟩:=id I.loc
 have hcls:(X.env.scope.kind == .class||(X.env.scope.kind == .module&&X.env.locals != X.env.globals))=false:=by rw[I.ok.kind];rfl
 have hiσ:i<σ.length:=by rw[I.len];exact(qAe.mp hi).1
 have cne:=I.cne
 have tracked:∀{a:Addr}{h':Heap},(∃o,s.heap.get? a=some o/\H a=none)->Heap.SameBut a s.heap h'->HOk X.prog X.w H h':=fun {a h'} ha hs b ob e=>by
  obtain⟨_,_,hfree⟩:=ha
  refine(I.hok b ob e).stay (fun c w' hc q=>(hs.2 c ?_).trans q) (fun _ q=>q) fun _ _ q=>q
  rintro rfl
  rcases hc with rfl|hc
  .rw[hfree] at e;cases e
  .rw[hfree] at hc;cases hc
 rcases hx with hk|hk
 .refine wpAny_storeName_local hk hn (fun h' hn' hs=>?_) hcls
  obtain⟨oL,_,_,hoL,_⟩:=id hn
  refine h _ #[I.ok,I.os,I.bare,#[fun b o e n hb hx=>?_,fun b o e n hb hx=>?_,I.base.free,fun b o e hx=>?_,I.base.tups,I.base.frzs,I.base.tbls],#[_,hn',fun j y v' e1 e2 e3=>?_],fun y c e=>?_,I.free,I.freeC,fun p hp=>?_,tracked #[oL,hoL,I.free] hs,by simpa using I.len] #[_,hs,.inl rfl]
  .exact(hs.2 b (qAx (qAv (qAj e) I.ok.above))).trans (I.base.keep b o e n hb hx)
  .obtain⟨sl,e1⟩:=I.base.slot b o e n hb hx
   exact#[sl,(hs.2 b (qAx (qAv (qAj e) I.ok.above))).trans e1]
  .obtain⟨o',e1⟩:=I.base.there b o e hx
   exact#[o',(hs.2 b (qAx (qAv (qAj e) I.ok.above))).trans e1]
  .by_cases hj:j=i
   .subst hj
    rw[hi] at e1;cases e1
    rw[qBx hiσ] at e2
    cases e2
    exact#[u,r,.inl #[hk,by simp]]
   .rw[qBT (Ne.symm hj)] at e2
    obtain⟨u',r',q⟩:=hl j y v' e1 e2 e3
    refine#[u',r',?_]
    rcases q with⟨k,e⟩|⟨k,c,e,z⟩
    .refine .inl #[k,?_]
     have:y≠x:=fun e=>hj (MX hN e1 (e ▸ hi))
     simp[this,e]
    .exact .inr #[k,c,e,z.sameBut hs (cne y c e)]
  .obtain⟨w',z⟩:=I.cell y c e
   exact#[w',z.sameBut hs (cne y c e)]
  .obtain⟨e,n,ne,nf,d⟩:=I.pin p hp
   exact#[(hs.2 p.1 ne).trans e,n,ne,nf,d]
 .have hfn:X.fn x=true:=by
   rcases hf with z|z
   .exact z
   .rw[z] at hk;cases hk
  obtain⟨c,hc⟩:=I.ok.has x (.inl hk)
  obtain⟨w',z⟩:=I.cell x c hc
  refine wpAny_storeName_cell I.ok.kind hk hc z (fun h' hc' hs=>?_)
  obtain⟨oc,hoc,hocd⟩:=id z
  refine h { s with heap:=h' } #[I.ok,I.os,I.bare,#[fun b o e n hb hx=>?_,fun b o e n hb hx=>?_,I.base.free,fun b o e hx=>?_,I.base.tups,I.base.frzs,I.base.tbls],#[m,hn.sameBut hs (Ne.symm (cne x c hc)),fun j y v' e1 e2 e3=>?_],fun y c' e=>?_,I.free,I.freeC,fun p hp=>?_,tracked #[oc,hoc,I.freeC x c hc] hs,by simpa using I.len] #[c,hs,.inr hc]
  .exact(hs.2 b (qAx (qAv (qAj e) (I.ok.cab x c hfn hc)))).trans (I.base.keep b o e n hb hx)
  .obtain⟨sl,e1⟩:=I.base.slot b o e n hb hx
   exact#[sl,(hs.2 b (qAx (qAv (qAj e) (I.ok.cab x c hfn hc)))).trans e1]
  .obtain⟨o',e1⟩:=I.base.there b o e hx
   exact#[o',(hs.2 b (qAx (qAv (qAj e) (I.ok.cab x c hfn hc)))).trans e1]
  .by_cases hj:j=i
   .subst hj
    rw[hi] at e1;cases e1
    rw[qBx hiσ] at e2
    cases e2
    exact#[u,r,.inr #[.inl hk,c,hc,hc']]
   .rw[qBT (Ne.symm hj)] at e2
    obtain⟨u',r',q⟩:=hl j y v' e1 e2 e3
    refine#[u',r',?_]
    rcases q with q|⟨k,c',e,z'⟩
    .exact .inl q
    .refine .inr #[k,c',e,z'.sameBut hs ?_]
     rintro rfl
     exact hj (MX hN e1 (I.ok.inj _ _ _ e hc ▸ hi))
  .by_cases hcc:c'=c
   .subst hcc;exact#[_,hc']
   .obtain⟨w2,z2⟩:=I.cell y c' e
    exact#[w2,z2.sameBut hs hcc]
  .obtain⟨e,n,ne,nf,d⟩:=I.pin p hp
   refine#[(hs.2 p.1 ?_).trans e,n,ne,nf,d]
   intro q
   rw[q,hoc] at e
   have q':oc=p.2:=qAn e
   exact d w' (by rw[<-q'];exact hocd)
theorem HN {M:Model}{A:Around}{E:Value->Shared->Prop}{i:Nat}{x:Str}{v:V}{u:Value}{Q:Unit->Shared->Prop}(I:Inv X pins σ H s) (hN:X.N.Nodup) (hi:X.N[i]? = some x) (hx:Loc X.env.scope x) (r:CK v u)
 (h:∀s',Inv X pins (σ.set i (some v)) H s'->Q Unit.unit s') (hf:X.fn x=true\/X.env.scope.names.lookup x=some .local:=by first|exact .inl rfl|exact .inr rfl|assumption):wpAny M A (storeName X.env x u) Q E s :=
 IX I hN hi hx r (fun s' I' _=>h s' I') hf
theorem Inv.call' {s':Shared}{ch:List Addr}(I:Inv X pins σ H s) (ho:s'.os=s.os) (u:Un (frs X.stack) ch H H' s.heap s'.heap) (hok:HOk X.prog X.w H' s'.heap) (hg:AllBare s'.gens)
 (hch:∀b∈ch,(b∈X.ex\/X.s₀.heap.objs.size<=b)/\b≠X.env.locals/\(∀x c,X.env.cells.lookup x=some c->c≠b)/\∀p∈X.pn++pins,p.1≠b):Inv X pins σ H' s':=by
 obtain⟨h',g',d',t',o'⟩:=s'
 have e:o'=s.os:=ho
 subst e
 exact I.call (g':=g') (t':=t') (d':=d') u hok hg hch
end
abbrev XK:=Value->Option Addr->Hp->Prop
abbrev St:=List (Option V)
abbrev VK:=V->Hp->Prop
abbrev TE:=St->Hp->VK->Prop
abbrev TT:=St->Hp->(Bool->Hp->Prop)->Prop
abbrev TA:=St->Hp->(List V->Hp->Prop)->Prop
structure Ou where
 nx:St->Hp->Prop
 rt:VK
 bk:St->Hp->Prop:=fun _ _=>False
 ct:St->Hp->Prop:=fun _ _=>False
abbrev TS:=Ou->St->Hp->Prop
def EP (X:Cx)(pins:List (Addr×Obj))(σ:St)(Q:VK)(u:Value)(s':Shared):Prop:=∃v H',Inv X pins σ H' s'/\CK v u/\Q v H'
def TP (X:Cx)(pins:List (Addr×Obj))(σ:St)(Q:Bool->Hp->Prop)(b:Bool)(s':Shared):Prop:=∃H',Inv X pins σ H' s'/\Q b H'
def AP (X:Cx)(pins:List (Addr×Obj))(σ:St)(Q:List V->Hp->Prop)(us:List Value)(s':Shared):Prop:=∃vs H',Inv X pins σ H' s'/\B8 vs us/\Q vs H'
def SP (X:Cx)(pins:List (Addr×Obj))(D:Ou)(f:Flow)(s':Shared):Prop :=
 match f with
 |.next=>∃σ' H',Inv X pins σ' H' s'/\D.nx σ' H'
 |.brk=>∃σ' H',Inv X pins σ' H' s'/\D.bk σ' H'
 |.cont=>∃σ' H',Inv X pins σ' H' s'/\D.ct σ' H'
 |.ret u=>∃v σ' H',Inv X pins σ' H' s'/\CK v u/\D.rt v H'
def PE (X:Cx)(e:Expr)(t:TE):Prop :=
 ∀(pins:List (Addr×Obj))(s:Shared)(σ:St)(H:Hp)(Q:VK),Inv X pins σ H s->t σ H Q->wpAny (model X.prog X.w) X.A (eval e X.env) (EP X pins σ Q) X.xe s
def PT (X:Cx)(e:Expr)(t:TT):Prop :=
 ∀(pins:List (Addr×Obj))(s:Shared)(σ:St)(H:Hp)(Q:Bool->Hp->Prop),Inv X pins σ H s->t σ H Q->wpAny (model X.prog X.w) X.A (isTrue e X.env (eval e X.env)) (TP X pins σ Q) X.xe s
def PW (X:Cx)(e:Expr)(t:TT):Prop :=
 ∀(whole:Sem Value)(pins:List (Addr×Obj))(s:Shared)(σ:St)(H:Hp)(Q:Bool->Hp->Prop),Inv X pins σ H s->t σ H Q->wpAny (model X.prog X.w) X.A (isTrue e X.env whole) (TP X pins σ Q) X.xe s
def PA (X:Cx)(es:List Expr)(t:TA):Prop :=
 ∀(pos:Pos)(pins:List (Addr×Obj))(s:Shared)(σ:St)(H:Hp)(Q:List V->Hp->Prop),Inv X pins σ H s->t σ H Q->wpAny (model X.prog X.w) X.A (spliced (backTo pos (starEach es X.env))) (AP X pins σ Q) X.xe s
def PS (X:Cx)(st:Stmt)(t:TS):Prop :=
 ∀(pins:List (Addr×Obj))(s:Shared)(σ:St)(H:Hp)(D:Ou),Inv X pins σ H s->t D σ H->wpAny (model X.prog X.w) X.A (exec st X.env) (SP X pins D) X.xe s
def PSs (X:Cx)(st:List Stmt)(t:TS):Prop :=
 ∀(pins:List (Addr×Obj))(s:Shared)(σ:St)(H:Hp)(D:Ou),Inv X pins σ H s->t D σ H->wpAny (model X.prog X.w) X.A (execs st X.env) (SP X pins D) X.xe s
theorem thn {α:Type}{t:Sem α}{Q Q':α->Shared->Prop}{M:Model}{A:Around}{E:Value->Shared->Prop}{s:Shared}(h:wpAny M A t Q E s) (hQ:∀a s,Q a s->Q' a s):wpAny M A t Q' E s:=wpAny_mono h hQ fun _ _ x=>x
section
variable {X:Cx}
def OW (i:Nat):TE:=fun σ H Q=>∃v,σ[i]? = some (some v)/\Q v H
def tC (v:V):TE:=fun _ H Q=>Q v H
theorem VZ {i:Nat}{x:Str}{pos:Pos}(hN:X.N[i]? = some x) (hv:Vis X.env.scope x) (hd:(x==("__debug__":Str))=false:=by decide) (hcd:(x==("__classdict__":Str))=false:=by decide):PE X (.Name x pos) (OW i):=by
 intro pins s σ H Q I h
 obtain⟨v,e,h⟩:=h
 obtain⟨m,hn,hl⟩:=I.loc
 obtain⟨u,r,l⟩:=hl i x v hN e hv
 have fin:EP X pins σ Q u s:=#[v,H,I,r,h]
 rcases l with⟨hk,hm⟩|⟨hk,c,hc,hcell⟩
 .exact wpAny_Name (wpAny_loadName_local I.ok.kind hk hn hm fin) hd
 .rcases hk with hk|hk
  .exact wpAny_Name (wpAny_loadName_cell I.ok.kind hk hc hcell fin) hd
  .exact wpAny_Name (wpAny_loadName_free I.ok.kind hk hc hcell fin hcd) hd
theorem WG {i j pos}:PE X (.Constant (.int i) j pos) (tC (.int i)):=fun _ _ _ H _ I h=>wpAny_Constant_int #[.int i,H,I.tok _,#[_,rfl],h]
theorem WN {b j pos}:PE X (.Constant (.bool b) j pos) (tC (.bl b)):=fun _ _ _ H _ I h=>Constant_bool #[.bl b,H,I,rfl,h]
theorem VF {j pos}:PE X (.Constant .none j pos) (tC .non):=fun _ _ _ H _ I h=>Constant_none #[.non,H,I,rfl,h]
theorem Wn {x j pos}:PE X (.Constant (.str x) j pos) (tC (.str x)):=fun _ _ _ H _ I h=>Calls.Constant_str #[.str x,H,I.tok _,#[_,rfl],h]
def Gl (X:Cx)(x:Str):Prop:=X.env.kindOf x=some .globalImplicit
theorem IW {E:Value->Shared->Prop}{pins:List (Addr×Obj)}{s:Shared}{σ:St}{H:Hp}{x:Str}{u:Value}{pos:Pos}{Q:Value->Shared->Prop}(I:Inv X pins σ H s) (hg:Gl X x) (hm:X.mg x=some u) (h:Q u s)
 (hd:(x==("__debug__":Str))=false:=by decide):wpAny (model X.prog X.w) X.A (eval (.Name x pos) X.env) Q E s :=
 Calls.Name_function_global I.ok.kind hg (Calls.loadGlobal_global (by rw[I.ok.glob];exact I.mod.glob.keeps I.bk) hm h) hd
theorem HE {E:Value->Shared->Prop}{pins:List (Addr×Obj)}{s:Shared}{σ:St}{H:Hp}{x:Str}{u:Value}{pos:Pos}{Q:Value->Shared->Prop}(I:Inv X pins σ H s) (hg:Gl X x) (hm:X.mg x=none) (hv:bootBuiltins x=some u) (h:Q u s)
 (hn:x≠"__name__":=by decide) (hd:(x==("__debug__":Str))=false:=by decide):wpAny (model X.prog X.w) X.A (eval (.Name x pos) X.env) Q E s:=by
 obtain⟨mb,h1,h2⟩:=I.mod.blt
 exact Calls.Name_function_global I.ok.kind hg (Calls.loadGlobal_builtin (by rw[I.ok.glob];exact I.mod.glob.keeps I.bk) hm (by rw[I.ok.blt];exact h1.keeps I.bk) ((h2 x hn).trans hv) h) hd
theorem U1 {x:Str}{v:V}{u:Value}{pos:Pos}(hg:Gl X x) (hm:X.mg x=some u) (r:CK v u) (hd:(x==("__debug__":Str))=false:=by decide):PE X (.Name x pos) (tC v) :=
 fun _ _ _ H _ I h=>IW I hg hm #[v,H,I,r,h] hd
theorem Ug {x:Str}{v:V}{u:Value}{pos:Pos}(hg:Gl X x) (hm:X.mg x=none) (hv:bootBuiltins x=some u) (r:CK v u) (hn:x≠"__name__":=by decide) (hd:(x==("__debug__":Str))=false:=by decide):PE X (.Name x pos) (tC v) :=
 fun _ _ _ H _ I h=>HE I hg hm hv #[v,H,I,r,h] hn hd
variable {a b:Expr}{ta tb:TE}{pos:Pos}
def tB (t:TE):TT:=fun σ H Q=>t σ H fun x H1=>∃c,x=.bl c/\Q c H1
theorem V5 {e:Expr}{t:TE}(h:PE X e t) (he:∀whole,isTrue e X.env whole=(do let v <-whole;standAt e.pos;holding [v] (truthy v)):=by intro _;rfl):PT X e (tB t):=by
 intro pins s σ H Q I hw
 refine isTrue_plain (thn (h pins s σ H _ I hw) fun v s1 #[x,H1,I1,r1,q1]=>?_) (he _)
 obtain⟨d,rfl,q⟩:=q1
 cases r1
 exact wpAny_truthy_bool #[H1,I1,q]
variable {tA tB':TT}{rest:List Expr}
def ZF (t u:TT):TT:=fun σ H Q=>t σ H fun c H1=>if c=true then u σ H1 Q else Q false H1
def tOr (t u:TT):TT:=fun σ H Q=>t σ H fun c H1=>if c=true then Q true H1 else u σ H1 Q
def Y1 (t:TT):TT:=fun σ H Q=>t σ H fun c H1=>Q (!c) H1
theorem UG (ha:PT X a tA):PW X (.BoolOp .And [a] pos) tA:=by
 intro wh pins s σ H Q I h
 refine isTrue_and (thn (ha pins s σ H Q I h) fun c s1 e=>?_)
 cases c with
 |true=>exact isTrue_and_nil e
 |false=>exact e
theorem VD (ha:PT X a tA):PW X (.BoolOp .Or [a] pos) tA:=by
 intro wh pins s σ H Q I h
 refine isTrue_or (thn (ha pins s σ H Q I h) fun c s1 e=>?_)
 cases c with
 |false=>exact isTrue_or_nil e
 |true=>exact e
theorem V7 (ha:PT X a tA)(hb:PW X (.BoolOp .And (b::rest) pos) tB'):PW X (.BoolOp .And (a::b::rest) pos) (ZF tA tB'):=by
 intro wh pins s σ H Q I h
 refine isTrue_and (thn (ha pins s σ H _ I h) fun c s1 hh=>?_)
 obtain⟨H1,I1,q1⟩:=hh
 cases c with
 |true=>exact hb wh pins s1 σ H1 Q I1 q1
 |false=>exact#[H1,I1,q1]
theorem Ym (ha:PT X a tA)(hb:PW X (.BoolOp .Or (b::rest) pos) tB'):PW X (.BoolOp .Or (a::b::rest) pos) (tOr tA tB'):=by
 intro wh pins s σ H Q I h
 refine isTrue_or (thn (ha pins s σ H _ I h) fun c s1 hh=>?_)
 obtain⟨H1,I1,q1⟩:=hh
 cases c with
 |true=>exact#[H1,I1,q1]
 |false=>exact hb wh pins s1 σ H1 Q I1 q1
theorem WB (ha:PT X a tA):PT X (.UnaryOp .Not a pos) (Y1 tA):=by
 intro pins s σ H Q I h
 exact isTrue_not (ha pins s σ H (fun c H1=>Q (!c) H1) I h)
def Xs (ta tb:TE):TE:=fun σ H Q=>ta σ H fun x H1=>∃c,x=.bl c/\if c=true then tb σ H1 Q else Q (.bl false) H1
def Y6 (ta tb:TE):TE:=fun σ H Q=>ta σ H fun x H1=>∃c,x=.bl c/\if c=true then Q (.bl true) H1 else tb σ H1 Q
def Yi (ta:TE):TE:=fun σ H Q=>ta σ H fun x H1=>∃c,x=.bl c/\Q (.bl (!c)) H1
theorem VT {op}{t:TE}(h:PE X a t):PE X (.BoolOp op [a] pos) t:=fun pins s σ H Q I hw=>BoolOp_one (h pins s σ H Q I hw)
theorem WW (ha:PE X a ta)(hb:PE X (.BoolOp .And (b::rest) pos) tb):PE X (.BoolOp .And (a::b::rest) pos) (Xs ta tb):=by
 intro pins s σ H Q I h
 refine BoolOp_and (thn (ha pins s σ H _ I h) fun v s1 hh=>?_)
 obtain⟨x,H1,I1,r1,q1⟩:=hh
 obtain⟨c,rfl,q1⟩:=q1
 cases r1
 refine wpAny_truthy_bool ?_
 cases c with
 |true=>exact hb pins s1 σ H1 Q I1 q1
 |false=>exact#[.bl false,H1,I1,rfl,q1]
theorem XD (ha:PE X a ta)(hb:PE X (.BoolOp .Or (b::rest) pos) tb):PE X (.BoolOp .Or (a::b::rest) pos) (Y6 ta tb):=by
 intro pins s σ H Q I h
 refine BoolOp_or (thn (ha pins s σ H _ I h) fun v s1 hh=>?_)
 obtain⟨x,H1,I1,r1,q1⟩:=hh
 obtain⟨c,rfl,q1⟩:=q1
 cases r1
 refine wpAny_truthy_bool ?_
 cases c with
 |false=>exact hb pins s1 σ H1 Q I1 q1
 |true=>exact#[.bl true,H1,I1,rfl,q1]
theorem Wk (ha:PE X a ta):PE X (.UnaryOp .Not a pos) (Yi ta):=by
 intro pins s σ H Q I h
 refine UnaryOp_ (thn (ha pins s σ H _ I h) fun v s1 hh=>?_)
 obtain⟨x,H1,I1,r1,q1⟩:=hh
 obtain⟨c,rfl,q1⟩:=q1
 cases r1
 exact not_of (wpAny_truthy_bool #[.bl (!c),H1,I1,rfl,q1])
end
def SqL (K:W.Frag)(H:Hp)(a:Addr)(xs:List V):Prop :=
 Rd H a (.lst xs) \/
  ∃(o:Obj)(its:Array Value)(n:Nat),K.lookup a=some o/\o.cls=.type "list"/\o.dict=none/\o.data=.seq its n/\its.size<=sizeLine/\B8 xs its.toList
def SqT (K:W.Frag)(H:Hp)(a:Addr)(xs:List V):Prop :=
 Rd H a (.tup xs) \/
  ∃(o:Obj)(its:Array Value)(n:Nat),K.lookup a=some o/\o.cls=.type "tuple"/\o.data=.seq its n/\its.size<=sizeLine/\B8 xs its.toList
def Zd:Value->Option V
 |.none=>some .non
 |.bool b=>some (.bl b)
 |.int i _=>some (.int i)
 |.str x _=>some (.str x)
 |.bytes b _=>some (.byt b)
 |.float b _=>some (.flt b)
 |.ref a=>some (.ref a)
 |.type n=>some (.ty n)
 |_=>none
theorem CK.abs {x:V}{u:Value}(r:CK x u):Zd u=some x:=by
 cases x with
 |non=>cases r;rfl
 |bl _=>cases r;rfl
 |int _=>obtain⟨t,rfl⟩:=r;rfl
 |str _=>obtain⟨t,rfl⟩:=r;rfl
 |byt _=>obtain⟨t,rfl⟩:=r;rfl
 |flt _=>obtain⟨t,rfl⟩:=r;rfl
 |ref _=>cases r;rfl
 |ty _=>cases r;rfl
theorem CK.inj {x y:V}{u:Value}(r:CK x u) (q:CK y u):x=y:=qAn (r.abs.symm.trans q.abs)
theorem B8.inj:∀{xs ys:List V}{us:List Value},B8 xs us->B8 ys us->xs=ys
 |_,_,_,.nil,.nil=>rfl
 |_,_,_,.cons r t,.cons r' t'=>by rw[r.inj r',B8.inj t t']
section
variable {X:Cx}{pins:List (Addr×Obj)}{σ:St}{H:Hp}{s:Shared}{a:Addr}{xs ys:List V}
theorem SqL.of {K:W.Frag}(h:H a=some (.lst xs)):SqL K H a xs:=.inl (.inl h)
theorem SqT.of {K:W.Frag}(h:H a=some (.tup xs)):SqT K H a xs:=.inl (.inl h)
theorem Inv.list (I:Inv X pins σ H s)(h:SqL X.K H a xs):∃its:List Value,B8 xs its/\PlainL s.heap a its.toArray/\xs.length<=sizeLine:=by
 rcases h with h|⟨o,its,n,hk,hc,hd,hs,hz,r⟩
 .obtain⟨z,its,n,r,e⟩:=h.ok I.hok
  exact#[its,r,#[_,n,e,rfl,rfl,rfl],z]
 .refine#[its.toList,r,#[o,n,I.kIn a o hk,hc,hd,by simpa using hs],?_]
  have e:=r.length
  simp only[Array.length_toList] at e
  omega
theorem Inv.tuple (I:Inv X pins σ H s)(h:SqT X.K H a xs):∃its:List Value,B8 xs its/\IsTup s.heap a its.toArray/\xs.length<=sizeLine:=by
 rcases h with h|⟨o,its,n,hk,hc,hs,hz,r⟩
 .obtain⟨z,its,r,p⟩:=h.ok I.hok
  exact#[its,r,p,z]
 .refine#[its.toList,r,#[o,I.kIn a o hk,hc,n,by simpa using hs],?_]
  have e:=r.length
  simp only[Array.length_toList] at e
  omega
theorem Inv.list_inj (I:Inv X pins σ H s)(h:SqL X.K H a xs)(h':SqL X.K H a ys):xs=ys:=by
 obtain⟨its,r,⟨o,n,e,_,_,d⟩,_⟩:=I.list h
 obtain⟨its',r',⟨o',n',e',_,_,d'⟩,_⟩:=I.list h'
 rw[e] at e';cases e'
 rw[d] at d'
 injection d' with d1 _
 have:its=its':=by simpa using congrArg Array.toList d1
 subst this
 exact r.inj r'
theorem Inv.tuple_inj (I:Inv X pins σ H s)(h:SqT X.K H a xs)(h':SqT X.K H a ys):xs=ys:=by
 obtain⟨its,r,⟨o,e,_,n,d⟩,_⟩:=I.tuple h
 obtain⟨its',r',⟨o',e',_,n',d'⟩,_⟩:=I.tuple h'
 rw[e] at e';cases e'
 rw[d] at d'
 injection d' with d1 _
 have:its=its':=by simpa using congrArg Array.toList d1
 subst this
 exact r.inj r'
end
abbrev Cx.wish (X:Cx)(E:Value->Shared->Prop):Cx:={ X with xe:=E }
abbrev Cx.nox (X:Cx):Cx:=X.wish fun _ _=>False
theorem Cx.Ok.wish {X:Cx}(ok:X.Ok) (E:Value->Shared->Prop):(X.wish E).Ok :=
 #[ok.mod,ok.kind,ok.glob,ok.blt,ok.above,ok.inj,ok.has,ok.cab,ok.hd,ok.frames,ok.stk,ok.exf,ok.bs,ok.bsz,ok.noex,ok.exfs,ok.funs,ok.frf,ok.tb]
theorem Cx.Ok.unwish {X:Cx}{E:Value->Shared->Prop}(ok:(X.wish E).Ok):X.Ok :=
 #[ok.mod,ok.kind,ok.glob,ok.blt,ok.above,ok.inj,ok.has,ok.cab,ok.hd,ok.frames,ok.stk,ok.exf,ok.bs,ok.bsz,ok.noex,ok.exfs,ok.funs,ok.frf,ok.tb]
section
variable {X:Cx}{pins:List (Addr×Obj)}{σ:St}{H:Hp}{s:Shared}{E:Value->Shared->Prop}
theorem Inv.wish (I:Inv X pins σ H s)(E:Value->Shared->Prop):Inv (X.wish E) pins σ H s:=#[I.ok.wish E,I.os,I.bare,I.base,I.loc,I.cell,I.free,I.freeC,I.pin,I.hok,I.len]
theorem Inv.unwish (I:Inv (X.wish E) pins σ H s):Inv X pins σ H s:=#[I.ok.unwish,I.os,I.bare,I.base,I.loc,I.cell,I.free,I.freeC,I.pin,I.hok,I.len]
theorem SP.unwish {D:Ou}{f:Flow}{s':Shared}(h:SP (X.wish E) pins D f s'):SP X pins D f s':=by
 cases f with
 |next=>obtain⟨σ',H',I,q⟩:=h;exact#[σ',H',I.unwish,q]
 |brk=>obtain⟨σ',H',I,q⟩:=h;exact#[σ',H',I.unwish,q]
 |cont=>obtain⟨σ',H',I,q⟩:=h;exact#[σ',H',I.unwish,q]
 |ret u=>obtain⟨v,σ',H',I,r,q⟩:=h;exact#[v,σ',H',I.unwish,r,q]
theorem PSs.nox {st:List Stmt}{t:TS}(h:PSs X.nox st t):PSs X st t:=fun pins s σ H D I hw =>
 wpAny_mono (h pins s σ H D (I.wish _) hw) (fun _ _ q=>q.unwish) fun _ _ z=>False.elim z
end
section
variable {X:Cx}{st:Stmt}{rest:List Stmt}{t u:TS}{e:Expr}{te:TE}{pos:Pos}
def XT:TS:=fun D σ H=>D.nx σ H
def Zl (t u:TS):TS:=fun D σ H=>t { D with nx:=u D } σ H
theorem Uy:PSs X [] XT:=fun _ _ σ H _ I h=>wpAny_execs_nil #[σ,H,I,h]
theorem NQ (h1:PS X st t)(h2:PSs X rest u):PSs X (st::rest) (Zl t u):=by
 intro pins s σ H D I h
 refine wpAny_execs_cons (thn (h1 pins s σ H { D with nx:=u D } I h) fun f s1 q=>?_)
 cases f with
 |next =>
  obtain⟨σ',H',I',q⟩:=q
  exact h2 pins s1 σ' H' D I' q
 |ret v=>exact q
 |brk=>exact q
 |cont=>exact q
theorem Uq (h1:PS X st t):PSs X [st] t:=by
 intro pins s σ H D I h
 refine wpAny_execs_cons (thn (h1 pins s σ H D I h) fun f s1 q=>?_)
 cases f with
 |next=>exact wpAny_execs_nil q
 |ret v=>exact q
 |brk=>exact q
 |cont=>exact q
theorem Inv.quiet {pins:List (Addr×Obj)}{σ:St}{H:Hp}{s:Shared}(I:Inv X pins σ H s):interactive X.env=false:=by simp[interactive,I.ok.kind]
def Vw (te:TE):TS:=fun D σ H=>te σ H fun _ H1=>D.nx σ H1
theorem BA (he:PE X e te)(hs:swapsWith e none pos.line X.env=pure false:=by rfl):PS X (.Expr e pos) (Vw te):=by
 intro pins s σ H D I h
 exact wpAny_Expr_any (thn (he pins s σ H _ I h) fun v s1 #[x,H1,I1,r1,q1]=>#[σ,H1,I1,q1]) I.quiet hs
def Zt (te:TE):TS:=fun D σ H=>te σ H D.rt
theorem Tc (he:PE X e te):PS X (.Return (some e) pos) (Zt te):=by
 intro pins s σ H D I h
 exact wpAny_Return_some (thn (he pins s σ H _ I h) fun v s1 #[x,H1,I1,r1,q1]=>#[x,σ,H1,I1,r1,q1])
def YX (c:TT)(t u:TS):TS:=fun D σ H=>c σ H fun b H1=>if b=true then t D σ H1 else u D σ H1
theorem Yq {c:Expr}{a b:List Stmt}{tc:TT}(hc:PT X c tc) (ha:PSs X a t) (hb:PSs X b u):PS X (.If c a b pos) (YX tc t u):=by
 intro pins s σ H D I h
 refine wpAny_If (thn (hc pins s σ H _ I h) fun d s1 hh=>?_)
 obtain⟨H1,I1,q1⟩:=hh
 cases d with
 |true=>exact ha pins s1 σ H1 D I1 q1
 |false=>exact hb pins s1 σ H1 D I1 q1
def W5:TS:=fun _ _ _=>False
theorem RC:PS X st W5:=fun _ _ _ _ _ _ h=>h.elim
end
abbrev TG:=V->St->Hp->(St->Hp->Prop)->Prop
abbrev TGs:=List V->St->Hp->(St->Hp->Prop)->Prop
def PG (X:Cx)(target:Expr)(t:TG):Prop :=
 ∀(pins:List (Addr×Obj))(s:Shared)(σ:St)(H:Hp)(v:V)(u:Value)(Q:St->Hp->Prop),Inv X pins σ H s->CK v u->t v σ H Q ->
  wpAny (model X.prog X.w) X.A (assign target X.env u) (fun _ s'=>∃σ' H',Inv X pins σ' H' s'/\Q σ' H') X.xe s
def PGs (X:Cx)(ts:List Expr)(t:TGs):Prop :=
 ∀(pins:List (Addr×Obj))(s:Shared)(σ:St)(H:Hp)(vs:List V)(us:List Value)(Q:St->Hp->Prop),Inv X pins σ H s->B8 vs us->t vs σ H Q ->
  wpAny (model X.prog X.w) X.A (assignInOrder ((assignEach ts X.env).map (·.2)) us) (fun _ s'=>∃σ' H',Inv X pins σ' H' s'/\Q σ' H') X.xe s
abbrev TIp:=V->V->Hp->VK->Prop
def PIp (X:Cx)(op:Operator)(t:TIp):Prop :=
 ∀(pins:List (Addr×Obj))(s:Shared)(σ:St)(H:Hp)(x y:V)(v u:Value)(Q:VK),Inv X pins σ H s->CK x v->CK y u->t x y H Q ->
  wpAny (model X.prog X.w) X.A (inplaceOp op v u) (EP X pins σ Q) X.xe s
section
variable {X:Cx}{pos:Pos}
def Ey (i:Nat):TG:=fun v σ H Q=>Q (σ.set i (some v)) H
theorem A3 {i:Nat}{x:Str}(hN:X.N.Nodup) (hi:X.N[i]? = some x) (hx:Loc X.env.scope x) (hf:X.fn x=true\/X.env.scope.names.lookup x=some .local:=by first|exact .inl rfl|exact .inr rfl|assumption):PG X (.Name x pos) (Ey i):=by
 intro pins s σ H v u Q I r h
 exact wpAny_assign_Name (HN I hN hi hx r (fun s' I'=>#[_,H,I',h]) hf)
def Xf:TGs:=fun vs σ H Q=>vs=[]/\Q σ H
def Lx (t:TG)(u:TGs):TGs:=fun vs σ H Q=>∃v r,vs=v::r/\t v σ H fun σ' H'=>u r σ' H' Q
theorem KQ:PGs X [] Xf:=by
 intro pins s σ H vs us Q I r h
 obtain⟨e,h⟩:=h
 subst e
 cases r
 exact assignInOrder_nil #[σ,H,I,h]
theorem Dd {e:Expr}{es:List Expr}{t:TG}{u:TGs}(h1:PG X e t) (h2:PGs X es u)
 (hs:(assignEach (e::es) X.env).map (·.2)=assign e X.env::(assignEach es X.env).map (·.2):=by rfl):PGs X (e::es) (Lx t u):=by
 intro pins s σ H vs us Q I r h
 obtain⟨v,vr,e1,h⟩:=h
 subst e1
 cases r with
 |cons r rr =>
  rw[hs]
  refine assignInOrder_cons (thn (h1 pins s σ H _ _ _ I r h) fun _ s1 hh=>?_)
  obtain⟨σ1,H1,I1,q1⟩:=hh
  exact h2 pins s1 σ1 H1 _ _ Q I1 rr q1
def W7 (K:W.Frag)(n:Nat)(t:TGs):TG:=fun v σ H Q=>∃a xs,v=.ref a/\SqT K H a xs/\xs.length=n/\t xs σ H Q
theorem Nl {es:List Expr}{k:Nat}{t:TGs}{n:Nat}(hc:X.calm=true) (h:PGs X es t)
 (hn:(assignEach es X.env).length=n:=by rfl) (hst:(assignEach es X.env).findIdx? (·.1)=none:=by rfl):PG X (.Tuple es k pos) (W7 X.K n t):=by
 intro pins s σ H v u Q I r hw
 obtain⟨a,xs,e1,hq,hl,hw⟩:=hw
 subst e1
 cases r
 obtain⟨its,rv,ht,hz⟩:=I.tuple hq
 refine assign_Tuple_tuple (I.ok.hd hc) ht (by simp[hn,<-hl,rv.length]) hst fun h' hx=>?_
 have I1:Inv X pins σ H { s with heap:=h' }:=I.kept (t':=s.toks) fun b o e=>hx b o (qAx (qAj e)) e
 exact h pins _ σ H xs _ Q I1 (by simpa using rv) hw
def Zb (te:TE)(g:TG):TS:=fun D σ H=>te σ H fun x H1=>g x σ H1 D.nx
theorem W4 {i:Nat}{x:Str}{e:Expr}{te:TE}{pos':Pos}(hN:X.N.Nodup) (hi:X.N[i]? = some x) (hx:Loc X.env.scope x) (he:PE X e te) (hs:swapsWith e (some (.Name x pos')) pos.line X.env=pure false:=by rfl) (hf:X.fn x=true\/X.env.scope.names.lookup x=some .local:=by first|exact .inl rfl|exact .inr rfl|assumption) :
 PS X (.Assign [.Name x pos'] e pos) (Zb te (Ey i)):=by
 intro pins s σ H D I h
 refine wpAny_Assign_Name (thn (he pins s σ H _ I h) fun v s1 #[y,H1,I1,r1,q1]=>?_) hs
 exact HN I1 hN hi hx r1 (fun s2 I2=>#[_,H1,I2,q1]) hf
def Y8 (i:Nat)(te:TE)(ti:TIp):TS:=fun D σ H=>∃x,σ[i]? = some (some x)/\te σ H fun y H1=>ti x y H1 fun z H2=>D.nx (σ.set i (some z)) H2
theorem WT {i:Nat}{x:Str}{e:Expr}{te:TE}{op:Operator}{ti:TIp}{pos':Pos}(hN:X.N.Nodup) (hi:X.N[i]? = some x) (hx:Loc X.env.scope x) (he:PE X e te) (ho:PIp X op ti) (hf:X.fn x=true\/X.env.scope.names.lookup x=some .local:=by first|exact .inl rfl|exact .inr rfl|assumption) :
 PS X (.AugAssign (.Name x pos') op e pos) (Y8 i te ti):=by
 intro pins s σ H D I h
 obtain⟨v,e1,h⟩:=h
 obtain⟨m,hn,hl⟩:=I.loc
 have vis:Vis X.env.scope x:=by rcases hx with k|k;exact .inl k;exact .inr (.inl k)
 obtain⟨u,r,l⟩:=hl i x v hi e1 vis
 refine wpAny_AugAssign_Name ?_
 have go:wpAny (model X.prog X.w) X.A (eval e X.env) (fun w s₂=>wpAny (model X.prog X.w) X.A (inplaceOp op u w) (fun r s₃=>wpAny (model X.prog X.w) X.A (storeName X.env x r) (fun _=>SP X pins D .next) X.xe s₃) X.xe s₂) X.xe s:=by
  refine thn (he pins s σ H _ I h) fun w s1 hh=>?_
  obtain⟨y,H1,I1,r1,q1⟩:=hh
  refine thn (ho pins s1 σ H1 v y u w _ I1 r r1 q1) fun z s2 hh=>?_
  obtain⟨zv,H2,I2,r2,q2⟩:=hh
  exact HN I2 hN hi hx r2 (fun s3 I3=>#[_,H2,I3,q2]) hf
 rcases l with⟨hk,hm⟩|⟨hk,c,hc,hcell⟩
 .exact wpAny_loadName_local I.ok.kind hk hn hm go
 .rcases hk with hk|hk
  .exact wpAny_loadName_cell I.ok.kind hk hc hcell go
  .rcases hx with k|k
   .have:X.env.scope.names.lookup x=some .free:=hk
    rw[k] at this;cases this
   .have:X.env.scope.names.lookup x=some .free:=hk
    rw[k] at this;cases this
def ipI (f:Int->Int->Int):TIp:=fun x y H Q=>∃i j,x=.int i/\y=.int j/\Q (.int (f i j)) H
theorem VG:PIp X .Add (ipI fun i j=>i+j):=by
 intro pins s σ H x y v u Q I r1 r2 h
 obtain⟨i,j,e1,e2,q⟩:=h
 subst e1;subst e2
 obtain⟨t,rfl⟩:=r1
 obtain⟨t',rfl⟩:=r2
 exact iadd_int #[.int _,H,I.tok _,#[_,rfl],q]
end
section
variable {X:Cx}{pos:Pos}
def Wf (c:TT)(tb:TS):TS:=fun D σ H=>∃W:Nat->St->Hp->Prop,(∃m,W m σ H)/\∀m σ H,W m σ H ->
 c σ H fun b H1=>if b=true then ∃N:St->Hp->Prop,(∀σ' H',N σ' H'->∃m',m'<m/\W m' σ' H')/\tb { D with nx:=N,ct:=N,bk:=D.nx } σ H1 else D.nx σ H1
theorem Ra {c:Expr}{body:List Stmt}{tc:TT}{tb:TS}(hp:PassesOwn (model X.prog X.w) X.A X.env X.xe) (hc:PT X c tc) (hb:PSs X body tb):PS X (.While c body [] pos) (Wf tc tb):=by
 intro pins s σ H D I h
 obtain⟨W,⟨m0,w0⟩,turn⟩:=h
 refine wpAny_While (codeAny_whileLoop (fun n s'=>∃σ' H',Inv X pins σ' H' s'/\W n σ' H') ?_ m0 #[σ,H,I,w0])
 rintro n s1 ⟨σ1,H1,I1,w1⟩
 refine wpAny_passesOwn hp (thn (hc pins s1 σ1 H1 _ I1 (turn n σ1 H1 w1)) fun b s2 hh=>?_)
 obtain⟨H2,I2,q2⟩:=hh
 cases b with
 |true =>
  obtain⟨N,hN,q2⟩:=q2
  rw[if_pos rfl]
  refine wpAny_passesOwn hp (thn (hb pins s2 σ1 H2 _ I2 q2) fun f s3 q3=>?_)
  cases f with
  |next =>
   obtain⟨σ3,H3,I3,n3⟩:=q3
   obtain⟨m',hm,w3⟩:=hN σ3 H3 n3
   exact#[m',hm,σ3,H3,I3,w3]
  |cont =>
   obtain⟨σ3,H3,I3,n3⟩:=q3
   obtain⟨m',hm,w3⟩:=hN σ3 H3 n3
   exact#[m',hm,σ3,H3,I3,w3]
  |brk=>exact q3
  |ret v=>exact q3
 |false =>
  rw[if_neg qAs]
  exact wpAny_execs_nil #[σ1,H2,I2,q2]
end
structure It where
 go:Nat->Hp->Prop
 yld:Nat->Hp->V->Hp->Prop
 stop:Nat->Hp->Prop
def N7 (X:Cx)(pins:List (Addr×Obj))(H:Hp)(b:Addr):Prop :=
 H b=none/\b≠X.env.locals/\b∉X.fs/\(b∈X.ex\/X.s₀.heap.objs.size<=b)/\(∀x c,X.env.cells.lookup x=some c->c≠b)/\∀p∈X.pn++pins,p.1≠b
theorem Inv.fpOk {X:Cx}{pins:List (Addr×Obj)}{σ:St}{H H':Hp}{s:Shared}{b:Addr}(I:Inv X pins σ H s) (hb:s.heap.objs.size<=b) (hn:H' b=none):N7 X pins H' b:=by
 refine#[hn,qA9 (qAv I.lt hb),I.nofs hb,.inr (qAD I.sz hb),fun x c e z=>?_,fun p hp z=>?_]
 .obtain⟨v,q⟩:=I.cell x c e
  exact absurd (qAv q.lt (by rw[z];exact hb)) (qAZ _)
 .exact absurd (qAv (qAj (I.pin p hp).1) (by rw[z];exact hb)) (qAZ _)
structure RE (P:Program)(w:World)(K:W.Frag)(tg:Expr)(J:It)(fp:List Addr)(it:Addr)(tn:Nat->Heap->Prop):Prop where
 mem:it∈fp
 obj:∀i h,tn i h->∀b∈fp,∃o,h.get? b=some o/\∀v,o.data≠.cell v
 keep:∀i h h',tn i h->(∀b∈fp,∀o,h.get? b=some o->h'.get? b=some o)->tn i h'
 item:∀(X:Cx),X.prog=P->X.w=w->X.K=K->X.calm=true->∀(i:Nat)(pins:List (Addr×Obj))(s:Shared)(σ:St)(H:Hp)(E:Value->Shared->Prop),Inv X pins σ H s->(∀b∈fp,N7 X pins H b)->tn i s.heap->J.go i H ->
  wpAny (model P w) X.A (pyNext (.ref it)) (fun r s1=>∃u,r=some u /\
   wpAny (model P w) X.A (letOwnedTupleGo tg (.ref it) u) (fun _ s2=>∃x H',Inv X pins σ H' s2/\CK x u/\J.yld i H x H'/\tn (i+1) s2.heap/\∀b∈fp,H' b=none) E s1) E s
 done:∀(X:Cx),X.prog=P->X.w=w->X.K=K->X.calm=true->∀(i:Nat)(pins:List (Addr×Obj))(s:Shared)(σ:St)(H:Hp)(E:Value->Shared->Prop),Inv X pins σ H s->(∀b∈fp,N7 X pins H b)->tn i s.heap->J.stop i H ->
  wpAny (model P w) X.A (pyNext (.ref it)) (fun r s1=>r=none/\Inv X pins σ H s1) E s
 self:∀(A:Around)(i:Nat)(s:Shared)(Q:Value->Shared->Prop)(E:Value->Shared->Prop),tn i s.heap->Q (.ref it) s->wpAny (model P w) A (pyIter (.ref it)) Q E s
abbrev TI:=St->Hp->(It->Hp->Prop)->Prop
def PIE (X:Cx)(pins:List (Addr×Obj))(σ:St)(tg:Expr)(R:It->Hp->Prop)(itv:Value)(s2:Shared):Prop :=
 ∃(it:Addr)(fp:List Addr)(tn:Nat->Heap->Prop)(J:It)(H':Hp),itv=.ref it/\Inv X pins σ H' s2/\RE X.prog X.w X.K tg J fp it tn/\tn 0 s2.heap/\(∀b∈fp,N7 X pins H' b)/\R J H'
def PI (X:Cx)(tg iter:Expr)(wi:TI):Prop :=
 ∀(pins:List (Addr×Obj))(s:Shared)(σ:St)(H:Hp)(R:It->Hp->Prop),Inv X pins σ H s->wi σ H R ->
  wpAny (model X.prog X.w) X.A (eval iter X.env) (fun v s1=>wpAny (model X.prog X.w) X.A (pyIter v) (PIE X pins σ tg R) X.xe s1) X.xe s
theorem Tx {M:Model}{A:Around}{E:Value->Shared->Prop}{s:Shared}{tg:Expr}{it:Addr}{u:Value}{o:Obj}{n:String}{vs:Array Value}{Q:Unit->Shared->Prop}(ho:s.heap.get? it=some o) (hc:o.cls=.type n) (hd:o.data=.fields vs)
 (hn:["enumerate","zip","dict_itemiterator","dict_reverseitemiterator","odict_iterator","itertools.zip_longest","itertools.pairwise"].contains n=false) (hQ:Q Unit.unit s):wpAny M A (letOwnedTupleGo tg (.ref it) u) Q E s:=by
 unfold letOwnedTupleGo
 cases tg<;>first
  |exact wpAny_pure hQ
  |(cases u<;>first
   |exact wpAny_pure hQ
   |(refine wpAny_bind (wpAny_load ho ?_)
     rw[hc,hd]
     show wpAny M A (if (["enumerate","zip","dict_itemiterator","dict_reverseitemiterator","odict_iterator","itertools.zip_longest","itertools.pairwise"].contains n&&vs[0]? == some (rawInt _))=true then _ else _) Q E s
     rw[if_neg (by intro h;rw[hn,Bool.false_and] at h;cases h)]
     exact wpAny_pure hQ))
def Itl (K:W.Frag)(a:Addr):It :=
 #[fun i H=>∃xs x,SqL K H a xs/\xs[i]? = some x,fun i H x H'=>H'=H/\∀xs,SqL K H a xs->xs[i]? = some x,fun i H=>∃xs,SqL K H a xs/\xs.length<=i]
def Itt (K:W.Frag)(a:Addr):It :=
 #[fun i H=>∃xs x,SqT K H a xs/\xs[i]? = some x,fun i H x H'=>H'=H/\∀xs,SqT K H a xs->xs[i]? = some x,fun i H=>∃xs,SqT K H a xs/\xs.length<=i]
def Itr (lo:Int)(n:Nat):It:=#[fun i _=>i<n,fun i H x H'=>H'=H/\x=.int (lo+i),fun i _=>n<=i]
theorem Qf {P:Program}{w:World}{K:W.Frag}{tg:Expr}(a it:Addr):RE P w K tg (Itl K a) [it] it (fun i h=>h.IsListIter it a i) where
 mem:=by simp
 obj:=fun i h st b hb=>by
  have e:b=it:=by simpa using hb
  subst e
  obtain⟨o,e,c,d⟩:=st
  exact#[o,e,fun v z=>by rw[d] at z;cases z]
 keep:=fun i h h' st k=>st.at fun o e=>k it (by simp) o e
 item:=by
  intro X hP hw hK hc i pins s σ H E I hf st hg
  subst hP hw hK
  obtain⟨xs,x,hq,hx⟩:=hg
  obtain⟨its,rv,p,hz⟩:=I.list hq
  obtain⟨u,hu,ru⟩:=rv.get hx
  obtain⟨f0,f1,f2,f3,f4,f5⟩:=hf it (by simp)
  refine wpAny_pyNext_list_item st p.isList (x:=u) (by simpa using hu) fun h' st' sb=>?_
  have I1:Inv X pins σ H { s with heap:=h' }:=I.turned (t':=s.toks) (fun b o hb e=>(sb.2 b hb).trans e) f0 f1 f3 f4 f5
  obtain⟨o,e,c,d⟩:=id st'
  exact#[u,rfl,Tx (s:={ s with heap:=h' }) e c d ∅ #[x,H,I1,ru,#[rfl,fun ys hy=>by rw[I.list_inj hy hq];exact hx],st',fun b hb=>(hf b hb).1]]
 done:=by
  intro X hP hw hK hc i pins s σ H E I hf st hg
  subst hP hw hK
  obtain⟨xs,hq,hx⟩:=hg
  obtain⟨its,rv,p,hz⟩:=I.list hq
  obtain⟨f0,f1,f2,f3,f4,f5⟩:=hf it (by simp)
  have hl:=rv.length
  exact wpAny_pyNext_list_end (I.ok.hd hc) st p.isList (by simp;omega) fun h' eb=>#[rfl,I.turned (t':=s.toks) (fun b o hb e=>eb b o hb e) f0 f1 f3 f4 f5]
 self:=fun _ _ _ _ _ st h=>wpAny_pyIter_listiter st h
theorem Oz {P:Program}{w:World}{K:W.Frag}{tg:Expr}(a it:Addr):RE P w K tg (Itt K a) [it] it (fun i h=>h.IsTupleIter it a i) where
 mem:=by simp
 obj:=fun i h st b hb=>by
  have e:b=it:=by simpa using hb
  subst e
  obtain⟨o,e,c,d⟩:=st
  exact#[o,e,fun v z=>by rw[d] at z;cases z]
 keep:=fun i h h' st k=>st.at fun o e=>k it (by simp) o e
 item:=by
  intro X hP hw hK hc i pins s σ H E I hf st hg
  subst hP hw hK
  obtain⟨xs,x,hq,hx⟩:=hg
  obtain⟨its,rv,p,hz⟩:=I.tuple hq
  obtain⟨u,hu,ru⟩:=rv.get hx
  obtain⟨f0,f1,f2,f3,f4,f5⟩:=hf it (by simp)
  refine wpAny_pyNext_tuple_item st (show s.heap.IsTuple a its.toArray from p) (x:=u) (by simpa using hu) fun h' st' sb=>?_
  have I1:Inv X pins σ H { s with heap:=h' }:=I.turned (t':=s.toks) (fun b o hb e=>(sb.2 b hb).trans e) f0 f1 f3 f4 f5
  obtain⟨o,e,c,d⟩:=id st'
  exact#[u,rfl,Tx (s:={ s with heap:=h' }) e c d ∅ #[x,H,I1,ru,#[rfl,fun ys hy=>by rw[I.tuple_inj hy hq];exact hx],st',fun b hb=>(hf b hb).1]]
 done:=by
  intro X hP hw hK hc i pins s σ H E I hf st hg
  subst hP hw hK
  obtain⟨xs,hq,hx⟩:=hg
  obtain⟨its,rv,p,hz⟩:=I.tuple hq
  obtain⟨f0,f1,f2,f3,f4,f5⟩:=hf it (by simp)
  have hl:=rv.length
  exact wpAny_pyNext_tuple_end (I.ok.hd hc) st (show s.heap.IsTuple a its.toArray from p) (by simp;omega) fun h' eb=>#[rfl,I.turned (t':=s.toks) (fun b o hb e=>eb b o hb e) f0 f1 f3 f4 f5]
 self:=fun _ _ _ _ _ st h=>wpAny_pyIter_tupleiter st h
theorem OA {P:Program}{w:World}{K:W.Frag}{tg:Expr}(it:Addr) (lo:Int) (n:Nat):RE P w K tg (Itr lo n) [it] it (fun i h=>IsRangeIter h it (lo+(i:Nat)*1) ((n:Int)-(i:Nat)) 1) where
 mem:=by simp
 obj:=fun i h st b hb=>by
  have e:b=it:=by simpa using hb
  subst e
  exact#[_,st,fun v z=>by
   have z':Data.fields _=Data.cell v:=z
   cases z']
 keep:=fun i h h' st k=>k it (by simp) _ st
 item:=by
  intro X hP hw hK hc i pins s σ H E I hf st hg
  subst hP hw hK
  obtain⟨f0,f1,f2,f3,f4,f5⟩:=hf it (by simp)
  have W:=Walks.range (prog:=X.prog) (w:=X.w) (I.ok.hd hc) it lo 1 n
  refine W.item i s _ _ hg st fun v h' tk hv st' kk=>?_
  obtain⟨t,rfl⟩:=hv
  have I1:Inv X pins σ H { s with heap:=h',toks:=tk }:=I.turned (fun b o hb e=>kk b o (by simpa using hb) e) f0 f1 f3 f4 f5
  refine#[_,rfl,Tx (s:={ s with heap:=h',toks:=tk }) (n:="range_iterator") st' rfl rfl ∅ #[.int (lo+i),H,I1,#[t,?_],#[rfl,rfl],st',fun b hb=>(hf b hb).1]]
  rw[Int.mul_one]
 done:=by
  intro X hP hw hK hc i pins s σ H E I hf st hg
  subst hP hw hK
  obtain⟨f0,f1,f2,f3,f4,f5⟩:=hf it (by simp)
  exact wpAny_pyNext_range_end (I.ok.hd hc) st (by have:n<=i:=hg;omega) fun h' eb=>#[rfl,I.turned (t':=s.toks) (fun b o hb e=>eb b o hb e) f0 f1 f3 f4 f5]
 self:=fun _ _ _ _ _ st h=>wpAny_pyIter_rangeiter st h
section
variable {X:Cx}{tg:Expr}
theorem R9 {pins:List (Addr×Obj)}{σ:St}{H:Hp}{s:Shared}{R:It->Hp->Prop}{E:Value->Shared->Prop}{lo hi:Int}{t u v:Tok}{tk:Nat}(I:Inv X pins σ H s) (h1:-(2^62)<=lo) (h2:lo<2^62) (h3:-(2^62)<=hi) (h4:hi<2^62)
 (q:R (Itr lo (hi-lo).toNat) H):wpAny (model X.prog X.w) X.A (pyIter (.ref s.heap.objs.size)) (PIE X pins σ tg R) E { s with heap:=s.heap.push { cls:=.type "range",data:=.fields (List.toArray [.int lo t,.int hi u,.int 1 v]) },toks:=tk }:=by
 refine wpAny_pyIter_range (IsRange.new ..) (small_one h1 h2 h3 h4) ?_
 have I1:Inv X pins σ H { s with heap:=s.heap.push { cls:=.type "range",data:=.fields (List.toArray [.int lo t,.int hi u,.int 1 v]) },toks:=tk }:=I.kept fun b o e=>qAh _ e
 refine#[(s.heap.push { cls:=.type "range",data:=.fields (List.toArray [.int lo t,.int hi u,.int 1 v]) }).objs.size,[(s.heap.push { cls:=.type "range",data:=.fields (List.toArray [.int lo t,.int hi u,.int 1 v]) }).objs.size],_,_,H,rfl,
  I1.kept (t':=tk) fun b o e=>qAh _ e,OA _ lo (hi-lo).toNat,?_,fun b hb=>?_,q]
 .have e1:lo+((0:Nat):Int)*1=lo:=by simp
  have e2:(((hi-lo).toNat:Nat):Int)-((0:Nat):Int)=Builtin.Range.rangeSize lo hi 1:=by rw[rangeSize_one];split<;>omega
  show IsRangeIter _ _ (lo+((0:Nat):Int)*1) ((((hi-lo).toNat:Nat):Int)-((0:Nat):Int)) 1
  rw[e1,e2]
  exact qAt _ rfl
 .have e:b=(s.heap.push { cls:=.type "range",data:=.fields (List.toArray [.int lo t,.int hi u,.int 1 v]) }).objs.size:=by simpa using hb
  subst e
  exact I1.fpOk (qAf _) (I1.hok.fresh (qAf _))
def Uo (ta:TA):TI:=fun σ H R=>ta σ H fun vs H1=>∃i j:Int,vs=[.int i,.int j]/\(-(2^62)<=i/\i<2^62/\-(2^62)<=j/\j<2^62)/\R (Itr i (j-i).toNat) H1
theorem CO {a b:Expr}{ta:TA}{p pos:Pos}(hg:Gl X "range") (hm:X.mg "range"=none) (ha:PA X [a,b] ta) (hs:starEach [a,b] X.env=[(false,eval a X.env),(false,eval b X.env)]:=by rfl) (hs2:starEach [b] X.env=[(false,eval b X.env)]:=by rfl) :
 PI X tg (.Call (.Name "range" p) [a,b] [] pos) (Uo ta):=by
 intro pins s σ H R I h
 refine Call_ (HE I hg hm boot_range (qBe (thn (ha pos pins s σ H _ I h) fun us s1 #[vs,H1,I1,r1,q1]=>?_) (by rw[hs,hs2]) (by rw[hs2];rfl)))
 obtain⟨i,j,e,⟨q1,q2,q3,q4⟩,q⟩:=q1
 subst e
 cases r1 with
 |cons r rr =>
  cases rr with
  |cons r' rr =>
   cases rr
   obtain⟨t,rfl⟩:=r
   obtain⟨t',rfl⟩:=r'
   exact call_range_2 (R9 I1 q1 q2 q3 q4 q)
def TC (wi:TI)(g:TG)(tb:TS):TS:=fun D σ H=>wi σ H fun J H1=>∃W:Nat->Nat->St->Hp->Prop,(∃m,W 0 m σ H1)/\∀i m σ H,W i m σ H ->
 (J.stop i H/\D.nx σ H)\/(J.go i H/\∃N:St->Hp->Prop,(∀σ' H',N σ' H'->∃m',m'<m/\W (i+1) m' σ' H')/\∀x H',J.yld i H x H'->g x σ H' fun σ2 H2=>tb { D with nx:=N,ct:=N,bk:=D.nx } σ2 H2)
def JW (fp:List Addr)(h:Heap):List (Addr×Obj):=fp.filterMap fun b=>(h.get? b).map fun o=>(b,o)
theorem Di {fp:List Addr}{h:Heap}{b:Addr}{o:Obj}(hb:b∈fp) (e:h.get? b=some o):(b,o)∈JW fp h:=qB1.mpr #[b,hb,by rw[e];rfl]
theorem O5 {fp:List Addr}{h:Heap}{p:Addr×Obj}(hp:p∈JW fp h):p.1∈fp/\h.get? p.1=some p.2:=by
 obtain⟨b,hb,e⟩:=qB1.mp hp
 cases q:h.get? b with
 |none=>rw[q] at e;cases e
 |some o =>
  rw[q] at e
  have e':(b,o)=p:=qAn e
  subst e'
  exact#[hb,q]
theorem Inv.pinned {pins:List (Addr×Obj)}{σ:St}{H:Hp}{s:Shared}{fp:List Addr}(I:Inv X pins σ H s) (hf:∀b∈fp,N7 X pins H b) (ho:∀b∈fp,∃o,s.heap.get? b=some o/\∀v,o.data≠.cell v):Inv X (pins++JW fp s.heap) σ H s :=
 I.pins_of fun p hp=>(qAr.mp hp).elim (fun z=>I.pin p (qAy _ z)) fun z=>by
  obtain⟨hb,e⟩:=O5 z
  obtain⟨f0,f1,f2,_⟩:=hf p.1 hb
  obtain⟨o,e',d⟩:=ho p.1 hb
  rw[e] at e';cases e'
  exact#[e,f0,f1,f2,d]
theorem Inv.unpinned {pins pl:List (Addr×Obj)}{σ:St}{H:Hp}{s:Shared}(I:Inv X (pins++pl) σ H s):Inv X pins σ H s:=I.pins_of fun p hp=>I.pin p (qAy _ (qAQ _ hp))
theorem Ch {iter:Expr}{body:List Stmt}{wi:TI}{g:TG}{tb:TS}{pos:Pos}(hp:PassesOwn (model X.prog X.w) X.A X.env X.xe) (hc:X.calm=true) (hi:PI X tg iter wi) (hg:PG X tg g) (hb:PSs X body tb)
 (hs:∀x,foldedSetIterable iter X.env x=pure x:=by intro _;rfl):PS X (.For tg iter body [] pos) (TC wi g tb):=by
 intro pins s σ H D I h
 refine wpAny_For (thn (hi pins s σ H _ I h) fun v s1 h1=>thn h1 fun itv s2 h2=>?_) hs
 obtain⟨it,fp,tn,J,H2,e,I2,T,st2,f2,W,⟨m0,w0⟩,turn⟩:=h2
 subst e
 have stat:∀{H':Hp},(∀b∈fp,H' b=none)->∀b∈fp,N7 X pins H' b:=fun hn b hb=>#[hn b hb,(f2 b hb).2]
 refine codeAny_forLoop_any (fun n s'=>∃i σ' H',Inv X pins σ' H' s'/\tn i s'.heap/\(∀b∈fp,H' b=none)/\W i n σ' H') ?_ m0 #[0,σ,H2,I2,st2,fun b hb=>(f2 b hb).1,w0]
 rintro n s3 ⟨i,σ3,H3,I3,st3,fr3,w3⟩
 rcases turn i n σ3 H3 w3 with⟨stop,qn⟩|⟨go,N,hN,step⟩
 .refine wpAny_passesOwn hp (thn (T.done X rfl rfl rfl hc i pins s3 σ3 H3 X.xe I3 (stat fr3) st3 stop) fun r s4 hh=>?_)
  obtain⟨hr,I4⟩:=hh
  subst hr
  exact wpAny_execs_nil #[σ3,H3,I4,qn]
 .refine wpAny_passesOwn hp (thn (T.item X rfl rfl rfl hc i pins s3 σ3 H3 X.xe I3 (stat fr3) st3 go) fun r s4 hh=>?_)
  obtain⟨u,hr,h4⟩:=hh
  subst hr
  refine wpAny_passesOwn hp (thn h4 fun _ s5 hh=>?_)
  obtain⟨x,H5,I5,r5,y5,st5,fr5⟩:=hh
  have I5':=I5.pinned (stat fr5) (T.obj _ _ st5)
  refine wpAny_passesOwn hp (thn (hg _ s5 σ3 H5 x u _ I5' r5 (step x H5 y5)) fun _ s6 hh=>?_)
  obtain⟨σ6,H6,I6,q6⟩:=hh
  refine wpAny_passesOwn hp (thn (hb _ s6 σ6 H6 _ I6 q6) fun f s7 q7=>?_)
  have again:∀{σ7:St}{H7:Hp},Inv X (pins++JW fp s5.heap) σ7 H7 s7->N σ7 H7->∃m,m<n/\∃i σ' H',Inv X pins σ' H' s7/\tn i s7.heap/\(∀b∈fp,H' b=none)/\W i m σ' H':=fun {σ7 H7} I7 n7=>by
   obtain⟨m',hm,w7⟩:=hN σ7 H7 n7
   refine#[m',hm,i+1,σ7,H7,I7.unpinned,T.keep _ _ _ st5 fun b hb o e=>(I7.pin (b,o) (qAy _ (qAy _ (Di hb e)))).1,fun b hb=>?_,w7]
   obtain⟨o,e,d⟩:=T.obj _ _ st5 b hb
   exact(I7.pin (b,o) (qAy _ (qAy _ (Di hb e)))).2.1
  cases f with
  |next=>obtain⟨σ7,H7,I7,n7⟩:=q7;exact again I7 n7
  |cont=>obtain⟨σ7,H7,I7,n7⟩:=q7;exact again I7 n7
  |brk=>obtain⟨σ7,H7,I7,q7⟩:=q7;exact#[σ7,H7,I7.unpinned,q7]
  |ret v=>obtain⟨x7,σ7,H7,I7,r7,q7⟩:=q7;exact#[x7,σ7,H7,I7.unpinned,r7,q7]
end
theorem Rg {K:W.Frag}{a:Addr}{xs:List V}{g:TG}{tb:TS}{D:Ou}{σ:St}{H:Hp}(Pv:Nat->St->Hp->Prop) (h0:Pv 0 σ H) (hl:∀i σ H,i<=xs.length->Pv i σ H->SqL K H a xs)
 (hs:∀i x σ H,xs[i]? = some x->Pv i σ H->g x σ H fun σ2 H2=>tb { D with nx:=Pv (i+1),ct:=Pv (i+1),bk:=D.nx } σ2 H2) (hd:∀σ H,Pv xs.length σ H->D.nx σ H) :
 ∃W:Nat->Nat->St->Hp->Prop,(∃m,W 0 m σ H)/\∀i m σ H,W i m σ H ->
  ((Itl K a).stop i H/\D.nx σ H)\/((Itl K a).go i H/\∃N:St->Hp->Prop,(∀σ' H',N σ' H'->∃m',m'<m/\W (i+1) m' σ' H')/\∀x H',(Itl K a).yld i H x H'->g x σ H' fun σ2 H2=>tb { D with nx:=N,ct:=N,bk:=D.nx } σ2 H2):=by
 refine#[fun i m σ H=>m=xs.length-i/\i<=xs.length/\Pv i σ H,#[xs.length,by simp,qA7 _,h0],?_]
 rintro i m σ H ⟨rfl,hi,p⟩
 have q:=hl i σ H hi p
 by_cases hlt:i<xs.length
 .refine .inr #[#[xs,xs[i],q,by simp[hlt]],Pv (i+1),fun σ' H' p'=>#[xs.length-(i+1),(),rfl,hlt,p'],fun x H' y=>?_]
  obtain⟨e,y⟩:=y
  subst e
  exact hs i x σ _ (y xs q) p
 .have e:i=xs.length:=()
  subst e
  exact .inl #[#[xs,q,qAf _],hd σ H p]
theorem UQ {K:W.Frag}{a:Addr}{xs:List V}{g:TG}{tb:TS}{D:Ou}{σ:St}{H:Hp}(Pv:Nat->St->Hp->Prop) (h0:Pv 0 σ H) (hl:∀i σ H,i<=xs.length->Pv i σ H->SqT K H a xs)
 (hs:∀i x σ H,xs[i]? = some x->Pv i σ H->g x σ H fun σ2 H2=>tb { D with nx:=Pv (i+1),ct:=Pv (i+1),bk:=D.nx } σ2 H2) (hd:∀σ H,Pv xs.length σ H->D.nx σ H) :
 ∃W:Nat->Nat->St->Hp->Prop,(∃m,W 0 m σ H)/\∀i m σ H,W i m σ H ->
  ((Itt K a).stop i H/\D.nx σ H)\/((Itt K a).go i H/\∃N:St->Hp->Prop,(∀σ' H',N σ' H'->∃m',m'<m/\W (i+1) m' σ' H')/\∀x H',(Itt K a).yld i H x H'->g x σ H' fun σ2 H2=>tb { D with nx:=N,ct:=N,bk:=D.nx } σ2 H2):=by
 refine#[fun i m σ H=>m=xs.length-i/\i<=xs.length/\Pv i σ H,#[xs.length,by simp,qA7 _,h0],?_]
 rintro i m σ H ⟨rfl,hi,p⟩
 have q:=hl i σ H hi p
 by_cases hlt:i<xs.length
 .refine .inr #[#[xs,xs[i],q,by simp[hlt]],Pv (i+1),fun σ' H' p'=>#[xs.length-(i+1),(),rfl,hlt,p'],fun x H' y=>?_]
  obtain⟨e,y⟩:=y
  subst e
  exact hs i x σ _ (y xs q) p
 .have e:i=xs.length:=()
  subst e
  exact .inl #[#[xs,q,qAf _],hd σ H p]
theorem Pa {lo:Int}{n:Nat}{g:TG}{tb:TS}{D:Ou}{σ:St}{H:Hp}(Pv:Nat->St->Hp->Prop) (h0:Pv 0 σ H)
 (hs:∀i σ H,i<n->Pv i σ H->g (.int (lo+i)) σ H fun σ2 H2=>tb { D with nx:=Pv (i+1),ct:=Pv (i+1),bk:=D.nx } σ2 H2) (hd:∀σ H,Pv n σ H->D.nx σ H) :
 ∃W:Nat->Nat->St->Hp->Prop,(∃m,W 0 m σ H)/\∀i m σ H,W i m σ H ->
  ((Itr lo n).stop i H/\D.nx σ H)\/((Itr lo n).go i H/\∃N:St->Hp->Prop,(∀σ' H',N σ' H'->∃m',m'<m/\W (i+1) m' σ' H')/\∀x H',(Itr lo n).yld i H x H'->g x σ H' fun σ2 H2=>tb { D with nx:=N,ct:=N,bk:=D.nx } σ2 H2):=by
 refine#[fun i m σ H=>m=n-i/\i<=n/\Pv i σ H,#[n,by simp,qA7 _,h0],?_]
 rintro i m σ H ⟨rfl,hi,p⟩
 by_cases hlt:i<n
 .refine .inr #[hlt,Pv (i+1),fun σ' H' p'=>#[n-(i+1),(),rfl,hlt,p'],fun x H' y=>?_]
  obtain⟨e,y⟩:=y
  subst e y
  exact hs i σ _ hlt p
 .have e:i=n:=()
  subst e
  exact .inl #[qAf _,hd σ H p]
abbrev R2:=V->V->Hp->VK->Prop
def OpR (X:Cx)(f:Value->Value->Sem Value)(r:R2):Prop :=
 ∀(pins:List (Addr×Obj))(s:Shared)(σ:St)(H:Hp)(x y:V)(v u:Value)(Q:VK),Inv X pins σ H s->CK x v->CK y u->r x y H Q ->
  wpAny (model X.prog X.w) X.A (f v u) (EP X pins σ Q) X.xe s
def UnR (X:Cx)(f:Value->Sem Value)(r:V->Hp->VK->Prop):Prop :=
 ∀(pins:List (Addr×Obj))(s:Shared)(σ:St)(H:Hp)(x:V)(v:Value)(Q:VK),Inv X pins σ H s->CK x v->r x H Q ->
  wpAny (model X.prog X.w) X.A (f v) (EP X pins σ Q) X.xe s
def Jq (X:Cx)(f:Value)(r:List V->Hp->VK->Prop):Prop :=
 ∀(pins:List (Addr×Obj))(s:Shared)(σ:St)(H:Hp)(xs:List V)(us:List Value)(Q:VK),Inv X pins σ H s->B8 xs us->r xs H Q ->
  wpAny (model X.prog X.w) X.A (call f us) (EP X pins σ Q) X.xe s
def ZE (X:Cx)(r:V->Hp->(Bool->Hp->Prop)->Prop):Prop :=
 ∀(pins:List (Addr×Obj))(s:Shared)(σ:St)(H:Hp)(x:V)(v:Value)(Q:Bool->Hp->Prop),Inv X pins σ H s->CK x v->r x H Q ->
  wpAny (model X.prog X.w) X.A (truthy v) (TP X pins σ Q) X.xe s
def tOp (r:R2)(ta tb:TE):TE:=fun σ H Q=>ta σ H fun x H1=>tb σ H1 fun y H2=>r x y H2 Q
def tUn (r:V->Hp->VK->Prop)(ta:TE):TE:=fun σ H Q=>ta σ H fun x H1=>r x H1 Q
def rI (C:Int->Int->Prop)(g:Int->Int->V):R2:=fun x y H Q=>∃i j,x=.int i/\y=.int j/\C i j/\Q (g i j) H
def rI0 (g:Int->Int->V):R2:=fun x y H Q=>∃i j,x=.int i/\y=.int j/\Q (g i j) H
def rU (g:Int->V):V->Hp->VK->Prop:=fun x H Q=>∃i,x=.int i/\Q (g i) H
section
variable {X:Cx}{a b c:Expr}{ta tb tc:TE}{pos:Pos}
theorem Xy (ha:PE X a ta)(hb:PE X b tb){pins:List (Addr×Obj)}{s:Shared}{σ:St}{H:Hp}{R:V->V->Hp->Prop}(I:Inv X pins σ H s)
 (h:ta σ H fun x H1=>tb σ H1 fun y H2=>R x y H2){Q:Value->Shared->Prop}{f:Value->Value->Sem Value}
 (hf:∀v u s2 x y H2,Inv X pins σ H2 s2->CK x v->CK y u->R x y H2->wpAny (model X.prog X.w) X.A (f v u) Q X.xe s2) :
 wpAny (model X.prog X.w) X.A (eval a X.env) (fun v s₁=>wpAny (model X.prog X.w) X.A (eval b X.env) (fun u s₂=>wpAny (model X.prog X.w) X.A (f v u) Q X.xe s₂) X.xe s₁) X.xe s:=by
 refine thn (ha pins s σ H _ I h) fun v s1 hh=>?_
 obtain⟨x,H1,I1,r1,q1⟩:=hh
 refine thn (hb pins s1 σ H1 _ I1 q1) fun u s2 hh=>?_
 obtain⟨y,H2,I2,r2,q2⟩:=hh
 exact hf v u s2 x y H2 I2 r1 r2 q2
theorem Wr {op:Operator}{r:R2}(ho:OpR X (binaryOp op) r) (ha:PE X a ta) (hb:PE X b tb):PE X (.BinOp a op b pos) (tOp r ta tb):=by
 intro pins s σ H Q I h
 exact wpAny_BinOp (Xy ha hb I h fun v u s2 x y H2 I2 rx ry q=>ho pins s2 σ H2 x y v u Q I2 rx ry q)
theorem X3 {op:UnaryOp}{r:V->Hp->VK->Prop}(ho:UnR X (unaryOp op) r) (ha:PE X a ta):PE X (.UnaryOp op a pos) (tUn r ta):=by
 intro pins s σ H Q I h
 exact UnaryOp_ (thn (ha pins s σ H _ I h) fun v s1 #[x,H1,I1,r1,q1]=>ho pins s1 σ H1 x v Q I1 r1 q1)
theorem opI {f:Value->Value->Sem Value}{C:Int->Int->Prop}{g:Int->Int->Int}
 (rule:∀(i j:Int)(t u:Tok)(s:Shared)(Q:Value->Shared->Prop)(E:Value->Shared->Prop),C i j->Q (.int (g i j) s.toks) { s with toks:=s.toks+1 }->wpAny (model X.prog X.w) X.A (f (.int i t) (.int j u)) Q E s) :
 OpR X f (rI C fun i j=>.int (g i j)):=by
 intro pins s σ H x y v u Q I rx ry h
 obtain⟨i,j,rfl,rfl,hc,q⟩:=h
 obtain⟨t,rfl⟩:=rx
 obtain⟨t',rfl⟩:=ry
 exact rule i j t t' s _ _ hc #[.int (g i j),H,I.tok _,#[_,rfl],q]
theorem YL {f:Value->Value->Sem Value}{g:Int->Int->Int}
 (rule:∀(i j:Int)(t u:Tok)(s:Shared)(Q:Value->Shared->Prop)(E:Value->Shared->Prop),Q (.int (g i j) s.toks) { s with toks:=s.toks+1 }->wpAny (model X.prog X.w) X.A (f (.int i t) (.int j u)) Q E s) :
 OpR X f (rI0 fun i j=>.int (g i j)):=by
 intro pins s σ H x y v u Q I rx ry h
 obtain⟨i,j,rfl,rfl,q⟩:=h
 obtain⟨t,rfl⟩:=rx
 obtain⟨t',rfl⟩:=ry
 exact rule i j t t' s _ _ #[.int (g i j),H,I.tok _,#[_,rfl],q]
theorem Xx {f:Value->Value->Sem Value}{g:Int->Int->Bool}
 (rule:∀(i j:Int)(t u:Tok)(s:Shared)(Q:Value->Shared->Prop)(E:Value->Shared->Prop),Q (.bool (g i j)) s->wpAny (model X.prog X.w) X.A (f (.int i t) (.int j u)) Q E s) :
 OpR X f (rI0 fun i j=>.bl (g i j)):=by
 intro pins s σ H x y v u Q I rx ry h
 obtain⟨i,j,rfl,rfl,q⟩:=h
 obtain⟨t,rfl⟩:=rx
 obtain⟨t',rfl⟩:=ry
 exact rule i j t t' s _ _ #[.bl (g i j),H,I,rfl,q]
def Ys (i j:Int):Prop:=0<=j/\j<=1000000/\i.natAbs<2^64
theorem SD:OpR X (binaryOp .Add) (rI0 fun i j=>.int (i+j)):=YL fun _ _ _ _ _ _ _ q=>add_int q
theorem V1:OpR X (binaryOp .Sub) (rI0 fun i j=>.int (i-j)):=YL fun _ _ _ _ _ _ _ q=>sub_int q
theorem UB:OpR X (binaryOp .Mod) (rI (fun _ j=>j≠0) fun i j=>.int (i.fmod j)):=opI fun _ _ _ _ _ _ _ hc q=>mod_int' hc q
theorem VU:OpR X (binaryOp .Pow) (rI Ys fun i j=>.int (i^j.toNat)):=opI fun _ _ _ _ _ _ _ hc q=>pow_int_small hc.1 hc.2.1 hc.2.2 q
theorem unI {f:Value->Sem Value}{g:Int->Int}
 (rule:∀(i:Int)(t:Tok)(s:Shared)(Q:Value->Shared->Prop)(E:Value->Shared->Prop),Q (.int (g i) s.toks) { s with toks:=s.toks+1 }->wpAny (model X.prog X.w) X.A (f (.int i t)) Q E s) :
 UnR X f (rU fun i=>.int (g i)):=by
 intro pins s σ H x v Q I rx h
 obtain⟨i,rfl,q⟩:=h
 obtain⟨t,rfl⟩:=rx
 exact rule i t s _ _ #[.int (g i),H,I.tok _,#[_,rfl],q]
theorem V0:UnR X (unaryOp .USub) (rU fun i=>.int (-i)):=unI fun _ _ _ _ _ q=>neg_int q
end
def YI:V->V->Bool
 |.non,.non=>true|.non,.int _=>true|.int _,.non=>true|.non,.bl _=>true|.bl _,.non=>true|.non,.str _=>true|.str _,.non=>true
 |.int _,.int _=>true|.bl _,.bl _=>true|.str _,.str _=>true|.byt _,.byt _=>true
 |.int _,.str _=>true|.str _,.int _=>true|.bl _,.str _=>true|.str _,.bl _=>true
 |_,_=>false
def rEq:R2:=fun x y H Q=>YI x y=true/\Q (.bl (decide (x=y))) H
def rNe:R2:=fun x y H Q=>YI x y=true/\Q (.bl (!decide (x=y))) H
theorem Pp {i j:Int}:decide (V.int i=V.int j)=(i==j):=by
 rw[qBM]
 simp
theorem SO {i j:Bool}:decide (V.bl i=V.bl j)=(i==j):=by
 rw[qBM]
 simp
theorem QV {i j:Str}:decide (V.str i=V.str j)=(i==j):=by
 rw[qBM]
 simp
theorem QO {i j:Array UInt8}:decide (V.byt i=V.byt j)=(i.toList==j.toList):=by
 rw[qBM]
 cases i
 cases j
 simp
section
variable {X:Cx}{a b c:Expr}{ta tb tc:TE}{pos:Pos}
theorem Bc {pins:List (Addr×Obj)}{σ:St}{H:Hp}{s:Shared}{Q:VK}{k k':Bool}(I:Inv X pins σ H s) (q:Q (.bl k) H) (e:k=k'):EP X pins σ Q (.bool k') s:=by
 subst e
 exact#[.bl k,H,I,rfl,q]
theorem Yj:OpR X (compareOp .Eq) rEq:=by
 intro pins s σ H x y v u Q I rx ry h
 obtain⟨hs,q⟩:=h
 cases x with
 |non =>
  cases rx
  cases y with
  |non=>cases ry;exact PySem.EqNone.eq_none_none (Bc I q (by simp))
  |bl j=>cases ry;exact PySem.EqNone.eq_none_bool (Bc I q (by simp))
  |int j=>obtain⟨t',rfl⟩:=ry;exact PySem.EqNone.eq_none_int (Bc I q (by simp))
  |str j=>obtain⟨t',rfl⟩:=ry;exact PySem.EqNone.eq_none_str (Bc I q (by simp))
  |_=>exact absurd (show false=true from hs) qAs
 |bl i =>
  cases rx
  cases y with
  |non=>cases ry;exact PySem.EqNone.eq_bool_none (Bc I q (by simp))
  |bl j=>cases ry;exact eq_bool (Bc I q SO)
  |str j=>obtain⟨t',rfl⟩:=ry;exact PySem.EqMixed.eq_bool_str (Bc I q (by simp))
  |_=>exact absurd (show false=true from hs) qAs
 |int i =>
  obtain⟨t,rfl⟩:=rx
  cases y with
  |non=>cases ry;exact PySem.EqNone.eq_int_none (Bc I q (by simp))
  |int j=>obtain⟨t',rfl⟩:=ry;exact eq_int (Bc I q Pp)
  |str j=>obtain⟨t',rfl⟩:=ry;exact PySem.EqMixed.eq_int_str (Bc I q (by simp))
  |_=>exact absurd (show false=true from hs) qAs
 |str i =>
  obtain⟨t,rfl⟩:=rx
  cases y with
  |non=>cases ry;exact PySem.EqNone.eq_str_none (Bc I q (by simp))
  |bl j=>cases ry;exact PySem.EqMixed.eq_str_bool (Bc I q (by simp))
  |int j=>obtain⟨t',rfl⟩:=ry;exact PySem.EqMixed.eq_str_int (Bc I q (by simp))
  |str j=>obtain⟨t',rfl⟩:=ry;exact eq_str (Bc I q QV)
  |_=>exact absurd (show false=true from hs) qAs
 |byt i =>
  obtain⟨t,rfl⟩:=rx
  cases y with
  |byt j=>obtain⟨t',rfl⟩:=ry;exact W.eq_bytes (Bc I q QO)
  |_=>exact absurd (show false=true from hs) qAs
 |_=>cases y<;>exact absurd (show false=true from hs) qAs
theorem XC:OpR X (compareOp .NotEq) rNe:=by
 intro pins s σ H x y v u Q I rx ry h
 obtain⟨hs,q⟩:=h
 cases x with
 |non =>
  cases rx
  cases y with
  |non=>cases ry;exact PySem.EqNone.ne_none_none (Bc I q (by simp))
  |bl j=>cases ry;exact PySem.EqNone.ne_none_bool (Bc I q (by simp))
  |int j=>obtain⟨t',rfl⟩:=ry;exact PySem.EqNone.ne_none_int (Bc I q (by simp))
  |str j=>obtain⟨t',rfl⟩:=ry;exact PySem.EqNone.ne_none_str (Bc I q (by simp))
  |_=>exact absurd (show false=true from hs) qAs
 |bl i =>
  cases rx
  cases y with
  |non=>cases ry;exact PySem.EqNone.ne_bool_none (Bc I q (by simp))
  |bl j=>cases ry;exact ne_bool (Bc I q (congrArg not SO))
  |str j=>obtain⟨t',rfl⟩:=ry;exact PySem.EqMixed.ne_bool_str (Bc I q (by simp))
  |_=>exact absurd (show false=true from hs) qAs
 |int i =>
  obtain⟨t,rfl⟩:=rx
  cases y with
  |non=>cases ry;exact PySem.EqNone.ne_int_none (Bc I q (by simp))
  |int j=>obtain⟨t',rfl⟩:=ry;exact ne_int (Bc I q (congrArg not Pp))
  |str j=>obtain⟨t',rfl⟩:=ry;exact PySem.EqMixed.ne_int_str (Bc I q (by simp))
  |_=>exact absurd (show false=true from hs) qAs
 |str i =>
  obtain⟨t,rfl⟩:=rx
  cases y with
  |non=>cases ry;exact PySem.EqNone.ne_str_none (Bc I q (by simp))
  |bl j=>cases ry;exact PySem.EqMixed.ne_str_bool (Bc I q (by simp))
  |int j=>obtain⟨t',rfl⟩:=ry;exact PySem.EqMixed.ne_str_int (Bc I q (by simp))
  |str j=>obtain⟨t',rfl⟩:=ry;exact ne_str (Bc I q (congrArg not QV))
  |_=>exact absurd (show false=true from hs) qAs
 |byt i =>
  obtain⟨t,rfl⟩:=rx
  cases y with
  |byt j=>obtain⟨t',rfl⟩:=ry;exact W.ne_bytes (Bc I q (congrArg not QO))
  |_=>exact absurd (show false=true from hs) qAs
 |_=>cases y<;>exact absurd (show false=true from hs) qAs
theorem XR:OpR X (compareOp .Lt) (rI0 fun i j=>.bl (decide (i<j))):=Xx fun _ _ _ _ _ _ _ q=>lt_int q
theorem Xw:OpR X (compareOp .LtE) (rI0 fun i j=>.bl (decide (i<=j))):=Xx fun _ _ _ _ _ _ _ q=>le_int q
theorem Xp:OpR X (compareOp .Gt) (rI0 fun i j=>.bl (decide (j<i))):=Xx fun _ _ _ _ _ _ _ q=>gt_int q
theorem WZ:OpR X (compareOp .Is) (fun x y H Q=>y=.non/\Q (.bl (decide (x=.non))) H):=by
 intro pins s σ H x y v u Q I rx ry h
 obtain⟨rfl,q⟩:=h
 cases ry
 refine is_none_gen (Bc I q ?_)
 cases x<;>first
  |(cases rx;rfl)
  |(obtain⟨t,rfl⟩:=rx;rfl)
theorem OpR.or {f:Value->Value->Sem Value}{r r':R2}(h:OpR X f r) (h':OpR X f r'):OpR X f (fun x y H Q=>r x y H Q\/r' x y H Q):=by
 intro pins s σ H x y v u Q I rx ry q
 rcases q with q|q
 .exact h pins s σ H x y v u Q I rx ry q
 .exact h' pins s σ H x y v u Q I rx ry q
theorem Hx (b:Expr){op:CmpOp}(h:op≠.In:=by decide) (h2:op≠.NotIn:=by decide):behindInMarks op b=false:=by
 have e1:(op==CmpOp.In)=false:=by cases op<;>first|rfl|exact absurd rfl h
 have e2:(op==CmpOp.NotIn)=false:=by cases op<;>first|rfl|exact absurd rfl h2
 cases b<;>simp[behindInMarks,e1,e2]
theorem TY {op:CmpOp}{r:R2}(ho:OpR X (compareOp op) r) (ha:PE X a ta) (hb:PE X b tb) (hm:behindInMarks op b=false):PE X (.Compare a [op] [b] pos) (tOp r ta tb):=by
 intro pins s σ H Q I h
 exact wpAny_Compare1 (Xy ha hb I h fun v u s2 x y H2 I2 rx ry q=>ho pins s2 σ H2 x y v u Q I2 rx ry q) hm
def Ye (t:TE):TT:=fun σ H Q=>t σ H fun x H'=>∃k,x=.bl k/\Q k H'
theorem T9 {op:CmpOp}{r:R2}(ho:OpR X (compareOp op) r) (ha:PE X a ta) (hb:PE X b tb) (hm:behindInMarks op b=false):PT X (.Compare a [op] [b] pos) (Ye (tOp r ta tb)):=by
 intro pins s σ H Q I h
 refine wpAny_isTrue_Compare1 (thn (ha pins s σ H _ I h) fun v s1 #[x,H1,I1,r1,q1]=>thn (hb pins s1 σ H1 _ I1 q1) fun u s2 #[y,H2,I2,r2,q2] =>
  thn (ho pins s2 σ H2 x y v u _ I2 r1 r2 q2) fun c s3 #[z,H3,I3,r3,k,e,q3]=>?_) hm
 subst e
 cases r3
 exact wpAny_truthy_bool #[H3,I3,q3]
def YA (K:W.Frag)(x:V)(H:Hp)(k:Bool):Prop :=
 match x with
 |.non=>k=false
 |.bl b=>k=b
 |.int i=>k=(i != 0)
 |.str y=>y.length<=sizeLine/\k=((y.length:Int) != 0)
 |.byt y=>y.size<=sizeLine/\k=((y.size:Int) != 0)
 |.ref p=>(∃xs,SqL K H p xs/\k=!xs.isEmpty)\/(∃xs,SqT K H p xs/\k=!xs.isEmpty)\/∃kvs,H p=some (.dK kvs)/\k=!kvs.isEmpty
 |_=>False
theorem N6 {κ:Type}{kvs:List (κ×V)}{vs:List (κ×Value)}(r:KV kvs vs):(!vs.isEmpty)=!kvs.isEmpty:=by
 cases r<;>rfl
theorem JC {xs:List V}{its:List Value}(r:B8 xs its):(!its.toArray.isEmpty)=!xs.isEmpty:=by
 cases r<;>simp
theorem NP:(sizeLine:Nat)<2^63:=by rw[sizeLine_eq];decide
theorem VN:ZE X (fun x H Q=>∃k,YA X.K x H k/\Q k H):=by
 intro pins s σ H x v Q I rx h
 obtain⟨k,e,q⟩:=h
 have hl:=NP
 have hs:sizeLine=16777216:=sizeLine_eq
 cases x with
 |non =>
  cases rx
  have e':k=false:=e
  subst e'
  exact truthy_none #[H,I,q]
 |bl b =>
  cases rx
  have e':k=b:=e
  subst e'
  exact wpAny_truthy_bool #[H,I,q]
 |int i =>
  obtain⟨t,rfl⟩:=rx
  have e':k=(i != 0):=e
  subst e'
  exact PySem.P.truthy_int #[H,I,q]
 |str y =>
  obtain⟨t,rfl⟩:=rx
  obtain⟨hy,e'⟩:y.length<=sizeLine/\k=((y.length:Int) != 0):=e
  subst e'
  exact PySem.P.truthy_str () #[H,I.tok _,q]
 |byt y =>
  obtain⟨t,rfl⟩:=rx
  obtain⟨hy,e'⟩:y.size<=sizeLine/\k=((y.size:Int) != 0):=e
  subst e'
  exact W.truthy_bytes () #[H,I.tok _,q]
 |ref p =>
  cases rx
  have e':(∃xs,SqL X.K H p xs/\k=!xs.isEmpty)\/(∃xs,SqT X.K H p xs/\k=!xs.isEmpty)\/∃kvs,H p=some (.dK kvs)/\k=!kvs.isEmpty:=e
  rcases e' with⟨xs,hx,e'⟩|⟨xs,hx,e'⟩|⟨kvs,hx,e'⟩
  .subst e'
   obtain⟨its,r,pl,hz⟩:=I.list hx
   have hlen:=r.length
   exact wpAny_truthy_list pl.isList (by simp only[qAF];omega) #[H,I.tok _,by rw[JC r];exact q]
  .subst e'
   obtain⟨its,r,pl,hz⟩:=I.tuple hx
   have hlen:=r.length
   exact truthy_tuple pl (by simp only[qAF];omega) #[H,I.tok _,by rw[JC r];exact q]
  .subst e'
   obtain⟨hz,hS,vs,r,m⟩:kvs.length<=sizeLine/\(p==sysModules)=false/\∃vs,KV kvs vs/\s.heap.DictOf (MI X.prog X.w) p vs:=I.hok p _ hx
   have hlen:kvs.length=vs.length:=Paired.length r
   exact wpAny_truthy_dict hS m () #[H,I.tok _,by rw[N6 r];exact q]
 |_=>exact(show False from e).elim
theorem Nv (ha:PE X a ta)(he:∀whole,isTrue a X.env whole=(do let v <-whole;standAt a.pos;holding [v] (truthy v))) :
 PT X a (fun σ H Q=>ta σ H fun x H'=>∃k,YA X.K x H' k/\Q k H'):=by
 intro pins s σ H Q I h
 exact isTrue_plain (thn (ha pins s σ H _ I h) fun v s1 #[x,H1,I1,r1,q1]=>VN pins s1 σ H1 x v Q I1 r1 q1) (he _)
theorem OD {x:V}{us:List Value}(r:B8 [x] us):∃u,us=[u]/\CK x u:=by
 cases r with
 |cons r1 r2=>cases r2;exact#[_,rfl,r1]
theorem Xq {x y:V}{us:List Value}(r:B8 [x,y] us):∃u w',us=[u,w']/\CK x u/\CK y w':=by
 cases r with
 |cons r1 r2 =>
  cases r2 with
  |cons r3 r4=>cases r4;exact#[_,_,rfl,r1,r3]
theorem Sm:Jq X (.builtin "abs") (fun xs H Q=>∃i,xs=[.int i]/\Q (.int (if i<0 then -i else i)) H):=by
 intro pins s σ H xs us Q I r h
 obtain⟨i,rfl,q⟩:=h
 obtain⟨u,rfl,t,rfl⟩:=OD r
 exact call_abs_int fun u tk=>#[.int (if i<0 then -i else i),H,I.tok _,#[_,rfl],q]
end
structure XH (h:Heap)(x dx C:Addr)(mA:Str->Option Value):Prop where
 obj:h.get? x=some (W.instObj C dx)
 ns:h.Ns1 dx mA
 ne:dx≠x
theorem QD {h:Heap}{dx:Addr}{mA:Str->Option Value}(n:h.Ns1 dx mA):∃od,h.get? dx=some od/\∀name,W.lookIn name od=some (mA name):=by
 obtain⟨o,es,ep,ho,hd,hk,_,hm⟩:=n
 refine#[o,ho,fun name=>?_]
 have e:=hm name
 unfold nsFind findBy at e
 rw[<-Array.find?_toList] at e
 unfold W.lookIn
 rw[hd]
 dsimp only
 split
 .rename_i y q
  rw[q] at e
  exact congrArg some e
 .rename_i q
  rw[q] at e
  have a:es.toList.any (·.refKey)=false:=by
   rw[List.any_eq_false]
   intro y hy
   obtain⟨z,t,hkey⟩:=hk y (Array.mem_toList_iff.mp hy)
   simp[DictEntry.refKey,hkey]
  have a':¬es.toList.any (·.refKey)=true:=by rw[a];exact qAs
  rw[if_neg a']
  exact congrArg some e
theorem XH.look {h:Heap}{x dx C:Addr}{mA:Str->Option Value}(I:XH h x dx C mA):∃od,W.InstAt h x (W.instObj C dx) C (some od)/\∀name,W.lookIn name od=some (mA name) :=
 let #[od,ho,hl]:=QD I.ns
 #[od,#[I.obj,rfl,rfl,ho],hl]
section
variable {prog:Program}{w:World}{A:Around}{E:Value->Shared->Prop}{s:Shared}{K:W.Frag}{x dx C f:Addr}{mA:Str->Option Value}{name:Str}{v:Value}
end
section
variable {P:Program}{w:World}{H H':Hp}{h h':Heap}{a C dx:Addr}{fs fs':List (Str×V)}
theorem TQ (hok:HOk P w H h)(e:H a=some (.ins C dx fs)):∃mA,XH h a dx C mA/\(∀f,XO (fs.lookup f) (mA f))/\PySem.Within mA (fs.map (·.1))/\fs.length<=1000/\H dx=some (.own a):=by
 obtain⟨d,z,ne,ob,mA,n,r,q⟩:=(show Dt P w H h a (.ins C dx fs) from hok a _ e)
 exact#[mA,#[ob,n,ne],r,q,z,d]
end
structure Cls (K:W.Frag)(C:Addr):Prop where
 pg:W.plainGet K C Str.empty=true
 hd:W.hasDictIn K C=true
 po:W.plainOver K C=true
 sa:W.findIn K (.ref C) "__setattr__"=some (some (.builtin "object.__setattr__"))
theorem Cls.get {K:W.Frag}{C:Addr}(c:Cls K C) (f:Str):W.plainGet K C f=true:=c.pg
section
variable {X:Cx}{pins:List (Addr×Obj)}{σ:St}{H:Hp}{s:Shared}{a C dx:Addr}{fs:List (Str×V)}{f:Str}{v:V}{A:Around}{E:Value->Shared->Prop}
end
section
variable {X:Cx}{o e value:Expr}{f:Str}{pos pos' tpos:Pos}{ta tv:TE}
end
section
variable {X:Cx}{pins:List (Addr×Obj)}{σ:St}{H:Hp}{s:Shared}{A:Around}{E:Value->Shared->Prop}{Q:Value->Shared->Prop}{c:Value}{b:Bool}
inductive OG (K:W.Frag)(H:Hp):V->Value->Prop where
 |non:OG K H .non (.type "NoneType")
 |bl (x:Bool):OG K H (.bl x) (.type "bool")
 |int (i:Int):OG K H (.int i) (.type "int")
 |str (x:Str):OG K H (.str x) (.type "str")
 |flt (x:UInt64):OG K H (.flt x) (.type "float")
 |lst {a:Addr}{xs:List V}(e:H a=some (.lst xs)):OG K H (.ref a) (.type "list")
 |frz {a:Addr}{o:Obj}{xs:List V}(e:H a=some (.frz o (.lst xs))):OG K H (.ref a) (.type "list")
 |tup {a:Addr}{xs:List V}(e:H a=some (.tup xs)):OG K H (.ref a) (.type "tuple")
 |dK {a:Addr}{kvs:List (Key×V)}(e:H a=some (.dK kvs)):OG K H (.ref a) (.type "dict")
 |dT {a:Addr}{kvs:List (List Key×V)}(e:H a=some (.dT kvs)):OG K H (.ref a) (.type "dict")
 |ins {a C dx:Addr}{fs:List (Str×V)}(e:H a=some (.ins C dx fs)) (cl:Cls K C) (ha:W.findIn K (.ref C) "__class__"=some (some (.builtin "object.__class__")))
  (hn:W.specialIn K (.builtin "object.__class__") "__get__"=some (some (.builtin "getset_descriptor.__get__"))) (htk:W.takesIn K (.builtin "object.__class__")=some true)
  (hm:W.mroIn K C (.type "object")=some true):OG K H (.ref a) (.ref C)
theorem GP {x:V}{u t:Value}(I:Inv X pins σ H s) (rx:CK x u) (ty:OG X.K H x t) (e:W.kitOne X.K t c=some b) (h:∀tk,Q (.bool b) { s with toks:=tk }) :
 wpAny (model X.prog X.w) A (call (.builtin "isinstance") [u,c]) Q E s:=by
 cases ty with
 |non=>cases (show u=Value.none from rx);exact qAT W.kitx_none I.kIn True.intro e (fun z=>nomatch z) h
 |bl y=>cases (show u=Value.bool y from rx);exact qAT W.kitx_bool I.kIn True.intro e (fun z=>nomatch z) h
 |int i=>obtain⟨t,q⟩:=(show ∃t,u=Value.int i t from rx);cases q;exact qAT W.kitx_int I.kIn True.intro e (fun z=>nomatch z) h
 |str y=>obtain⟨t,q⟩:=(show ∃t,u=Value.str y t from rx);cases q;exact qAT W.kitx_str I.kIn True.intro e (fun z=>nomatch z) h
 |flt y=>obtain⟨t,q⟩:=(show ∃t,u=Value.float y t from rx);cases q;exact qAT W.kitx_float I.kIn True.intro e (fun z=>nomatch z) h
 |@lst a xs ea =>
  cases (show u=Value.ref a from rx)
  obtain⟨_,_,n,_,h1⟩:=(show Dt X.prog X.w H s.heap a (.lst xs) from I.hok a _ ea)
  exact qAT qBQ I.kIn #[_,h1,rfl] e (fun z=>nomatch z) h
 |@frz a ob xs ea =>
  cases (show u=Value.ref a from rx)
  obtain⟨_,_,_,n,_,h1⟩:=(show Dt X.prog X.w H s.heap a (.frz ob (.lst xs)) from I.hok a _ ea)
  exact qAT qBQ I.kIn #[_,h1,rfl] e (fun z=>nomatch z) h
 |@tup a xs ea =>
  cases (show u=Value.ref a from rx)
  obtain⟨_,_,_,p⟩:=(show Dt X.prog X.w H s.heap a (.tup xs) from I.hok a _ ea)
  obtain⟨o,h1,h2,_⟩:=p
  exact qAT W.kitx_tuple I.kIn #[o,h1,h2] e (fun z=>nomatch z) h
 |@dK a kvs ea =>
  cases (show u=Value.ref a from rx)
  obtain⟨_,_,vs,_,p⟩:=(show Dt X.prog X.w H s.heap a (.dK kvs) from I.hok a _ ea)
  obtain⟨o,es,ep,h1,h2,_⟩:=p
  exact qAT W.kitx_dict I.kIn #[o,h1,h2.1] e (fun z=>nomatch z) h
 |@dT a kvs ea =>
  cases (show u=Value.ref a from rx)
  obtain⟨_,_,xs,_,o,es,ep,h1,h2,_⟩:=(show Dt X.prog X.w H s.heap a (.dT kvs) from I.hok a _ ea)
  exact qAT W.kitx_dict I.kIn #[o,h1,h2.1] e (fun z=>nomatch z) h
 |@ins a C dx fs ea cl ha hn htk hm =>
  cases (show u=Value.ref a from rx)
  obtain⟨mA,O,_⟩:=TQ I.hok ea
  obtain⟨od,J,_⟩:=O.look
  exact qAT (W.kitx_own (cl.get _) cl.hd ha hn htk hm) I.kIn J e (fun z=>nomatch z) h
end
structure E9 (k:Nat)(A:Around):Prop where
 hd:A.handled=none
 dp:A.depth+3*k+5<recursionLimit
 un:A.units+16*k+200<cLine
theorem E9.mono {j k:Nat}{A:Around}(r:E9 k A) (h:j<=k):E9 j A:=#[r.hd,by have:=r.dp;omega,by have:=r.un;omega]
theorem E9.deeper {k:Nat}{A:Around}(r:E9 (k+1) A) (env:Env):E9 k (A.deeper env) :=
 #[r.hd,by have:=r.dp;show A.depth+1+3*k+5<_;omega,by have:=r.un;show A.units+3+16*k+200<_;omega]
theorem E9.depth {k:Nat}{A:Around}(r:E9 k A):A.depth<recursionLimit:=by have:=r.dp;omega
def Xj:TA:=fun _ H Q=>Q [] H
def Ob (ta:TE)(tr:TA):TA:=fun σ H Q=>ta σ H fun x H1=>tr σ H1 fun xs H2=>Q (x::xs) H2
section
variable {X:Cx}{e:Expr}{es:List Expr}{te:TE}{t:TA}{pos:Pos}
theorem BD:PA X [] Xj:=fun _ _ _ _ H Q I h=>Calls.spliced_nil #[[],H,I,.nil,h]
theorem AL (ha:PE X e te)(hr:PA X es t)(hs:starEach (e::es) X.env=(false,eval e X.env)::starEach es X.env:=by rfl):PA X (e::es) (Ob te t):=by
 intro pos pins s σ H Q I h
 rw[hs]
 show wpAny _ _ (spliced ((false,eval e X.env)::backTo pos (starEach es X.env))) _ _ s
 refine Calls.spliced_cons (thn (ha pins s σ H _ I h) fun u s1 hh=>?_)
 obtain⟨x,H1,I1,r1,q1⟩:=hh
 exact thn (hr pos pins s1 σ H1 _ I1 q1) fun us s2 #[xs,H2,I2,r2,q2]=>#[x::xs,H2,I2,.cons r1 r2,q2]
def YY (t:TA):TE:=fun σ H Q=>t σ H fun xs H1=>xs.length<=sizeLine/\∀p,H1 p=none->Q (.ref p) (upd H1 p (.tup xs))
theorem Vs {x1}(h:PA X es t):PE X (.Tuple es x1 pos) (YY t):=by
 intro pins s σ H Q I hq
 refine wpAny_Tuple_spliced (thn (h pos pins s σ H _ I hq) fun us s1 #[xs,H1,I1,r,z,q]=>#[by rw[<-r.length];exact z,?_])
 have hf:H1 s1.heap.objs.size=none:=I1.hok.fresh (qAf _)
 refine#[.ref s1.heap.objs.size,upd H1 s1.heap.objs.size (.tup xs),I1.laid (t':=s1.toks) (fun b u e=>qAh _ e) (qAf _) ?_,rfl,q _ hf]
 exact#[z,us,r,#[_,qAt _ rfl,rfl,_,rfl]]
end
abbrev Sp:=List V->Hp->VK->XK->Prop
abbrev CXT:=List Env->Hp->Shared->XK->Value->Shared->Prop
structure Vi (P:Program)(w:World)(K:W.Frag)(mg:Str->Option Value)(base:Heap)(A:Around)(outer:List Env)(s:Shared)(H:Hp):Prop where
 frames:A.frames=some outer
 mod:Mod K mg base
 bs:∀b o,base.get? b=some o->s.heap.get? b=some o/\H b=none
 bsz:base.objs.size<=s.heap.objs.size
 funs:s.heap.FunFrames base outer
 frf:∀b∈frs outer,H b=none
 hok:HOk P w H s.heap
 bare:AllBare s.gens
 tb:TB P K mg base H
def CE (outer:List Env)(P:Program)(w:World)(H:Hp)(s:Shared)(Q:VK)(u:Value)(s':Shared):Prop :=
 ∃v H',s'.os=s.os/\AllBare s'.gens/\Un (frs outer) [] H H' s.heap s'.heap/\HOk P w H' s'.heap/\CK v u/\Q v H'
def CR (CX:CXT)(outer:List Env)(P:Program)(w:World)(H:Hp)(s:Shared)(Q:VK)(E:XK)(r:Result)(s':Shared):Prop :=
 match r with
 |.ok (.ret u)=>CE outer P w H s Q u s'
 |.ok _=>False
 |.error e=>CX outer H s E e s'
structure Aq (P:Program)(w:World)(K:W.Frag)(mg:Str->Option Value)(base:Heap)(CX:CXT)(k:Nat)(f:Addr)(fd:FuncData)(ps:List Str)(sp:Sp):Prop where
 len:∀vs H Q E,sp vs H Q E->vs.length=ps.length
 run:∀(A:Around)(outer:List Env)(s:Shared)(H:Hp)(args:Args)(us:List Value)(vs:List V)(Q:VK)(E:XK),E9 k A->Vi P w K mg base A outer s H->BindsTo s fd args (ps.zip us)->B8 vs us->sp vs H Q E ->
  codeAny (model P w) A (.call (.ref f) args) (CR CX outer P w H s Q E) s
theorem Aq.imp {P:Program}{w:World}{K:W.Frag}{mg:Str->Option Value}{base:Heap}{CX:CXT}{k:Nat}{f:Addr}{fd:FuncData}{ps:List Str}{sp sp':Sp}(F:Aq P w K mg base CX k f fd ps sp)
 (h:∀vs H Q E,sp' vs H Q E->sp vs H Q E):Aq P w K mg base CX k f fd ps sp' :=
 #[fun vs H Q E q=>F.len vs H Q E (h _ _ _ _ q),fun A outer s H args us vs Q E hr he hb hv hs=>F.run A outer s H args us vs Q E hr he hb hv (h _ _ _ _ hs)]
section
variable {X:Cx}{pins:List (Addr×Obj)}{σ:St}{H:Hp}{s s':Shared}
theorem Inv.env0 (I:Inv X pins σ H s):Vi X.prog X.w X.K X.mg X.base X.A X.stack s H :=
 #[I.ok.frames,I.ok.mod,I.bs,qAD I.ok.bsz I.sz,I.stack,I.stkFree,I.hok,I.bare,I.tb]
theorem Inv.after {Q:VK}{u:Value}(I:Inv X pins σ H s) (h:CE X.stack X.prog X.w H s Q u s'):EP X pins σ Q u s':=by
 obtain⟨v,H',os,bare,un,hok,r,q⟩:=h
 obtain⟨hh,g,d,t,os'⟩:=s'
 obtain rfl:os'=s.os:=os
 exact#[v,H',I.call (h':=hh) (g':=g) (d':=d) (t':=t) (ch:=[]) un hok bare (fun b z=>absurd z (by simp)),r,q]
end
def X4 (sp:Sp)(dvs:List V)(E:XK)(t:TA):TE:=fun σ H Q=>t σ H fun vs H1=>sp (vs++dvs) H1 Q E
def Binds (K:W.Frag)(fd:FuncData)(ps:List Str)(ds:List Value):Prop :=
 ∀(s:Shared)(us:List Value),K.In s.heap->(us++ds).length=ps.length->BindsTo s fd #[us,[]] (ps.zip (us++ds))
theorem Binds.all {K:W.Frag}{fd:FuncData}{ps:List Str}(h:∀us:List Value,us.length=ps.length->bindArgs fd #[us,[]]=pure (ps.zip us)):Binds K fd ps []:=fun s us _ hl=>by
 rw[qBq] at hl ⊢
 exact .of_eq (h us hl)
def Qr (CX:CXT)(X:Cx)(E:XK):Prop:=∀(pins:List (Addr×Obj))(σ:St)(H:Hp)(s:Shared)(e:Value)(s':Shared),Inv X pins σ H s->CX X.stack H s E e s'->X.xe e s'
section
variable {X:Cx}{CX:CXT}{k:Nat}{f C:Addr}{fd:FuncData}{ps:List Str}{sp:Sp}{dvs:List V}{ds:List Value}{E:XK}{x m:Str}{p pos apos:Pos}{e o:Expr}{es:List Expr}{ta:TE}{t:TA}
theorem VX {pins:List (Addr×Obj)}{σ:St}{H:Hp}{s:Shared}{Q:VK}{us:List Value}{vs:List V}(F:Aq X.prog X.w X.K X.mg X.base CX k f fd ps sp) (hr:E9 k X.A) (hb:Binds X.K fd ps ds) (hd:B8 dvs ds) (hx:Qr CX X E)
 (I:Inv X pins σ H s) (r:B8 vs us) (h:sp (vs++dvs) H Q E):wpAny (model X.prog X.w) X.A (call (.ref f) us) (EP X pins σ Q) X.xe s:=by
 have r2:B8 (vs++dvs) (us++ds):=r.append hd
 have hl:(us++ds).length=ps.length:=by rw[<-r2.length];exact F.len _ _ _ _ h
 refine wpAny_call (codeAny_mono (F.run X.A X.stack s H #[us,[]] (us++ds) (vs++dvs) Q E hr I.env0 (hb s us I.kIn hl) r2 h) fun r s' hq=>?_)
 cases r with
 |error e=>exact hx pins σ H s e s' I hq
 |ok fl =>
  cases fl with
  |ret u=>exact I.after hq
  |next=>exact False.elim hq
  |brk=>exact False.elim hq
  |cont=>exact False.elim hq
theorem ON (F:Aq X.prog X.w X.K X.mg X.base CX k f fd ps sp)(hr:E9 k X.A)(hg:Gl X x)(hm:X.mg x=some (.ref f))(hk:W.keepIn X.K (.ref f)=true)(hb:Binds X.K fd ps ds)(hd:B8 dvs ds)(hx:Qr CX X E)
 (ha:PA X (e::es) t)(hdb:(x==("__debug__":Str))=false:=by decide)(he:starEach (e::es) X.env=(false,eval e X.env)::starEach es X.env:=by rfl)(hpl:(backTo pos (starEach es X.env)).any (·.1)=false:=by rfl) :
 PE X (.Call (.Name x p) (e::es) [] pos) (X4 sp dvs E t):=by
 intro pins s σ H Q I h
 refine wpAny_Call_Name_kw (IW I hg hm ?_ hdb)
 refine qCt (h₀:=X.base) I.ok.mod.kin hk (thn (ha pos pins s σ H _ I h) fun us s1 #[vs,H1,I1,r,q]=>#[I1.kIn,?_]) he hpl
 exact VX F hr hb hd hx I1 r q
end
def PK (X:Cx)(kws:List Keyword)(t:TA):Prop :=
 ∀(pos:Pos)(pins:List (Addr×Obj))(s:Shared)(σ:St)(H:Hp)(Q:List V->Hp->Prop),Inv X pins σ H s->t σ H Q->wpAny (model X.prog X.w) X.A (evalAll ((backToKw pos (keywordEach kws X.env)).map (·.2))) (AP X pins σ Q) X.xe s
section
variable {X:Cx}{CX:CXT}{k:Nat}{f C:Addr}{fd:FuncData}{ps ks:List Str}{sp:Sp}{E:XK}{x m:Str}{p pos apos kpos:Pos}{e o:Expr}{es:List Expr}{kws:List Keyword}{te ta:TE}{t tk:TA}{nm:Option Str}
theorem WL:PK X [] Xj:=fun _ _ _ _ H Q I h=>wpAny_evalAll_nil #[[],H,I,.nil,h]
theorem Tv (ha:PE X e te)(hr:PK X kws t):PK X (#[nm,e,kpos]::kws) (Ob te t):=by
 intro pos pins s σ H Q I h
 show wpAny _ _ (evalAll ((do let v <-eval e X.env;standAt pos;pure v)::(backToKw pos (keywordEach kws X.env)).map (·.2))) _ _ s
 refine wpAny_evalAll_cons (wpAny_bind (thn (ha pins s σ H _ I h) fun u s1 #[x,H1,I1,r1,q1]=>wpAny_bind (wpAny_standAt (wpAny_pure ?_))))
 exact thn (hr pos pins s1 σ H1 _ I1 q1) fun us s2 #[xs,H2,I2,r2,q2]=>#[x::xs,H2,I2,.cons r1 r2,q2]
variable {g:List Value->List Value->List Value}{gV:List V->List V->List V}
end
structure Ad (N P:List Str)(sc:Scope):Prop where
 kind:sc.kind=.function
 co:sc.isCoroutine=false
 gen:sc.isGenerator=false
 nd:N.Nodup
 pre:N.take P.length=P
 par:∀x∈P,sc.names.lookup x=some .local\/sc.names.lookup x=some .cell
 nofree:∀y∈sc.names,y.2≠.free
theorem Lw {kindOf:Str->Option NameKind}{x:Str}:∀{binds:List (Str×Value)}{m:Str->Option Value},(∀v,(x,v)∉binds)->bindL kindOf binds m x=m x
 |[],_,_=>rfl
 |(n,v)::r,m,h=>by
  unfold bindL
  rw[Lw fun w hw=>h w (qAP _ hw)]
  split
  .have:x≠n:=by rintro rfl;exact h v qA5
   simp[this]
  .rfl
theorem Lu {kindOf:Str->Option NameKind}{x:Str}:∀{binds:List (Str×Value)}{m:Str->Option Value},(∀v,(x,v)∉binds)->bindC kindOf binds m x=m x
 |[],_,_=>rfl
 |(n,v)::r,m,h=>by
  unfold bindC
  rw[Lu fun w hw=>h w (qAP _ hw)]
  split
  .rfl
  .have:x≠n:=by rintro rfl;exact h v qA5
   simp[this]
theorem LJ {kindOf:Str->Option NameKind}{x:Str}{v:Value}:∀{P:List Str}{vs:List Value}{i:Nat}{m:Str->Option Value},P.Nodup->P[i]? = some x->vs[i]? = some v->kindOf x=some .local ->
 bindL kindOf (P.zip vs) m x=some v
 |[],_,_,_,_,h,_,_=>by simp at h
 |_::_,[],_,_,_,_,h,_=>by simp at h
 |p::P,w::vs,0,m,nd,h1,h2,hk=>by
  simp at h1 h2;subst h1;subst h2
  show bindL kindOf ((p,w)::P.zip vs) m p=_
  unfold bindL
  rw[Lw fun v hv=>(qCh.mp nd).1 (qCi hv).1,if_pos hk]
  simp
 |p::P,w::vs,i+1,m,nd,h1,h2,hk=>by
  show bindL kindOf ((p,w)::P.zip vs) m x=_
  unfold bindL
  exact LJ (i:=i) (qCh.mp nd).2 (by simpa using h1) (by simpa using h2) hk
theorem K6 {kindOf:Str->Option NameKind}{x:Str}{v:Value}:∀{P:List Str}{vs:List Value}{i:Nat}{m:Str->Option Value},P.Nodup->P[i]? = some x->vs[i]? = some v->kindOf x≠some .local ->
 bindC kindOf (P.zip vs) m x=some v
 |[],_,_,_,_,h,_,_=>by simp at h
 |_::_,[],_,_,_,_,h,_=>by simp at h
 |p::P,w::vs,0,m,nd,h1,h2,hk=>by
  simp at h1 h2;subst h1;subst h2
  show bindC kindOf ((p,w)::P.zip vs) m p=_
  unfold bindC
  rw[Lu fun v hv=>(qCh.mp nd).1 (qCi hv).1,if_neg hk]
  simp
 |p::P,w::vs,i+1,m,nd,h1,h2,hk=>by
  show bindC kindOf ((p,w)::P.zip vs) m x=_
  unfold bindC
  exact K6 (i:=i) (qCh.mp nd).2 (by simpa using h1) (by simpa using h2) hk
def start (N:List Str)(vs:List V):St:=vs.map some++List.replicate (N.length-vs.length) none
def K9 (CX:CXT)(P:Program)(w:World)(K:W.Frag)(mg:Str->Option Value)(base:Heap)(N:List Str)(qual:Str)(scope:Scope)(f:Addr)(cd:Value)(A:Around)(outer:List Env)(s:Shared)(H:Hp)(E:XK):Cx where
 prog:=P
 w:=w
 K:=K
 mg:=mg
 base:=base
 A:=A.deeper (envOfC qual scope s.heap.objs.size f cd)
 N:=N
 s₀:=s
 H₀:=H
 env:=envOfC qual scope s.heap.objs.size f cd
 outer:=outer
 stack:=envOfC qual scope s.heap.objs.size f cd::outer
 ex:=[]
 calm:=true
 fn:=fun _=>true
 pn:=[]
 xe:=fun e s'=>wpAny (model P w) (A.deeper (envOfC qual scope s.heap.objs.size f cd)) (leaving (envOfC qual scope s.heap.objs.size f cd) e) (fun _ s''=>CX outer H s E e s'') (fun e' s''=>CX outer H s E e' s'') s'
theorem M5 {sc:Scope}{n:Nat}{x:Str}(h:sc.names.lookup x=some .cell):∃c,(cellsFrom n sc.names []).lookup x=some c:=by
 have q:=qB6 sc.names n [] (.inl h)
 exact qA4.mp q
theorem LU {CX:CXT}{P:Program}{w:World}{K:W.Frag}{mg:Str->Option Value}{base:Heap}{N ps:List Str}{qual:Str}{scope:Scope}{f:Addr}{cd:Value}{A:Around}{outer:List Env}{s s1:Shared}{H:Hp}{E:XK}{us:List Value}{vs:List V}
 (S:Ad N ps scope) (hd:A.handled=none) (e0:Vi P w K mg base A outer s H) (hl:vs.length=ps.length) (r:B8 vs us)
 (x:InCallC s s.heap.objs.size (bindL (envOfC qual scope s.heap.objs.size f cd).kindOf (ps.zip us) fun _=>none) (cellsFrom (s.heap.objs.size+1) scope.names []) (bindC (envOfC qual scope s.heap.objs.size f cd).kindOf (ps.zip us) fun _=>none) s1) :
 Inv (K9 CX P w K mg base N qual scope f cd A outer s H E) [] (start N vs) H s1:=by
 have hpl:ps.length<=N.length:=by have:=congrArg List.length S.pre;rw[qAU] at this;omega
 obtain⟨h1,tk,rfl,hk⟩:=x.done
 have noA:∀b:Addr,b∉(K9 CX P w K mg base N qual scope f cd A outer s H E).ex:=fun b z=>absurd (show b∈([]:List Addr) from z) (by simp)
 refine#[#[e0.mod,S.kind,rfl,rfl,qAf _,fun y z c h1 h2=>?_,fun y hy=>?_,fun y c _ h=>?_,fun _=>hd,Around.frames_deeper e0.frames,.inr #[rfl,rfl],fun b z=>absurd z (noA b),e0.bs,e0.bsz,fun b _ _=>noA b,fun b z=>absurd z (noA b),e0.funs,e0.frf,e0.tb],
  rfl,e0.bare,Un.kept hk,#[_,x.toInCall.ns,fun i y v h1 h2 h3=>?_],fun y c h=>#[_,x.cell y c h],e0.hok.fresh (qAf _),fun y c h=>?_,fun p hp=>absurd (show p∈([]:List (Addr×Obj)) from hp) (by simp),e0.hok.kept hk,?_]
 .exact name_of_addr x.apart (PySem.mem_of_lookup h1) (PySem.mem_of_lookup h2)
 .have hy:scope.names.lookup y=some .cell\/scope.names.lookup y=some .free:=hy
  rcases hy with hy|hy
  .exact M5 hy
  .exact absurd rfl (S.nofree _ (PySem.mem_of_lookup hy))
 .exact qBr (x.above y c (PySem.mem_of_lookup h))
 .have hi:i<vs.length:=by
   unfold start at h2
   by_cases hi:i<vs.length
   .exact hi
   .rw[qAu (by simpa using hi)] at h2
    rw[qCF] at h2
    split at h2<;>cases h2
  have ha:vs[i]? = some v:=by
   unfold start at h2
   rw[qAp (by simpa using hi),qAc] at h2
   cases e:vs[i]? with
   |none=>rw[e] at h2;cases h2
   |some a=>rw[e] at h2;cases h2;rfl
  obtain⟨u,hu,rv⟩:=r.get ha
  have hp:ps[i]? = some y:=by
   rw[<-S.pre,qBH ()];exact h1
  have ndP:ps.Nodup:=by rw[<-S.pre];exact S.nd.sublist (List.take_sublist _ _)
  refine#[u,rv,?_]
  rcases S.par y (qAK hp) with k|k
  .exact .inl #[k,LJ ndP hp hu k]
  .obtain⟨c,e⟩:=M5 (n:=s.heap.objs.size+1) k
   refine .inr #[.inl k,c,e,?_]
   have q:=x.cell y c e
   rw[K6 ndP hp hu (by show scope.names.lookup y≠_;rw[k];decide)] at q
   exact q
 .exact e0.hok.fresh (qBr (x.above y c (PySem.mem_of_lookup h)))
 .unfold start
  show _=N.length
  rw[qAw,qAa,List.length_replicate]
  omega
theorem R5 {CX:CXT}{P:Program}{w:World}{K:W.Frag}{mg:Str->Option Value}{base:Heap}{k:Nat}{f:Addr}{name qual:Str}{params:Arguments}{body:List Stmt}{scope:Scope}{dV kV doc pm cdv ct oc:Value}{an od:Option Addr}
 {osl:Array (Option Value)}{N ps:List Str}{sp:Sp}(lk:K.lookup f=some #[oc,od,.func (W.fnOf name qual params body scope dV kV doc pm an cdv ct),osl]) (hcd:W.codeIn K cdv qual=true) (S:Ad N ps scope)
 (len:∀vs H Q E,sp vs H Q E->vs.length=ps.length)
 (hbody:∀(A:Around)(outer:List Env)(s:Shared)(H:Hp)(vs:List V)(Q:VK)(E:XK),E9 k (A.deeper (envOfC qual scope s.heap.objs.size f cdv))->sp vs H Q E ->
  ∃t,PSs (K9 CX P w K mg base N qual scope f cdv A outer s H E) body t/\t { nx:=fun _ H'=>Q .non H',rt:=Q } (start N vs) H) :
 Aq P w K mg base CX (k+1) f (W.fnOf name qual params body scope dV kV doc pm an cdv ct) ps sp:=by
 refine#[len,fun A outer s H args us vs Q E hr e0 hb r hsp=>?_]
 have hl:=len _ _ _ _ hsp
 have KX:K.In s.heap:=e0.mod.kin.keeps fun b o e=>(e0.bs b o e).1
 have lim:s.heap.NoLimit:=e0.mod.nolimit.keeps fun b o e=>(e0.bs b o e).1
 have hkind:∀y∈ps.zip us,scope.names.lookup y.1=some .local\/(scope.names.lookup y.1=some .cell/\((cellsFrom (s.heap.objs.size+1) scope.names []).lookup y.1).isSome=true):=fun#[n,v] hy=>by
  rcases S.par n (qCi hy).1 with q|q
  .exact .inl q
  .exact .inr #[q,qB6 _ _ _ (.inl q)]
 refine codeAny_call_function hr.depth (KX _ _ lk) rfl S.co S.gen rfl (W.codeRec_of KX hcd) (hb _ _ _ _ ?_)
 refine wpAny_newFunctionEnv_cells S.kind hkind fun env he s1 x=>?_
 subst he
 refine#[lim.keeps x.toInCall.keep,codeAny_func ?_]
 obtain⟨t,ht,hq⟩:=hbody A outer s H vs Q E (hr.deeper _) hsp
 have I:Inv (K9 CX P w K mg base N qual scope f cdv A outer s H E) [] (start N vs) H s1:=LU S hr.hd e0 hl r x
 refine wpAny_mono (ht [] s1 (start N vs) H _ I hq) (fun fl s' hs=>?_) fun e s' hs=>hs
 have fin:∀{σ':St}{H':Hp}{v:V}{u:Value},Inv (K9 CX P w K mg base N qual scope f cdv A outer s H E) [] σ' H' s'->CK v u->Q v H'->CE outer P w H s Q u s' :=
  fun {σ' H' v u} J rv q=>#[v,H',J.os,J.bare,J.base,J.hok,rv,q]
 cases fl with
 |ret u =>
  obtain⟨v,σ',H',J,rv,q⟩:=hs
  exact fin J rv q
 |next =>
  obtain⟨σ',H',J,q⟩:=hs
  exact fin (v:=V.non) (u:=Value.none) J rfl q
 |brk =>
  obtain⟨_,_,_,q⟩:=hs
  exact False.elim q
 |cont =>
  obtain⟨_,_,_,q⟩:=hs
  exact False.elim q
section
variable {X:Cx}{x:Str}{p pos:Pos}{e:Expr}{es:List Expr}{t:TA}{id T:String}{r:List V->Hp->VK->Prop}
def tCB (r:List V->Hp->VK->Prop)(t:TA):TE:=fun σ H Q=>t σ H fun vs H1=>r vs H1 Q
theorem Kc (hc:Jq X (.builtin id) r)(hg:Gl X x)(hm:X.mg x=none)(hv:bootBuiltins x=some (.builtin id))(ha:PA X (e::es) t)(hn:x≠"__name__":=by decide)(hdb:(x==("__debug__":Str))=false:=by decide)
 (he:starEach (e::es) X.env=(false,eval e X.env)::starEach es X.env:=by rfl)(hpl:(backTo pos (starEach es X.env)).any (·.1)=false:=by rfl):PE X (.Call (.Name x p) (e::es) [] pos) (tCB r t):=by
 intro pins s σ H Q I h
 refine wpAny_Call_Name_kw (HE I hg hm hv ?_ hn hdb)
 exact PyProof.Rows.callWith_builtin1 (thn (ha pos pins s σ H _ I h) fun us s1 #[vs,H1,I1,r1,q1]=>hc pins s1 σ H1 vs us Q I1 r1 q1) he hpl
theorem Qj (hc:Jq X (.type T) r)(hg:Gl X x)(hm:X.mg x=none)(hv:bootBuiltins x=some (.type T))(ha:PA X (e::es) t)(hn:x≠"__name__":=by decide)(hdb:(x==("__debug__":Str))=false:=by decide)
 (he:starEach (e::es) X.env=(false,eval e X.env)::starEach es X.env:=by rfl)(hpl:(backTo pos (starEach es X.env)).any (·.1)=false:=by rfl):PE X (.Call (.Name x p) (e::es) [] pos) (tCB r t):=by
 intro pins s σ H Q I h
 refine wpAny_Call_Name_kw (HE I hg hm hv ?_ hn hdb)
 exact qBe (thn (ha pos pins s σ H _ I h) fun us s1 #[vs,H1,I1,r1,q1]=>hc pins s1 σ H1 vs us Q I1 r1 q1) he hpl
end
end L2
namespace HT
open PySem PyProof.Rows
section
open PySem.SeqAt
open PySem.AutoSeq1 (wpAny_loadPart')
open PySem.MeetsSeq PySem.MeetsSeq2 PySem.MeetsSeq3
end
section
variable {prog:Program}{w:World}{A:Around}{E:Value->Shared->Prop}{s:Shared}
theorem cat_tup {t b:Addr}{vs ws:List Value}{Q:Value->Shared->Prop}(ht:IsTup s.heap t vs.toArray) (hb:IsTup s.heap b ws.toArray) (hv:vs≠[])
 (h1:ws=[]->Q (.ref t) s) (h2:ws≠[]->Q (.ref s.heap.objs.size) { s with heap:=s.heap.push { cls:=.type "tuple",data:=.seq (vs++ws).toArray } })
 (hsz:vs.length+ws.length<=sizeLine):wpAny (model prog w) A (binaryOp .Add (.ref t) (.ref b)) Q E s:=by
 obtain⟨⟨cls,dd,data,sl⟩,ho,hc,n,hd⟩:=id ht
 obtain⟨⟨cls2,dd2,data2,sl2⟩,ho2,hc2,n2,hd2⟩:=id hb
 simp only at hc hd hc2 hd2
 subst hc hd hc2 hd2
 have e:vs.toArray++ws.toArray=(vs++ws).toArray:=by simp
 by_cases hw:ws=[]
 .exact concat_meets #[_,ho,rfl] #[_,ho2,rfl] noFill_tuple_add seq_tuple_add qCL qCG (qCA _ _)
   (tuple_addW1 t b vs.toArray ws.toArray n n2 dd dd2 sl sl2 (by simpa using hv) (by simp[hw])) #[ho,ho2,h1 hw]
 .refine concat_meets #[_,ho,rfl] #[_,ho2,rfl] noFill_tuple_add seq_tuple_add qCL qCG (qCA _ _)
   (tuple_addW2 t b vs.toArray ws.toArray n n2 dd dd2 sl sl2 (by simpa using hv) (by simpa using hw) (by rw[qAF,qAF];exact hsz)) #[ho,ho2,?_]
  rw[e]
  exact h2 hw
def sIx (n d:Nat):Option Int->Nat
 |none=>d
 |some v=>if v<0 then (v+(n:Int)).toNat else min v.toNat n
theorem sIx_none (n d:Nat):sIx n d none=d:=rfl
theorem sIx_nat (n d k:Nat):sIx n d (some (k:Int))=min k n:=by
 show(if (k:Int)<0 then ((k:Int)+(n:Int)).toNat else min (k:Int).toNat n)=min k n
 rw[if_neg (),qBR]
theorem VH (n d:Nat)(hd:d<=n)(o:Option Int):sIx n d o<=n:=by
 cases o with
 |none=>exact hd
 |some v =>
  show(if v<0 then (v+(n:Int)).toNat else min v.toNat n)<=n
  by_cases hv:v<0
  .rw[if_pos hv];omega
  .rw[if_neg hv];exact Nat.min_le_right _ _
theorem P1 (v:Int)(n d:Nat):(if v<0 then max (v+(n:Int)) 0 else min v (n:Int))=((sIx n d (some v):Nat):Int):=by
 show(if v<0 then max (v+(n:Int)) 0 else min v (n:Int))=(((if v<0 then (v+(n:Int)).toNat else min v.toNat n):Nat):Int)
 by_cases hv:v<0
 .simp only[if_pos hv];omega
 .simp only[if_neg hv];omega
theorem Oa (lo hi:Option Int)(n:Nat):Builtin.Slice.sliceAdjust lo hi 1 (n:Int)=(((sIx n 0 lo:Nat):Int),((sIx n n hi:Nat):Int)):=by
 have h1:¬((1:Int)<0):=()
 unfold Builtin.Slice.sliceAdjust
 simp only[h1,if_false]
 refine Prod.ext ?_ ?_
 .cases lo with
  |none=>rfl
  |some v=>exact P1 v n 0
 .cases hi with
  |none=>rfl
  |some v=>exact P1 v n n
theorem N5 (i j:Nat):Builtin.Slice.slicePlaces (i:Int) (j:Int) 1=j-i:=by
 unfold Builtin.Slice.slicePlaces
 have h1:(1:Int)>0:=()
 simp only[h1,if_true,Int.ediv_one]
 split<;>omega
theorem JS {v:Value}{o:Option Int}{Q:Option Int->Shared->Prop}(p:IsPart v o) (h:Q o s):wpAny (model prog w) A (Builtin.Slice.slicePartIndex v) Q E s:=by
 cases p with
 |none=>exact slicePart_none h
 |int i t=>exact slicePart_int h
theorem HL {sl:Addr}{vl vu:Value}{lo hi:Option Int}{n:Nat}{Q:Int×Int×Nat->Shared->Prop}(hs:s.heap.IsSliceOf sl vl vu .none) (pl:IsPart vl lo) (pu:IsPart vu hi)
 (h:Q (((sIx n 0 lo:Nat):Int),1,sIx n n hi-sIx n 0 lo) s):wpAny (model prog w) A (Builtin.Slice.sliceApplied (.ref sl) (pure (n:Int))) Q E s:=by
 obtain⟨os,hos,hcs,hds⟩:=id hs
 unfold Builtin.Slice.sliceApplied Builtin.Slice.sliceFields
 refine wpAny_bind (wpAny_bind (wpAny_field hos hds (x:=vl) rfl (wpAny_bind (wpAny_field hos hds (x:=vu) rfl (wpAny_bind (wpAny_field hos hds (x:=.none) rfl (wpAny_pure ?_)))))))
 refine wpAny_bind (slicePart_none ?_)
 show wpAny _ _ (if ((1:Int)==0)=true then _ else _) _ _ s
 rw[if_neg ∅]
 refine wpAny_bind (JS pl (wpAny_bind (JS pu (wpAny_bind (wpAny_pure ?_)))))
 show wpAny _ _ (match Builtin.Slice.sliceAdjust lo hi 1 (n:Int) with|(lo,hi)=>pure (lo,(1:Int),Builtin.Slice.slicePlaces lo hi 1)) _ _ s
 rw[Oa lo hi n]
 show wpAny _ _ (pure (((sIx n 0 lo:Nat):Int),(1:Int),Builtin.Slice.slicePlaces ((sIx n 0 lo:Nat):Int) ((sIx n n hi:Nat):Int) 1)) _ _ s
 rw[N5]
 exact wpAny_pure h
theorem Sd (xs:Array Value)(i k:Nat):((List.range k).filterMap fun(m:Nat)=>xs[((i:Int)+(m:Int)*1).toNat]?).toArray=((xs.toList.drop i).take k).toArray:=by
 have e:(fun(m:Nat)=>xs[((i:Int)+(m:Int)*1).toNat]?)=fun m=>xs[i+m]? := by
  funext m
  have:((i:Int)+(m:Int)*1).toNat=i+m:=()
  rw[this]
 rw[e]
 have:=pick_run xs i k
 rw[qBy] at this
 have e2:((fun x=>xs[x]?) ∘ fun x=>i+x)=fun m=>xs[i+m]? := rfl
 rw[e2] at this
 rw[this]
theorem getItem_tuple_cut {t sl:Addr}{items:Array Value}{vl vu:Value}{lo hi:Option Int}{Q:Value->Shared->Prop}(ht:IsTup s.heap t items) (hs:s.heap.IsSliceOf sl vl vu .none) (pl:IsPart vl lo) (pu:IsPart vu hi)
 (hw:¬(sIx items.size 0 lo=0/\sIx items.size items.size hi=items.size))
 (h:Q (.ref s.heap.objs.size) { s with heap:=s.heap.push { cls:=.type "tuple",data:=.seq ((items.toList.drop (sIx items.size 0 lo)).take (sIx items.size items.size hi-sIx items.size 0 lo)).toArray } })
 (hsz:items.size<=sizeLine):wpAny (model prog w) A (getItem (.ref t) (.ref sl)) Q E s:=by
 have htake:sizeOk (.seq ((items.toList.drop (sIx items.size 0 lo)).take (sIx items.size items.size hi-sIx items.size 0 lo)).toArray):=by
  show((items.toList.drop (sIx items.size 0 lo)).take (sIx items.size items.size hi-sIx items.size 0 lo)).toArray.size<=sizeLine
  rw[qAF,qAU,qAL,Array.length_toList]
  omega
 have hj:sIx items.size items.size hi<=items.size:=VH _ _ (qAf _) hi
 obtain⟨os,hos,hcs,hds⟩:=id hs
 have hTs:s.TypeIs (.ref sl) "slice":=#[os,hos,hcs]
 unfold getItem
 try with_reducible refine wpAny_holding ?_
 first|refine wpAny_bind (wpAny_pure ?_)|skip
 refine wpAny_bind (wpAny_sequenceKey ht.typeIs ∅ ?_)
 refine wpAny_bind (wpAny_callSpecial?_slot (name:=Str.ofString "__getitem__") ht.typeIs qCg
  (wpAny_call_entry qCg ht.typeIs entry_tuple_getitem ?_ (args_tuple_getitem _ _)))
 show wpAny _ _ (Builtin.Tuple.tupleItemsOf (.ref t) >>= _) _ _ s
 refine wpAny_bind (tupleItemsOf_ ht ?_)
 refine wpAny_bind (wpAny_typeOf hTs ?_)
 rw[if_pos ∅]
 refine wpAny_bind (HL hs pl pu ?_)
 have hno:¬((((sIx items.size 0 lo:Nat):Int)==0&&(1:Int)==1&&(sIx items.size items.size hi-sIx items.size 0 lo)==items.size)=true):=by
  intro q
  rw[qAV,qAV] at q
  have q1:((sIx items.size 0 lo:Nat):Int)=0:=eq_of_beq q.1.1
  have q2:sIx items.size items.size hi-sIx items.size 0 lo=items.size:=eq_of_beq q.2
  exact hw #[(),()]
 show wpAny _ _ (if (((sIx items.size 0 lo:Nat):Int)==0&&(1:Int)==1&&(sIx items.size items.size hi-sIx items.size 0 lo)==items.size)=true then _ else _) _ _ s
 rw[if_neg hno,Sd]
 first
  |exact wpAny_bind (m:=Builtin.Tuple.tupleExact _) (wpAny_newObj_type (wpAny_pure #[_,rfl,wpAny_pure h]) htake)
  |exact wpAny_bind (m:=Builtin.Tuple.tupleExact _) (wpAny_newObj_type (wpAny_bind (wpAny_pure (wpAny_pure #[_,rfl,wpAny_pure h]))) htake)
  |exact wpAny_bind (wpAny_bind (m:=Builtin.Tuple.tupleExact _) (wpAny_newObj_type (wpAny_pure (wpAny_pure #[_,rfl,wpAny_pure h])) htake))
  |exact wpAny_bind (wpAny_bind (m:=Builtin.Tuple.tupleExact _) (wpAny_newObj_type (wpAny_pure #[_,rfl,wpAny_pure h]) htake))
end
end HT
namespace L2
open PySem PySem.Spec PyProof.Rows
abbrev TO:=St->Hp->(Option Int->Hp->Prop)->Prop
def PO (X:Cx)(e:Option Expr)(t:TO):Prop :=
 ∀(pins:List (Addr×Obj))(s:Shared)(σ:St)(H:Hp)(Q:Option Int->Hp->Prop),Inv X pins σ H s->t σ H Q ->
  wpAny (model X.prog X.w) X.A (evalPart e X.env) (fun u s'=>∃o H',Inv X pins σ H' s'/\IsPart u o/\Q o H') X.xe s
def Uv:TO:=fun _ H Q=>Q none H
def X7 (t:TE):TO:=fun σ H Q=>t σ H fun x H1=>∃i,x=.int i/\Q (some i) H1
section
variable {X:Cx}{e:Expr}{te:TE}{lo hi:Option Expr}{tl th:TO}{pos p2:Pos}
theorem UT:PO X none Uv:=by
 intro pins s σ H Q I h
 rw[evalPart_none]
 exact wpAny_pure #[none,H,I,.none,h]
theorem To (h:PE X e te):PO X (some e) (X7 te):=by
 intro pins s σ H Q I hw
 rw[evalPart_some]
 refine thn (h pins s σ H _ I hw) fun u s1 hh=>?_
 obtain⟨x,H1,I1,r1,q1⟩:=hh
 obtain⟨i,rfl,q⟩:=q1
 obtain⟨t,rfl⟩:=r1
 exact#[some i,H1,I1,.int i t,q]
def SlR (X:Cx)(r:V->Option Int->Option Int->Hp->VK->Prop):Prop :=
 ∀(pins:List (Addr×Obj))(s:Shared)(σ:St)(H:Hp)(x:V)(v vl vu:Value)(lo hi:Option Int)(sl:Addr)(Q:VK),Inv X pins σ H s->CK x v->s.heap.IsSliceOf sl vl vu .none->IsPart vl lo->IsPart vu hi->r x lo hi H Q ->
  ∃T id,typeLookup (.type T) "__getitem__"=pure (some (.builtin id))/\s.TypeIs v T/\wpAny (model X.prog X.w) X.A (getItem v (.ref sl)) (EP X pins σ Q) X.xe s
theorem SlR.or {r r':V->Option Int->Option Int->Hp->VK->Prop}(h:SlR X r) (h':SlR X r'):SlR X (fun x lo hi H Q=>r x lo hi H Q\/r' x lo hi H Q):=by
 intro pins s σ H x v vl vu lo hi sl Q I rx hs pl pu q
 rcases q with q|q
 .exact h pins s σ H x v vl vu lo hi sl Q I rx hs pl pu q
 .exact h' pins s σ H x v vl vu lo hi sl Q I rx hs pl pu q
def tSl (r:V->Option Int->Option Int->Hp->VK->Prop)(te:TE)(tl th:TO):TE:=fun σ H Q=>te σ H fun x H1=>tl σ H1 fun l H2=>th σ H2 fun u H3=>r x l u H3 Q
theorem Rx {r:V->Option Int->Option Int->Hp->VK->Prop}(hr:SlR X r) (he:PE X e te) (hl:PO X lo tl) (hu:PO X hi th):PE X (.Subscript e (.Slice lo hi none p2) pos) (tSl r te tl th):=by
 intro pins s σ H Q I h
 refine Subscript_ (thn (he pins s σ H _ I h) fun v s1 hh=>?_)
 obtain⟨x,H1,I1,r1,q1⟩:=hh
 refine wpAny_Slice (thn (hl pins s1 σ H1 _ I1 q1) fun vl s2 #[l,H2,I2,pl,q2]=>thn (hu pins s2 σ H2 _ I2 q2) fun vu s3 hh=>?_)
 obtain⟨u,H3,I3,pu,q3⟩:=hh
 rw[evalPart_none]
 refine wpAny_pure ?_
 have I4:Inv X pins σ H3 { s3 with heap:=s3.heap.push { cls:=.type "slice",data:=.fields (List.toArray [vl,vu,.none]) } }:=I3.kept (t':=s3.toks) fun b ob q=>qAh _ q
 obtain⟨T,id,hT,ht,hg⟩:=hr pins { s3 with heap:=s3.heap.push { cls:=.type "slice",data:=.fields (List.toArray [vl,vu,.none]) } } σ H3 x v vl vu l u s3.heap.objs.size Q I4 r1 (Heap.IsSliceOf.new ..) pl pu q3
 show wpAny (model X.prog X.w) X.A (subscriptTail e (.Slice lo hi none p2) v (.ref s3.heap.objs.size)) (EP X pins σ Q) X.xe { s3 with heap:=s3.heap.push { cls:=.type "slice",data:=.fields (List.toArray [vl,vu,.none]) } }
 exact tail_any (ops:=[.ref s3.heap.objs.size,v]) ht hT hg (by with_unfolding_all rfl)
def OH (xs:List V)(lo hi:Option Int):List V:=(xs.drop (HT.sIx xs.length 0 lo)).take (HT.sIx xs.length xs.length hi-HT.sIx xs.length 0 lo)
theorem Iu (xs:List V)(lo hi:Option Int):(OH xs lo hi).length<=xs.length:=by
 unfold OH
 rw[qAU,qAL]
 omega
def YO (K:W.Frag):V->Option Int->Option Int->Hp->VK->Prop:=fun x lo hi H Q=>∃a xs,x=.ref a/\SqT K H a xs /\
 ¬(HT.sIx xs.length 0 lo=0/\HT.sIx xs.length xs.length hi=xs.length)/\∀p,H p=none->Q (.ref p) (upd H p (.tup (OH xs lo hi)))
theorem V4:SlR X (YO X.K):=by
 intro pins s σ H x v vl vu lo hi sl Q I rx hs pl pu h
 obtain⟨a,xs,rfl,hx,hw,q⟩:=h
 cases rx
 obtain⟨its,r,ht,hz⟩:=I.tuple hx
 have hlen:its.toArray.size=xs.length:=by rw[qAF];exact r.length.symm
 refine#["tuple",_,PyProof.Rows.slot_tuple_getitem.lookup,ht.typeIs,?_]
 refine HT.getItem_tuple_cut ht hs pl pu (by rw[hlen];exact hw) ?_ (by rw[hlen];exact hz)
 rw[hlen]
 refine#[.ref s.heap.objs.size,_,I.laid (t':=s.toks) (o:=.tup (OH xs lo hi)) (fun b ob q=>qAh _ q) (qAf _) ?_,rfl,q _ (I.hok.fresh (qAf _))]
 exact#[qAD (Iu xs lo hi) hz,_,(r.drop (HT.sIx xs.length 0 lo)).take (HT.sIx xs.length xs.length hi-HT.sIx xs.length 0 lo),IsTup.new _ _]
def XB (K:W.Frag):R2:=fun x y H Q=>∃a b xs ys,x=.ref a/\y=.ref b/\SqT K H a xs/\SqT K H b ys/\xs≠[]/\xs.length+ys.length<=sizeLine /\
 (ys=[]->Q (.ref a) H)/\(ys≠[]->∀p,H p=none->Q (.ref p) (upd H p (.tup (xs++ys))))
theorem B8.nil_iff {xs:List V}{us:List Value}(r:B8 xs us):us=[] ↔ xs=[]:=by
 cases r with
 |nil=>simp
 |cons _ _=>simp
theorem TR:OpR X (binaryOp .Add) (XB X.K):=by
 intro pins s σ H x y v u Q I rx ry h
 obtain⟨a,b,xs,ys,rfl,rfl,ha,hb,hx,hz,q1,q2⟩:=h
 cases rx
 cases ry
 obtain⟨its,r1,p1,_⟩:=I.tuple ha
 obtain⟨its2,r2,p2,_⟩:=I.tuple hb
 refine HT.cat_tup p1 p2 (fun z=>hx (r1.nil_iff.mp z)) (fun z=>#[.ref a,H,I,rfl,q1 (r2.nil_iff.mp z)]) (fun z=>?_) (by rw[<-r1.length,<-r2.length];exact hz)
 refine#[.ref s.heap.objs.size,_,I.laid (t':=s.toks) (o:=.tup (xs++ys)) (fun b ob q=>qAh _ q) (qAf _) ?_,rfl,q2 (fun w=>z (r2.nil_iff.mpr w)) _ (I.hok.fresh (qAf _))]
 exact#[by rw[qAw];exact hz,_,r1.append r2,IsTup.new _ _]
end
def ixN (n:Nat)(i:Int):Option Nat:=if 0<=i then (if i<n then some i.toNat else none) else if -(n:Int)<=i then some (i+n).toNat else none
def atI {α:Type}(xs:List α) (i:Int):Option α:=(ixN xs.length i).bind fun j=>xs[j]?
theorem TU {n:Nat}{i:Int}{j:Nat}(h:ixN n i=some j):seqIndex? i n=some j/\j<n/\-(n:Int)<=i/\i<n:=by
 unfold ixN at h
 by_cases h0:0<=i
 .rw[if_pos h0] at h
  by_cases h1:i<n
  .rw[if_pos h1] at h
   have e:i.toNat=j:=qAn h
   exact#[by rw[seqIndex_of h0 h1,e],(),(),h1]
  .rw[if_neg h1] at h;cases h
 .rw[if_neg h0] at h
  by_cases h1:-(n:Int)<=i
  .rw[if_pos h1] at h
   have e:(i+n).toNat=j:=qAn h
   exact#[by rw[seqIndex_neg () h1,e],(),h1,()]
  .rw[if_neg h1] at h;cases h
theorem OP {α:Type}{xs:List α}{i:Int}{v:α}(h:atI xs i=some v):∃j,seqIndex? i xs.length=some j/\xs[j]? = some v/\j<xs.length/\-(xs.length:Int)<=i/\i<xs.length:=by
 unfold atI at h
 cases e:ixN xs.length i with
 |none=>rw[e] at h;cases h
 |some j =>
  rw[e] at h
  obtain⟨h1,h2,h3,h4⟩:=TU e
  exact#[j,h1,h,h2,h3,h4]
theorem atI_nat {α:Type}{xs:List α}{j:Nat}{v:α}(h:xs[j]? = some v):atI xs (j:Int)=some v:=by
 have hj:j<xs.length:=(qAe.mp h).1
 have e:ixN xs.length (j:Int)=some j:=by
  unfold ixN
  rw[if_pos (),if_pos ()];simp
 unfold atI;rw[e];exact h
def PZ (b:Expr):Prop:=∀o i,subscripted b false o i=operate [o,i] (getItem o i)
def IxR (X:Cx)(r:R2):Prop :=
 ∀(value slice:Expr)(pins:List (Addr×Obj))(s:Shared)(σ:St)(H:Hp)(x y:V)(v u:Value)(Q:VK),Inv X pins σ H s->CK x v->CK y u->r x y H Q ->
  subscripted slice false v u=operate [v,u] (getItem v u)->wpAny (model X.prog X.w) X.A (subscriptTail value slice v u) (EP X pins σ Q) X.xe s
def MtR (X:Cx)(id:String)(r:V->List V->Hp->VK->Prop):Prop :=
 ∀(pins:List (Addr×Obj))(s:Shared)(σ:St)(H:Hp)(x:V)(xs:List V)(v:Value)(us:List Value)(Q:VK),Inv X pins σ H s->CK x v->B8 xs us->r x xs H Q ->
  wpAny (model X.prog X.w) X.A (call (.builtin id) (v::us)) (EP X pins σ Q) X.xe s
section
variable {X:Cx}{a b:Expr}{ta tb:TE}{pos:Pos}
theorem IxR.or {r r':R2}(h:IxR X r) (h':IxR X r'):IxR X (fun x y H Q=>r x y H Q\/r' x y H Q):=by
 intro value slice pins s σ H x y v u Q I rx ry q hs
 rcases q with q|q
 .exact h value slice pins s σ H x y v u Q I rx ry q hs
 .exact h' value slice pins s σ H x y v u Q I rx ry q hs
theorem XF {r:R2}(hr:IxR X r) (ha:PE X a ta) (hb:PE X b tb) (hs:PZ b):PE X (.Subscript a b pos) (tOp r ta tb):=by
 intro pins s σ H Q I h
 exact Subscript_ (Xy ha hb I h fun v u s2 x y H2 I2 rx ry q=>hr a b pins s2 σ H2 x y v u Q I2 rx ry q (hs _ _))
def Zg (K:W.Frag):R2:=fun x y H Q=>∃p xs i v,x=.ref p/\y=.int i/\SqL K H p xs/\atI xs i=some v/\Q v H
def ZB (K:W.Frag):R2:=fun x y H Q=>∃p xs i v,x=.ref p/\y=.int i/\SqT K H p xs/\atI xs i=some v/\Q v H
theorem Tw:IxR X (Zg X.K):=by
 intro value slice pins s σ H x y v u Q I rx ry h hs
 obtain⟨p,xs,i,z,rfl,rfl,hq,he,q⟩:=h
 cases rx
 obtain⟨t,rfl⟩:=ry
 obtain⟨its,r,pl,hz⟩:=I.list hq
 obtain⟨j,h1,h2,h3,h4,h5⟩:=OP he
 obtain⟨w,ew,rw'⟩:=r.get h2
 have hl:=r.length
 have hn:=NP
 have fin:EP X pins σ Q w s:=#[z,H,I,rw',q]
 by_cases h0:0<=i
 .have hj:i.toNat=j:=by
   rw[seqIndex_of h0 h5] at h1
   exact qAn h1
  exact item_listR pl.isList h0 () (by rw[hj];simpa using ew) fin hs
 .have hj:(i+(its.toArray.size:Int)).toNat=j:=by
   rw[seqIndex_neg () h4] at h1
   rw[qAF,<-hl]
   exact qAn h1
  exact subscriptTail_builtinR (x:=w) pl.isList.typeIs slot_list_getitem.lookup
   (wpAny_getItem_list_neg (Q:=fun r s'=>r=w/\EP X pins σ Q r s') pl.isList () (by rw[qAF]<;>omega) () (by rw[hj];simpa using ew) #[rfl,fin]) hs
theorem VS:IxR X (ZB X.K):=by
 intro value slice pins s σ H x y v u Q I rx ry h hs
 obtain⟨p,xs,i,z,rfl,rfl,hq,he,q⟩:=h
 cases rx
 obtain⟨t,rfl⟩:=ry
 obtain⟨its,r,pl,hz⟩:=I.tuple hq
 obtain⟨j,h1,h2,h3,h4,h5⟩:=OP he
 obtain⟨w,ew,rw'⟩:=r.get h2
 have hl:=r.length
 have hn:=NP
 have fin:EP X pins σ Q w s:=#[z,H,I,rw',q]
 exact subscriptTail_builtinR (x:=w) pl.typeIs slot_tuple_getitem.lookup
  (getItem_tuple (j:=j) (Q:=fun r s'=>r=w/\EP X pins σ Q r s') pl () () (by rw[qAF,<-hl];exact h1) (by simpa using ew) #[rfl,fin]) hs
theorem LK (lo hi:Option Int)(n:Nat):(sliceBounds lo hi none n).1=((HT.sIx n 0 lo:Nat):Int)/\(sliceBounds lo hi none n).2.1=((HT.sIx n n hi:Nat):Int)/\(sliceBounds lo hi none n).2.2=1:=by
 refine#[?_,?_,rfl]
 .cases lo with
  |none=>simp[sliceBounds,HT.sIx]
  |some i =>
   simp only[sliceBounds,HT.sIx,Option.getD_none,show(1:Int)>0 from ∅,if_true]
   by_cases h:i<0
   .simp only[h,if_true]<;>omega
   .simp only[h,if_false]<;>omega
 .cases hi with
  |none=>simp[sliceBounds,HT.sIx]
  |some i =>
   simp only[sliceBounds,HT.sIx,Option.getD_none,show(1:Int)>0 from ∅,if_true]
   by_cases h:i<0
   .simp only[h,if_true]<;>omega
   .simp only[h,if_false]<;>omega
theorem Kx (its:List Value)(lo hi:Option Int):slicePick its.toArray lo hi none=((its.drop (HT.sIx its.length 0 lo)).take (HT.sIx its.length its.length hi-HT.sIx its.length 0 lo)).toArray:=by
 obtain⟨h1,h2,h3⟩:=LK lo hi its.toArray.size
 unfold slicePick
 rw[h1,h2,h3]
 simp only[sliceRange_one,pick_run,qAF]<;>rfl
def YT (K:W.Frag):V->Option Int->Option Int->Hp->VK->Prop:=fun x lo hi H Q=>∃a xs,x=.ref a/\SqL K H a xs/\∀p,H p=none->Q (.ref p) (upd H p (.lst (OH xs lo hi)))
theorem Vc:SlR X (YT X.K):=by
 intro pins s σ H x v vl vu lo hi sl Q I rx hs pl pu h
 obtain⟨a,xs,rfl,hx,q⟩:=h
 cases rx
 obtain⟨its,r,ht,hz⟩:=I.list hx
 have hlen:=r.length
 refine#["list",_,slot_list_getitem.lookup,ht.isList.typeIs,?_]
 refine wpAny_getItem_list_slice ht.isList hs pl pu .none (by simp) ?_ (by rw[qAF]<;>omega)
 rw[Kx,<-hlen]
 refine#[.ref s.heap.objs.size,_,I.laid (t':=s.toks) (o:=.lst (OH xs lo hi)) (fun b ob q=>qAh _ q) (qAf _) ?_,rfl,q _ (I.hok.fresh (qAf _))]
 exact#[qAD (Iu xs lo hi) hz,_,0,(r.drop (HT.sIx xs.length 0 lo)).take (HT.sIx xs.length xs.length hi-HT.sIx xs.length 0 lo),qAt _ rfl]
def flatV:V->Bool
 |.non=>true
 |.bl _=>true
 |.int _=>true
 |.str _=>true
 |_=>false
def eqV:V->V->Bool
 |.non,.non=>true
 |.bl a,.bl b=>a==b
 |.bl a,.int b=>(if a then 1 else 0)==b
 |.int a,.bl b=>a==(if b then 1 else 0)
 |.int a,.int b=>a==b
 |.str a,.str b=>a==b
 |_,_=>false
theorem S7 {A:Around}{s:Shared}{y x:V}{u v:Value}(ry:CK y u) (rx:CK x v) (fy:flatV y=true) (fx:flatV x=true):SeqAt.EqAt A s u v (eqV y x):=by
 cases y with
 |non =>
  cases ry
  cases x with
  |non=>cases rx;exact SeqAt.EqAt.same _
  |bl b=>cases rx;exact SeqAt.EqAt.none_bool b
  |int b=>obtain⟨t,rfl⟩:=rx;exact SeqAt.EqAt.none_int b t
  |str b=>obtain⟨t,rfl⟩:=rx;exact SeqAt.EqAt.none_str b t
  |_=>exact absurd (show false=true from fx) qAs
 |bl a =>
  cases ry
  cases x with
  |non=>cases rx;exact SeqAt.EqAt.bool_none a
  |bl b=>cases rx;exact SeqAt.EqAt.bool_bool a b
  |int b=>obtain⟨t,rfl⟩:=rx;exact SeqAt.EqAt.bool_int a b t
  |str b=>obtain⟨t,rfl⟩:=rx;exact SeqAt.EqAt.bool_str a b t
  |_=>exact absurd (show false=true from fx) qAs
 |int a =>
  obtain⟨t',rfl⟩:=ry
  cases x with
  |non=>cases rx;exact SeqAt.EqAt.int_none a t'
  |bl b=>cases rx;exact SeqAt.EqAt.int_bool a t' b
  |int b=>obtain⟨t,rfl⟩:=rx;exact SeqAt.EqAt.int_int a t' b t
  |str b=>obtain⟨t,rfl⟩:=rx;exact SeqAt.EqAt.int_str a t' b t
  |_=>exact absurd (show false=true from fx) qAs
 |str a =>
  obtain⟨t',rfl⟩:=ry
  cases x with
  |non=>cases rx;exact SeqAt.EqAt.str_none a t'
  |bl b=>cases rx;exact SeqAt.EqAt.str_bool a t' b
  |int b=>obtain⟨t,rfl⟩:=rx;exact SeqAt.EqAt.str_int a t' b t
  |str b=>obtain⟨t,rfl⟩:=rx;exact SeqAt.EqAt.str_str a t' b t
  |_=>exact absurd (show false=true from fx) qAs
 |_=>exact absurd (show false=true from fy) qAs
theorem LX:Jq X (.builtin "len") (fun xs H Q=>∃p ys,xs=[.ref p]/\(SqL X.K H p ys\/SqT X.K H p ys)/\Q (.int ys.length) H):=by
 intro pins s σ H xs us Q I r h
 obtain⟨p,ys,rfl,hq,q⟩:=h
 obtain⟨u,rfl,rx⟩:=OD r
 cases rx
 have hn:=NP
 rcases hq with hq|hq
 .obtain⟨its,r',pl,hz⟩:=I.list hq
  have hlen:=r'.length
  exact Calls.call_len_list pl.isList (by simp only[qAF]<;>omega) #[.int ys.length,H,I.tok _,#[s.toks+1,by rw[qAF,hlen]],q]
 .obtain⟨its,r',pl,hz⟩:=I.tuple hq
  have hlen:=r'.length
  exact len_tuple pl (by simp only[qAF]<;>omega) #[.int ys.length,H,I.tok _,#[s.toks+1,by rw[qAF,hlen]],q]
theorem Km:Jq X (.type "tuple") (fun xs H Q=>∃p ys,xs=[.ref p]/\((SqL X.K H p ys/\∀l,H l=none->Q (.ref l) (upd H l (.tup ys)))\/(SqT X.K H p ys/\Q (.ref p) H))):=by
 intro pins s σ H xs us Q I r h
 obtain⟨p,ys,rfl,h⟩:=h
 obtain⟨u,rfl,rx⟩:=OD r
 cases rx
 rcases h with⟨hq,q⟩|⟨hq,q⟩
 .obtain⟨its,r',pl,hz⟩:=I.list hq
  have hlen:=r'.length
  refine call_tuple_list pl.isList (fun h' kp=>?_) (by simp only[qAF]<;>omega)
  have I1:Inv X pins σ H { s with heap:=h' }:=I.kept (t':=s.toks) kp
  have I2:Inv X pins σ (upd H h'.objs.size (.tup ys)) { s with heap:=h'.push { cls:=.type "tuple",data:=.seq its.toArray } } :=
   I1.laid (t':=s.toks) (fun b o e=>qAh _ e) (qAf _) (show Dt X.prog X.w _ _ _ (.tup ys) from #[hz,its,r',IsTup.new _ _])
  exact#[.ref h'.objs.size,_,I2,rfl,q _ (I1.hok.fresh (qAf _))]
 .obtain⟨its,r',pl,hz⟩:=I.tuple hq
  exact call_tuple_same pl #[.ref p,H,I,rfl,q]
def tyV (K:W.Frag)(T:String)(x:V)(H:Hp):Prop:=match x with
 |.str _=>T="str"
 |.int _=>T="int"
 |.ref p=>(T="list"/\∃xs,SqL K H p xs)\/(T="tuple"/\∃o,K.lookup p=some o/\o.cls=.type "tuple"/\o.dict=none) \/
  (T="dict"/\((∃kvs,H p=some (.dK kvs))\/∃kvs,H p=some (.dT kvs)))\/(T="set"/\∃S n,H p=some (.set S n))
 |_=>False
theorem WV {pins:List (Addr×Obj)}{σ:St}{H:Hp}{s:Shared}{T:String}{x:V}{v:Value}(I:Inv X pins σ H s) (r:CK x v) (ty:tyV X.K T x H) :
 s.TypeIs v T/\∀a,v=.ref a->∃ob,s.heap.get? a=some ob/\ob.dict=none:=by
 cases x with
 |str z =>
  obtain⟨t,rfl⟩:=r
  cases (show T="str" from ty)
  exact#[typeIs_str s z t,fun _ e=>nomatch e]
 |int i =>
  obtain⟨t,rfl⟩:=r
  cases (show T="int" from ty)
  exact#[typeIs_int s i t,fun _ e=>nomatch e]
 |ref p =>
  cases r
  rcases ty with⟨rfl,xs,hq⟩|⟨rfl,o,hk,hc,hd⟩|⟨rfl,hk⟩|⟨rfl,S,n,hk⟩
  .obtain⟨its,_,pl,_⟩:=I.list hq
   refine#[pl.isList.typeIs,fun a e=>?_]
   cases e
   obtain⟨o,n,e,c,hd,_⟩:=pl
   exact#[o,e,hd]
  .refine#[#[o,I.kIn p o hk,hc],fun a e=>?_]
   cases e
   exact#[o,I.kIn _ o hk,hd]
  .have z:∃o,s.heap.get? p=some o/\o.ExactDict:=by
    rcases hk with⟨kvs,hk⟩|⟨kvs,hk⟩
    .obtain⟨_,_,_,_,o,_,_,e,ex,_⟩:=I.hok p _ hk
     exact#[o,e,ex]
    .obtain⟨_,_,_,_,o,_,_,e,ex,_⟩:=I.hok p _ hk
     exact#[o,e,ex]
   obtain⟨o,e,ex⟩:=z
   refine#[#[o,e,ex.1],fun a e2=>?_]
   cases e2
   exact#[o,e,ex.2.1]
  .obtain⟨o,_,_,_,e,ex,_⟩:=I.hok p _ hk
   refine#[#[o,e,ex.1],fun a e2=>?_]
   cases e2
   exact#[o,e,ex.2.1]
 |_=>exact False.elim ty
def tBM (K:W.Frag)(T:String)(r:V->List V->Hp->VK->Prop)(to:TE)(t:TA):TE:=fun σ H Q=>to σ H fun x H1=>tyV K T x H1/\t σ H1 fun xs H2=>r x xs H2 Q
variable {o e:Expr}{es:List Expr}{to:TE}{t:TA}{name:Str}{apos cpos:Pos}{T id:String}{r:V->List V->Hp->VK->Prop}
theorem Fn (pa:PlainAttrs T)(slot:Slot T name id)(hty:typeOf (.builtin id)=pure (.type "method_descriptor"))(hm:MtR X id r)(ho:PE X o to)(ha:PA X (e::es) t)
 (hbase:attributeBase o name X.env (eval o X.env)=eval o X.env:=by rfl)
 (hfew:((backTo cpos (starEach (e::es) X.env)).all (fun x=>!x.1)&&(backToKw cpos (keywordEach [] X.env)).all (fun x=>x.1.isSome)
  && decide ((e::es).length+([]:List Keyword).length+(if ([]:List Keyword).isEmpty then 0 else 1)<30))=true:=by rfl)
 (hline:(apos.endLine==cpos.line)=true:=by rfl) (hs:starEach (e::es) X.env=(false,eval e X.env)::starEach es X.env:=by rfl) (hplain:(backTo cpos (starEach es X.env)).any (·.1)=false:=by rfl) :
 PE X (.Call (.Attribute o name apos) (e::es) [] cpos) (tBM X.K T r to t):=by
 intro pins s σ H Q I h
 refine wpAny_Call_method_late hbase hfew hline rfl (thn (ho pins s σ H _ I h) fun v s1 hh=>?_)
 obtain⟨x,H1,I1,r1,ty,q1⟩:=hh
 obtain⟨h1,h2⟩:=WV I1 r1 ty
 refine#[T,id,pa,slot,hty,h1,h2,?_]
 have hA:=ha cpos pins s1 σ H1 _ I1 q1
 rw[hs] at hA ⊢
 refine Calls.callWith_builtin (by show(false||(backTo cpos (starEach es X.env)).any (·.1))=false;rw[hplain]<;>rfl) (Calls.evalArgs_plain ?_)
 exact thn hA fun us s2 #[vs,H2,I2,r2,q2]=>hm pins s2 σ H2 x vs v us Q I2 r1 r2 q2
end
def MtM (X:Cx)(id:String)(r:V->List V->Hp->VK->Prop):Prop :=
 ∀(pins:List (Addr×Obj))(s:Shared)(σ:St)(H:Hp)(x:V)(xs:List V)(v:Value)(us:List Value)(Q:VK),Inv X pins σ H s->CK x v->B8 xs us->r x xs H Q ->
  wpAny (model X.prog X.w) X.A (call (.builtin id) (v::us)) (EP X pins σ Q) X.xe s
theorem B8.one:∀{x:V}{us:List Value},B8 [x] us->∃u,us=[u]/\CK x u
 |_,_,.cons r .nil=>#[_,rfl,r]
theorem B8.reverse {xs:List V}{us:List Value}(h:B8 xs us):B8 xs.reverse us.reverse:=by
 induction h with
 |nil=>exact .nil
 |cons r t ih=>rw[List.reverse_cons,List.reverse_cons];exact B8.append ih (.cons r .nil)
section
variable {X:Cx}{pins:List (Addr×Obj)}{σ:St}{H:Hp}{s:Shared}{l b:Addr}{xs ys zs:List V}
theorem Inv.lset {its its':List Value}{n:Nat}{f:Array Value->Array Value}{t':Nat}(I:Inv X pins σ H s) (hH:H l=some (.lst xs))
 (e:s.heap.get? l=some { cls:=.type "list",data:=.seq its.toArray n }) (hf:f its.toArray=its'.toArray) (hv:B8 ys its') (hz:ys.length<=sizeLine) :
 Inv X pins σ (upd H l (.lst ys)) { s with heap:=s.heap.update l (Obj.mapSeq f),toks:=t' }:=by
 have q:=PySem.IsL.update e f
 rw[hf] at q
 refine I.write (x:=l) (e:=l) (by rw[hH];exact trivial) (.inl rfl) (fun b' u hb hu=>(Heap.get?_update_other s.heap (Obj.mapSeq f) (Ne.symm hb)).trans hu) #[_,q] ?_
 exact#[hz,its',_,hv,q]
theorem Inv.lnew {its:List Value}{t':Nat}(I:Inv X pins σ H s) (hv:B8 ys its) (hz:ys.length<=sizeLine) :
 Inv X pins σ (upd H s.heap.objs.size (.lst ys)) { s with heap:=s.heap.push { cls:=.type "list",data:=.seq its.toArray },toks:=t' } :=
 I.laid (fun _ _ q=>qAh _ q) (qAf _) #[hz,its,0,hv,qAt _ rfl]
theorem Inv.fresh (I:Inv X pins σ H s):H s.heap.objs.size=none:=I.hok.fresh (qAf _)
theorem Inv.lstM (I:Inv X pins σ H s)(hH:H l=some (.lst xs)):xs.length<=sizeLine/\∃(its:List Value)(n:Nat),B8 xs its/\xs.length=its.length/\s.heap.get? l=some { cls:=.type "list",data:=.seq its.toArray n }:=by
 obtain⟨z,its,n,r,e⟩:=I.hok l _ hH
 exact#[z,its,n,r,r.length,e]
end
section
variable {X:Cx}
def P6:V->List V->Hp->VK->Prop:=fun x vs H Q=>∃l xs y,x=.ref l/\vs=[y]/\H l=some (.lst xs)/\xs.length<sizeLine/\Q .non (upd H l (.lst (xs++[y])))
theorem AN:MtM X "list.append" P6:=by
 intro pins s σ H x vs v us Q I rx rv h
 obtain⟨l,xs,y,rfl,rfl,hH,hz,q⟩:=h
 cases rx
 obtain⟨u,rfl,ru⟩:=rv.one
 obtain⟨z,its,n,r,hl,e⟩:=I.lstM hH
 refine call_meets F.slot_list_append #[_,e,rfl] F.entry_list_append (F.args_list_append_2 _ _) (PySem.list_append l its.toArray n u (by rw[qAF];omega)) #[e,?_]
 refine#[.non,_,I.lset (its':=its++[u]) hH e (by simp) (r.append (.cons ru .nil)) ?_,rfl,q]
 rw[qAw,List.length_singleton]
 omega
def Zv:R2:=fun x y H Q=>∃l b xs zs,x=.ref l/\y=.ref b/\H l=some (.lst xs)/\H b=some (.lst zs)/\xs.length+zs.length<=sizeLine/\∀p,H p=none->Q (.ref p) (upd H p (.lst (xs++zs)))
theorem VA:OpR X (binaryOp .Add) Zv:=by
 intro pins s σ H x y v u Q I rx ry h
 obtain⟨l,b,xs,zs,rfl,rfl,hH,hB,hz,q⟩:=h
 cases rx
 cases ry
 obtain⟨z,its,n,r,hl,e⟩:=I.lstM hH
 obtain⟨z2,its2,n2,r2,hl2,e2⟩:=I.lstM hB
 refine PySem.P.add_list e e2 ?_ (by rw[qAF,qAF];omega)
 have ea:its.toArray++its2.toArray=(its++its2).toArray:=by simp
 rw[ea]
 exact#[.ref _,_,I.lnew (t':=s.toks) (r.append r2) (by rw[qAw];omega),rfl,q _ I.fresh]
end
section
variable {prog:Program}{w:World}{A:Around}{E:Value->Shared->Prop}{s:Shared}
end
section
variable {X:Cx}
end
end L2
namespace Att
open PySem PySem.W PySem.Calls PyProof.Rows
theorem Ir {P:Params}{h:Heap}:∀(ns:List Int)(vs:List Value),WellAll P h vs (ns.map WData.int)->IntsAre vs ns:=by
 intro ns
 induction ns with
 |nil =>
  intro vs w
  rw[qCW] at w
  cases w
  exact .nil
 |cons n ns ih =>
  intro vs w
  rw[qCb] at w
  cases w with
  |cons a b =>
   cases a
   exact .cons _ _ (ih _ b)
theorem Pn {l:OpenLaw}{n:Nat}(hn:l.most=some n){P:Params}{h:Heap}{args:List WData}{vals:List Value}
 (hpre:l.row.toRowW.claim.pre args=true) (hwl:WellAll P h vals args) :
 ∃a vs ns,vals=[Value.ref a]/\args=[WData.list (ns.map WData.int)]/\h.get? a=some { cls:=.type "list",data:=.seq vs.toArray }/\IntsAre vs ns/\ns.length<=n:=by
 have hsh:WShape.hasAll [] args [.list .int]=true:=(pre_splitW hpre).1
 have hc:l.pre.holds [] { args:=args }=true:=(pre_splitW hpre).2
 obtain⟨d,r,rfl,h1,h2⟩:=hasAllW_cons hsh
 obtain rfl:=hasAllW_nil h2
 obtain⟨xs,rfl,h3⟩:=hasW_list h1
 obtain⟨ns,rfl⟩:=items_int h3
 have hlen:ns.length<=n:=by
  unfold OpenLaw.pre at hc
  have h4:(WTm.not (.lt (.lit (.int (n:Int))) (.len (.arg 0)))).holds [] { args:=[.list (ns.map .int)] }=true:=by
   have h4:=(holds_andW hc).1
   rw[hn] at h4
   exact h4
  have h5:=condW_of h4 (w_not (w_lt w_lit (w_len_list (w_arg rfl))))
  rw[qAa] at h5
  refine qCB fun q=>?_
  have q':(n:Int)<((ns.length:Nat):Int):=()
  first
   |(rw[decide_eq_true q'] at h5;exact absurd h5 ∅)
   |(simp at h5;omega)
 cases hwl with
 |cons w1 w2 =>
  cases w2
  cases w1 with
  |list ho hall=>exact#[_,_,ns,rfl,rfl,ho,Ir ns _ hall,hlen]
theorem QY (l:OpenLaw)(args:List WData):l.row.toRowW.claim.post args (.bool true) args=true :=
 postW_of (r:=l.row.toRowW) (X:=(true==true))
  (show WShape.has [] (.bool true) .bool=true by first|rfl|decide|simp[WShape.has,WShape.arms,WShape.armsAll])
  (show(WTm.eq .res (.lit (.bool true))).value [] { args:=args,res:=some (.bool true),after:=args }=some (.bool (true==true)) from w_eq_bool (w_res rfl) w_lit) rfl
theorem attach_call {l:OpenLaw}{n:Nat}{q:Program}{loose:List Str}{XP:(Str->Option Value)->Heap->Prop}{YP:World->Heap->Prop}{d:DefRec}
 (hn:l.most=some n) (hdf:d.params.defaults=[])
 (call:∀(w:World)(s₀ s₁:Shared)(mg mb:Str->Option Value)(fa:Addr)(o:Obj)(pm cd doc:Value)(a:Addr)(vs:List Value)(ns:List Int),
  Ground q loose [] XP w s₀ mg mb s₁.heap->YP w s₁.heap ->
  s₁.heap.get? fa=some o->o.data=.func (docDef d.name d.params d.body d.scope pm cd doc)->s₁.heap.CodeRec cd d.name->mg d.name=some (.ref fa) ->
  s₁.heap.get? a=some { cls:=.type "list",data:=.seq vs.toArray }->IntsAre vs ns->ns.length<=n->s₁.gens=(List.toArray []) ->
  codeAny (model l.prog w) callerA (.call (.ref fa) #[[.ref a],[]]) (fun r s'=>r=.ok (.ret (.bool true))/\OldK s₁.heap s'.heap/\s'.os=s₁.os/\AllBare s'.gens) s₁) :
 WalkO q loose XP YP l.row.toRowW d [] (fun f vs=>PySem.call f vs):=by
 intro w s₀ s₁ mg mb G Y fa o pm cd doc dV kV ho hd hcd hD hmg hg args vals as hpre hlay hrd hwl hlo
 obtain rfl:dV=.none:=Dflts.none hD hdf
 obtain rfl:kV=.none:=Dflts.noKw hD
 obtain⟨a,vs,ns,rfl,rfl,hobj,hints,hlen⟩:=Pn hn hpre hwl
 refine enter_call (codeAny_mono (call w s₀ s₁ mg mb fa o pm cd doc a vs ns G Y ho (fd_plain hd) hcd hmg hobj hints hlen hg) fun r s' hq=>?_)
 obtain⟨rfl,h2,h3,h4⟩:=hq
 exact#[.inl #[.bool true,.bool true,[],rfl,fun _=>rfl,.bool true,QY l _,fun _=>#[List.Pairwise.nil,fun _ hm=>(nomatch hm)]],h2,h3,h4]
section
variable {prog:Program}{w:World}{A:Around}{E:Value->Shared->Prop}{s:Shared}{K:Frag}
end
end Att
namespace L2
open PySem PySem.Spec PyProof.Rows
theorem Gs:∀{vs:List Value}{ns:List Int},IntsAre vs ns->B8 (ns.map V.int) vs
 |_,_,.nil=>.nil
 |_,_,.cons n t h=>.cons #[t,rfl] (Gs h)
abbrev CX0:CXT:=fun _ _ _ _ _ _=>False
abbrev E0:XK:=fun _ _ _=>False
theorem XZ {X:Cx}:Qr CX0 X E0:=fun _ _ _ _ _ _ _ h=>h.elim
structure Fun (K:W.Frag)(x qual:Str)(st:Stmt)(f:Addr)(fd:FuncData):Prop where
 ex:∃(oc:Value)(od:Option Addr)(kV doc pm:Value)(an:Option Addr)(cdv ct:Value)(osl:Array (Option Value)),
  fd=W.fnOf x qual (F3 st) (Ce st) (Ab st) .none kV doc pm an cdv ct/\K.lookup f=some #[oc,od,.func fd,osl]/\W.codeIn K cdv qual=true
 kp:W.keepIn K (.ref f)=true
section
variable {P:Program}{w:World}{K:W.Frag}{mg:Str->Option Value}{base:Heap}
theorem Fun.ok {x qual:Str}{st:Stmt}{f:Addr}{fd:FuncData}{N ps:List Str}{k:Nat}{sp:Sp}(F:Fun K x qual st f fd) (S:Ad N ps (Ab st)) (len:∀vs H Q E,sp vs H Q E->vs.length=ps.length)
 (hbody:∀(cdv:Value)(A:Around)(outer:List Env)(s:Shared)(H:Hp)(vs:List V)(Q:VK)(E:XK),E9 k (A.deeper (envOfC qual (Ab st) s.heap.objs.size f cdv))->sp vs H Q E ->
  ∃t,PSs (K9 CX0 P w K mg base N qual (Ab st) f cdv A outer s H E).nox (Ce st) t/\t { nx:=fun _ H'=>Q .non H',rt:=Q } (start N vs) H):Aq P w K mg base CX0 (k+1) f fd ps sp:=by
 obtain⟨oc,od,kV,doc,pm,an,cdv,ct,osl,rfl,lk,hcd⟩:=F.ex
 refine R5 lk hcd S len fun A outer s H vs Q E hr hsp=>?_
 obtain⟨t,h,q⟩:=hbody cdv A outer s H vs Q E hr hsp
 exact#[t,h.nox,q]
theorem Fun.binds {x qual:Str}{st:Stmt}{f:Addr}{fd:FuncData}{ps:List Str}(F:Fun K x qual st f fd)
 (h:∀(kV doc pm:Value)(an:Option Addr)(cdv ct:Value)(us:List Value),us.length=ps.length->bindArgs (W.fnOf x qual (F3 st) (Ce st) (Ab st) .none kV doc pm an cdv ct) #[us,[]]=pure (ps.zip us)):Binds K fd ps []:=by
 obtain⟨oc,od,kV,doc,pm,an,cdv,ct,osl,rfl,lk,hcd⟩:=F.ex
 exact .all (h kV doc pm an cdv ct)
theorem M4 {x qual:Str}{st:Stmt}{f:Addr}{oc:Value}{od an:Option Addr}{osl:Array (Option Value)}{kV doc pm cdv ct:Value}(l:K.lookup f=some #[oc,od,.func (W.fnOf x qual (F3 st) (Ce st) (Ab st) .none kV doc pm an cdv ct),osl])
 (c:W.codeIn K cdv qual=true) (k:W.keepIn K (.ref f)=true):Fun K x qual st f (W.fnOf x qual (F3 st) (Ce st) (Ab st) .none kV doc pm an cdv ct):=#[#[oc,od,kV,doc,pm,an,cdv,ct,osl,rfl,l,c],k]
end
theorem Qq {n:Nat}(h:n<=1000):n<sizeLine:=Nat.lt_of_le_of_lt h ∅
section
variable {X:Cx}
theorem pv (i:Nat){x:Str}{pos:Pos}(hN:X.N[i]? = some x:=by rfl) (hv:Vis X.env.scope x:=by first|exact Or.inl rfl|exact Or.inr (Or.inl rfl)|exact Or.inr (Or.inr rfl)) (hd:(x==("__debug__":Str))=false:=by decide)
 (hcd:(x==("__classdict__":Str))=false:=by decide):PE X (.Name x pos) (OW i):=VZ hN hv hd hcd
end
def Bw (H H':Hp):Prop:=∀b o,H b=some o->H' b=some o
theorem Bw.refl (H:Hp):Bw H H:=fun _ _ h=>h
theorem Bw.trans {H H1 H2:Hp}(a:Bw H H1) (b:Bw H1 H2):Bw H H2:=fun c o h=>b c o (a c o h)
theorem Bw.free {H H':Hp}(e:Bw H H'){l:Addr}(h:H' l=Option.none):H l=Option.none:=by
 cases q:H l with
 |none=>rfl
 |some o =>
  rw[e l o q] at h
  cases h
theorem Bw.seq {K:W.Frag}{H H':Hp}{a:Addr}{xs:List V}(e:Bw H H') (h:SqL K H a xs):SqL K H' a xs:=by
 rcases h with (h|⟨o,h⟩)|h
 .exact .inl (.inl (e _ _ h))
 .exact .inl (.inr #[o,e _ _ h])
 .exact .inr h
end L2
set_option maxHeartbeats 4000000
namespace CH
def g (a b:Int):Int:=(Int.gcd a b:Int)
theorem V6 {a b:Int}(h:b≠0):0<g a b:=by
 have:=Int.gcd_pos_of_ne_zero_right a h
 unfold g;omega
theorem SY {x y:Int}(hy:0<y):g y (x%y)=g x y:=by
 unfold g
 have e:x%y=x-y*(x/y):=Int.emod_def x y
 rw[e,Int.gcd_sub_mul_left_right,Int.gcd_comm]
theorem W3 {x:Int}(hx:0<=x):g x 0=x:=by
 unfold g;rw[Int.gcd_zero];omega
theorem VP (a b:Int):g (if a<0 then -a else a) (if b<0 then -b else b)=g a b:=by
 unfold g
 split<;>split<;>simp
theorem QL (a b:Int):g a b ∣ a:=Int.gcd_dvd_left a b
theorem PN (a b:Int):g a b ∣ b:=Int.gcd_dvd_right a b
def cm (a b:Int):Int:=if b<0 then -(g a b) else g a b
theorem JK {a c:Int}(h:c ∣ a) (hc:c≠0):Int.fdiv a c*c=a:=by
 obtain⟨k,rfl⟩:=h
 rw[Int.mul_comm c k,qCp _ hc]
theorem IY {a b:Int}(hb:b≠0):Int.fdiv a (cm a b)=(Rat.divInt a b).num/\Int.fdiv b (cm a b)=((Rat.divInt a b).den:Int):=by
 have hg:=V6 (a:=a) hb
 have d1:=QL a b
 have d2:=PN a b
 rw[Rat.num_divInt,Rat.den_divInt,if_neg hb]
 have eg:((b.gcd a:Nat):Int)=g a b:=by unfold g;rw[Int.gcd_comm]
 rw[Int.natCast_ediv,eg]
 unfold cm
 split
 .rename_i h
  rw[qBW h]
  have e1:(-1*a)/g a b=Int.fdiv a (-(g a b)):=by
   obtain⟨k,hk⟩:=d1
   have:-1*a=(-k)*g a b:=⋯
   rw[this,Int.mul_ediv_cancel _ ()]
   have:a=(-k)*(-(g a b)):=⋯
   have q:=qCp (-k) (show -(g a b)≠0 from ())
   rw[<-this] at q
   exact q.symm
  have e2:((b.natAbs:Nat):Int)/g a b=Int.fdiv b (-(g a b)):=by
   obtain⟨k,hk⟩:=d2
   have hn:((b.natAbs:Nat):Int)=-b:=()
   rw[hn]
   have:-b=(-k)*g a b:=⋯
   rw[this,Int.mul_ediv_cancel _ ()]
   have:b=(-k)*(-(g a b)):=⋯
   have q:=qCp (-k) (show -(g a b)≠0 from ())
   rw[<-this] at q
   exact q.symm
  exact#[e1.symm,e2.symm]
 .rename_i h
  have hp:0<b:=()
  rw[qB7 hp,Int.one_mul]
  have hn:((b.natAbs:Nat):Int)=b:=()
  rw[hn,qBX _ (),qBX _ ()]
  exact#[rfl,rfl]
theorem Oo {a b:Int}(hb:b≠0):cm a b≠0:=by
 have:=V6 (a:=a) hb
 unfold cm;split<;>omega
theorem den_pos (q:Rat):1<=(q.den:Int):=by have:=q.den_pos;omega
theorem GO (q:Rat):(q.num:Rat)=q*q.den:=by
 have h:=qB2 q
 rw[qAG] at h
 have hd:((q.den:Int):Rat)≠0:=by
  have:=q.den_nz
  simp[this]
 have e:((q.den:Int):Rat)=(q.den:Rat):=rfl
 rw[e] at h hd
 grind
theorem den_ne (q:Rat):(q.den:Rat)≠0:=by have:=q.den_nz;simp[this]
theorem lt_iff (p q:Rat):p.num*(q.den:Int)<q.num*(p.den:Int) ↔ p<q:=(Rat.lt_iff p q).symm
theorem QI (p q:Rat):Rat.divInt (p.num*q.den+q.num*p.den) ((p.den:Int)*q.den)=p+q:=by
 rw[qAG,qBs,qAo,qAo,qAo,GO p,GO q]
 have h1:=den_ne p
 have h2:=den_ne q
 have e1:((p.den:Int):Rat)=(p.den:Rat):=rfl
 have e2:((q.den:Int):Rat)=(q.den:Rat):=rfl
 rw[e1,e2]
 grind
theorem NC (p q:Rat):Rat.divInt (p.num*q.den-q.num*p.den) ((p.den:Int)*q.den)=p-q:=by
 rw[qAG,qBt,qAo,qAo,qAo,GO p,GO q]
 have h1:=den_ne p
 have h2:=den_ne q
 have e1:((p.den:Int):Rat)=(p.den:Rat):=rfl
 have e2:((q.den:Int):Rat)=(q.den:Rat):=rfl
 rw[e1,e2]
 grind
theorem Na (p q:Rat):Rat.divInt (p.num*q.num) ((p.den:Int)*q.den)=p*q:=by
 rw[qAG,qAo,qAo,GO p,GO q]
 have h1:=den_ne p
 have h2:=den_ne q
 have e1:((p.den:Int):Rat)=(p.den:Rat):=rfl
 have e2:((q.den:Int):Rat)=(q.den:Rat):=rfl
 rw[e1,e2]
 grind
theorem PC (p q:Rat)(hq:q≠0):Rat.divInt (p.num*q.den) ((p.den:Int)*q.num)=p/q:=by
 rw[qAG,qAo,qAo,GO p,GO q]
 have h1:=den_ne p
 have h2:=den_ne q
 have e1:((p.den:Int):Rat)=(p.den:Rat):=rfl
 have e2:((q.den:Int):Rat)=(q.den:Rat):=rfl
 rw[e1,e2]
 grind
def Sz (k:Nat)(q:Rat):Prop:=q.num.natAbs<2^k/\q.den<2^k
theorem Qw {k m:Nat}(h:k<=m):2^k<=2^m:=Nat.pow_le_pow_right ∅ h
theorem Sz.mono {k m:Nat}{q:Rat}(h:Sz k q) (hk:k<=m):Sz m q:=#[qAv h.1 (Qw hk),qAv h.2 (Qw hk)]
theorem Go {a c x:Int}(h:x*c=a) (hc:c≠0):x.natAbs<=a.natAbs:=by
 rw[<-h,Int.natAbs_mul]
 exact Nat.le_mul_of_pos_right _ ()
theorem D9 {a b:Int}{k:Nat}(hb:b≠0) (h1:a.natAbs<2^k) (h2:b.natAbs<2^k):Sz k (Rat.divInt a b):=by
 have p:=IY (a:=a) hb
 have d1:cm a b ∣ a:=by
  unfold cm;split
  .exact Int.neg_dvd.mpr (QL a b)
  .exact QL a b
 have d2:cm a b ∣ b:=by
  unfold cm;split
  .exact Int.neg_dvd.mpr (PN a b)
  .exact PN a b
 have e1:=Go (JK d1 (Oo hb)) (Oo hb)
 have e2:=Go (JK d2 (Oo hb)) (Oo hb)
 rw[p.1] at e1
 rw[p.2] at e2
 have e3:(((Rat.divInt a b).den:Int)).natAbs=(Rat.divInt a b).den:=Int.natAbs_natCast _
 rw[e3] at e2
 exact#[(),()]
theorem Ak {a b:Int}{k m:Nat}(h1:a.natAbs<2^k) (h2:b.natAbs<2^m):(a*b).natAbs<2^(k+m):=by
 rw[Int.natAbs_mul,Nat.pow_add]
 exact Nat.mul_lt_mul'' h1 h2
theorem HB {a b:Int}{k:Nat}(h1:a.natAbs<2^k) (h2:b.natAbs<2^k):(a+b).natAbs<2^(k+1):=by
 rw[Nat.pow_succ]
 generalize 2^k=p at *
 omega
theorem GB {a b:Int}{k:Nat}(h1:a.natAbs<2^k) (h2:b.natAbs<2^k):(a-b).natAbs<2^(k+1):=by
 rw[Nat.pow_succ]
 generalize 2^k=p at *
 omega
theorem Ay {k:Nat}{q:Rat}(h:Sz k q):((q.den:Int)).natAbs<2^k:=by rw[Int.natAbs_natCast];exact h.2
theorem NW (p q:Rat):(p.den:Int)*(q.den:Int)≠0:=by
 have h1:=den_pos p
 have h2:=den_pos q
 exact Int.mul_ne_zero () ()
theorem AU {k m:Nat}{x:Nat}(h:x<2^k) (e:k<=m):x<2^m:=qAv h (Qw e)
theorem Sz.add {k m:Nat}{p q:Rat}(hp:Sz k p) (hq:Sz m q):Sz (k+m+1) (p+q):=by
 rw[<-QI]
 have a1:=Ak hp.1 (Ay hq)
 have a2:=Ak hq.1 (Ay hp)
 have a3:=Ak (Ay hp) (Ay hq)
 rw[qBS m k] at a2
 exact D9 (NW p q) (HB a1 a2) (AU a3 (qBZ _))
theorem Sz.sub {k m:Nat}{p q:Rat}(hp:Sz k p) (hq:Sz m q):Sz (k+m+1) (p-q):=by
 rw[<-NC]
 have a1:=Ak hp.1 (Ay hq)
 have a2:=Ak hq.1 (Ay hp)
 have a3:=Ak (Ay hp) (Ay hq)
 rw[qBS m k] at a2
 exact D9 (NW p q) (GB a1 a2) (AU a3 (qBZ _))
theorem Sz.mul {k m:Nat}{p q:Rat}(hp:Sz k p) (hq:Sz m q):Sz (k+m) (p*q):=by
 rw[<-Na]
 exact D9 (NW p q) (Ak hp.1 hq.1) (Ak (Ay hp) (Ay hq))
theorem Sz.neg {k:Nat}{p:Rat}(hp:Sz k p):Sz k (-p):=#[by rw[Rat.neg_num,Int.natAbs_neg];exact hp.1,hp.2]
theorem Sz.zero:Sz 1 0:=#[∅,∅]
theorem Sz.den_ne {k:Nat}{p q:Rat}(hq:q≠0):(p.den:Int)*q.num≠0:=by
 have h1:=den_pos p
 have h2:q.num≠0:=fun z=>hq (Rat.num_eq_zero.mp z)
 exact Int.mul_ne_zero () h2
theorem Sz.div {k m:Nat}{p q:Rat}(hp:Sz k p) (hq:Sz m q) (h0:q≠0):Sz (k+m) (p/q):=by
 rw[<-PC p q h0]
 exact D9 (Sz.den_ne (k:=0) h0) (Ak hp.1 (Ay hq)) (Ak (Ay hp) hq.1)
end CH
namespace L3
open PySem PySem.Spec PyProof.Rows L2
abbrev St:=L2.St
def M0:Expr->Bool
 |.Starred .. => true
 |_=>false
theorem Dz {e:Expr}{es:List Expr}{env:Env}(h:M0 e=false):starEach (e::es) env=(false,eval e env)::starEach es env:=by
 cases e<;>first|rfl|cases h
theorem Gy {pos:Pos}{env:Env}:∀{es:List Expr},es.all (fun e=>!M0 e)=true->(backTo pos (starEach es env)).any (·.1)=false
 |[],_=>rfl
 |e::es,h=>by
  rw[List.all_cons,qAV] at h
  have h1:M0 e=false:=by
   cases q:M0 e with
   |false=>rfl
   |true=>rw[q] at h;exact absurd h.1 ∅
  rw[Dz h1]
  show(false||(backTo pos (starEach es env)).any (·.1))=false
  rw[Gy h.2]
  rfl
inductive D where
 |non|bl (b:Bool)|int (i:Int)|str (x:Str)|ty (n:String)|tup (xs:List D)|lst (xs:List D)|ref (a:Addr)
inductive S where
 |d (x:D)|l (xs:List D)|r (xs:List D)
def S.isL:S->Bool
 |.d _=>false
 |_=>true
def S.share:S->S
 |.l xs=>.r xs
 |s=>s
def S.own:S->Bool
 |.l _=>true
 |_=>false
inductive Is (K:W.Frag)(H:Hp):V->D->Prop where
 |non:Is K H .non .non
 |bl (b:Bool):Is K H (.bl b) (.bl b)
 |int (i:Int):Is K H (.int i) (.int i)
 |str (x:Str):Is K H (.str x) (.str x)
 |ty (n:String):Is K H (.ty n) (.ty n)
 |ref (a:Addr):Is K H (.ref a) (.ref a)
 |tup {a:Addr}{vs:List V}{xs:List D}(h:SqT K H a vs) (hl:vs.length=xs.length) (r:∀(i:Nat)(v:V)(x:D),vs[i]? = some v->xs[i]? = some x->Is K H v x):Is K H (.ref a) (.tup xs)
 |lst {a:Addr}{vs:List V}{xs:List D}(h:H a=some (.lst vs)) (hl:vs.length=xs.length) (r:∀(i:Nat)(v:V)(x:D),vs[i]? = some v->xs[i]? = some x->Is K H v x):Is K H (.ref a) (.lst xs)
def Iss (K:W.Frag)(H:Hp)(vs:List V)(xs:List D):Prop :=
 vs.length=xs.length/\∀(i:Nat)(v:V)(x:D),vs[i]? = some v->xs[i]? = some x->Is K H v x
structure HZ where
 h:Hp
 z:Hp
structure Ext (p q:HZ):Prop where
 hh:Bw p.h q.h
 zz:Bw p.z q.z
 sub:Bw q.z q.h
 new:∀a o,q.z a=some o->p.z a=some o\/p.h a=none
theorem Ext.refl {p:HZ}(h:Bw p.z p.h):Ext p p:=#[Bw.refl _,Bw.refl _,h,fun _ _ e=>.inl e]
theorem Ext.trans {p q r:HZ}(a:Ext p q) (b:Ext q r):Ext p r:=#[a.hh.trans b.hh,a.zz.trans b.zz,b.sub,fun c o e=>by
 rcases b.new c o e with e|e
 .exact a.new c o e
 .exact .inr (a.hh.free e)]
theorem Ext.grow {H H' z:Hp}(h:Bw z H) (e:Bw H H'):Ext #[H,z] #[H',z]:=#[e,Bw.refl _,h.trans e,fun _ _ e=>.inl e]
theorem BX {H:Hp}{p:Addr}(h:H p=none) (o:HO):Bw H (upd H p o):=fun b u q=>by rw[Ag (Ao q h)];exact q
theorem Ext.freeze {p q:HZ}{a:Addr}{o:HO}(e:Ext p q) (n:p.h a=none) (nz:q.z a=none) (h:q.h a=some o):Ext p #[q.h,upd q.z a o]:=by
 refine#[e.hh,e.zz.trans (BX nz o),fun b u hb=>?_,fun b u hb=>?_]
 .by_cases z:b=a
  .subst z
   have hb':upd q.z b o b=some u:=hb
   rw[Ap] at hb'
   cases hb'
   exact h
  .have hb':upd q.z a o b=some u:=hb
   rw[Ag z] at hb'
   exact e.sub b u hb'
 .by_cases z:b=a
  .subst z;exact .inr n
  .have hb':upd q.z a o b=some u:=hb
   rw[Ag z] at hb'
   exact e.new b u hb'
theorem Ext.own {H z:Hp}{a:Addr}(h:Bw z H) (n:H a=none) (o:HO):Ext #[H,z] #[upd H a o,z]:=Ext.grow h (BX n o)
theorem Ext.lay {H z:Hp}{a:Addr}(h:Bw z H) (n:H a=none) (o:HO):Ext #[H,z] #[upd H a o,upd z a o] :=
 (Ext.own h n o).freeze n (h.free n) Ap
def IsS (K:W.Frag)(p:HZ)(v:V):S->Prop
 |.d x=>Is K p.z v x
 |.l xs=>∃a vs,v=.ref a/\p.h a=some (.lst vs)/\Iss K p.z vs xs
 |.r xs=>∃a vs,v=.ref a/\SqL K p.h a vs/\Iss K p.z vs xs
section
variable {K:W.Frag}{H H':Hp}{p q:HZ}{a:Addr}{v:V}{x:D}{vs:List V}{xs:List D}
theorem SqT.same (e:Bw H H')(h:SqT K H a vs):SqT K H' a vs:=by
 rcases h with (h|⟨o,h⟩)|h
 .exact .inl (.inl (e _ _ h))
 .exact .inl (.inr #[o,e _ _ h])
 .exact .inr h
theorem Is.mono (e:Bw H H')(h:Is K H v x):Is K H' v x:=by
 induction h with
 |non=>exact .non
 |bl b=>exact .bl b
 |int i=>exact .int i
 |str y=>exact .str y
 |ty n=>exact .ty n
 |ref a=>exact .ref a
 |tup h hl r ih=>exact .tup (SqT.same e h) hl ih
 |lst h hl r ih=>exact .lst (e _ _ h) hl ih
theorem Iss.mono (e:Bw H H')(h:Iss K H vs xs):Iss K H' vs xs:=#[h.1,fun i v x h1 h2=>(h.2 i v x h1 h2).mono e]
theorem Iss.nil:Iss K H [] []:=#[rfl,fun i v x h=>by simp at h]
theorem Iss.snoc (t:Iss K H vs xs)(h:Is K H v x):Iss K H (vs++[v]) (xs++[x]):=by
 refine#[by simp[t.1],fun i w y h1 h2=>?_]
 by_cases hi:i<vs.length
 .rw[qAp hi] at h1
  rw[qAp (by have:=t.1;omega)] at h2
  exact t.2 i w y h1 h2
 .rw[qAu ()] at h1
  rw[qAu (by have:=t.1;omega)] at h2
  have e:i-vs.length=0:=by
   have:=(qAe.mp h1).1
   simp at this
   omega
  have e2:i-xs.length=0:=by have:=t.1;omega
  rw[e] at h1
  rw[e2] at h2
  simp at h1 h2
  subst h1;subst h2
  exact h
theorem IsS.mono {s:S}(e:Ext p q) (h:IsS K p v s):IsS K q v s:=by
 cases s with
 |d x=>exact Is.mono e.zz h
 |l xs =>
  obtain⟨a,vs,e1,h1,h2⟩:=h
  exact#[a,vs,e1,e.hh _ _ h1,h2.mono e.zz]
 |r xs =>
  obtain⟨a,vs,e1,h1,h2⟩:=h
  exact#[a,vs,e1,e.hh.seq h1,h2.mono e.zz]
theorem IsS.share {s:S}(h:IsS K p v s):IsS K p v s.share:=by
 cases s with
 |d x=>exact h
 |l xs =>
  obtain⟨a,vs,e1,h1,h2⟩:=h
  exact#[a,vs,e1,SqL.of h1,h2]
 |r xs=>exact h
theorem Is.tup_inv {xs:List D}(h:Is K H v (.tup xs)):∃a vs,v=.ref a/\SqT K H a vs/\Iss K H vs xs:=by
 cases h with
 |tup h hl r=>exact#[_,_,rfl,h,hl,r]
theorem Is.lst_inv {xs:List D}(h:Is K H v (.lst xs)):∃a vs,v=.ref a/\SqL K H a vs/\Iss K H vs xs:=by
 cases h with
 |lst h hl r=>exact#[_,_,rfl,SqL.of h,hl,r]
theorem Is.lst_own {xs:List D}(h:Is K H v (.lst xs)):∃a vs,v=.ref a/\H a=some (.lst vs)/\Iss K H vs xs:=by
 cases h with
 |lst h hl r=>exact#[_,_,rfl,h,hl,r]
theorem Is.int_inv {i:Int}(h:Is K H v (.int i)):v=.int i:=by cases h;rfl
theorem Is.bl_inv {i:Bool}(h:Is K H v (.bl i)):v=.bl i:=by cases h;rfl
theorem Is.non_inv (h:Is K H v .non):v=.non:=by cases h;rfl
theorem Is.str_inv {i:Str}(h:Is K H v (.str i)):v=.str i:=by cases h;rfl
end
abbrev Tau:=List (Option S)
def Fr3 (K:W.Frag)(p q:HZ)(v:V)(s:S):Prop:=∀xs a,s=.l xs->v=.ref a->p.h a=none/\K.lookup a=none/\q.z a=none
structure Rep (X:Cx)(b:HZ)(τ:Tau)(σ:St)(p:HZ):Prop where
 len:σ.length=τ.length
 ext:Ext b p
 val:∀(i:Nat)(s:S),τ[i]? = some (some s)->∃v,σ[i]? = some (some v)/\IsS X.K p v s
 own:∀(i:Nat)(xs:List D)(a:Addr),τ[i]? = some (some (.l xs))->σ[i]? = some (some (.ref a))->b.h a=none/\X.K.lookup a=none/\p.z a=none
 sep:∀(i j:Nat)(xs:List D)(s:S)(a:Addr),i≠j->τ[i]? = some (some (.l xs))->τ[j]? = some (some s)->s.isL=true->σ[i]? = some (some (.ref a))->σ[j]?≠some (some (.ref a))
 top:X.lent=none->Bw X.H₀ b.h
 pin:∀i a,X.lent=some (i,a)->σ[i]? = some (some (.ref a))
def Em (X:Cx)(i:Nat):Prop:=∀k a,X.lent=some (k,a)->k≠i
theorem Ed {X:Cx}{i:Nat}(h:X.lent=none):Em X i:=fun k a e=>by rw[h] at e;cases e
theorem Ea {X:Cx}{i k:Nat}{a:Addr}(h:X.lent=some (k,a)) (n:k≠i):Em X i:=fun k' a' e=>by rw[h] at e;cases e;exact n
section
variable {X:Cx}{b b' p q:HZ}{τ τ':Tau}{σ:St}{v:V}{s:S}
theorem Rep.all (r:Rep X b τ σ p)(hl:X.lent=none):Bw X.H₀ p.h:=(r.top hl).trans r.ext.hh
theorem Rep.own_list {i:Nat}{xs:List D}{a:Addr}(r:Rep X b τ σ p) (h1:τ[i]? = some (some (.l xs))) (h2:σ[i]? = some (some (.ref a))):∃vs,p.h a=some (.lst vs)/\Iss X.K p.z vs xs:=by
 obtain⟨v,e,c,vs,e1,h3,h4⟩:=r.val i _ h1
 rw[h2] at e
 cases e
 cases e1
 exact#[vs,h3,h4]
theorem Rep.mono (r:Rep X b τ σ p)(e:Ext p q):Rep X b τ σ q :=
 #[r.len,r.ext.trans e,fun i s h=>let #[v,h1,h2]:=r.val i s h;#[v,h1,h2.mono e],(fun i xs a h1 h2=>by
  obtain⟨o1,o2,o3⟩:=r.own i xs a h1 h2
  obtain⟨vs,hv,_⟩:=r.own_list h1 h2
  refine#[o1,o2,?_]
  cases z:q.z a with
  |none=>rfl
  |some o =>
   rcases e.new a o z with x|x
   .rw[o3] at x;cases x
   .rw[hv] at x;cases x),r.sep,r.top,r.pin]
theorem Lv {K:W.Frag}(e:Ext b p) (f:Fr3 K p q v s):Fr3 K b q v s:=fun xs a h1 h2=>#[e.hh.free (f xs a h1 h2).1,(f xs a h1 h2).2]
theorem AB {α:Type}{l:List (Option α)}{i j:Nat}{x y:α}(h:(l.set i (some x))[j]? = some (some y)):(j=i/\y=x)\/(j≠i/\l[j]? = some (some y)):=by
 rw[List.getElem?_set] at h
 by_cases hij:i=j
 .rw[if_pos hij] at h
  split at h
  .cases h
   exact .inl #[hij.symm,rfl]
  .cases h
 .rw[if_neg hij] at h
  exact .inr #[fun z=>hij z.symm,h]
theorem Rep.set {i:Nat}(r:Rep X b τ σ p) (e:Ext p q) (h:IsS X.K q v s) (f:Fr3 X.K p q v s) (hr:s.isL=s.own) (hp:Em X i):Rep X b (τ.set i (some s)) (σ.set i (some v)) q:=by
 have r':=r.mono e
 refine#[by simp[r.len],r'.ext,fun j s' hj=>?_,fun j xs a hj ha=>?_,fun j k xs s' a hjk hj hk hs ha=>?_,r.top,fun k a hk=>by rw[qBT (fun z=>hp k a hk z.symm)];exact r.pin k a hk]
 .rcases AB hj with⟨rfl,rfl⟩|⟨hn,hj⟩
  .have hl:j<σ.length:=by
    rw[r.len]
    have:=(qAe.mp hj).1
    simpa using this
   exact#[v,by rw[qBx hl],h]
  .obtain⟨w,h1,h2⟩:=r'.val j s' hj
   exact#[w,by rw[qBT (fun z=>hn z.symm)];exact h1,h2]
 .rcases AB hj with⟨rfl,e1⟩|⟨hn,hj⟩
  .rcases AB ha with⟨_,e2⟩|⟨hn,_⟩
   .exact(Lv r.ext f) xs a e1.symm e2.symm
   .exact absurd rfl hn
  .rcases AB ha with⟨e2,_⟩|⟨_,ha⟩
   .exact absurd e2 hn
   .exact r'.own j xs a hj ha
 .
  have fresh:∀(m:Nat)(t:S),τ[m]? = some (some t)->t.isL=true->s.own=true->v=.ref a->σ[m]?≠some (some (.ref a)):=by
   intro m t hm ht ho hv hσ
   obtain⟨w,h1,h2⟩:=r.val m t hm
   rw[hσ] at h1
   cases h1
   cases s with
   |d _=>cases ho
   |r _=>cases ho
   |l ys =>
    obtain⟨f1,f2,_⟩:=f ys a rfl hv
    cases t with
    |d _=>cases ht
    |l zs =>
     obtain⟨c,vs,e1,h3,_⟩:=h2
     cases e1
     rw[f1] at h3
     cases h3
    |r zs =>
     obtain⟨c,vs,e1,h3,_⟩:=h2
     cases e1
     rcases h3 with (h3|⟨o,h3⟩)|⟨o,its,n,h3,_⟩
     .rw[f1] at h3;cases h3
     .rw[f1] at h3;cases h3
     .rw[f2] at h3;cases h3
  intro hσk
  rcases AB hj with⟨rfl,e1⟩|⟨hn,hj'⟩
  .rcases AB ha with⟨_,e2⟩|⟨hn,_⟩
   .rcases AB hk with⟨e3,_⟩|⟨_,hk⟩
    .exact hjk e3.symm
    .rcases AB hσk with⟨e4,_⟩|⟨_,hσk⟩
     .exact hjk e4.symm
     .exact fresh k s' hk hs (by rw[<-e1];rfl) e2.symm hσk
   .exact absurd rfl hn
  .rcases AB ha with⟨e2,_⟩|⟨_,ha'⟩
   .exact absurd e2 hn
   .rcases AB hk with⟨e3,e4⟩|⟨hkn,hk'⟩
    .rcases AB hσk with⟨_,e5⟩|⟨hx,_⟩
     .subst e4
      exact fresh j (.l xs) hj' rfl (by rw[<-hr];exact hs) e5.symm ha'
     .exact absurd e3 hx
    .rcases AB hσk with⟨e5,_⟩|⟨_,hσk'⟩
     .exact absurd e5 hkn
     .exact r.sep j k xs s' a hjk hj' hk' hs ha' hσk'
theorem Rep.freeze {i:Nat}{xs:List D}(r:Rep X b τ σ p) (h:τ[i]? = some (some s)) (e:s.share=.r xs):Rep X b (τ.set i (some (.r xs))) σ p:=by
 have hs:s.isL=true:=by
  cases s with
  |d _=>cases e
  |l _=>rfl
  |r _=>rfl
 refine#[by simp[r.len],r.ext,fun j s' hj=>?_,fun j ys a hj ha=>?_,fun j k ys s' a hjk hj hk hs' ha=>?_,r.top,r.pin]
 .rcases AB hj with⟨rfl,rfl⟩|⟨hn,hj⟩
  .obtain⟨v,h1,h2⟩:=r.val j s h
   exact#[v,h1,by rw[<-e];exact h2.share]
  .exact r.val j s' hj
 .rcases AB hj with⟨rfl,e1⟩|⟨hn,hj⟩
  .cases e1
  .exact r.own j ys a hj ha
 .rcases AB hj with⟨rfl,e1⟩|⟨hn,hj'⟩
  .cases e1
  .rcases AB hk with⟨rfl,e4⟩|⟨hkn,hk'⟩
   .exact r.sep j k ys s a hjk hj' h hs ha
   .exact r.sep j k ys s' a hjk hj' hk' hs' ha
theorem Rep.data {i:Nat}{xs:List D}{h z:Hp}(r:Rep X b τ σ #[h,z]) (hi:τ[i]? = some (some (.l xs))):∃z',Rep X b (τ.set i (some (.d (.lst xs)))) σ #[h,z']:=by
 obtain⟨v,h1,a,vs,rfl,h2,h3⟩:=r.val i _ hi
 obtain⟨o1,o2,o3⟩:=r.own i xs a hi h1
 have zz:Bw z (upd z a (.lst vs)):=BX o3 _
 refine#[upd z a (.lst vs),by simp[r.len],r.ext.freeze o1 o3 h2,fun j s' hj=>?_,fun j ys c hj hc=>?_,fun j k ys s' c hjk hj hk hs' hc=>?_,r.top,r.pin]
 .rcases AB hj with⟨rfl,rfl⟩|⟨hn,hj⟩
  .have h3':=h3.mono zz
   exact#[.ref a,h1,Is.lst Ap h3'.1 h3'.2]
  .obtain⟨w,w1,w2⟩:=r.val j s' hj
   refine#[w,w1,?_]
   cases s' with
   |d x=>exact Is.mono zz w2
   |l zs=>obtain⟨c,us,e1,q1,q2⟩:=w2;exact#[c,us,e1,q1,q2.mono zz]
   |r zs=>obtain⟨c,us,e1,q1,q2⟩:=w2;exact#[c,us,e1,q1,q2.mono zz]
 .rcases AB hj with⟨rfl,e1⟩|⟨hn,hj'⟩
  .cases e1
  .obtain⟨q1,q2,q3⟩:=r.own j ys c hj' hc
   refine#[q1,q2,?_]
   show upd z a (.lst vs) c=none
   have hca:c≠a:=by
    rintro rfl
    exact r.sep j i ys (.l xs) c hn hj' hi rfl hc h1
   rw[Ag hca]
   exact q3
 .rcases AB hj with⟨rfl,e1⟩|⟨hn,hj'⟩
  .cases e1
  .rcases AB hk with⟨rfl,e4⟩|⟨hkn,hk'⟩
   .subst e4;cases hs'
   .exact r.sep j k ys s' c hjk hj' hk' hs' hc
open Classical in
noncomputable def K2 (τ:Tau)(σ:St)(H:Hp):Hp:=fun b=>if ∃(i:Nat)(xs:List D),τ[i]? = some (some (S.l xs))/\σ[i]? = some (some (V.ref b)) then none else H b
theorem Ux {H:Hp}:Bw (K2 τ σ H) H:=fun b o h=>by
 unfold K2 at h
 split at h
 .cases h
 .exact h
theorem Gp {H:Hp}{c:Addr}(h:∀(i:Nat)(xs:List D),τ[i]? = some (some (S.l xs))->σ[i]?≠some (some (V.ref c))):K2 τ σ H c=H c:=by
 unfold K2
 rw[if_neg]
 rintro⟨i,xs,h1,h2⟩
 exact h i xs h1 h2
theorem Rep.baseB (r:Rep X b τ σ p):Bw b.h (K2 τ σ p.h):=fun c o h=>by
 rw[Gp]
 .exact r.ext.hh c o h
 .intro i xs h1 h2
  have:=(r.own i xs c h1 h2).1
  rw[h] at this
  cases this
theorem Rep.inB (r:Rep X b τ σ p):Rep X #[K2 τ σ p.h,p.z] τ σ p :=
 #[r.len,#[Ux,Bw.refl _,r.ext.sub,fun _ _ e=>.inl e],r.val,fun i xs a h1 h2=>#[by show K2 τ σ p.h a=none;unfold K2;rw[if_pos #[i,xs,h1,h2]],(r.own i xs a h1 h2).2],r.sep,fun h=>(r.top h).trans r.baseB,r.pin]
structure LeB (X:Cx)(b b':HZ):Prop where
 hh:Bw b.h b'.h
 zz:Bw b.z b'.z
 new:∀a o,b'.z a=some o->b.z a=some o\/b.h a=none
 top:X.lent=none->Bw X.H₀ b.h
theorem LeB.ext (e:LeB X b b')(f:Ext b' p):Ext b p:=#[e.hh.trans f.hh,e.zz.trans f.zz,f.sub,fun a o h=>by
 rcases f.new a o h with x|x
 .exact e.new a o x
 .exact .inr (e.hh.free x)]
theorem Rep.outB (e:LeB X b b')(r:Rep X b' τ σ p):Rep X b τ σ p :=
 #[r.len,e.ext r.ext,r.val,fun i xs a h1 h2=>#[e.hh.free (r.own i xs a h1 h2).1,(r.own i xs a h1 h2).2],r.sep,e.top,r.pin]
theorem Rep.leB (r:Rep X b τ σ p):LeB X b #[K2 τ σ p.h,p.z]:=#[r.baseB,r.ext.zz,r.ext.new,r.top]
theorem Rep.leR (r:Rep X b τ σ p):LeB X b b:=#[Bw.refl _,Bw.refl _,fun _ _ e=>.inl e,r.top]
end
abbrev TE3:=Tau->(S->Prop)->Prop
abbrev TT3:=Tau->(Bool->Prop)->Prop
abbrev TA3:=Tau->(List S->Prop)->Prop
structure Ka where
 nx:Tau->Prop
 rt:S->Prop
 bk:Tau->Prop:=fun _=>False
 ct:Tau->Prop:=fun _=>False
abbrev TS3:=Ka->Tau->Prop
def Args (K:W.Frag)(p:HZ)(vs:List V)(ss:List S):Prop :=
 vs.length=ss.length/\∀(i:Nat)(v:V)(s:S),vs[i]? = some v->ss[i]? = some s->IsS K p v s/\s.own=false
def FE (X:Cx)(t:TE3):TE:=fun σ H Q=>∃B z τ R,Rep X B τ σ #[H,z]/\t τ R/\∀s v q,Ext #[H,z] q->IsS X.K q v s->Fr3 X.K #[H,z] q v s->R s->Q v q.h
def FT (X:Cx)(t:TT3):TT:=fun σ H Q=>∃B z τ R,Rep X B τ σ #[H,z]/\t τ R/\∀c q,Ext #[H,z] q->R c->Q c q.h
def FA (X:Cx)(t:TA3):TA:=fun σ H Q=>∃B z τ R,Rep X B τ σ #[H,z]/\t τ R/\∀ss vs q,Ext #[H,z] q->Args X.K q vs ss->R ss->Q vs q.h
structure Vk (X:Cx)(B:HZ)(D3:Ka)(D2:Ou):Prop where
 nx:∀τ σ p,Rep X B τ σ p->D3.nx τ->D2.nx σ p.h
 bk:∀τ σ p,Rep X B τ σ p->D3.bk τ->D2.bk σ p.h
 ct:∀τ σ p,Rep X B τ σ p->D3.ct τ->D2.ct σ p.h
 rt:∀s v q,Ext B q->IsS X.K q v s->Fr3 X.K B q v s->D3.rt s->D2.rt v q.h
def FS (X:Cx)(t:TS3):TS:=fun D2 σ H=>∃B z τ D3,Rep X B τ σ #[H,z]/\t D3 τ/\Vk X B D3 D2
structure PE3 (X:Cx)(e:Expr)(t:TE3):Prop where
 out:PE X e (FE X t)
structure PT3 (X:Cx)(e:Expr)(t:TT3):Prop where
 out:PT X e (FT X t)
structure PW3 (X:Cx)(e:Expr)(t:TT3):Prop where
 out:PW X e (FT X t)
structure PA3 (X:Cx)(es:List Expr)(t:TA3):Prop where
 out:PA X es (FA X t)
structure PS3 (X:Cx)(st:Stmt)(t:TS3):Prop where
 out:PS X st (FS X t)
structure Eg (X:Cx)(st:List Stmt)(t:TS3):Prop where
 out:PSs X st (FS X t)
theorem PW3.pt {X:Cx}{e:Expr}{t:TT3}(h:PW3 X e t):PT3 X e t:=#[h.out _]
section
variable {X:Cx}{e a b:Expr}{ta tb:TE3}{pos:Pos}
theorem BJ {t t':TE}(h:PE X e t) (f:∀σ H Q,t' σ H Q->t σ H Q):PE X e t':=fun pins s σ H Q I q=>h pins s σ H Q I (f σ H Q q)
theorem Lh {t t':TT}(h:PT X e t) (f:∀σ H Q,t' σ H Q->t σ H Q):PT X e t':=fun pins s σ H Q I q=>h pins s σ H Q I (f σ H Q q)
theorem SU {t t':TT}(h:PW X e t) (f:∀σ H Q,t' σ H Q->t σ H Q):PW X e t':=fun wh pins s σ H Q I q=>h wh pins s σ H Q I (f σ H Q q)
theorem S9 {es:List Expr}{t t':TA}(h:PA X es t) (f:∀σ H Q,t' σ H Q->t σ H Q):PA X es t':=fun pos pins s σ H Q I q=>h pos pins s σ H Q I (f σ H Q q)
theorem CS {st:Stmt}{t t':TS}(h:PS X st t) (f:∀D σ H,t' D σ H->t D σ H):PS X st t':=fun pins s σ H D I q=>h pins s σ H D I (f D σ H q)
theorem G7 {st:List Stmt}{t t':TS}(h:PSs X st t) (f:∀D σ H,t' D σ H->t D σ H):PSs X st t':=fun pins s σ H D I q=>h pins s σ H D I (f D σ H q)
def Xi (i:Nat):TE3:=fun τ R=>match τ[i]? with
 |some (some s)=>R s.share
 |_=>False
def vC (d:D):TE3:=fun _ R=>R (.d d)
theorem Rt {K:W.Frag}{p q:HZ}{v:V}{s:S}:Fr3 K p q v s.share:=by
 intro xs a h
 cases s<;>cases h
theorem GD {K:W.Frag}{p q:HZ}{v:V}{d:D}:Fr3 K p q v (.d d):=by
 intro xs a h
 cases h
theorem XU {i:Nat}{x:Str}(h:PE X (.Name x pos) (OW i)):PE3 X (.Name x pos) (Xi i):=by
 refine#[?_]
 refine BJ h fun σ H Q hh9=>?_
 obtain⟨B,z,τ,R,r,ht,q⟩:=hh9
 unfold Xi at ht
 split at ht
 .rename_i s hs
  obtain⟨v,h1,h2⟩:=r.val i s hs
  exact#[v,h1,q _ v #[H,z] (Ext.refl r.ext.sub) h2.share Rt ht]
 .exact ht.elim
theorem Kz {v:V}{d:D}(h:PE X e (tC v)) (hd:∀K H,Is K H v d):PE3 X e (vC d):=#[BJ h fun σ H Q hh=>by obtain⟨B,z,τ,R,r,ht,q⟩:=hh;exact q (.d d) v #[H,z] (Ext.refl r.ext.sub) (hd _ _) GD ht]
theorem Ac {i j}:PE3 X (.Constant (.int i) j pos) (vC (.int i)):=Kz WG fun _ _=>.int i
theorem Q6 {i j}:PE3 X (.Constant (.bool i) j pos) (vC (.bl i)):=Kz WN fun _ _=>.bl i
theorem Hh {j}:PE3 X (.Constant .none j pos) (vC .non):=Kz VF fun _ _=>.non
theorem Ml {x j}:PE3 X (.Constant (.str x) j pos) (vC (.str x)):=Kz Wn fun _ _=>.str x
abbrev R3:=D->D->(D->Prop)->Prop
def lft (K:W.Frag)(r3:R3):R2:=fun x y H Q=>∃z dx dy R,Bw z H/\Is K z x dx/\Is K z y dy/\r3 dx dy R/\∀d v q,Ext #[H,z] q->Is K q.z v d->R d->Q v q.h
def Ib (X:Cx)(f:Value->Value->Sem Value)(r3:R3):Prop:=OpR X f (lft X.K r3)
theorem FW {f:Value->Value->Sem Value}{r r':R2}(h:OpR X f r) (i:∀x y H Q,r' x y H Q->r x y H Q):OpR X f r':=fun pins s σ H x y v u Q I rx ry q=>h pins s σ H x y v u Q I rx ry (i x y H Q q)
def oI (C:Int->Int->Prop)(g:Int->Int->Int):R3:=fun dx dy R=>match dx,dy with
 |.int i,.int j=>C i j/\R (.int (g i j))
 |_,_=>False
def oI0 (g:Int->Int->Int):R3:=fun dx dy R=>match dx,dy with
 |.int i,.int j=>R (.int (g i j))
 |_,_=>False
def oB0 (g:Int->Int->Bool):R3:=fun dx dy R=>match dx,dy with
 |.int i,.int j=>R (.bl (g i j))
 |_,_=>False
theorem Sh {f:Value->Value->Sem Value}{C:Int->Int->Prop}{g:Int->Int->Int}(h:OpR X f (rI C fun i j=>.int (g i j))):Ib X f (oI C g) :=
 FW h fun x y H Q hh=>by
  obtain⟨z,dx,dy,R,hz,hx,hy,h3,q⟩:=hh
  unfold oI at h3
  split at h3
  .rename_i i j
   exact#[i,j,hx.int_inv,hy.int_inv,h3.1,q _ _ #[H,z] (Ext.refl hz) (.int _) h3.2]
  .exact h3.elim
theorem SJ {f:Value->Value->Sem Value}{g:Int->Int->Int}(h:OpR X f (rI0 fun i j=>.int (g i j))):Ib X f (oI0 g) :=
 FW h fun x y H Q hh=>by
  obtain⟨z,dx,dy,R,hz,hx,hy,h3,q⟩:=hh
  unfold oI0 at h3
  split at h3
  .rename_i i j
   exact#[i,j,hx.int_inv,hy.int_inv,q _ _ #[H,z] (Ext.refl hz) (.int _) h3]
  .exact h3.elim
theorem TZ {f:Value->Value->Sem Value}{g:Int->Int->Bool}(h:OpR X f (rI0 fun i j=>.bl (g i j))):Ib X f (oB0 g) :=
 FW h fun x y H Q hh=>by
  obtain⟨z,dx,dy,R,hz,hx,hy,h3,q⟩:=hh
  unfold oB0 at h3
  split at h3
  .rename_i i j
   exact#[i,j,hx.int_inv,hy.int_inv,q _ _ #[H,z] (Ext.refl hz) (.bl _) h3]
  .exact h3.elim
theorem UZ:OpR X (binaryOp .Mult) (rI IntMulOk fun i j=>.int (i*j)):=opI fun _ _ _ _ _ _ _ hc q=>mul_int q hc
def CDv (i j:Int):Prop:=j≠0/\Builtin.divisionGoesByPylong i j=false
theorem Rc:OpR X (binaryOp .FloorDiv) (rI CDv fun i j=>.int (i.fdiv j)):=opI fun _ _ _ _ _ _ _ hc q=>floordiv_int hc.1 q (.inl hc.2)
def Y7:R3:=fun dx dy R=>match dx,dy with
 |.int i,.int j=>R (.int (i+j))
 |_,_=>False
theorem Bd:Ib X (binaryOp .Add) Y7:=SJ SD
def Zw:R3:=fun dx dy R=>match dx,dy with
 |.int i,.int j=>R (.int (i-j))
 |_,_=>False
theorem C6:Ib X (binaryOp .Sub) Zw:=SJ V1
def Zq:R3:=fun dx dy R=>match dx,dy with
 |.int i,.int j=>IntMulOk i j/\R (.int (i*j))
 |_,_=>False
theorem AF:Ib X (binaryOp .Mult) Zq:=Sh UZ
def XM:R3:=fun dx dy R=>match dx,dy with
 |.int i,.int j=>CDv i j/\R (.int (i.fdiv j))
 |_,_=>False
theorem C4:Ib X (binaryOp .FloorDiv) XM:=Sh Rc
def YV:R3:=fun dx dy R=>match dx,dy with
 |.int i,.int j=>j≠0/\R (.int (i.fmod j))
 |_,_=>False
theorem Dx:Ib X (binaryOp .Mod) YV:=Sh UB
def YQ:R3:=fun dx dy R=>match dx,dy with
 |.int i,.int j=>Ys i j/\R (.int (i^j.toNat))
 |_,_=>False
theorem SA:Ib X (binaryOp .Pow) YQ:=Sh VU
def oLt:R3:=fun dx dy R=>match dx,dy with
 |.int i,.int j=>R (.bl (decide (i<j)))
 |_,_=>False
theorem K3:Ib X (compareOp .Lt) oLt:=TZ XR
def oLe:R3:=fun dx dy R=>match dx,dy with
 |.int i,.int j=>R (.bl (decide (i<=j)))
 |_,_=>False
theorem Zn:Ib X (compareOp .LtE) oLe:=TZ Xw
def oGt:R3:=fun dx dy R=>match dx,dy with
 |.int i,.int j=>R (.bl (decide (j<i)))
 |_,_=>False
theorem US:Ib X (compareOp .Gt) oGt:=TZ Xp
def oEq:R3:=fun dx dy R=>match dx,dy with
 |.int i,.int j=>R (.bl (decide (i=j)))
 |.bl i,.bl j=>R (.bl (decide (i=j)))
 |.str i,.str j=>R (.bl (decide (i=j)))
 |_,_=>False
def oNe:R3:=fun dx dy R=>match dx,dy with
 |.int i,.int j=>R (.bl (!decide (i=j)))
 |.bl i,.bl j=>R (.bl (!decide (i=j)))
 |.str i,.str j=>R (.bl (!decide (i=j)))
 |_,_=>False
theorem Om {α β:Type}{i j:α}{f:α->β} [DecidableEq α] [DecidableEq β] (h:∀a b,f a=f b->a=b):decide (f i=f j)=decide (i=j):=by
 by_cases e:i=j
 .rw[decide_eq_true e,decide_eq_true (by rw[e])]
 .rw[decide_eq_false e,decide_eq_false fun z=>e (h _ _ z)]
theorem K1:Ib X (compareOp .Eq) oEq :=
 FW Yj fun x y H Q hh=>by
  obtain⟨z,dx,dy,R,hz,hx,hy,h3,q⟩:=hh
  unfold oEq at h3
  split at h3
  .rename_i i j
   cases hx.int_inv
   cases hy.int_inv
   exact#[rfl,by rw[Om (f:=V.int) (fun _ _ z=>by cases z;rfl)];exact q _ _ #[H,z] (Ext.refl hz) (.bl _) h3]
  .rename_i i j
   cases hx.bl_inv
   cases hy.bl_inv
   exact#[rfl,by rw[Om (f:=V.bl) (fun _ _ z=>by cases z;rfl)];exact q _ _ #[H,z] (Ext.refl hz) (.bl _) h3]
  .rename_i i j
   cases hx.str_inv
   cases hy.str_inv
   exact#[rfl,by rw[Om (f:=V.str) (fun _ _ z=>by cases z;rfl)];exact q _ _ #[H,z] (Ext.refl hz) (.bl _) h3]
  .exact h3.elim
theorem X8:Ib X (compareOp .NotEq) oNe :=
 FW XC fun x y H Q hh=>by
  obtain⟨z,dx,dy,R,hz,hx,hy,h3,q⟩:=hh
  unfold oNe at h3
  split at h3
  .rename_i i j
   cases hx.int_inv
   cases hy.int_inv
   exact#[rfl,by rw[Om (f:=V.int) (fun _ _ z=>by cases z;rfl)];exact q _ _ #[H,z] (Ext.refl hz) (.bl _) h3]
  .rename_i i j
   cases hx.bl_inv
   cases hy.bl_inv
   exact#[rfl,by rw[Om (f:=V.bl) (fun _ _ z=>by cases z;rfl)];exact q _ _ #[H,z] (Ext.refl hz) (.bl _) h3]
  .rename_i i j
   cases hx.str_inv
   cases hy.str_inv
   exact#[rfl,by rw[Om (f:=V.str) (fun _ _ z=>by cases z;rfl)];exact q _ _ #[H,z] (Ext.refl hz) (.bl _) h3]
  .exact h3.elim
def dd (x:S)(k:D->Prop):Prop:=match x with
 |.d d=>k d
 |_=>False
def vOp (r3:R3)(ta tb:TE3):TE3:=fun τ R=>ta τ fun x=>tb τ fun y=>dd x fun dx=>dd y fun dy=>r3 dx dy fun d=>R (.d d)
theorem Fz {x:S}{k:D->Prop}(h:dd x k):∃d,x=.d d/\k d:=by
 cases x with
 |d d=>exact#[d,rfl,h]
 |l _=>exact h.elim
 |r _=>exact h.elim
theorem two {r3:R3}{σ:St}{H:Hp}{Q:VK}(h:FE X (vOp r3 ta tb) σ H Q):tOp (lft X.K r3) (FE X ta) (FE X tb) σ H Q:=by
 obtain⟨B,z,τ,R,r,ht,q⟩:=h
 refine#[B,_,τ,_,r,ht,fun x v H1 e1 i1 f1 h1=>?_]
 refine#[B,_,τ,_,r.mono e1,h1,fun y u H2 e2 i2 f2 h2=>?_]
 obtain⟨dx,rfl,h4⟩:=Fz h2
 obtain⟨dy,rfl,h5⟩:=Fz h4
 exact#[H2.z,dx,dy,_,e2.sub,Is.mono e2.zz i1,i2,h5,fun d w H3 e3 i3 h3=>q (.d d) w H3 (e1.trans (e2.trans e3)) i3 GD h3]
theorem Ar {op:Operator}{r3:R3}(ho:Ib X (binaryOp op) r3) (ha:PE3 X a ta) (hb:PE3 X b tb):PE3 X (.BinOp a op b pos) (vOp r3 ta tb):=#[BJ (Wr ho ha.out hb.out) fun _ _ _ h=>two h]
theorem MP {op:CmpOp}{r3:R3}(ho:Ib X (compareOp op) r3) (ha:PE3 X a ta) (hb:PE3 X b tb) (hm:behindInMarks op b=false):PE3 X (.Compare a [op] [b] pos) (vOp r3 ta tb):=#[BJ (TY ho ha.out hb.out hm) fun _ _ _ h=>two h]
def bb (x:S)(k:Bool->Prop):Prop:=match x with
 |.d (.bl c)=>k c
 |_=>False
theorem L0 {x:S}{k:Bool->Prop}(h:bb x k):∃c,x=.d (.bl c)/\k c:=by
 unfold bb at h
 split at h
 .exact#[_,rfl,h]
 .exact h.elim
def Ue (t:TE3):TT3:=fun τ R=>t τ fun x=>bb x R
theorem Yk {op:CmpOp}{r3:R3}(ho:Ib X (compareOp op) r3) (ha:PE3 X a ta) (hb:PE3 X b tb) (hm:behindInMarks op b=false):PT3 X (.Compare a [op] [b] pos) (Ue (vOp r3 ta tb)):=#[Lh (T9 ho ha.out hb.out hm) fun σ H Q hh=>by obtain⟨B,z,τ,R,r,ht,q⟩:=hh;exact two #[B,_,τ,_,r,ht,fun s v H' e i f h=>by
 obtain⟨c,rfl,h⟩:=L0 h
 cases Is.bl_inv i
 exact#[c,rfl,q c H' e h]]]
theorem BQ {t:TE3}(h:PE3 X e t) (he:∀whole,isTrue e X.env whole=(do let v <-whole;standAt e.pos;holding [v] (truthy v)):=by intro _;rfl):PT3 X e (Ue t):=#[Lh (V5 h.out he) fun σ H Q hh=>by obtain⟨B,z,τ,R,r,ht,q⟩:=hh;exact#[B,_,τ,_,r,ht,fun s v H' e i f hz=>by
 obtain⟨c,rfl,hz⟩:=L0 hz
 cases Is.bl_inv i
 exact#[c,rfl,q c H' e hz]]]
def YZ (ta:TE3):TE3:=fun τ R=>ta τ fun x=>match x with
 |.d (.int i)=>R (.d (.int (-i)))
 |_=>False
theorem EO (ha:PE3 X a ta):PE3 X (.UnaryOp .USub a pos) (YZ ta):=#[BJ (X3 V0 ha.out) fun σ H Q hh=>by obtain⟨B,z,τ,R,r,ht,q⟩:=hh;exact#[B,_,τ,_,r,ht,fun s v H' e i f h=>by
 split at h
 .rename_i i'
  exact#[i',Is.int_inv i,q (.d _) _ H' e (Is.int _) GD h]
 .exact h.elim]]
variable {tA tB':TT3}{rest:List Expr}
def Y2 (t u:TT3):TT3:=fun τ R=>t τ fun c=>if c=true then u τ R else R false
def wOr (t u:TT3):TT3:=fun τ R=>t τ fun c=>if c=true then R true else u τ R
def Ze (t:TT3):TT3:=fun τ R=>t τ fun c=>R (!c)
theorem Gg (ha:PT3 X a tA):PW3 X (.BoolOp .And [a] pos) tA:=#[UG ha.out]
theorem Jb (ha:PT3 X a tA):PW3 X (.BoolOp .Or [a] pos) tA:=#[VD ha.out]
theorem Ke (ha:PT3 X a tA)(hb:PW3 X (.BoolOp .And (b::rest) pos) tB'):PW3 X (.BoolOp .And (a::b::rest) pos) (Y2 tA tB'):=#[SU (V7 ha.out hb.out) fun σ H Q hh=>by obtain⟨B,z,τ,R,r,ht,q⟩:=hh;exact#[B,_,τ,_,r,ht,fun c H1 e h=>by
 cases c with
 |true=>rw[if_pos rfl] at h ⊢;exact#[B,_,τ,R,r.mono e,h,fun d H2 e2 h2=>q d H2 (e.trans e2) h2]
 |false=>rw[if_neg qAs] at h ⊢;exact q _ _ e h]]
theorem OI (ha:PT3 X a tA)(hb:PW3 X (.BoolOp .Or (b::rest) pos) tB'):PW3 X (.BoolOp .Or (a::b::rest) pos) (wOr tA tB'):=#[SU (Ym ha.out hb.out) fun σ H Q hh=>by obtain⟨B,z,τ,R,r,ht,q⟩:=hh;exact#[B,_,τ,_,r,ht,fun c H1 e h=>by
 cases c with
 |false=>rw[if_neg qAs] at h ⊢;exact#[B,_,τ,R,r.mono e,h,fun d H2 e2 h2=>q d H2 (e.trans e2) h2]
 |true=>rw[if_pos rfl] at h ⊢;exact q _ _ e h]]
theorem w_not (ha:PT3 X a tA):PT3 X (.UnaryOp .Not a pos) (Ze tA):=#[Lh (WB ha.out) fun σ H Q hh=>by obtain⟨B,z,τ,R,r,ht,q⟩:=hh;exact#[B,_,τ,_,r,ht,fun c H1 e h=>q _ _ e h]]
def YR (ta tb:TE3):TE3:=fun τ R=>ta τ fun x=>bb x fun c=>if c=true then tb τ R else R (.d (.bl false))
def vOr (ta tb:TE3):TE3:=fun τ R=>ta τ fun x=>bb x fun c=>if c=true then R (.d (.bl true)) else tb τ R
def Y0 (ta:TE3):TE3:=fun τ R=>ta τ fun x=>bb x fun c=>R (.d (.bl (!c)))
theorem Sb {op}{t:TE3}(h:PE3 X a t):PE3 X (.BoolOp op [a] pos) t:=#[VT h.out]
theorem RZ (ha:PE3 X a ta)(hb:PE3 X (.BoolOp .And (b::rest) pos) tb):PE3 X (.BoolOp .And (a::b::rest) pos) (YR ta tb):=#[BJ (WW ha.out hb.out) fun σ H Q hh=>by obtain⟨B,z,τ,R,r,ht,q⟩:=hh;exact#[B,_,τ,_,r,ht,fun s v H1 e i f h=>by
 obtain⟨c,rfl,h'⟩:=L0 h
 cases Is.bl_inv i
 refine#[c,rfl,?_]
 cases c with
 |true=>rw[if_pos rfl] at h' ⊢;exact#[B,_,τ,R,r.mono e,h',fun s2 v2 H2 e2 i2 f2 h2=>q _ _ _ (e.trans e2) i2 (Lv e f2) h2]
 |false=>rw[if_neg qAs] at h' ⊢;exact q (.d _) _ _ e (Is.bl _) GD h']]
theorem YW (ha:PE3 X a ta)(hb:PE3 X (.BoolOp .Or (b::rest) pos) tb):PE3 X (.BoolOp .Or (a::b::rest) pos) (vOr ta tb):=#[BJ (XD ha.out hb.out) fun σ H Q hh=>by obtain⟨B,z,τ,R,r,ht,q⟩:=hh;exact#[B,_,τ,_,r,ht,fun s v H1 e i f h=>by
 obtain⟨c,rfl,h'⟩:=L0 h
 cases Is.bl_inv i
 refine#[c,rfl,?_]
 cases c with
 |false=>rw[if_neg qAs] at h' ⊢;exact#[B,_,τ,R,r.mono e,h',fun s2 v2 H2 e2 i2 f2 h2=>q _ _ _ (e.trans e2) i2 (Lv e f2) h2]
 |true=>rw[if_pos rfl] at h' ⊢;exact q (.d _) _ _ e (Is.bl _) GD h']]
theorem P2 (ha:PE3 X a ta):PE3 X (.UnaryOp .Not a pos) (Y0 ta):=#[BJ (Wk ha.out) fun σ H Q hh=>by obtain⟨B,z,τ,R,r,ht,q⟩:=hh;exact#[B,_,τ,_,r,ht,fun s v H1 e i f h=>by
 obtain⟨c,rfl,h'⟩:=L0 h
 cases Is.bl_inv i
 exact#[c,rfl,q (.d _) _ _ e (Is.bl _) GD h']]]
def items:S->Option (List D)
 |.d (.tup xs)=>some xs
 |.d (.lst xs)=>some xs
 |.l xs=>some xs
 |.r xs=>some xs
 |_=>none
def vIx (ta tb:TE3):TE3:=fun τ R=>ta τ fun x=>tb τ fun y=>match items x,y with
 |some xs,.d (.int i)=>match atI xs i with
  |some d=>R (.d d)
  |none=>False
 |_,_=>False
theorem Ks {K:W.Frag}{H:Hp}{vs:List V}{xs:List D}{i:Int}{d:D}(h:Iss K H vs xs) (e:atI xs i=some d):∃v,atI vs i=some v/\Is K H v d:=by
 unfold atI at e ⊢
 rw[h.1]
 cases q:ixN xs.length i with
 |none=>rw[q] at e;cases e
 |some j =>
  rw[q] at e
  have e':xs[j]? = some d:=e
  have hj:=(qAe.mp e').1
  have hl:j<vs.length:=by rw[h.1];exact hj
  have hv:vs[j]? = some vs[j]:=qAb hl
  exact#[vs[j],hv,h.2 j _ _ hv e']
theorem A5 (ha:PE3 X a ta)(hb:PE3 X b tb)(hs:PZ b:=by exact fun _ _=>rfl):PE3 X (.Subscript a b pos) (vIx ta tb):=#[BJ (XF (Tw.or VS) ha.out hb.out hs) fun σ H Q hh=>by
 obtain⟨B,z,τ,R,r,ht,q⟩:=hh
 refine#[B,_,τ,_,r,ht,fun x v H1 e1 i1 f1 h1=>?_]
 refine#[B,_,τ,_,r.mono e1,h1,fun y u H2 e2 i2 f2 h2=>?_]
 split at h2
 .rename_i xs i hx
  split at h2
  .rename_i d hd
   cases Is.int_inv i2
   have i1':=IsS.mono e2 i1
   cases x with
   |d z =>
    cases z with
    |tup zs =>
     cases hx
     obtain⟨p,vs,rfl,h3,h4⟩:=Is.tup_inv i1'
     obtain⟨w,hw,iw⟩:=Ks h4 hd
     exact .inr #[p,vs,i,w,rfl,rfl,SqT.same e2.sub h3,hw,q (.d _) _ _ (e1.trans e2) iw GD h2]
    |lst zs =>
     cases hx
     obtain⟨p,vs,rfl,h3,h4⟩:=Is.lst_inv i1'
     obtain⟨w,hw,iw⟩:=Ks h4 hd
     exact .inl #[p,vs,i,w,rfl,rfl,e2.sub.seq h3,hw,q (.d _) _ _ (e1.trans e2) iw GD h2]
    |_=>cases hx
   |l zs =>
    cases hx
    obtain⟨p,vs,rfl,h3,h4⟩:=i1'
    obtain⟨w,hw,iw⟩:=Ks h4 hd
    exact .inl #[p,vs,i,w,rfl,rfl,SqL.of h3,hw,q (.d _) _ _ (e1.trans e2) iw GD h2]
   |r zs =>
    cases hx
    obtain⟨p,vs,rfl,h3,h4⟩:=i1'
    obtain⟨w,hw,iw⟩:=Ks h4 hd
    exact .inl #[p,vs,i,w,rfl,rfl,h3,hw,q (.d _) _ _ (e1.trans e2) iw GD h2]
  .exact h2.elim
 .exact h2.elim]
variable {es:List Expr}{tr:TA3}{te:TE3}
def W9:TA3:=fun _ R=>R []
def S.arg:S->S
 |.l xs=>.d (.lst xs)
 |s=>s
def QN (ta:TE3)(tr:TA3):TA3:=fun τ R=>ta τ fun x=>tr τ fun xs=>R (x.arg::xs)
theorem LA:PA3 X [] W9:=#[S9 BD fun σ H Q hh=>by obtain⟨B,z,τ,R,r,ht,q⟩:=hh;exact q [] [] #[H,z] (Ext.refl r.ext.sub) #[rfl,fun i v s h=>by simp at h] ht]
theorem Pb (s:S):s.arg.own=false:=by cases s<;>rfl
theorem FN {K:W.Frag}{p q:HZ}{v:V}{s:S}(e:Ext p q) (i:IsS K q v s) (f:Fr3 K p q v s):∃z',Ext p #[q.h,z']/\IsS K #[q.h,z'] v s.arg:=by
 cases s with
 |d x=>exact#[q.z,e,i]
 |r xs=>exact#[q.z,e,i]
 |l xs =>
  obtain⟨a,vs,rfl,h1,h2⟩:=i
  obtain⟨f1,f2,f3⟩:=f xs a rfl rfl
  have h3:=h2.mono (BX f3 (.lst vs))
  exact#[upd q.z a (.lst vs),e.freeze f1 f3 h1,Is.lst Ap h3.1 h3.2]
theorem AV (ha:PE3 X e te)(hr:PA3 X es tr)(hs:starEach (e::es) X.env=(false,eval e X.env)::starEach es X.env:=by exact Dz rfl):PA3 X (e::es) (QN te tr) :=
 #[S9 (AL ha.out hr.out hs) fun σ H Q hh=>by
  obtain⟨B,z,τ,R,r,ht,q⟩:=hh
  refine#[B,_,τ,_,r,ht,fun x v H1 e1 i1 f1 h1=>?_]
  obtain⟨z1,e1',i1'⟩:=FN e1 i1 f1
  refine#[B,z1,τ,_,r.mono e1',h1,fun ss vs H2 e2 i2 h2=>?_]
  refine q _ _ _ (e1'.trans e2) #[by simp[i2.1],fun i w s hw hs=>?_] h2
  cases i with
  |zero =>
   simp at hw hs
   subst hw;subst hs
   exact#[IsS.mono e2 i1',Pb x]
  |succ i=>exact i2.2 i w s (by simpa using hw) (by simpa using hs)]
def T4:List S->Option (List D)
 |[]=>some []
 |.d x::r=>(T4 r).map (x :: ·)
 |_::_=>none
theorem HV:∀{ss:List S}{ds:List D},T4 ss=some ds->ss=ds.map S.d
 |[],ds,h=>by cases h;rfl
 |.d x::r,ds,h=>by
  unfold T4 at h
  cases q:T4 r with
  |none=>rw[q] at h;cases h
  |some ys =>
   rw[q] at h
   cases h
   rw[HV q]
   rfl
 |.l _::_,_,h=>by cases h
 |.r _::_,_,h=>by cases h
theorem Ky {K:W.Frag}{p:HZ}{vs:List V}{ds:List D}(h:Args K p vs (ds.map S.d)):Iss K p.z vs ds:=by
 refine#[by simpa using h.1,fun i v x h1 h2=>?_]
 exact(h.2 i v (.d x) h1 (by rw[qAc,h2];rfl)).1
def Y9 (t:TA3):TE3:=fun τ R=>t τ fun ss=>match T4 ss with
 |some ds=>ds.length<=1000/\R (.d (.tup ds))
 |none=>False
theorem SZ {n:Nat}(h:n<=1000):n<=sizeLine:=qBr (Qq h)
theorem Bl {x1}(h:PA3 X es tr):PE3 X (.Tuple es x1 pos) (Y9 tr) :=
 #[BJ (Vs h.out) fun σ H Q hh=>by obtain⟨B,z,τ,R,r,ht,q⟩:=hh;exact#[B,_,τ,_,r,ht,fun ss vs H1 e1 i1 h1=>by
  try dsimp only at h1
  split at h1
  .rename_i ds hd
   rw[HV hd] at i1
   have j:=Ky i1
   refine#[by rw[j.1];exact SZ h1.1,fun p hp=>?_]
   have el:=Ext.lay (o:=.tup vs) e1.sub hp
   have j':=j.mono (BX (e1.sub.free hp) (.tup vs))
   exact q (.d _) _ _ (e1.trans el) (Is.tup (SqT.of Ap) j'.1 j'.2) GD h1.2
  .exact h1.elim]]
theorem T7 {t:TA}(h:PA X es t):PE X (.List es pos) (fun σ H Q=>t σ H fun xs H1=>xs.length<=sizeLine/\∀p,H1 p=none->X.K.lookup p=none->Q (.ref p) (upd H1 p (.lst xs))):=by
 intro pins s σ H Q I hq
 refine wpAny_List_spliced (thn (h pos pins s σ H _ I hq) fun us s1 #[xs,H1,I1,r,z,q]=>#[by rw[<-r.length];exact z,?_])
 have hf:H1 s1.heap.objs.size=none:=I1.hok.fresh (qAf _)
 have hk:X.K.lookup s1.heap.objs.size=none:=by
  cases e:X.K.lookup s1.heap.objs.size with
  |none=>rfl
  |some o=>exact absurd (qAj (I1.kIn _ _ e)) (qAZ _)
 refine#[.ref s1.heap.objs.size,upd H1 s1.heap.objs.size (.lst xs),I1.laid (t':=s1.toks) (fun b u e=>qAh _ e) (qAf _) ?_,rfl,q _ hf hk]
 exact#[z,us,0,r,qAt _ rfl]
def Zx (t:TA3):TE3:=fun τ R=>t τ fun ss=>match T4 ss with
 |some ds=>ds.length<=1000/\R (.l ds)
 |none=>False
theorem Fm (h:PA3 X es tr):PE3 X (.List es pos) (Zx tr) :=
 #[BJ (T7 h.out) fun σ H Q hh=>by obtain⟨B,z,τ,R,r,ht,q⟩:=hh;exact#[B,_,τ,_,r,ht,fun ss vs H1 e1 i1 h1=>by
  try dsimp only at h1
  split at h1
  .rename_i ds hd
   rw[HV hd] at i1
   have j:=Ky i1
   refine#[by rw[j.1];exact SZ h1.1,fun p hp hk=>q (.l ds) _ #[_,H1.z] (e1.trans (Ext.own e1.sub hp _)) #[p,vs,rfl,Ap,j] (fun xs a _ h2=>?_) h1.2]
   cases h2
   exact#[e1.hh.free hp,hk,e1.sub.free hp]
  .exact h1.elim]]
def vCB (r:List S->(S->Prop)->Prop)(t:TA3):TE3:=fun τ R=>t τ fun ss=>r ss R
def Qh (X:Cx)(f:Value)(r3:List S->(S->Prop)->Prop):Prop :=
 Jq X f (fun xs H Q=>∃z ss R,Bw z H/\Args X.K #[H,z] xs ss/\r3 ss R/\∀s v q,Ext #[H,z] q->IsS X.K q v s->Fr3 X.K #[H,z] q v s->R s->Q v q.h)
theorem LQ {f:Value}{r r':List V->Hp->VK->Prop}(h:Jq X f r) (i:∀xs H Q,r' xs H Q->r xs H Q):Jq X f r':=fun pins s σ H xs us Q I rs q=>h pins s σ H xs us Q I rs (i xs H Q q)
theorem Kt {x:Str}{p:Pos}{id:String}{r:List S->(S->Prop)->Prop}(hc:Qh X (.builtin id) r) (hg:Gl X x) (hm:X.mg x=none) (hv:bootBuiltins x=some (.builtin id)) (ha:PA3 X (e::es) tr) (hn:x≠"__name__":=by decide)
 (hdb:(x==("__debug__":Str))=false:=by decide) (he:starEach (e::es) X.env=(false,eval e X.env)::starEach es X.env:=by exact Dz rfl) (hpl:(backTo pos (starEach es X.env)).any (·.1)=false:=by exact Gy rfl) :
 PE3 X (.Call (.Name x p) (e::es) [] pos) (vCB r tr):=#[BJ (Kc hc hg hm hv ha.out hn hdb he hpl) fun σ H Q hh=>by obtain⟨B,z,τ,R,r,ht,q⟩:=hh;exact#[B,_,τ,_,r,ht,fun ss vs H1 e1 i1 h1=>#[H1.z,ss,R,e1.sub,i1,h1,fun s v H2 e2 i2 f2 h2=>q s v H2 (e1.trans e2) i2 (Lv e1 f2) h2]]]
theorem YK {α:Type}{l:List α}(h:l.length=1):∃a,l=[a]:=by
 cases l with
 |nil=>cases h
 |cons a t=>exact#[a,by rw[List.length_eq_zero_iff.mp (Nat.succ.inj h)]]
theorem Zk {α:Type}{l:List α}(h:l.length=2):∃a b,l=[a,b]:=by
 cases l with
 |nil=>cases h
 |cons a t =>
  obtain⟨b,e⟩:=YK (Nat.succ.inj h)
  exact#[a,b,by rw[e]]
theorem Vr {K:W.Frag}{H:HZ}{vs:List V}{s:S}(h:Args K H vs [s]):∃v,vs=[v]/\IsS K H v s:=by
 obtain⟨hl,hv⟩:=h
 obtain⟨v,rfl⟩:=YK hl
 exact#[v,rfl,(hv 0 v s rfl rfl).1]
theorem VE {K:W.Frag}{H:HZ}{vs:List V}{s t:S}(h:Args K H vs [s,t]):∃v u,vs=[v,u]/\IsS K H v s/\IsS K H u t:=by
 obtain⟨hl,hv⟩:=h
 obtain⟨v,u,rfl⟩:=Zk hl
 exact#[v,u,rfl,(hv 0 v s rfl rfl).1,(hv 1 u t rfl rfl).1]
def Yw:List S->(S->Prop)->Prop:=fun ss R=>match ss with
 |[.d (.int i)]=>R (.d (.int (if i<0 then -i else i)))
 |_=>False
theorem Ua:Qh X (.builtin "abs") Yw :=
 LQ Sm fun xs H Q hh=>by
  obtain⟨z,ss,R,hz,ha,h3,q⟩:=hh
  unfold Yw at h3
  split at h3
  .rename_i i
   obtain⟨v,rfl,h⟩:=Vr ha
   cases Is.int_inv h
   exact#[i,rfl,q (.d _) _ #[H,z] (Ext.refl hz) (Is.int _) GD h3]
  .exact h3.elim
def XS:List S->(S->Prop)->Prop:=fun ss R=>match ss with
 |[s]=>match items s with
  |some xs=>R (.d (.int xs.length))
  |none=>False
 |_=>False
theorem Yb:Qh X (.builtin "len") XS :=
 LQ LX fun xs H Q hh=>by
  obtain⟨z,ss,R,hz,ha,h3,q⟩:=hh
  unfold XS at h3
  split at h3
  .rename_i s
   split at h3
   .rename_i ys hy
    obtain⟨v,rfl,h⟩:=Vr ha
    cases s with
    |d z =>
     cases z with
     |tup zs =>
      cases hy
      obtain⟨p,vs,rfl,h1,h2⟩:=Is.tup_inv h
      exact#[p,vs,rfl,.inr (SqT.same hz h1),by rw[h2.1];exact q (.d _) _ #[H,z] (Ext.refl hz) (Is.int _) GD h3]
     |lst zs =>
      cases hy
      obtain⟨p,vs,rfl,h1,h2⟩:=Is.lst_inv h
      exact#[p,vs,rfl,.inl (hz.seq h1),by rw[h2.1];exact q (.d _) _ #[H,z] (Ext.refl hz) (Is.int _) GD h3]
     |_=>cases hy
    |l zs =>
     cases hy
     obtain⟨p,vs,rfl,h1,h2⟩:=h
     exact#[p,vs,rfl,.inl (SqL.of h1),by rw[h2.1];exact q (.d _) _ #[H,z] (Ext.refl hz) (Is.int _) GD h3]
    |r zs =>
     cases hy
     obtain⟨p,vs,rfl,h1,h2⟩:=h
     exact#[p,vs,rfl,.inl h1,by rw[h2.1];exact q (.d _) _ #[H,z] (Ext.refl hz) (Is.int _) GD h3]
   .exact h3.elim
  .exact h3.elim
inductive Ty where
 |int|bool|tuple|str|list
def TM:Ty->String
 |.int=>"int"
 |.bool=>"bool"
 |.tuple=>"tuple"
 |.str=>"str"
 |.list=>"list"
def X9:Ty->S->Bool
 |.int,.d (.int _)=>true
 |.int,.d (.bl _)=>true
 |.bool,.d (.bl _)=>true
 |.tuple,.d (.tup _)=>true
 |.str,.d (.str _)=>true
 |.list,.l _=>true
 |.list,.r _=>true
 |.list,.d (.lst _)=>true
 |_,_=>false
def Yx:S->Prop
 |.d (.ty _)=>False
 |.d (.ref _)=>False
 |_=>True
theorem Sv (k:Ty):Jq X (.builtin "isinstance") (fun xs H Q=>∃z x s,Bw z H/\xs=[x,.ty (TM k)]/\IsS X.K #[H,z] x s/\Yx s/\Q (.bl (X9 k s)) H):=by
 intro pins s σ H xs us Q I rs h
 obtain⟨zz,x,z,hz,rfl,h1,h2,q⟩:=h
 obtain⟨v',u',rfl,r1,r2⟩:=Xq rs
 cases r2
 have fin:∀tk,EP X pins σ Q (.bool (X9 k z)) { s with toks:=tk }:=fun tk=>#[.bl _,H,I.tok tk,rfl,q]
 cases z with
 |d z =>
  cases z with
  |non=>cases Is.non_inv h1;exact GP I r1 .non (by cases k<;>kernel_rfl) fin
  |bl y=>cases Is.bl_inv h1;exact GP I r1 (.bl y) (by cases k<;>kernel_rfl) fin
  |int y=>cases Is.int_inv h1;exact GP I r1 (.int y) (by cases k<;>kernel_rfl) fin
  |str y=>cases Is.str_inv h1;exact GP I r1 (.str y) (by cases k<;>kernel_rfl) fin
  |ty y=>exact h2.elim
  |ref y=>exact h2.elim
  |lst y =>
   obtain⟨p,vs,rfl,g1,g2⟩:=Is.lst_inv h1
   cases r1
   obtain⟨its,_,pl,_⟩:=I.list (hz.seq g1)
   obtain⟨o,n',e1,e2,_⟩:=pl
   exact qAT qBQ I.kIn #[o,e1,e2] (by cases k<;>kernel_rfl) (fun z=>nomatch z) fin
  |tup y =>
   obtain⟨p,vs,rfl,g1,g2⟩:=Is.tup_inv h1
   cases r1
   obtain⟨its,_,pl,_⟩:=I.tuple (SqT.same hz g1)
   obtain⟨o,e1,e2,_⟩:=pl
   exact qAT W.kitx_tuple I.kIn #[o,e1,e2] (by cases k<;>kernel_rfl) (fun z=>nomatch z) fin
 |l y =>
  obtain⟨p,vs,rfl,g1,g2⟩:=h1
  cases r1
  obtain⟨its,_,pl,_⟩:=I.list (SqL.of g1)
  obtain⟨o,n',e1,e2,_⟩:=pl
  exact qAT qBQ I.kIn #[o,e1,e2] (by cases k<;>kernel_rfl) (fun z=>nomatch z) fin
 |r y =>
  obtain⟨p,vs,rfl,g1,g2⟩:=h1
  cases r1
  obtain⟨its,_,pl,_⟩:=I.list g1
  obtain⟨o,n',e1,e2,_⟩:=pl
  exact qAT qBQ I.kIn #[o,e1,e2] (by cases k<;>kernel_rfl) (fun z=>nomatch z) fin
def YS (k:Ty)(te:TE3):TE3:=fun τ R=>te τ fun x=>Yx x/\R (.d (.bl (X9 k x)))
theorem OX (k:Ty){y:Str}{p p2:Pos}(ha:PE3 X e te) (hg:Gl X "isinstance") (hm:X.mg "isinstance"=none) (hg2:Gl X y) (hm2:X.mg y=none) (hv:bootBuiltins y=some (.type (TM k)))
 (hn:y≠"__name__":=by decide) (hd:(y==("__debug__":Str))=false:=by decide)
 (he:starEach [e,.Name y p2] X.env=(false,eval e X.env)::starEach [.Name y p2] X.env:=by exact Dz rfl) (he2:starEach [.Name y p2] X.env=(false,eval (.Name y p2) X.env)::starEach [] X.env:=by exact Dz rfl) (hpl:(backTo pos (starEach [.Name y p2] X.env)).any (·.1)=false:=by exact Gy rfl) :
 PE3 X (.Call (.Name "isinstance" p) [e,.Name y p2] [] pos) (YS k te):=#[BJ (Kc (Sv k) hg hm PyProof.Rows.boot_isinstance (AL ha.out (AL (Ug (v:=.ty (TM k)) hg2 hm2 hv rfl hn hd) BD he2) he) (he:=he) (hpl:=hpl)) fun σ H Q #[B,z,τ,R,r,ht,q] =>
 #[B,_,τ,_,r,ht,fun s v H1 e1 i1 f1 h1=>#[H1.z,v,s,e1.sub,rfl,i1,h1.1,q (.d _) _ H1 e1 (Is.bl _) GD h1.2]]]
abbrev Sp3:=List S->(S->Prop)->(Str->Prop)->Prop
def Ae (K:W.Frag)(mg:Str->Option Value)(sp:Sp3):Sp:=fun vs H Q E=>∃z ss R U,Bw z H/\Args K #[H,z] vs ss/\sp ss R U/\(∀s v q,Ext #[H,z] q->IsS K q v s->Fr3 K #[H,z] q v s->R s->Q v q.h) /\
 ∀x C H',Bw H H'->mg x=some (.ref C)->U x->E (.ref C) none H'
structure Cal (P:Program)(w:World)(K:W.Frag)(mg:Str->Option Value)(base:Heap)(CX:CXT)(k:Nat)(x:Str)(ps:List Str)(sp:Sp3):Prop where
 ex:∃f fd,Aq P w K mg base CX k f fd ps (Ae K mg sp)/\mg x=some (.ref f)/\W.keepIn K (.ref f)=true/\Binds K fd ps []
def NoU:Str->Prop:=fun _=>False
variable {st:Stmt}{rest':List Stmt}{t u:TS3}
def Xu:TS3:=fun D3 τ=>D3.nx τ
def Zh (t u:TS3):TS3:=fun D3 τ=>t { D3 with nx:=u D3 } τ
def ZG (t u:TS3):TS3:=fun D3 τ=>∃mid:Tau->Prop,t { D3 with nx:=mid } τ/\∀τ',mid τ'->u D3 τ'
theorem An:Eg X [] Xu:=#[G7 Uy fun _ _ _ #[_,_,_,_,r,ht,c]=>c.nx _ _ _ r ht]
theorem Af (h:PS3 X st t):Eg X [st] t:=#[Uq h.out]
theorem Aa (h1:PS3 X st t)(h2:Eg X rest' u):Eg X (st::rest') (Zh t u):=#[G7 (NQ h1.out h2.out) fun D2 σ H hh=>by obtain⟨B,z,τ,D3,r,ht,c⟩:=hh;exact#[B,_,τ,{ D3 with nx:=u D3 },r,ht,#[fun τ' σ' p' r' h'=>#[B,_,τ',D3,r',h',c],c.bk,c.ct,c.rt]]]
theorem Cd (h1:PS3 X st t)(h2:Eg X rest' u):Eg X (st::rest') (ZG t u):=#[G7 (NQ h1.out h2.out) fun D2 σ H #[B,z,τ,D3,r,#[mid,ht,hm],c]=>#[B,_,τ,{ D3 with nx:=mid },r,ht,#[fun τ' σ' p' r' h'=>#[B,_,τ',D3,r',hm τ' h',c],c.bk,c.ct,c.rt]]]
def sGd (t u:TS3):TS3:=fun D3 τ=>t { D3 with nx:=fun τ'=>τ'=τ } τ/\u D3 τ
theorem P0 (h1:PS3 X st t)(h2:Eg X rest' u):Eg X (st::rest') (sGd t u):=#[G7 (Cd h1 h2).out fun D2 σ H #[B,z,τ,D3,r,#[ht,hu],c]=>#[B,_,τ,D3,r,#[fun τ'=>τ'=τ,ht,fun τ' e=>by subst e;exact hu],c]]
def VB:TS3:=fun _ _=>False
theorem O2:PS3 X st VB:=#[CS RC fun _ _ _ #[_,_,_,_,_,h,_]=>h.elim]
def XJ (te:TE3):TS3:=fun D3 τ=>te τ fun _=>D3.nx τ
theorem O0 (he:PE3 X e te)(hs:swapsWith e none pos.line X.env=pure false:=by rfl):PS3 X (.Expr e pos) (XJ te):=#[CS (BA he.out hs) fun D2 σ H hh=>by obtain⟨B,z,τ,D3,r,ht,c⟩:=hh;exact#[B,_,τ,_,r,ht,fun s v H' e i f h=>c.nx _ _ _ (r.mono e) h]]
def YJ (te:TE3):TS3:=fun D3 τ=>te τ D3.rt
theorem Yd (he:PE3 X e te):PS3 X (.Return (some e) pos) (YJ te):=#[CS (Tc he.out) fun D2 σ H hh=>by obtain⟨B,z,τ,D3,r,ht,c⟩:=hh;exact#[B,_,τ,_,r,ht,fun s v H' e i f h=>c.rt s v H' (r.ext.trans e) i (Lv r.ext f) h]]
def Vt (i:Nat):TS3:=fun D3 τ=>match τ[i]? with
 |some (some s)=>D3.rt s
 |_=>False
theorem Cj {i:Nat}{x:Str}{pos':Pos}(h:PE X (.Name x pos') (OW i)):PS3 X (.Return (some (.Name x pos')) pos) (Vt i):=#[CS (Tc h) fun D2 σ H hh=>by
 obtain⟨B,z,τ,D3,r,ht,c⟩:=hh
 unfold Vt at ht
 split at ht
 .rename_i s hs
  obtain⟨v,h1,h2⟩:=r.val i s hs
  exact#[v,h1,c.rt s v #[H,z] r.ext h2 (fun xs a e1 e2=>r.own i xs a (by rw[<-e1];exact hs) (by rw[<-e2];exact h1)) ht]
 .exact ht.elim]
def sIf (c:TT3)(t u:TS3):TS3:=fun D3 τ=>c τ fun b=>if b=true then t D3 τ else u D3 τ
theorem B1 {c:Expr}{as bs:List Stmt}{tc:TT3}(hc:PT3 X c tc) (ha:Eg X as t) (hb:Eg X bs u):PS3 X (.If c as bs pos) (sIf tc t u):=#[CS (Yq hc.out ha.out hb.out) fun D2 σ H hh=>by obtain⟨B,z,τ,D3,r,ht,c⟩:=hh;exact#[B,_,τ,_,r,ht,fun b H1 e h=>by
 cases b with
 |true=>rw[if_pos rfl] at h ⊢;exact#[B,_,τ,D3,r.mono e,h,c]
 |false=>rw[if_neg qAs] at h ⊢;exact#[B,_,τ,D3,r.mono e,h,c]]]
def Xk (i:Nat)(te:TE3):TS3:=fun D3 τ=>te τ fun s=>match s with
 |.r _=>False
 |.d x=>D3.nx (τ.set i (some (.d x)))
 |.l xs=>D3.nx (τ.set i (some (.l xs)))
theorem X2 {i:Nat}{x:Str}{pos':Pos}(hN:X.N.Nodup) (hi:X.N[i]? = some x) (hx:Loc X.env.scope x) (he:PE3 X e te) (hs:swapsWith e (some (.Name x pos')) pos.line X.env=pure false:=by rfl) (hf:X.fn x=true\/X.env.scope.names.lookup x=some .local:=by first|exact .inl rfl|exact .inr rfl|assumption) (hp:Em X i:=by first|exact Ed rfl|exact Ea rfl ∅|assumption) :
 PS3 X (.Assign [.Name x pos'] e pos) (Xk i te):=#[CS (W4 hN hi hx he.out hs hf) fun D2 σ H hh=>by obtain⟨B,z,τ,D3,r,ht,c⟩:=hh;exact#[B,_,τ,_,r,ht,fun s v H' e i f h=>by
 cases s with
 |r _=>exact h.elim
 |d y=>exact c.nx _ _ _ (r.set e i f rfl hp) h
 |l ys=>exact c.nx _ _ _ (r.set e i f rfl hp) h]]
theorem Rep.push {B:HZ}{H z:Hp}{τ:Tau}{σ:St}{i:Nat}{xs:List D}{l:Addr}{vs:List V}{w:V}{d:D}(r:Rep X B τ σ #[H,z]) (hi:τ[i]? = some (some (.l xs))) (hσ:σ[i]? = some (some (.ref l)))
 (hl:H l=some (.lst vs)) (hv:Iss X.K z vs xs) (iw:Is X.K z w d):Rep X B (τ.set i (some (.l (xs++[d])))) σ #[upd H l (.lst (vs++[w])),z]:=by
 obtain⟨o1,o2,o3⟩:=r.own i xs l hi hσ
 refine#[by simp[r.len],#[fun b o h=>?_,r.ext.zz,fun b o h=>?_,r.ext.new],fun j s hj=>?_,fun j ys a hj ha=>?_,fun j k ys s a hjk hj hk hs ha=>?_,r.top,r.pin]
 .have hb:b≠l:=by
   rintro rfl
   rw[h] at o1
   cases o1
  show upd H l _ b=some o
  rw[Ag hb]
  exact r.ext.hh b o h
 .have hb:b≠l:=by
   rintro rfl
   have h':z b=some o:=h
   rw[show z b=none from o3] at h'
   cases h'
  show upd H l _ b=some o
  rw[Ag hb]
  exact r.ext.sub b o h
 .rcases AB hj with⟨rfl,rfl⟩|⟨hn,hj⟩
  .exact#[.ref l,hσ,l,_,rfl,Ap,hv.snoc iw]
  .obtain⟨v,h1,h2⟩:=r.val j s hj
   refine#[v,h1,?_]
   cases s with
   |d x=>exact h2
   |l ys =>
    obtain⟨b,ws,rfl,h3,h4⟩:=h2
    have hb:b≠l:=by
     rintro rfl
     exact r.sep i j xs (.l ys) b (fun z=>hn z.symm) hi hj rfl hσ h1
    exact#[b,ws,rfl,by show upd H l _ b=_;rw[Ag hb];exact h3,h4]
   |r ys =>
    obtain⟨b,ws,rfl,h3,h4⟩:=h2
    have hb:b≠l:=by
     rintro rfl
     exact r.sep i j xs (.r ys) b (fun z=>hn z.symm) hi hj rfl hσ h1
    refine#[b,ws,rfl,?_,h4]
    rcases h3 with (h3|⟨o,h3⟩)|h3
    .exact .inl (.inl (by show upd H l _ b=_;rw[Ag hb];exact h3))
    .exact .inl (.inr #[o,by show upd H l _ b=_;rw[Ag hb];exact h3])
    .exact .inr h3
 .rcases AB hj with⟨rfl,_⟩|⟨hn,hj⟩
  .exact r.own j xs a hi ha
  .exact r.own j ys a hj ha
 .rcases AB hj with⟨rfl,_⟩|⟨hn,hj'⟩
  .rcases AB hk with⟨e3,_⟩|⟨hkn,hk'⟩
   .exact absurd e3.symm hjk
   .exact r.sep j k xs s a hjk hi hk' hs ha
  .rcases AB hk with⟨rfl,rfl⟩|⟨hkn,hk'⟩
   .exact r.sep j k ys (.l xs) a hjk hj' hi rfl ha
   .exact r.sep j k ys s a hjk hj' hk' hs ha
def YH (i:Nat)(te:TE3):TS3:=fun D3 τ=>match τ[i]? with
 |some (some (.l xs))=>te τ fun s=>dd s.arg fun d=>xs.length<1000000/\D3.nx (τ.set i (some (.l (xs++[d]))))
 |_=>False
theorem Fo {i:Nat}{o:Expr}{apos cpos:Pos}(h:PS X (.Expr (.Call (.Attribute o "append" apos) [e] [] cpos) pos) (Vw (tBM X.K "list" P6 (OW i) (Ob (FE X te) Xj)))) :
 PS3 X (.Expr (.Call (.Attribute o "append" apos) [e] [] cpos) pos) (YH i te):=#[CS h fun D2 σ H hh=>by
 obtain⟨B,z,τ,D3,r,ht,c⟩:=hh
 unfold YH at ht
 split at ht
 .rename_i xs hs
  obtain⟨v,h1,a,vs,rfl,h2,h3⟩:=r.val i _ hs
  refine#[.ref a,h1,.inl #[rfl,vs,SqL.of h2],B,_,τ,_,r,ht,fun s v H' e i' f h=>?_]
  obtain⟨d,hd,h4,h5⟩:=Fz h
  obtain⟨z',e',i''⟩:=FN e i' f
  rw[hd] at i''
  have sz:(1000000:Nat)<sizeLine:=∅
  exact#[a,vs,v,rfl,rfl,e.hh _ _ h2,by rw[h3.1];omega,c.nx _ _ _ ((r.mono e').push hs h1 (e.hh _ _ h2) (h3.mono e'.zz) i'') h5]
 .exact ht.elim]
def VJ (c:TT3)(tb:TS3):TS3:=fun D3 τ=>∃W:Nat->Tau->Prop,(∃m,W m τ)/\∀m τ,W m τ ->
 c τ fun b=>if b=true then tb { D3 with nx:=fun τ'=>∃m',m'<m/\W m' τ',ct:=fun τ'=>∃m',m'<m/\W m' τ',bk:=D3.nx } τ else D3.nx τ
theorem G3 {c:Expr}{body:List Stmt}{tc:TT3}{tb:TS3}(hp:PassesOwn (model X.prog X.w) X.A X.env X.xe) (hc:PT3 X c tc) (hb:Eg X body tb):PS3 X (.While c body [] pos) (VJ tc tb):=#[CS (Ra hp hc.out hb.out) fun D2 σ H hh=>by
 obtain⟨B,z,τ,D3,r,⟨W,⟨m0,w0⟩,turn⟩,c⟩:=hh
 refine#[fun m σ H=>∃z τ,Rep X B τ σ #[H,z]/\W m τ,#[m0,z,τ,r,w0],?_]
 rintro m σ1 H1 ⟨z1,τ1,r1,w1⟩
 refine#[B,_,τ1,_,r1,turn m τ1 w1,fun b H2 e h=>?_]
 cases b with
 |true =>
  rw[if_pos rfl] at h ⊢
  refine#[fun σ' H'=>∃m',m'<m/\∃z τ,Rep X B τ σ' #[H',z]/\W m' τ,fun σ' H' #[m',h1,h2]=>#[m',h1,h2],B,_,τ1,_,r1.mono e,h,#[?_,c.nx,?_,c.rt]]
  .rintro τ' σ' p' r' ⟨m',h1,h2⟩
   exact#[m',h1,p'.z,τ',r',h2]
  .rintro τ' σ' p' r' ⟨m',h1,h2⟩
   exact#[m',h1,p'.z,τ',r',h2]
 |false =>
  rw[if_neg qAs] at h ⊢
  exact c.nx _ _ _ (r1.mono e) h]
def IH (i:Nat)(xs:List D)(tb:TS3)(D3:Ka)(τ0:Tau):Prop:=∃I:Nat->Tau->Prop,I 0 τ0 /\
 (∀n τ x,xs[n]? = some x->I n τ->tb { D3 with nx:=I (n+1),ct:=I (n+1),bk:=D3.nx } (τ.set i (some (.d x))))/\∀τ,I xs.length τ->D3.nx τ
theorem Rep.setd {B p:HZ}{τ:Tau}{σ:St}{i:Nat}{v:V}{x:D}(r:Rep X B τ σ p) (h:Is X.K p.z v x) (hp:Em X i):Rep X B (τ.set i (some (.d x))) (σ.set i (some v)) p :=
 r.set (s:=.d x) (Ext.refl r.ext.sub) h GD rfl hp
theorem Vk.inB {B B':HZ}{D3:Ka}{D2:Ou}{I:Tau->Prop}{N:St->Hp->Prop}(e:LeB X B B') (c:Vk X B D3 D2) (hN:∀τ σ p,Rep X B' τ σ p->I τ->N σ p.h) :
 Vk X B' { D3 with nx:=I,ct:=I,bk:=D3.nx } { D2 with nx:=N,ct:=N,bk:=D2.nx } :=
 #[hN,fun τ σ H r h=>c.nx τ σ H (r.outB e) h,hN,fun s v q h1 h2 h3 h4=>c.rt s v q (e.ext h1) h2 (fun xs a x1 x2=>#[e.hh.free (h3 xs a x1 x2).1,(h3 xs a x1 x2).2]) h4]
theorem CN {K:W.Frag}{H:Hp}{vs:List V}{xs:List D}{n:Nat}{v:V}(h:Iss K H vs xs) (e:vs[n]? = some v):∃x,xs[n]? = some x/\Is K H v x:=by
 have hn:=(qAe.mp e).1
 have hx:xs[n]? = some (xs[n]'(by rw[<-h.1];exact hn)):=qAb (by rw[<-h.1];exact hn)
 exact#[_,hx,h.2 n v _ e hx]
theorem KB {B:HZ}{τ:Tau}{σ:St}{H z:Hp}{D2:Ou}{D3:Ka}{a:Addr}{vs:List V}{xs:List D}{i:Nat}{tb:TS3}(r:Rep X B τ σ #[H,z]) (c:Vk X B D3 D2) (hs:SqL X.K H a vs) (hv:Iss X.K z vs xs)
 (hno:∀(j:Nat)(ys:List D),τ[j]? = some (some (S.l ys))->σ[j]?≠some (some (V.ref a))) (h:IH i xs tb D3 τ) (hp:Em X i) :
 ∃W:Nat->Nat->St->Hp->Prop,(∃m,W 0 m σ H)/\∀n m σ H,W n m σ H ->
  ((Itl X.K a).stop n H/\D2.nx σ H)\/((Itl X.K a).go n H/\∃N:St->Hp->Prop,(∀σ' H',N σ' H'->∃m',m'<m/\W (n+1) m' σ' H')/\∀x H',(Itl X.K a).yld n H x H'->Ey i x σ H' fun σ2 H2=>FS X tb { D2 with nx:=N,ct:=N,bk:=D2.nx } σ2 H2):=by
 obtain⟨I,i0,turn,out⟩:=h
 have hB:SqL X.K (K2 τ σ H) a vs:=by
  rcases hs with (hs|⟨o,hs⟩)|hs
  .exact .inl (.inl (by rw[Gp hno];exact hs))
  .exact .inl (.inr #[o,by rw[Gp hno];exact hs])
  .exact .inr hs
 refine Rg (K:=X.K) (a:=a) (xs:=vs) (g:=Ey i) (tb:=FS X tb) (D:=D2) (fun n σ1 H1=>∃z1 τ1,Rep X #[K2 τ σ H,z] τ1 σ1 #[H1,z1]/\I n τ1) #[z,τ,r.inB,i0] (fun n σ1 H1 _ #[z1,τ1,r1,_]=>r1.ext.hh.seq hB) ?_ ?_
 .rintro n v σ1 H1 hn ⟨z1,τ1,r1,i1⟩
  obtain⟨x,hx,ix⟩:=CN hv hn
  exact#[_,_,_,_,r1.setd (ix.mono r1.ext.zz) hp,turn n τ1 x hx i1,c.inB r.leB fun τ' σ' p' r' h'=>#[p'.z,τ',r',h']]
 .rintro σ1 H1 ⟨z1,τ1,r1,i1⟩
  exact c.nx _ _ _ (r1.outB r.leB) (out τ1 (by rw[<-hv.1];exact i1))
theorem SV {B:HZ}{τ:Tau}{σ:St}{H z:Hp}{D2:Ou}{D3:Ka}{a:Addr}{vs:List V}{xs:List D}{i:Nat}{tb:TS3}(r:Rep X B τ σ #[H,z]) (c:Vk X B D3 D2) (hs:SqT X.K z a vs) (hv:Iss X.K z vs xs)
 (h:IH i xs tb D3 τ) (hp:Em X i) :
 ∃W:Nat->Nat->St->Hp->Prop,(∃m,W 0 m σ H)/\∀n m σ H,W n m σ H ->
  ((Itt X.K a).stop n H/\D2.nx σ H)\/((Itt X.K a).go n H/\∃N:St->Hp->Prop,(∀σ' H',N σ' H'->∃m',m'<m/\W (n+1) m' σ' H')/\∀x H',(Itt X.K a).yld n H x H'->Ey i x σ H' fun σ2 H2=>FS X tb { D2 with nx:=N,ct:=N,bk:=D2.nx } σ2 H2):=by
 obtain⟨I,i0,turn,out⟩:=h
 refine UQ (K:=X.K) (a:=a) (xs:=vs) (g:=Ey i) (tb:=FS X tb) (D:=D2) (fun n σ1 H1=>∃z1 τ1,Rep X #[K2 τ σ H,z] τ1 σ1 #[H1,z1]/\I n τ1) #[z,τ,r.inB,i0] (fun n σ1 H1 _ #[z1,τ1,r1,_]=>SqT.same (r1.ext.zz.trans r1.ext.sub) hs) ?_ ?_
 .rintro n v σ1 H1 hn ⟨z1,τ1,r1,i1⟩
  obtain⟨x,hx,ix⟩:=CN hv hn
  exact#[_,_,_,_,r1.setd (ix.mono r1.ext.zz) hp,turn n τ1 x hx i1,c.inB r.leB fun τ' σ' p' r' h'=>#[p'.z,τ',r',h']]
 .rintro σ1 H1 ⟨z1,τ1,r1,i1⟩
  exact c.nx _ _ _ (r1.outB r.leB) (out τ1 (by rw[<-hv.1];exact i1))
def VQ (K:W.Frag)(tl:TE):TI:=fun σ H R=>tl σ H fun x H1=>∃a,x=.ref a/\(((∃xs,SqL K H1 a xs)/\R (Itl K a) H1)\/((∃xs,SqT K H1 a xs)/\R (Itt K a) H1))
theorem BP {tg l:Expr}{tl:TE}(hl:PE X l tl):PI X tg l (VQ X.K tl):=by
 intro pins s σ H R I h
 refine thn (hl pins s σ H _ I h) fun v s1 hh9=>?_
 obtain⟨x,H1,I1,r1,q1⟩:=hh9
 obtain⟨a,e,⟨⟨xs,hq⟩,q⟩|⟨⟨xs,hq⟩,q⟩⟩:=q1
 .subst e
  cases r1
  obtain⟨its,rv,p,hz⟩:=I1.list hq
  refine wpAny_pyIter_list p.isList ?_
  refine#[s1.heap.objs.size,[s1.heap.objs.size],_,_,H1,rfl,I1.kept (t':=s1.toks) fun b o e=>qAh _ e,Qf a _,#[_,qAt _ rfl,rfl,rfl],fun b hb=>?_,q]
  have e:b=s1.heap.objs.size:=by simpa using hb
  subst e
  exact I1.fpOk (qAf _) (I1.hok.fresh (qAf _))
 .subst e
  cases r1
  obtain⟨its,rv,p,hz⟩:=I1.tuple hq
  refine wpAny_pyIter_tuple (show s1.heap.IsTuple a its.toArray from p) ?_
  refine#[s1.heap.objs.size,[s1.heap.objs.size],_,_,H1,rfl,I1.kept (t':=s1.toks) fun b o e=>qAh _ e,Oz a _,#[_,qAt _ rfl,rfl,rfl],fun b hb=>?_,q]
  have e:b=s1.heap.objs.size:=by simpa using hb
  subst e
  exact I1.fpOk (qAf _) (I1.hok.fresh (qAf _))
theorem Rep.notown {B:HZ}{τ:Tau}{σ:St}{p:HZ}{a:Addr}{o:HO}(r:Rep X B τ σ p) (h:p.z a=some o):∀(j:Nat)(ys:List D),τ[j]? = some (some (S.l ys))->σ[j]?≠some (some (V.ref a)):=fun j ys h1 h2=>by
 have:=(r.own j ys a h1 h2).2.2
 rw[h] at this
 cases this
theorem JE {B:HZ}{τ:Tau}{σ:St}{p:HZ}{a:Addr}{vs:List V}(r:Rep X B τ σ p) (h:SqL X.K p.z a vs):∀(j:Nat)(ys:List D),τ[j]? = some (some (S.l ys))->σ[j]?≠some (some (V.ref a)):=by
 rcases h with (h|⟨o,h⟩)|⟨o,its,n,h,_⟩
 .exact r.notown h
 .exact r.notown h
 .intro j ys h1 h2
  have:=(r.own j ys a h1 h2).2.1
  rw[h] at this
  cases this
def V9 (j i:Nat)(tb:TS3):TS3:=fun D3 τ=>match τ[j]? with
 |some (some (.d (.tup xs)))=>IH i xs tb D3 τ
 |some (some (.d (.lst xs)))=>IH i xs tb D3 τ
 |some (some (.l xs))=>IH i xs tb D3 (τ.set j (some (.r xs)))
 |some (some (.r xs))=>IH i xs tb D3 (τ.set j (some (.r xs)))
 |_=>False
theorem OL {j i:Nat}{x y:Str}{px py:Pos}{body:List Stmt}{tb:TS3}(h:PS X (.For (.Name x px) (.Name y py) body [] pos) (TC (VQ X.K (OW j)) (Ey i) (FS X tb))) (hp:Em X i:=by first|exact Ed rfl|exact Ea rfl ∅|assumption):PS3 X (.For (.Name x px) (.Name y py) body [] pos) (V9 j i tb):=#[CS h fun D2 σ H hh=>by
 obtain⟨B,z,τ,D3,r,ht,c⟩:=hh
 have lists:∀(s:S)(xs:List D),τ[j]? = some (some s)->s.share=.r xs->IH i xs tb D3 (τ.set j (some (.r xs)))->TC (VQ X.K (OW j)) (Ey i) (FS X tb) D2 σ H:=fun s xs hs hx ht=>by
  obtain⟨v,h1,h2⟩:=r.val j s hs
  have h2':=h2.share
  rw[hx] at h2'
  obtain⟨a,vs,rfl,h3,h4⟩:=h2'
  have r':=r.freeze hs hx
  refine#[.ref a,h1,a,rfl,.inl #[#[vs,h3],KB r' c h3 h4 (fun m ys hm hσ=>?_) ht hp]]
  rcases AB hm with⟨rfl,z⟩|⟨hn,hm'⟩
  .cases z
  .have hl:j<τ.length:=(qAe.mp hs).1
   exact r'.sep m j ys (.r xs) a hn hm (by rw[qBx hl]) rfl hσ h1
 unfold V9 at ht
 split at ht
 .rename_i xs hs
  obtain⟨v,h1,h2⟩:=r.val j _ hs
  obtain⟨a,vs,rfl,h3,h4⟩:=Is.tup_inv h2
  exact#[.ref a,h1,a,rfl,.inr #[#[vs,SqT.same r.ext.sub h3],SV r c h3 h4 ht hp]]
 .rename_i xs hs
  obtain⟨v,h1,h2⟩:=r.val j _ hs
  obtain⟨a,vs,rfl,h3,h4⟩:=Is.lst_inv h2
  exact#[.ref a,h1,a,rfl,.inl #[#[vs,r.ext.sub.seq h3],KB r c (r.ext.sub.seq h3) h4 (JE r h3) ht hp]]
 .rename_i xs hs
  exact lists _ xs hs rfl ht
 .rename_i xs hs
  exact lists _ xs hs rfl ht
 .exact ht.elim]
def Xv (i:Nat)(te:TE3)(tb:TS3):TS3:=fun D3 τ=>te τ fun s=>match s with
 |.l xs=>IH i xs tb D3 τ
 |.d (.tup xs)=>IH i xs tb D3 τ
 |.d (.lst xs)=>IH i xs tb D3 τ
 |_=>False
theorem GS {i:Nat}{x:Str}{px:Pos}{body:List Stmt}{tb:TS3}(h:PS X (.For (.Name x px) e body [] pos) (TC (VQ X.K (FE X te)) (Ey i) (FS X tb))) (hp:Em X i:=by first|exact Ed rfl|exact Ea rfl ∅|assumption):PS3 X (.For (.Name x px) e body [] pos) (Xv i te tb):=#[CS h fun D2 σ H hh=>by
 obtain⟨B,z,τ,D3,r,ht,c⟩:=hh
 refine#[B,_,τ,_,r,ht,fun s v H1 e1 i1 f1 h1=>?_]
 split at h1
 .rename_i xs
  obtain⟨a,vs,rfl,h3,h4⟩:=i1
  refine#[a,rfl,.inl #[#[vs,SqL.of h3],KB (r.mono e1) c (SqL.of h3) h4 (fun m ys hm hσ=>?_) h1 hp]]
  obtain⟨ws,hw,_⟩:=r.own_list hm hσ
  have:=(f1 xs a rfl rfl).1
  rw[hw] at this
  cases this
 .rename_i xs
  obtain⟨a,vs,rfl,h3,h4⟩:=Is.tup_inv i1
  exact#[a,rfl,.inr #[#[vs,SqT.same e1.sub h3],SV (r.mono e1) c h3 h4 h1 hp]]
 .rename_i xs
  obtain⟨a,vs,rfl,h3,h4⟩:=Is.lst_inv i1
  exact#[a,rfl,.inl #[#[vs,e1.sub.seq h3],KB (r.mono e1) c (e1.sub.seq h3) h4 (JE (r.mono e1) h3) h1 hp]]
 .exact h1.elim]
def Yy (i:Nat)(t:TS3):TS3:=fun D3 τ=>match τ[i]? with
 |some (some (.l xs))=>t D3 (τ.set i (some (.d (.lst xs))))
 |_=>False
theorem SF {sts:List Stmt}(i:Nat) (h:Eg X sts t):Eg X sts (Yy i t):=#[G7 h.out fun D2 σ H hh=>by
 obtain⟨B,z,τ,D3,r,ht,c⟩:=hh
 unfold Yy at ht
 split at ht
 .rename_i xs hs
  obtain⟨z',r'⟩:=r.data hs
  exact#[B,z',_,D3,r',ht,c]
 .exact ht.elim]
def YU (i:Nat)(lo st:Int)(cnt:Nat)(tb:TS3)(D3:Ka)(τ0:Tau):Prop:=∃I:Nat->Tau->Prop,I 0 τ0 /\
 (∀(n:Nat) τ,n<cnt->I n τ->tb { D3 with nx:=I (n+1),ct:=I (n+1),bk:=D3.nx } (τ.set i (some (.d (.int (lo+n*st))))))/\∀τ,I cnt τ->D3.nx τ
def XN (i:Nat)(ta:TA3)(tb:TS3):TS3:=fun D3 τ=>ta τ fun ss=>match ss with
 |[.d (.int a),.d (.int j)]=>(-(2^62)<=a/\a<2^62/\-(2^62)<=j/\j<2^62)/\YU i a 1 (j-a).toNat tb D3 τ
 |_=>False
theorem P5 {i:Nat}{x:Str}{px:Pos}{body:List Stmt}{tb:TS3}{ta:TA3}(h:PS X (.For (.Name x px) e body [] pos) (TC (Uo (FA X ta)) (Ey i) (FS X tb))) (hp:Em X i:=by first|exact Ed rfl|exact Ea rfl ∅|assumption):PS3 X (.For (.Name x px) e body [] pos) (XN i ta tb):=#[CS h fun D2 σ H hh=>by
 obtain⟨B,z,τ,D3,r,ht,c⟩:=hh
 refine#[B,_,τ,_,r,ht,fun ss vs H1 e1 i1 h1=>?_]
 split at h1
 .rename_i a j
  obtain⟨v,u,rfl,hv,hu⟩:=VE i1
  cases Is.int_inv hv
  cases Is.int_inv hu
  obtain⟨q1,I,i0,turn,out⟩:=h1
  refine#[a,j,rfl,q1,Pa (lo:=a) (n:=(j-a).toNat) (g:=Ey i) (tb:=FS X tb) (D:=D2) (fun n σ1 H1=>∃z1 τ1,Rep X B τ1 σ1 #[H1,z1]/\I n τ1) #[_,τ,r.mono e1,i0] ?_ ?_]
  .rintro n σ1 H1 hn ⟨z1,τ1,r1,i1⟩
   have tt:=turn n τ1 hn i1
   rw[Int.mul_one] at tt
   exact#[B,_,_,_,r1.setd (.int _) hp,tt,c.inB r.leR fun τ' σ' p' r' h'=>#[p'.z,τ',r',h']]
  .rintro σ1 H1 ⟨z1,τ1,r1,i1⟩
   exact c.nx _ _ _ r1 (out τ1 i1)
 .exact h1.elim]
end
def Ci (N:List Str)(ss:List S):Tau:=ss.map some++List.replicate (N.length-ss.length) none
theorem Ij {α:Type}{ss:List α}{m i:Nat}{s:α}(h:(ss.map some++List.replicate m (none:Option α))[i]? = some (some s)):ss[i]? = some s:=by
 by_cases hi:i<ss.length
 .rw[qAp (by simpa using hi),qAc] at h
  cases e:ss[i]? with
  |none=>rw[e] at h;cases h
  |some a=>rw[e] at h;cases h;rfl
 .rw[qAu (by simpa using hi),qCF] at h
  split at h<;>cases h
theorem E4 {X:Cx}{p:HZ}{N:List Str}{vs:List V}{ss:List S}(h:Args X.K p vs ss) (hz:Bw p.z p.h) (ht:Bw X.H₀ p.h) (hl:X.lent=none:=by rfl):Rep X p (Ci N ss) (L2.start N vs) p:=by
 have no:∀(i:Nat)(xs:List D),¬(Ci N ss)[i]? = some (some (.l xs)):=fun i xs z=>by
  have z':=Ij z
  have hi:=(qAe.mp z').1
  have hv:vs[i]? = some (vs[i]'(by rw[h.1];exact hi)):=qAb (by rw[h.1];exact hi)
  have:=(h.2 i _ _ hv z').2
  cases this
 refine#[by unfold L2.start Ci;simp[h.1],Ext.refl hz,fun i s hs=>?_,fun i xs a z _=>absurd z (no i xs),fun i j xs s a _ z _ _ _=>absurd z (no i xs),fun _=>ht,fun k a hk=>by rw[hl] at hk;cases hk]
 have z':=Ij hs
 have hi:=(qAe.mp z').1
 have hl:i<vs.length:=by rw[h.1];exact hi
 have hv:vs[i]? = some vs[i]:=qAb hl
 refine#[vs[i],?_,(h.2 i _ _ hv z').1]
 unfold L2.start
 rw[qAp (by simpa using hl),qAc,hv]
 rfl
section
variable {P:Program}{w:World}{K:W.Frag}{mg:Str->Option Value}{base:Heap}
theorem fn3 {x qual:Str}{st:Stmt}{f:Addr}{fd:FuncData}{N ps:List Str}{k:Nat}{sp:Sp3}(F:Fun K x qual st f fd) (Sc:Ad N ps (Ab st)) (len:∀ss R U,sp ss R U->ss.length=ps.length)
 (hbody:∀(cdv:Value)(A:Around)(outer:List Env)(s:Shared)(H:Hp)(E:XK)(ss:List S)(R:S->Prop)(U:Str->Prop),E9 k (A.deeper (envOfC qual (Ab st) s.heap.objs.size f cdv))->sp ss R U ->
  ∃t,Eg (K9 CX0 P w K mg base N qual (Ab st) f cdv A outer s H E).nox (Ce st) t/\t { nx:=fun _=>R (.d .non),rt:=R } (Ci N ss)):Aq P w K mg base CX0 (k+1) f fd ps (Ae K mg sp):=by
 refine F.ok Sc (fun vs H Q E hh=>by obtain⟨z,ss,R,U,hz,ha,h3,_⟩:=hh;exact ha.1.trans (len ss R U h3)) fun cdv A outer s H vs Q E hr hh9=>?_
 obtain⟨z,ss,R,U,hz,ha,h3,q,qe⟩:=hh9
 obtain⟨t,ht,hq⟩:=hbody cdv A outer s H E ss R U hr h3
 exact#[_,ht.out,#[H,z],z,Ci N ss,_,E4 ha hz (Bw.refl H),hq,#[fun τ σ p r h=>q (.d .non) _ p r.ext Is.non GD h,fun _ _ _ _ z=>z.elim,fun _ _ _ _ z=>z.elim,fun s v p e i f h=>q s v p e i f h]]
end
def Ny:Sp3:=fun ss R _=>∃ns:List Int,ss=[.r (ns.map D.int)]/\ns.length<=63/\R (.d (.bl true))
theorem KW {K:W.Frag}{H:Hp}(ns:List Int):Iss K H (ns.map V.int) (ns.map D.int):=by
 refine#[by simp,fun i v x h1 h2=>?_]
 rw[qAc] at h1 h2
 cases e:ns[i]? with
 |none=>rw[e] at h1;cases h1
 |some n =>
  rw[e] at h1 h2
  cases h1
  cases h2
  exact .int n
section
variable {X:Cx}{tg:Expr}
variable {e:Expr}{pos:Pos}
end
def Mu:D->Bool
 |.non=>true
 |.bl _=>true
 |.int _=>true
 |.str _=>true
 |_=>false
def Dp:Nat->D->Bool
 |0,x=>Mu x
 |n+1,.tup xs=>xs.all (Dp n)
 |_+1,x=>Mu x
def eqF:D->D->Bool
 |.non,.non=>true
 |.bl a,.bl b=>a==b
 |.bl a,.int b=>(if a then 1 else 0)==b
 |.int a,.bl b=>a==(if b then 1 else 0)
 |.int a,.int b=>a==b
 |.str a,.str b=>a==b
 |_,_=>false
def eqN:Nat->D->D->Bool
 |0,x,y=>eqF x y
 |n+1,.tup xs,.tup ys=>(xs.zip ys).all (fun p=>eqN n p.1 p.2)&&xs.length==ys.length
 |_+1,.tup _,_=>false
 |_+1,_,.tup _=>false
 |_+1,x,y=>eqF x y
theorem GU:∀(n:Nat)(x:D),Dp n x=true->eqN n x x=true
 |0,x,h=>by cases x<;>first|rfl|(exact beq_self_eq_true _)|cases h
 |n+1,x,h=>by
  cases x with
  |tup xs =>
   have h':xs.all (Dp n)=true:=h
   show((xs.zip xs).all (fun p=>eqN n p.1 p.2)&&xs.length==xs.length)=true
   rw[beq_self_eq_true,qCw,qAH]
   rintro⟨a,b⟩ hp
   obtain⟨i,hi⟩:=qCj hp
   rw[qBp] at hi
   obtain⟨h1,h2⟩:=hi
   have e:a=b:=qAn (h1.symm.trans h2)
   subst e
   exact GU n a (qAH.mp h' a (qAK h1))
  |_=>first|rfl|(exact beq_self_eq_true _)|cases h
theorem Is.flatV {K:W.Frag}{H:Hp}{v:V}{x:D}(h:Is K H v x) (f:Mu x=true):flatV v=true:=by
 cases h<;>first|rfl|cases f
theorem VL {K:W.Frag}{H:Hp}{v u:V}{x y:D}(h:Is K H v x) (h':Is K H u y) (f:Mu x=true) (f':Mu y=true):eqV v u=eqF x y:=by
 cases h<;>first|(cases f;done)|(cases h'<;>first|(cases f';done)|rfl)
theorem Fb {its:List Value}{j:Nat}(h:j<its.toArray.size){u:Value}(e:its[j]? = some u):its.toArray[j]=u:=by
 have hj:j<its.length:=by simpa using h
 rw[qAb hj] at e
 have e':=qAn e
 rw[<-e']
 simp
section
variable {X:Cx}{pins:List (Addr×Obj)}{σ:St}{H:Hp}{s:Shared}
theorem SG (I:Inv X pins σ H s):∀(n:Nat){v:V}{x y:D},Dp n x=true->Dp n y=true->Is X.K H v x->Is X.K H v y->x=y
 |0,v,x,y,fx,fy,hx,hy=>by
  cases hx<;>first|(cases fx;done)|(cases hy<;>first|rfl|(cases fy;done))
 |n+1,v,x,y,fx,fy,hx,hy=>by
  cases hx with
  |@tup a vs xs h hl r =>
   cases hy with
   |@tup _ ws ys h2 hl2 r2 =>
    have e:=I.tuple_inj h h2
    subst e
    congr 1
    apply qCy
    intro i
    cases hv:vs[i]? with
    |none =>
     have hi:=qAO.mp hv
     rw[qAO.mpr (),qAO.mpr ()]
    |some v =>
     have hi:=(qAe.mp hv).1
     have hx:xs[i]? = some (xs[i]' ()):=qAb ()
     have hy:ys[i]? = some (ys[i]' ()):=qAb ()
     rw[hx,hy]
     congr 1
     exact SG I n (qAH.mp (show xs.all (Dp n)=true from fx) _ (qAK hx)) (qAH.mp (show ys.all (Dp n)=true from fy) _ (qAK hy)) (r i v _ hv hx) (r2 i v _ hv hy)
   |lst=>cases fy
   |ref=>cases fy
  |lst=>cases fx
  |ref=>cases fx
  |ty=>cases fx
  |_=>cases hy<;>first|rfl|(cases fy;done)
theorem Ll (I:Inv X pins σ H s){n:Nat}{A:Around}{a b:Addr}{vs ws:List V}{xs ys:List D}(ha:SqT X.K H a vs) (hb:SqT X.K H b ws) (hx:Iss X.K H vs xs) (hy:Iss X.K H ws ys) (hu:A.units<cLine)
 (ih:∀(x y:D)(v u:V)(v' u':Value),x∈xs->y∈ys->Is X.K H v x->Is X.K H u y->CK v v'->CK u u'->SeqAt.EqAt A.in1 s v' u' (eqN n x y)):SeqAt.RcAt A s (.ref a) (.ref b) (eqN (n+1) (.tup xs) (.tup ys)):=by
 obtain⟨its,r1,p1,_⟩:=I.tuple ha
 obtain⟨its2,r2,p2,_⟩:=I.tuple hb
 have l1:=r1.length
 have l2:=r2.length
 have k1:=hx.1
 have k2:=hy.1
 have key:=SeqAt.RcAt.tuples (A:=A) (s:=s) (l:=a) (b:=b) (items:=its.toArray) (items2:=its2.toArray) (e:=fun j=>match xs[j]?,ys[j]? with|some x,some y=>eqN n x y|_,_=>true) p1 p2 hu (fun j h1 h2=>by
  have h1':j<its.length:=by simpa using h1
  have h2':j<its2.length:=by simpa using h2
  have gx:xs[j]? = some (xs[j]' ()):=qAb ()
  have gy:ys[j]? = some (ys[j]' ()):=qAb ()
  have gv:vs[j]? = some (vs[j]' ()):=qAb ()
  have gw:ws[j]? = some (ws[j]' ()):=qAb ()
  obtain⟨u1,e1,q1⟩:=r1.get gv
  obtain⟨u2,e2,q2⟩:=r2.get gw
  rw[Fb h1 e1,Fb h2 e2]
  rw[gx,gy]
  exact ih _ _ _ _ _ _ (qAK gx) (qAK gy) (hx.2 j _ _ gv gx) (hy.2 j _ _ gw gy) q1 q2)
 have e:eqN (n+1) (.tup xs) (.tup ys)=((List.range (min its.toArray.size its2.toArray.size)).all (fun j=>match xs[j]?,ys[j]? with|some x,some y=>eqN n x y|_,_=>true)&&its.toArray.size==its2.toArray.size):=by
  show((xs.zip ys).all (fun p=>eqN n p.1 p.2)&&xs.length==ys.length)=_
  have s1:its.toArray.size=xs.length:=by simp;omega
  have s2:its2.toArray.size=ys.length:=by simp;omega
  rw[s1,s2]
  congr 1
  rw[qBM,qAH,qAH]
  constructor
  .intro h j hj
   rw[qAJ] at hj
   have gx:xs[j]? = some (xs[j]' ()):=qAb ()
   have gy:ys[j]? = some (ys[j]' ()):=qAb ()
   rw[gx,gy]
   exact h (_,_) (qAK (qBp.mpr #[gx,gy]))
  .rintro h ⟨x,y⟩ hp
   obtain⟨j,hj⟩:=qCj hp
   obtain⟨gx,gy⟩:=qBp.mp hj
   have h1:=(qAe.mp gx).1
   have h2:=(qAe.mp gy).1
   have:=h j (by rw[qAJ];omega)
   simp only[] at gx gy
   rw[gx,gy] at this
   exact this
 rw[e]
 exact key
theorem Po (I:Inv X pins σ H s):∀(n:Nat)(A:Around)(x y:D)(v u:V)(v' u':Value),A.units+n<cLine->Dp n x=true->Dp n y=true->Is X.K H v x->Is X.K H u y->CK v v'->CK u u'->SeqAt.EqAt A s v' u' (eqN n x y)
 |0,A,x,y,v,u,v',u',_,fx,fy,hx,hy,rv,ru=>by
  show SeqAt.EqAt A s v' u' (eqF x y)
  rw[<-VL hx hy fx fy]
  exact S7 rv ru (hx.flatV fx) (hy.flatV fy)
 |n+1,A,x,y,v,u,v',u',hu,fx,fy,hx,hy,rv,ru=>by
  have flat:Mu x=true->Mu y=true->eqN (n+1) x y=eqF x y->SeqAt.EqAt A s v' u' (eqN (n+1) x y):=fun f1 f2 e=>by
   rw[e,<-VL hx hy f1 f2]
   exact S7 rv ru (hx.flatV f1) (hy.flatV f2)
  have hu0:A.units<cLine:=()
  cases hx with
  |@tup a vs xs ha hl r =>
   cases rv
   obtain⟨its,r1,p1,_⟩:=I.tuple ha
   have t1:s.heap.IsTuple a its.toArray:=p1
   cases hy with
   |@tup b ws ys hb hl2 r2 =>
    cases ru
    by_cases hab:a=b
    .subst hab
     have e:=SG I (n+1) fx fy (.tup ha hl r) (.tup hb hl2 r2)
     rw[e,GU (n+1) _ fy]
     exact SeqAt.EqAt.same _
    .refine SeqAt.EqAt.of_refs hab (Ll I ha hb #[hl,r] #[hl2,r2] hu0 fun x y v u v' u' mx my ix iy rv ru=>?_)
     exact Po I n A.in1 x y v u v' u' (by show A.units+1+n<cLine;omega) (qAH.mp (show xs.all (Dp n)=true from fx) x mx) (qAH.mp (show ys.all (Dp n)=true from fy) y my) ix iy rv ru
   |non=>cases ru;exact SeqAt.EqAt.tuple_none t1 hu0
   |bl c=>cases ru;exact SeqAt.EqAt.tuple_bool c t1 hu0
   |int c=>obtain⟨t,rfl⟩:=ru;exact SeqAt.EqAt.tuple_int c t t1 hu0
   |str c=>obtain⟨t,rfl⟩:=ru;exact SeqAt.EqAt.tuple_str c t t1 hu0
   |ty c=>cases fy
   |lst=>cases fy
   |ref=>cases fy
  |non =>
   cases hy with
   |@tup b ws ys hb hl2 r2 =>
    cases ru;cases rv
    obtain⟨its,r1,p1,_⟩:=I.tuple hb
    exact SeqAt.EqAt.none_tuple (show s.heap.IsTuple b its.toArray from p1) hu0
   |ty c=>cases fy
   |lst=>cases fy
   |ref=>cases fy
   |_=>exact flat rfl rfl rfl
  |bl c =>
   cases hy with
   |@tup b ws ys hb hl2 r2 =>
    cases ru;cases rv
    obtain⟨its,r1,p1,_⟩:=I.tuple hb
    exact SeqAt.EqAt.bool_tuple c (show s.heap.IsTuple b its.toArray from p1) hu0
   |ty c=>cases fy
   |lst=>cases fy
   |ref=>cases fy
   |_=>exact flat rfl rfl rfl
  |int c =>
   cases hy with
   |@tup b ws ys hb hl2 r2 =>
    obtain⟨t,rfl⟩:=rv;cases ru
    obtain⟨its,r1,p1,_⟩:=I.tuple hb
    exact SeqAt.EqAt.int_tuple c t (show s.heap.IsTuple b its.toArray from p1) hu0
   |ty c=>cases fy
   |lst=>cases fy
   |ref=>cases fy
   |_=>exact flat rfl rfl rfl
  |str c =>
   cases hy with
   |@tup b ws ys hb hl2 r2 =>
    obtain⟨t,rfl⟩:=rv;cases ru
    obtain⟨its,r1,p1,_⟩:=I.tuple hb
    exact SeqAt.EqAt.str_tuple c t (show s.heap.IsTuple b its.toArray from p1) hu0
   |ty c=>cases fy
   |lst=>cases fy
   |ref=>cases fy
   |_=>exact flat rfl rfl rfl
  |ty c=>cases fx
  |lst=>cases fx
  |ref=>cases fx
def YG (n:Nat):R3:=fun dx dy R=>match dx,dy with
 |.tup xs,.tup ys=>Dp n (.tup xs)=true/\Dp n (.tup ys)=true/\R (.bl (eqN n (.tup xs) (.tup ys)))
 |_,_=>False
theorem Ss (n:Nat)(hu:X.A.units+n<cLine):Ib X (compareOp .Eq) (YG n):=by
 intro pins s σ H x y v u Q I rx ry h
 obtain⟨z,dx,dy,R,hz,hx,hy,h3,q⟩:=h
 replace hx:=hx.mono hz
 replace hy:=hy.mono hz
 unfold YG at h3
 split at h3
 .rename_i xs ys
  obtain⟨fx,fy,h3⟩:=h3
  cases n with
  |zero=>cases fx
  |succ n =>
   obtain⟨a,vs,rfl,ha,ia⟩:=Is.tup_inv hx
   obtain⟨b,ws,rfl,hb,ib⟩:=Is.tup_inv hy
   cases rx
   cases ry
   refine Ll (A:=X.A) (n:=n) I ha hb ia ib () (fun x y v u v' u' mx my ix iy rv ru=>?_) X.prog X.w X.xe _ #[.bl _,H,I,rfl,q _ _ #[H,z] (Ext.refl hz) (.bl _) h3]
   exact Po I n X.A.in1 x y v u v' u' (by show X.A.units+1+n<cLine;omega) (qAH.mp (show xs.all (Dp n)=true from fx) x mx) (qAH.mp (show ys.all (Dp n)=true from fy) y my) ix iy rv ru
 .exact h3.elim
end
theorem Dt.there {P:Program}{w:World}{H:Hp}{h:Heap}{a:Addr}{o:HO}(x:Dt P w H h a o):∃u,h.get? a=some u:=by
 cases o with
 |lst xs=>obtain⟨_,_,_,_,e⟩:=x;exact#[_,e]
 |tup xs=>obtain⟨_,_,_,_,e,_⟩:=x;exact#[_,e]
 |dK kvs=>obtain⟨_,_,_,_,o,_,_,e,_⟩:=x;exact#[_,e]
 |dT kvs=>obtain⟨_,_,_,_,o,_,_,e,_⟩:=x;exact#[_,e]
 |set S n=>obtain⟨o,_,_,_,e,_⟩:=x;exact#[_,e]
 |ins C dx fs=>obtain⟨_,_,_,e,_⟩:=x;exact#[_,e]
 |own y=>obtain⟨_,e⟩:=x;exact#[_,e]
 |xd fs=>obtain⟨_,⟨_,_,_,e,_⟩,_⟩:=x;exact#[_,e]
 |rng lo hi=>obtain⟨_,_,_,e⟩:=x;exact#[_,e]
 |frz ob u=>obtain⟨e,_⟩:=x;exact#[_,e]
 |tbl ps=>obtain⟨_,e,_⟩:=x;exact#[_,e]
 |met f y=>exact#[_,show h.get? a=some _ from x]
 |ext φ=>obtain⟨_,⟨_,e⟩,_⟩:=x;exact#[_,e]
structure Fly (P:Program)(w:World)(l:List Env)(H H':Hp)(h h':Heap)(ea C:Addr)(a0:Value)(B:Heap):Prop where
 fl:Heap.FlyingW B l ea (.ref C) a0 h'
 un:Un (frs l) [] H H' h h'
 hok:HOk P w H' h'
 kb:∀b o,h.get? b=some o->H b=none->b∉frs l->B.get? b=some o
 tr:∀b o,H' b=some o->∃ob,B.get? b=some ob
 old:∀b o,h.get? b=some o->b∉frs l->∃ob,B.get? b=some ob
section
variable {P:Program}{w:World}{l:List Env}{H H':Hp}{h h' h'':Heap}{ea C:Addr}{a0:Value}{B:Heap}
theorem NI {l:List Env}{b:Addr}{B h:Heap}(F:h.FunFrames B l) (hb:b∈frs l):∃o,h.get? b=some o/\∀vs,o.data≠.fields vs:=(F.mem hb).2
theorem Wo {H':Hp}{h' h'':Heap}{B:Heap}(ok:HOk P w H' h') (tr:∀b o,H' b=some o->∃ob,B.get? b=some ob) (s1:B.StaysIn h') (s2:B.StaysIn h''):HOk P w H' h'':=fun a o e=>by
 refine(ok a o e).stay (fun b u hb q=>?_) (fun _ q=>q) fun _ _ q=>q
 have hB:∃ob,B.get? b=some ob:=by
  rcases hb with rfl|hb
  .exact tr _ _ e
  .exact tr _ _ hb
 obtain⟨ob,eb⟩:=hB
 have:=s1 b ob eb
 rw[q] at this
 cases this
 exact s2 b _ eb
end
def CXU (P:Program)(w:World):CXT:=fun outer H s E e s'=>∃(ea C:Addr)(a0:Value)(B:Heap)(H':Hp),e=.ref ea/\s'.os=s.os/\AllBare s'.gens/\Fly P w outer H H' s.heap s'.heap ea C a0 B/\E (.ref C) none H'
theorem Gu {env:Env}{l:List Env}{L:Addr}(h:env.frame=some L):frs (env::l)=L::frs l:=by
 unfold frs
 rw[qBh,h]
section
variable {X:Cx}{pins:List (Addr×Obj)}{σ:St}{H H':Hp}{s s':Shared}{ea C:Addr}{a0:Value}{B:Heap}{h1:Heap}{vs:List Value}
theorem UD (I:Inv X pins σ H s)(hst:X.stack=X.env::X.outer)(hf:X.env.frame=some X.env.locals)(hex:X.ex=[])(hx:Heap.MadeExcOf s.heap h1 ea (.ref C) vs){Q:Unit->Shared->Prop}{E:Value->Shared->Prop}
 (hQ:∀(h':Heap)(t:Addr)(B:Heap),Fly X.prog X.w X.outer X.H₀ H X.s₀.heap h' ea C (.ref t) B->Q Unit.unit { s with heap:=h' }) :
 wpAny (model X.prog X.w) X.A (leaving X.env (.ref ea)) Q E { s with heap:=h1 }:=by
 have hfr:X.A.frames=some (X.env::X.outer):=by rw[<-hst];exact I.ok.frames
 have hstk:=I.stack
 rw[hst] at hstk
 have hin:∀env∈(X.env::X.outer),∀b,env.frame=some b->b∈frs (X.env::X.outer):=fun env he b hb=>qB1.mpr #[env,he,hb]
 have hB:∀b o,s.heap.get? b=some o->b∉frs (X.env::X.outer)->(W.hideAll s.heap (frs (X.env::X.outer))).get? b=some o:=fun b o e hb=>W.hideAll_get _ e hb
 have ho:∀b o,(W.hideAll s.heap (frs (X.env::X.outer))).get? b=some o->s.heap.get? b=some o:=fun b o e=>W.of_hideAll _ e
 refine wpAny_leaves_madeW (base:=W.hideAll s.heap (frs (X.env::X.outer))) (h:=s.heap) (s:={ s with heap:=h1 }) hfr hf ho (W.funFrames_hide hstk hin) hx fun h' t fl _ _ up=>?_
 refine hQ h' t (W.hideAll s.heap (frs (X.env::X.outer))) ?_
 have up0:s.heap.UpToSlots h':=(Heap.UpToSlots.of_keeps hx.keeps).trans up
 have old:∀b o,X.s₀.heap.get? b=some o->b∉frs X.outer->b∉frs (X.env::X.outer):=fun b o e hb hm=>by
  rw[Gu hf] at hm
  rcases qAl.mp hm with rfl|hm
  .exact absurd (qAv (qAj e) I.ok.above) (qAZ _)
  .exact hb hm
 have nex:∀b:Addr,b∉X.ex:=fun b z=>by rw[hex] at z;cases z
 have tfr:∀b o,H b=some o->b∉frs (X.env::X.outer):=fun b o e hm=>by
  have:=I.stkFree b (by rw[hst];exact hm)
  rw[e] at this
  cases this
 have tr:∀b o,H b=some o->∃ob,(W.hideAll s.heap (frs (X.env::X.outer))).get? b=some ob:=fun b o e=>by
  obtain⟨u,eu⟩:=Dt.there (I.hok b o e)
  exact#[u,hB b u eu (tfr b o e)]
 refine#[fl,#[fun b o e n hb _=>?_,fun b o e n hb _=>?_,fun b o e n _=>I.base.free b o e n (nex b),fun b o e _=>?_,I.base.tups,I.base.frzs,I.base.tbls],Wo I.hok tr ho fl.1,fun b o e n hb=>?_,tr,fun b o e hb=>?_]
 .exact fl.1 b o (hB b o (I.base.keep b o e n hb (nex b)) (old b o e hb))
 .obtain⟨sl,e1⟩:=I.base.slot b o e n hb (nex b)
  obtain⟨o2,e2,d⟩:=NI hstk (by rw[Gu hf];exact qAP _ hb)
  rw[e1] at e2
  cases e2
  obtain⟨sl2,e3⟩:=up0 b _ e1 d
  exact#[sl2,e3]
 .obtain⟨o1,e1⟩:=I.base.there b o e (nex b)
  by_cases hb:b∈frs X.outer
  .obtain⟨o2,e2,d⟩:=NI hstk (by rw[Gu hf];exact qAP _ hb)
   obtain⟨sl2,e3⟩:=up0 b _ e2 d
   exact#[_,e3]
  .exact#[o1,fl.1 b o1 (hB b o1 e1 (old b o e hb))]
 .exact hB b o (I.base.keep b o e n hb (nex b)) (old b o e hb)
 .obtain⟨o1,e1⟩:=I.base.there b o e (nex b)
  exact#[o1,hB b o1 e1 (old b o e hb)]
theorem V8 (I:Inv X pins σ H s)(hst:X.stack=X.env::X.outer)(hf:X.env.frame=some X.env.locals)(hex:X.ex=[])(f:Fly X.prog X.w X.stack H H' s.heap s'.heap ea C a0 B){Q:Unit->Shared->Prop}{E:Value->Shared->Prop}
 (hQ:∀h':Heap,Fly X.prog X.w X.outer X.H₀ H' X.s₀.heap h' ea C a0 B->Q Unit.unit { s' with heap:=h' }):wpAny (model X.prog X.w) X.A (leaving X.env (.ref ea)) Q E s':=by
 have hfr:X.A.frames=some (X.env::X.outer):=by rw[<-hst];exact I.ok.frames
 rw[hst] at f
 refine wpAny_leaves_onW hfr hf f.fl fun h' fl up=>hQ h' ?_
 have old:∀b o,X.s₀.heap.get? b=some o->b∉frs X.outer->b∉frs (X.env::X.outer):=fun b o e hb hm=>by
  rw[Gu hf] at hm
  rcases qAl.mp hm with rfl|hm
  .exact absurd (qAv (qAj e) I.ok.above) (qAZ _)
  .exact hb hm
 have nex:∀b:Addr,b∉X.ex:=fun b z=>by rw[hex] at z;cases z
 have up_:∀b,b∈frs X.outer->b∈frs (X.env::X.outer):=fun b hb=>by rw[Gu hf];exact qAP _ hb
 have kb:∀b o,X.s₀.heap.get? b=some o->X.H₀ b=none->b∉frs X.outer->B.get? b=some o:=fun b o e n hb =>
  f.kb b o (I.base.keep b o e n hb (nex b)) (I.base.free b o e n (nex b)) (old b o e hb)
 have ol:∀b o,X.s₀.heap.get? b=some o->b∉frs X.outer->∃ob,B.get? b=some ob:=fun b o e hb=>by
  obtain⟨o1,e1⟩:=I.base.there b o e (nex b)
  exact f.old b o1 e1 (old b o e hb)
 refine#[fl,#[fun b o e n hb _=>fl.1 b o (kb b o e n hb),fun b o e n hb _=>?_,fun b o e n _=>?_,fun b o e _=>?_,fun b xs e=>f.un.tups b xs (I.base.tups b xs e),fun b o u e=>f.un.frzs b o u (I.base.frzs b o u e),fun b ps e=>?_],Wo f.hok f.tr f.fl.1 fl.1,kb,f.tr,ol]
 .obtain⟨sl,e1⟩:=I.base.slot b o e n hb (nex b)
  obtain⟨sl1,e2⟩:=f.un.slot b _ e1 (I.base.free b o e n (nex b)) (up_ b hb) (by simp)
  obtain⟨o3,e3,d⟩:=NI f.fl.2.2.1 (up_ b hb)
  rw[e2] at e3
  cases e3
  obtain⟨sl2,e4⟩:=up b _ e2 d
  exact#[sl2,e4]
 .obtain⟨o1,e1⟩:=I.base.there b o e (nex b)
  exact f.un.free b o1 e1 (I.base.free b o e n (nex b)) (by simp)
 .by_cases hb:b∈frs X.outer
  .obtain⟨o3,e3,d⟩:=NI f.fl.2.2.1 (up_ b hb)
   obtain⟨sl2,e4⟩:=up b _ e3 d
   exact#[_,e4]
  .obtain⟨ob,eb⟩:=ol b o e hb
   exact#[ob,fl.1 b ob eb]
 .obtain⟨m1,e1⟩:=I.base.tbls b ps e
  obtain⟨m2,e2⟩:=f.un.tbls b _ e1
  exact#[m1++m2,by rw[e2,Array.append_assoc]]
end
structure ExC (K:W.Frag)(x:Str)(C:Addr):Prop where
 ns:W.nsIn K mainGlobals x=some (some (.ref C))
 ex:W.excIn K C [.type "ValueError",.type "Exception",.type "BaseException",.type "object"] "ValueError.__new__"=true
theorem Rm {K:W.Frag}{mg:Str->Option Value}{base:Heap}(M:Mod K mg base) (p:Program):∃loose mb,W.TopRead p loose mg mb base:=by
 obtain⟨o,es,ep,ho,hd,hk,hm⟩:=M.glob
 obtain⟨mb,h1,h2⟩:=M.blt
 refine#[es.toList.filterMap fun e=>match e.key with|.str x _=>some x|_=>none,mb,M.glob,h1,M.nolimit,h2,fun x _ hx _ _ _=>?_]
 rw[<-hm x]
 unfold nsFind findBy
 cases q:es.find? (fun e=>e.key.isStr x) with
 |none=>rfl
 |some e =>
  exfalso
  have h3:=Array.find?_some q
  have h4:=Array.mem_of_find?_eq_some q
  apply hx
  rw[qB1]
  refine#[e,by simpa using h4,?_]
  obtain⟨kh,key,val⟩:=e
  cases key with
  |str y t =>
   have h5:(Value.str y t).isStr x=true:=h3
   have h6:y=x:=by simpa [Value.isStr] using h5
   show some y=some x
   rw[h6]
  |_=>cases h3
structure Uz (X:Cx)(U:Str->Prop):Prop where
 raise:∀(pins:List (Addr×Obj))(σ:St)(H:Hp)(s:Shared)(h1:Heap)(ea C:Addr)(x:Str)(vs:List Value),Inv X pins σ H s->Bw X.H₀ H->X.mg x=some (.ref C)->U x->Heap.MadeExcOf s.heap h1 ea (.ref C) vs->X.xe (.ref ea) { s with heap:=h1 }
 pass:∀(pins:List (Addr×Obj))(σ:St)(H:Hp)(s:Shared)(e:Value)(s':Shared),Inv X pins σ H s->CXU X.prog X.w X.stack H s (fun cls _ H'=>∃x,X.mg x=some cls/\U x/\Bw X.H₀ H') e s'->X.xe e s'
theorem Qe {P:Program}{w:World}{K:W.Frag}{mg:Str->Option Value}{base:Heap}{N:List Str}{qual:Str}{scope:Scope}{f:Addr}{cd:Value}{A:Around}{outer:List Env}{s:Shared}{H:Hp}{E:XK}{U:Str->Prop}
 (hE:∀x C H',Bw H H'->mg x=some (.ref C)->U x->E (.ref C) none H'):Uz (K9 (CXU P w) P w K mg base N qual scope f cd A outer s H E) U where
 raise:=fun pins σ H1 s1 h1 ea C x vs I hs hm hu hx=>UD I rfl rfl rfl hx fun h' t B fl=>#[ea,C,.ref t,B,H1,rfl,I.os,I.bare,fl,hE x C H1 hs hm hu]
 pass:=fun pins σ H1 s1 e s' I h=>by
  obtain⟨ea,C,a0,B,H',rfl,ho,hg,fl,x,hm,hu,hs⟩:=h
  exact V8 I rfl rfl rfl fl fun h' fl'=>#[ea,C,a0,B,H',rfl,ho.trans I.os,hg,fl',hE x C H' hs hm hu]
section
variable {X:Cx}{U:Str->Prop}{e:Expr}{es:List Expr}{te:TE3}{tr:TA3}{pos:Pos}
def We (U:Str->Prop)(x:Str)(te:TE3):TS3:=fun _ τ=>te τ fun _=>U x
theorem FV {x:Str}{C:Addr}{np cpos:Pos}(xo:Uz X U) (hc:X.calm=true) (he:PE3 X e te) (hg:Gl X x) (ec:ExC X.K x C) (hm:X.mg x=some (.ref C))
 (hs:starEach [e] X.env=(false,eval e X.env)::starEach [] X.env:=by exact Dz rfl) (hplain:(backTo cpos (starEach [e] X.env)).any (·.1)=false:=by exact Gy rfl) (hd:(x==("__debug__":Str))=false:=by decide) (hl:X.lent=none:=by rfl) :
 PS3 X (.Raise (some (.Call (.Name x np) [e] [] cpos)) none pos) (We U x te):=by
 refine#[?_]
 intro pins s σ H D2 I h
 obtain⟨B,z,τ,D3,r,ht,c⟩:=h
 obtain⟨loose,mb,T⟩:=Rm I.mod X.prog
 obtain⟨tl,N,nm,q,bs,hdct,sn,sub,ab,col,dd,k0,k1,k2,k3,k5,mN,hC,hN,hni,TL⟩:=(W.own_of_in I.mod.kin T ec.ns ec.ex).obj
 refine wpAny_Raise_call_subT (C:=C) (nm:=nm) (q:=q) (N:=N) (bs:=bs) (bm:=tl) (hdct:=hdct) (sn:=sn) (sub:=sub) (ab:=ab) (col:=col) (dd:=dd) (k0:=k0) (k1:=k1) (k2:=k2) (k3:=k3) (k5:=k5)
  PySem.F.excBase_ValueError (mN:=mN) (TL.hasType PySem.F.excBase_ValueError.hasBase) (I.ok.hd hc) hplain hni (IW I hg hm #[rfl,?_] hd)
 have pa:=(AL he.out BD hs) cpos pins s σ H (fun vs H1=>vs.length=1/\Bw X.H₀ H1/\U x) I #[B,_,τ,_,r,ht,fun s' v H' e' i' f' h'=>#[rfl,(r.all hl).trans e'.hh,h']]
 rw[hs] at pa ⊢
 refine Calls.evalArgs_plain (thn pa fun us s2 #[vs,H2,I2,rv,hl,hsame,hu]=>#[rfl,?_,I2.bk _ _ hC,hN.keeps I2.bk,TL.keeps I2.bk,fun h' ea hx=>?_])
 .have:=rv.length
  show us.length<=sizeLine
  have z:us.length=1:=()
  rw[z]
  decide
 .exact xo.raise pins σ H2 s2 h' ea C x us I2 hsame hm hu hx
def OY (U:Str->Prop)(sp:Sp3)(t:TA3):TE3:=fun τ R=>t τ fun ss=>sp ss R U
theorem Pw {k:Nat}{x:Str}{ps:List Str}{sp:Sp3}{p:Pos}(xo:Uz X U) (c:Cal X.prog X.w X.K X.mg X.base (CXU X.prog X.w) k x ps sp) (hr:E9 k X.A) (hg:Gl X x) (ha:PA3 X (e::es) tr)
 (hdb:(x==("__debug__":Str))=false:=by decide) (he:starEach (e::es) X.env=(false,eval e X.env)::starEach es X.env:=by exact Dz rfl) (hpl:(backTo pos (starEach es X.env)).any (·.1)=false:=by exact Gy rfl) (hl:X.lent=none\/∀y,¬U y:=by first|exact .inl rfl|exact .inr (fun _ z=>z)) :
 PE3 X (.Call (.Name x p) (e::es) [] pos) (OY U sp tr):=by
 refine#[?_]
 obtain⟨f,fd,F,hm,hk,hb⟩:=c.ex
 refine BJ (ON (E:=fun cls _ H'=>∃y,X.mg y=some cls/\U y/\Bw X.H₀ H') F hr hg hm hk hb .nil (fun pins σ H s e s' I h=>xo.pass pins σ H s e s' I h) ha.out hdb he hpl) fun σ H Q #[B,z,τ,R,r,ht,q]=>#[B,_,τ,_,r,ht,fun ss vs H1 e1 i1 h1=>?_]
 show Ae X.K X.mg sp (vs++[]) H1.h Q _
 rw[qBq]
 exact#[H1.z,ss,R,U,e1.sub,i1,h1,fun s v H2 e2 i2 f2 h2=>q s v H2 (e1.trans e2) i2 (Lv e1 f2) h2,fun y C H2 e2 hy hu=>#[y,hy,hu,hl.elim (fun hl=>(r.all hl).trans (e1.hh.trans e2)) (fun hn=>(hn y hu).elim)]]
end
section
variable {P:Program}{w:World}{K:W.Frag}{mg:Str->Option Value}{base:Heap}
theorem fnU {x qual:Str}{st:Stmt}{f:Addr}{fd:FuncData}{N ps:List Str}{k:Nat}{sp:Sp3}(F:Fun K x qual st f fd) (Sc:Ad N ps (Ab st)) (len:∀ss R U,sp ss R U->ss.length=ps.length)
 (hbody:∀(cdv:Value)(A:Around)(outer:List Env)(s:Shared)(H:Hp)(E:XK)(ss:List S)(R:S->Prop)(U:Str->Prop),E9 k (A.deeper (envOfC qual (Ab st) s.heap.objs.size f cdv))->sp ss R U ->
  Uz (K9 (CXU P w) P w K mg base N qual (Ab st) f cdv A outer s H E) U ->
  ∃t,Eg (K9 (CXU P w) P w K mg base N qual (Ab st) f cdv A outer s H E) (Ce st) t/\t { nx:=fun _=>R (.d .non),rt:=R } (Ci N ss)):Aq P w K mg base (CXU P w) (k+1) f fd ps (Ae K mg sp):=by
 obtain⟨oc,od,kV,doc,pm,an,cdv,ct,osl,rfl,lk,hcd⟩:=F.ex
 refine R5 lk hcd Sc (fun vs H Q E hh=>by obtain⟨z,ss,R,U,hz,ha,h3,_⟩:=hh;exact ha.1.trans (len ss R U h3)) fun A outer s H vs Q E hr hh9=>?_
 obtain⟨z,ss,R,U,hz,ha,h3,q,qe⟩:=hh9
 obtain⟨t,ht,hq⟩:=hbody cdv A outer s H E ss R U hr h3 (Qe qe)
 exact#[_,ht.out,#[H,z],z,Ci N ss,_,E4 ha hz (Bw.refl H),hq,#[fun τ σ p r h=>q (.d .non) _ p r.ext Is.non GD h,fun _ _ _ _ z=>z.elim,fun _ _ _ _ z=>z.elim,fun s v p e i f h=>q s v p e i f h]]
theorem Aq.anyCX {CX:CXT}{k:Nat}{f:Addr}{fd:FuncData}{ps:List Str}{sp:Sp}(F:Aq P w K mg base CX0 k f fd ps sp):Aq P w K mg base CX k f fd ps sp :=
 #[F.len,fun A outer s H args us vs Q E hr h0 hb hv hs=>codeAny_mono (F.run A outer s H args us vs Q E hr h0 hb hv hs) fun r s' h=>by
  cases r with
  |error e=>exact(show False from h).elim
  |ok fl=>cases fl<;>exact h]
end
section
variable {K:W.Frag}{M:Model}{A:Around}{E:Value->Shared->Prop}{s:Shared}
end
section
variable {X:Cx}{pins:List (Addr×Obj)}{σ:St}{H H':Hp}{s s':Shared}{ea C:Addr}{a0:Value}{B:Heap}
end
section
variable {X:Cx}{e:Expr}{es:List Expr}{tr:TA3}{th:TS3}
end
theorem TN {X:Cx}:Uz X NoU where
 raise:=fun _ _ _ _ _ _ _ _ _ _ _ _ hu=>hu.elim
 pass:=fun _ _ _ _ _ _ _ h=>by
  obtain⟨_,_,_,_,_,_,_,_,_,_,_,hu,_⟩:=h
  exact hu.elim
section
variable {prog:Program}{w:World}{A:Around}{E:Value->Shared->Prop}{s:Shared}{K:W.Frag}{x D:Addr}
open PySem.W Builtin Builtin.ObjectAttr Builtin.Getset_descriptor in
open PySem.W in
end
section
variable {X:Cx}{pins:List (Addr×Obj)}{σ:St}{H H':Hp}{s s':Shared}{ea C:Addr}{oe:Obj}{a0:Value}{B:Heap}
end
section
variable {X:Cx}{ea C:Addr}{oe:Obj}
variable {e:Expr}{es:List Expr}{tr:TA3}
end
section
variable {X:Cx}
variable {e:Expr}{es:List Expr}{tr:TA3}
end
section
variable {X:Cx}{st:Stmt}{rest':List Stmt}{t u:TS3}
def sGp (t u:TS3):TS3:=fun D3 τ=>∃P:Prop,t { D3 with nx:=fun τ'=>τ'=τ/\P } τ/\(P->u D3 τ)
theorem TX (h1:PS3 X st t)(h2:Eg X rest' u):Eg X (st::rest') (sGp t u):=#[G7 (Cd h1 h2).out fun D2 σ H #[B,z,τ,D3,r,#[P,ht,hu],c]=>#[B,_,τ,D3,r,#[fun τ'=>τ'=τ/\P,ht,fun τ' #[e,hP]=>by subst e;exact hu hP],c]]
end
theorem hu_ {A:Around}{k n:Nat}(hr:E9 k A) (hn:n<=200):A.units+n<cLine:=by have:=hr.un;omega
section
variable {X:Cx}{pins:List (Addr×Obj)}{σ:St}{H:Hp}{s:Shared}
theorem Ol (I:Inv X pins σ H s){n:Nat}{A:Around}{a b:Addr}{vs ws:List V}{xs ys:List D}(ha:SqT X.K H a vs) (hb:SqT X.K H b ws) (hx:Iss X.K H vs xs) (hy:Iss X.K H ws ys) (hu:A.units<cLine)
 (ih:∀(x y:D)(v u:V)(v' u':Value),x∈xs->y∈ys->Is X.K H v x->Is X.K H u y->CK v v'->CK u u'->SeqAt.EqAt A.in1 s v' u' (eqN n x y)):SeqAt.RcNeAt A s (.ref a) (.ref b) (!eqN (n+1) (.tup xs) (.tup ys)):=by
 obtain⟨its,r1,p1,_⟩:=I.tuple ha
 obtain⟨its2,r2,p2,_⟩:=I.tuple hb
 have l1:=r1.length
 have l2:=r2.length
 have k1:=hx.1
 have k2:=hy.1
 have key:=SeqAt.RcNeAt.tuples (A:=A) (s:=s) (l:=a) (b:=b) (items:=its.toArray) (items2:=its2.toArray) (e:=fun j=>match xs[j]?,ys[j]? with|some x,some y=>eqN n x y|_,_=>true) p1 p2 hu (fun j h1 h2=>by
  have h1':j<its.length:=by simpa using h1
  have h2':j<its2.length:=by simpa using h2
  have gx:xs[j]? = some (xs[j]' ()):=qAb ()
  have gy:ys[j]? = some (ys[j]' ()):=qAb ()
  have gv:vs[j]? = some (vs[j]' ()):=qAb ()
  have gw:ws[j]? = some (ws[j]' ()):=qAb ()
  obtain⟨u1,e1,q1⟩:=r1.get gv
  obtain⟨u2,e2,q2⟩:=r2.get gw
  rw[Fb h1 e1,Fb h2 e2]
  rw[gx,gy]
  exact ih _ _ _ _ _ _ (qAK gx) (qAK gy) (hx.2 j _ _ gv gx) (hy.2 j _ _ gw gy) q1 q2)
 have e:eqN (n+1) (.tup xs) (.tup ys)=((List.range (min its.toArray.size its2.toArray.size)).all (fun j=>match xs[j]?,ys[j]? with|some x,some y=>eqN n x y|_,_=>true)&&its.toArray.size==its2.toArray.size):=by
  show((xs.zip ys).all (fun p=>eqN n p.1 p.2)&&xs.length==ys.length)=_
  have s1:its.toArray.size=xs.length:=by simp;omega
  have s2:its2.toArray.size=ys.length:=by simp;omega
  rw[s1,s2]
  congr 1
  rw[qBM,qAH,qAH]
  constructor
  .intro h j hj
   rw[qAJ] at hj
   have gx:xs[j]? = some (xs[j]' ()):=qAb ()
   have gy:ys[j]? = some (ys[j]' ()):=qAb ()
   rw[gx,gy]
   exact h (_,_) (qAK (qBp.mpr #[gx,gy]))
  .rintro h ⟨x,y⟩ hp
   obtain⟨j,hj⟩:=qCj hp
   obtain⟨gx,gy⟩:=qBp.mp hj
   have h1:=(qAe.mp gx).1
   have h2:=(qAe.mp gy).1
   have:=h j (by rw[qAJ];omega)
   simp only[] at gx gy
   rw[gx,gy] at this
   exact this
 rw[e]
 exact key
def Yv (n:Nat):R3:=fun dx dy R=>match dx,dy with
 |.tup xs,.tup ys=>Dp n (.tup xs)=true/\Dp n (.tup ys)=true/\R (.bl (!eqN n (.tup xs) (.tup ys)))
 |_,_=>False
theorem Sw (n:Nat)(hu:X.A.units+n<cLine):Ib X (compareOp .NotEq) (Yv n):=by
 intro pins s σ H x y v u Q I rx ry h
 obtain⟨z,dx,dy,R,hz,hx,hy,h3,q⟩:=h
 replace hx:=hx.mono hz
 replace hy:=hy.mono hz
 unfold Yv at h3
 split at h3
 .rename_i xs ys
  obtain⟨fx,fy,h3⟩:=h3
  cases n with
  |zero=>cases fx
  |succ n =>
   obtain⟨a,vs,rfl,ha,ia⟩:=Is.tup_inv hx
   obtain⟨b,ws,rfl,hb,ib⟩:=Is.tup_inv hy
   cases rx
   cases ry
   refine Ol (A:=X.A) (n:=n) I ha hb ia ib () (fun x y v u v' u' mx my ix iy rv ru=>?_) X.prog X.w X.xe _ #[.bl _,H,I,rfl,q _ _ #[H,z] (Ext.refl hz) (.bl _) h3]
   exact Po I n X.A.in1 x y v u v' u' (by show X.A.units+1+n<cLine;omega) (qAH.mp (show xs.all (Dp n)=true from fx) x mx) (qAH.mp (show ys.all (Dp n)=true from fy) y my) ix iy rv ru
 .exact h3.elim
end
theorem G5 {env:Env}:∀(names:List (Str×NameKind))(acc:List (Str×Addr)),(∀y∈names,y.2=.free->∃c,env.cells.lookup y.1=some c) ->
 ∃cl,(forIn names acc fun(x:Str×NameKind)(r:List (Str×Addr))=>if (x.2 == .free)=true then (do let c <-cellOf env x.1;pure (ForInStep.yield ((x.1,c)::r)):Sem _) else pure (ForInStep.yield r))=pure cl /\
  (∀y c,(y,c)∈cl->(y,c)∈acc\/env.cells.lookup y=some c)/\(∀y,(y,NameKind.free)∈names->∃c,(y,c)∈cl)/\∀p∈acc,p∈cl
 |[],acc,_=>#[acc,rfl,fun y c h=>.inl h,(fun y h=>by cases h),fun p h=>h]
 |(n,k)::r,acc,h=>by
  rw[qBN]
  by_cases hk:(k==NameKind.free)=true
  .have hk':k=.free:=by simpa using hk
   obtain⟨c,hc⟩:=h (n,k) qA5 hk'
   obtain⟨cl,e,h1,h2,h3⟩:=G5 r ((n,c)::acc) fun y hy=>h y (qAP _ hy)
   refine#[cl,?_,fun y d hd=>?_,fun y hy=>?_,fun p hp=>h3 p (qAP _ hp)]
   .have hco:cellOf env n=pure c:=by unfold cellOf;rw[hc]
    simp only[hk,if_true,hco,pure_bind]
    exact e
   .rcases h1 y d hd with z|z
    .rcases qAl.mp z with z|z
     .cases z;exact .inr hc
     .exact .inl z
    .exact .inr z
   .rcases qAl.mp hy with z|z
    .cases z;exact#[c,h3 _ qA5]
    .exact h2 y z
  .obtain⟨cl,e,h1,h2,h3⟩:=G5 r acc fun y hy=>h y (qAP _ hy)
   refine#[cl,?_,h1,fun y hy=>?_,h3]
   .simp only[hk,Bool.false_eq_true,if_false,pure_bind]
    exact e
   .rcases qAl.mp hy with z|z
    .cases z;exact absurd rfl hk
    .exact h2 y z
theorem Bz {α:Type}{y:Str}{c:α}:∀{l:List (Str×α)},l.lookup y=some c->(y,c)∈l
 |[],h=>by cases h
 |(n,d)::r,h=>by
  rw[qBk] at h
  cases q:y==n with
  |true => rw[q] at h;cases h;have:y=n:=by simpa using q
           subst this;exact qA5
  |false=>rw[q] at h;exact qAP _ (Bz h)
theorem JP {α:Type}{y:Str}{c:α}:∀{l:List (Str×α)},(y,c)∈l->∃d,l.lookup y=some d
 |(n,d)::r,h=>by
  rw[qBk]
  cases q:y==n with
  |true=>exact#[d,rfl]
  |false =>
   rcases qAl.mp h with z|z
   .cases z;simp at q
   .exact JP z
theorem Fc {scope:Scope}{env:Env}(h:∀y∈scope.names,y.2=.free->∃c,env.cells.lookup y.1=some c) :
 ∃cl,closureFor scope env=pure cl/\(∀y c,cl.lookup y=some c->env.cells.lookup y=some c)/\∀y,(y,NameKind.free)∈scope.names->∃c,cl.lookup y=some c:=by
 obtain⟨cl,e,h1,h2,_⟩:=G5 scope.names [] h
 refine#[cl,?_,fun y c hc=>?_,fun y hy=>?_]
 .unfold closureFor
  first|(simp only[bind_pure];exact e)|exact e
 .rcases h1 y c (Bz hc) with z|z
  .cases z
  .exact z
 .obtain⟨c,hc⟩:=h2 y hy
  exact JP hc
def Av (X:Cx)(N:List Str)(scope:Scope)(cl:List (Str×Addr))(C:Addr)(s₀:Shared)(H₀:Hp)(fp:List Addr):Cx :=
 { X with N:=N,s₀:=s₀,H₀:=H₀,env:=compEnvC scope cl C X.env,outer:=X.stack,ex:=fp,fn:=fun _=>false,pn:=[],xe:=fun _ _=>False,lent:=none }
theorem CB {env:Env}:∀{names:List (Str×NameKind)}{x:Str}{k:NameKind},(names.map fun(n,k)=>if (k==NameKind.free&&env.scope.kind == .function&&env.kindOf n==some .cell) then (n,NameKind.cell) else (n,k)).lookup x=some k ->
 ∃k0,(x,k0)∈names/\(k=k0\/k0=.free)
 |[],_,_,h=>by cases h
 |(n,k1)::r,x,k,h=>by
  have h':List.lookup x ((if (k1==NameKind.free&&env.scope.kind == .function&&env.kindOf n==some .cell)=true then (n,NameKind.cell) else (n,k1))::(r.map fun(n,k)=>if (k==NameKind.free&&env.scope.kind == .function&&env.kindOf n==some .cell) then (n,NameKind.cell) else (n,k)))=some k:=h
  by_cases hc:(k1==NameKind.free&&env.scope.kind == .function&&env.kindOf n==some .cell)=true
  .rw[if_pos hc,qBk] at h'
   have hk1:k1=.free:=by
    rw[qAV,qAV] at hc
    simpa using hc.1.1
   cases q:x==n with
   |true =>
    have:x=n:=by simpa using q
    subst this
    exact#[k1,qA5,.inr hk1]
   |false =>
    rw[q] at h'
    obtain⟨k0,h1,h2⟩:=CB h'
    exact#[k0,qAP _ h1,h2]
  .rw[if_neg hc,qBk] at h'
   cases q:x==n with
   |true =>
    rw[q] at h'
    have:x=n:=by simpa using q
    subst this
    exact#[k1,qA5,.inl (qAn h').symm]
   |false =>
    rw[q] at h'
    obtain⟨k0,h1,h2⟩:=CB h'
    exact#[k0,qAP _ h1,h2]
theorem B2 {env:Env}{y:Str}(hk:env.scope.kind=.function) (hy:env.kindOf y=some .cell):∀{names:List (Str×NameKind)},names.lookup y=some .free ->
 (names.map fun(n,k)=>if (k==NameKind.free&&env.scope.kind == .function&&env.kindOf n==some .cell) then (n,NameKind.cell) else (n,k)).lookup y=some .cell
 |[],h=>by cases h
 |(n,k1)::r,h=>by
  show List.lookup y ((if (k1==NameKind.free&&env.scope.kind == .function&&env.kindOf n==some .cell)=true then (n,NameKind.cell) else (n,k1))::(r.map fun(n,k)=>if (k==NameKind.free&&env.scope.kind == .function&&env.kindOf n==some .cell) then (n,NameKind.cell) else (n,k)))=some .cell
  rw[qBk] at h
  cases q:y==n with
  |true =>
   rw[q] at h
   have:y=n:=by simpa using q
   subst this
   have hk1:k1=.free:=qAn h
   subst hk1
   rw[if_pos (by rw[hk,hy];rfl),qBk,q]
  |false =>
   rw[q] at h
   have ih:=B2 hk hy h
   by_cases hc:(k1==NameKind.free&&env.scope.kind == .function&&env.kindOf n==some .cell)=true
   .rw[if_pos hc,qBk,q];exact ih
   .rw[if_neg hc,qBk,q];exact ih
structure AZ (X:Cx)(x:Str)(scope:Scope)(N:List Str)(idx:List Nat):Prop where
 kind:scope.kind=.function
 cell:∀y∈scope.names,y.2≠.cell
 names:∀y∈scope.names,y.2=.local->scope.names.lookup y.1=some .local
 own:scope.names.lookup x=some .local
 free:∀y∈scope.names,y.2=.free->X.env.kindOf y.1=some .cell
 nd:N.Nodup
 fst:N[0]? = some x
 len:N.length=idx.length+1
 cap:∀(k j:Nat),idx[k]? = some j->∃y,N[k+1]? = some y/\X.N[j]? = some y/\scope.names.lookup y=some .free
def DO {α:Type}(σ:List (Option α)) (idx:List Nat):List (Option α):=idx.map fun j=>(σ[j]?).getD none
theorem HY {α:Type}{σ:List (Option α)}{idx:List Nat}{k:Nat}{v:α}(h:(DO σ idx)[k]? = some (some v)):∃j,idx[k]? = some j/\σ[j]? = some (some v):=by
 unfold DO at h
 rw[qAc] at h
 cases e:idx[k]? with
 |none=>rw[e] at h;cases h
 |some j =>
  rw[e] at h
  refine#[j,rfl,?_]
  have h':(σ[j]?).getD none=some v:=qAn h
  cases q:σ[j]? with
  |none=>rw[q] at h';cases h'
  |some o=>rw[q] at h';rw[show o=some v from h']
section
variable {X:Cx}{pins:List (Addr×Obj)}{σ:St}{H2:Hp}{s2:Shared}{x:Str}{px:Pos}{scope:Scope}{N:List Str}{idx:List Nat}{J:It}{fp:List Addr}{it:Addr}{tn:Nat->Heap->Prop}{cl:List (Str×Addr)}
theorem Oj (O:AZ X x scope N idx)(I2:Inv X pins σ H2 s2)(T:RE X.prog X.w X.K (.Name x px) J fp it tn)(st2:tn 0 s2.heap)(f2:∀b∈fp,N7 X pins H2 b)
 (hcl:∀y c,cl.lookup y=some c->X.env.cells.lookup y=some c)(hcl2:∀y,(y,NameKind.free)∈scope.names->∃c,cl.lookup y=some c)
 {h1:Heap}{C:Addr}{m:Str->Option Value}{tk:Nat}(hC:s2.heap.objs.size<C) (hns:h1.Ns C m) (old:∀b o,s2.heap.get? b=some o->h1.get? b=some o)
 (hD:h1.get? s2.heap.objs.size=some { cls:=.type "list",data:=.seq ([]:List Value).toArray }) :
 Inv (Av X N scope cl C s2 H2 fp) [] (none::DO σ idx) (upd H2 s2.heap.objs.size (.lst [])) { s2 with heap:=h1,toks:=tk }:=by
 have inHeap:∀b∈fp,b<s2.heap.objs.size:=fun b hb=>by
  obtain⟨o,e,_⟩:=T.obj 0 _ st2 b hb
  exact qAj e
 have hDn:H2 s2.heap.objs.size=none:=I2.hok.fresh (qAf _)
 refine#[#[I2.ok.mod,O.kind,I2.ok.glob,I2.ok.blt,?_,?_,?_,(fun _ _ z=>by cases z),I2.ok.hd,I2.ok.frames,.inl rfl,?_,fun b o e=>I2.bs b o e,qAD I2.ok.bsz I2.sz,?_,?_,I2.stack,I2.stkFree,I2.tb],rfl,I2.bare,?_,#[m,hns,?_],?_,?_,?_,?_,?_,?_]
 .exact qBr hC
 .intro y z c h1 h2
  exact I2.ok.inj y z c (hcl y c h1) (hcl z c h2)
 .intro y hy
  have key:∀k,(relabel scope X.env).names.lookup y=some k->(k=.cell\/k=.free)->∃c,cl.lookup y=some c:=fun k e hk=>by
   obtain⟨k0,h1,h2⟩:=CB e
   have hf:k0=.free:=by
    rcases h2 with rfl|h2
    .rcases hk with rfl|rfl
     .exact absurd rfl (O.cell _ h1)
     .rfl
    .exact h2
   subst hf
   exact hcl2 y h1
  rcases hy with e|e
  .exact key _ e (.inl rfl)
  .exact key _ e (.inr rfl)
 .intro b hb
  have:=inHeap b hb
  exact#[qAx (qBi this hC),fun y c e=>(f2 b hb).2.2.2.2.1 y c (hcl y c e)]
 .intro b o e hb
  rcases(f2 b hb).2.2.2.1 with z|z
  .exact I2.ok.noex b o e z
  .exact absurd (qAv (qAj e) (qAD I2.ok.bsz z)) (qAZ _)
 .intro b hb hf
  rcases qAl.mp (I2.stkSub b hf) with e|e
  .exact(f2 b hb).2.1 e
  .exact(f2 b hb).2.2.1 e
 .exact Un.laid old (qAf _) hDn
 .intro i y v e1 e2 e3
  cases i with
  |zero=>cases e2
  |succ k =>
   obtain⟨j,ej,es⟩:=HY (k:=k) e2
   obtain⟨y',n1,n2,n3⟩:=O.cap k j ej
   have ey:y'=y:=qAn (n1.symm.trans e1)
   subst ey
   have kc:=O.free _ (Bz n3) rfl
   obtain⟨m0,hn0,hl0⟩:=I2.loc
   obtain⟨u,ru,lk⟩:=hl0 j y' v n2 es (.inr (.inl kc))
   refine#[u,ru,?_]
   rcases lk with⟨k1,_⟩|⟨_,c,hc,ic⟩
   .rw[kc] at k1;cases k1
   .obtain⟨c',hc'⟩:=hcl2 y' (Bz n3)
    have:c'=c:=qAn ((hcl y' c' hc').symm.trans hc)
    subst this
    exact .inr #[.inl (B2 I2.ok.kind kc n3),c',hc',ic.keeps old]
 .intro y c e
  obtain⟨v,ic⟩:=I2.cell y c (hcl y c e)
  exact#[v,ic.keeps old]
 .show upd H2 _ _ C=none
  rw[Ag (qA9 hC)]
  exact I2.hok.fresh (qBr hC)
 .intro y c e
  obtain⟨v,ic⟩:=I2.cell y c (hcl y c e)
  rw[Ag (qAx ic.lt)]
  exact I2.freeC y c (hcl y c e)
 .intro p hp;cases hp
 .exact I2.hok.laid old (qAf _) #[qA7 _,[],_,.nil,hD]
 .show(none::DO σ idx).length=N.length
  rw[O.len,qAW]
  unfold DO
  rw[qAa]
theorem Gd {σ':St}{H':Hp}{s':Shared}{pl:List (Addr×Obj)}{C:Addr}{h':Heap}(I2:Inv X pins σ H2 s2) (f2:∀b∈fp,N7 X pins H2 b) (hC:s2.heap.objs.size<C) (I':Inv (Av X N scope cl C s2 H2 fp) pl σ' H' s') (hs:Heap.SameBut C s'.heap h') :
 Inv X pins σ H' { s' with heap:=h' }:=by
 have ne:∀b o,s2.heap.get? b=some o->b≠C:=fun b o e=>qAx (qBi (qAj e) hC)
 have u:=I'.base
 refine Inv.call' (s':={ s' with heap:=h' }) (ch:=fp) I2 I'.os #[fun b o e n hb hx=>(hs.2 b (ne b o e)).trans (u.keep b o e n hb hx),fun b o e n hb hx=>?_,u.free,fun b o e hx=>?_,u.tups,u.frzs,u.tbls] (fun b ob e=>?_) I'.bare (fun b hb=>#[(f2 b hb).2.2.2.1,(f2 b hb).2.1,(f2 b hb).2.2.2.2.1,(f2 b hb).2.2.2.2.2])
 .obtain⟨sl,e1⟩:=u.slot b o e n hb hx
  exact#[sl,(hs.2 b (ne b o e)).trans e1]
 .obtain⟨o',e1⟩:=u.there b o e hx
  exact#[o',(hs.2 b (ne b o e)).trans e1]
 .refine(I'.hok b ob e).stay (fun c w' hc q=>(hs.2 c ?_).trans q) (fun _ q=>q) fun _ _ q=>q
  have hf:H' C=none:=I'.free
  rintro rfl
  rcases hc with rfl|hc
  .rw[hf] at e;cases e
  .rw[hf] at hc;cases hc
def Tr (X:Cx)(ifs:List Expr)(t:TT):Prop:=∀(pins:List (Addr×Obj))(s:Shared)(σ:St)(H:Hp)(Q:Bool->Hp->Prop),Inv X pins σ H s->t σ H Q ->
 wpAny (model X.prog X.w) X.A (forIn ifs true fun c r=>if r=true then do let ok <-isTrue c X.env (eval c X.env);pure (ForInStep.yield ok) else pure (ForInStep.yield r)) (TP X pins σ Q) X.xe s
theorem Rz:Tr X [] (fun _ H Q=>Q true H):=fun pins s σ H Q I h=>wpAny_pure #[H,I,h]
theorem RK {c:Expr}{t:TT}(h:PT X c t):Tr X [c] t:=fun pins s σ H Q I hq=>by
 rw[qBN]
 simp only[if_true,bind_assoc,pure_bind]
 exact wpAny_bind (thn (h pins s σ H Q I hq) fun b s1 h1=>wpAny_pure h1)
def Sy (K:W.Frag)(idx:List Nat)(wi:TI)(tt:Hp->TT)(te:Hp->TE):TE:=fun σ H Q=>wi σ H fun J H1=>∀D,H1 D=none->K.lookup D=none->∃W:Nat->Nat->List V->Hp->Prop,(∃m,W 0 m [] (upd H1 D (.lst []))) /\
 ∀i m ys H,H D=some (.lst ys)->W i m ys H->(J.stop i H/\Q (.ref D) H)\/(J.go i H/\∀x H',J.yld i H x H'->tt H1 (some x::DO σ idx) H' fun b H2 =>
  if b=true then te H1 (some x::DO σ idx) H2 (fun v H3=>H3 D=some (.lst ys)/\ys.length<sizeLine/\∃m',m'<m/\W (i+1) m' (ys++[v]) (upd H3 D (.lst (ys++[v])))) else H2 D=some (.lst ys)/\∃m',m'<m/\W (i+1) m' ys H2)
theorem Ng {elt iter:Expr}{ifs:List Expr}{wi:TI}{tt:Hp->TT}{te:Hp->TE}{pos:Pos}{s:Shared}{H:Hp}{Q:VK}{use:Option (Value->Sem Unit)}{QQ:Value->Shared->Prop}(O:AZ X x scope N idx) (hc:X.calm=true) (hi:PI X (.Name x px) iter wi)
 (hifs:∀cl C s₀ H₀ fp,Tr (Av X N scope cl C s₀ H₀ fp) ifs (tt H₀)) (helt:∀cl C s₀ H₀ fp,PE (Av X N scope cl C s₀ H₀ fp) elt (te H₀))
 (hs:∀x,foldedSetIterable iter X.env x=pure x) (I:Inv X pins σ H s) (h:Sy X.K idx wi tt te σ H Q)
 (fin:∀(s2:Shared)(H2:Hp)(fp:List Addr)(cl:List (Str×Addr))(C D:Addr)(σ':St)(H':Hp)(s':Shared),Inv X pins σ H2 s2->(∀b∈fp,N7 X pins H2 b)->s2.heap.objs.size<C->Inv (Av X N scope cl C s2 H2 fp) [] σ' H' s'->Q (.ref D) H' ->
  compPost (model X.prog X.w) X.A X.xe use QQ (.ref D) C (.ok .next) s') :
 wpAny (model X.prog X.w) X.A (comprehension (.ListComp elt [#[.Name x px,iter,ifs,0]] scope pos) scope X.env (firstIterPos [#[.Name x px,iter,ifs,0]] pos) (newList []) false (eval iter X.env) use) QQ X.xe s:=by
 obtain⟨cl,ecl,hcl,hcl2⟩:=Fc (scope:=scope) (env:=X.env) fun y hy hf=>I.ok.has y.1 (.inl (O.free y hy hf))
 refine wpAny_comprehension_free (use:=use) (cl:=cl) rfl hs ecl O.kind O.names ?_
 refine thn (hi pins s σ H _ I h) fun v s1 h1=>thn h1 fun itv s2 h2=>?_
 obtain⟨it,fp,tn,J,H2,rfl,I2,T,st2,f2,hD⟩:=h2
 refine wpAny_newObj_type (wpAny_newFunctionEnv O.cell (by intro y hy;simp at hy) (fun h1 hns hsb=>?_) O.kind)
 dsimp only at hns hsb ⊢
 generalize hG:s2.heap.push { cls:=.type "list",dict:=none,data:=.seq ([]:List Value).toArray }=G at hns hsb ⊢
 have hCs:s2.heap.objs.size<G.objs.size:=by rw[<-hG,qA8];exact qBU _
 have old:∀b o,s2.heap.get? b=some o->h1.get? b=some o:=fun b o e=>hsb.extBut b o (qAx (qBi (qAj e) hCs)) (qAh _ (hG ▸ qAh _ e))
 have hDl:h1.get? s2.heap.objs.size=some { cls:=.type "list",data:=.seq ([]:List Value).toArray }:=hsb.extBut _ _ (qAx hCs) (qAh _ (hG ▸ qAt _ rfl))
 have hDn:H2 s2.heap.objs.size=none:=I2.hok.fresh (qAf _)
 have hDk:X.K.lookup s2.heap.objs.size=none:=by
  cases e:X.K.lookup s2.heap.objs.size with
  |none=>rfl
  |some o=>exact absurd (qAj (I2.kIn _ _ e)) (qAZ _)
 obtain⟨W,⟨m0,w0⟩,step⟩:=hD _ hDn hDk
 have I4:Inv (Av X N scope cl G.objs.size s2 H2 fp) [] (none::DO σ idx) (upd H2 s2.heap.objs.size (.lst [])) { s2 with heap:=h1,toks:=s2.toks+([]:List (Str×Value)).length } :=
  Oj O I2 T st2 f2 hcl hcl2 hCs hns old hDl
 generalize hCC:G.objs.size=C at I4 hCs ⊢
 clear hsb hns hG hCC
 generalize hDD:s2.heap.objs.size=D at hDn hDk step w0 I4 hDl ⊢
 have st4:tn 0 h1:=T.keep 0 _ _ st2 fun b _ o e=>old b o e
 have frD:∀b∈fp,(upd H2 D (.lst [])) b=none:=fun b hb=>by
  obtain⟨o,e,_⟩:=T.obj 0 _ st2 b hb
  rw[Ag (by rw[<-hDD];exact qAx (qAj e))]
  exact(f2 b hb).1
 have stat:∀{H':Hp},(∀b∈fp,H' b=none)->∀b∈fp,N7 (Av X N scope cl C s2 H2 fp) [] H' b:=fun hn b hb =>
  #[hn b hb,(I4.ok.exf b hb).1,I4.ok.exfs b hb,.inl hb,(I4.ok.exf b hb).2,fun p hp=>by cases hp]
 have hloc:(Av X N scope cl C s2 H2 fp).env.scope.names.lookup x=some .local:=lookup_relabel_local O.own
 have loop:∀s3:Shared,s3={ s2 with heap:=h1,toks:=s2.toks+([]:List (Str×Value)).length } ->
  codeAny (model X.prog X.w) X.A (.compLoop (.ListComp elt [#[.Name x px,iter,ifs,0]] scope pos) 0 (.ref it) (.ref D) (compEnvC scope cl C X.env)) (compPost (model X.prog X.w) X.A X.xe use QQ (.ref D) C) s3:=by
  rintro s3 rfl
  refine codeAny_compLoop_tests (fun n s'=>∃i z H' ys,Inv (Av X N scope cl C s2 H2 fp) [] (z::DO σ idx) H' s'/\tn i s'.heap/\(∀b∈fp,H' b=none)/\H' D=some (.lst ys)/\W i n ys H') ?_ m0 #[0,none,_,[],I4,st4,frD,Ap,w0]
  rintro n s5 ⟨i,z,H5,ys,I5,st5,fr5,hD5,w5⟩
  rcases step i n ys H5 hD5 w5 with⟨stop,q⟩|⟨go,next⟩
  .refine wpAny_mono (T.done (Av X N scope cl C s2 H2 fp) rfl rfl rfl hc i [] s5 _ H5 (fun _ _=>False) I5 (stat fr5) st5 stop) (fun r s6 hh=>?_) fun _ _ z=>z.elim
   obtain⟨hr,I6⟩:=hh
   subst hr
   exact fin s2 H2 fp cl C D _ H5 s6 I2 f2 hCs I6 q
  .refine wpAny_mono (T.item (Av X N scope cl C s2 H2 fp) rfl rfl rfl hc i [] s5 _ H5 (fun _ _=>False) I5 (stat fr5) st5 go) (fun r s6 hh=>?_) fun _ _ z=>z.elim
   obtain⟨u,hr,h6⟩:=hh
   subst hr
   dsimp only
   refine(show wpAny _ _ ((pure Unit.unit:Sem Unit) >>= fun _=>assign (.Name x px) (compEnvC scope cl C X.env) u) _ _ _ from wpAny_bind (wpAny_mono (show wpAny _ _ (pure Unit.unit:Sem Unit) _ _ _ from h6) (fun _ s7 h7=>?_) fun _ _ z=>z.elim))
   obtain⟨xv,H7,I7,r7,y7,st7,fr7⟩:=h7
   have I7':=I7.pinned (stat fr7) (T.obj _ _ st7)
   refine wpAny_assign_Name (HN (X:=Av X N scope cl C s2 H2 fp) I7' O.nd O.fst (.inl hloc) r7 (fun s8 I8=>?_) (.inr hloc))
   have again:∀{H9:Hp}{s9:Shared}{ys':List V}{m':Nat},Inv (Av X N scope cl C s2 H2 fp) ([]++JW fp s7.heap) (some xv::DO σ idx) H9 s9->H9 D=some (.lst ys')->m'<n->W (i+1) m' ys' H9 ->
    ∃m,m<n/\∃i z H' ys,Inv (Av X N scope cl C s2 H2 fp) [] (z::DO σ idx) H' s9/\tn i s9.heap/\(∀b∈fp,H' b=none)/\H' D=some (.lst ys)/\W i m ys H':=fun {H9 s9 ys' m'} I9 hD9 hm w9=>by
    refine#[m',hm,i+1,some xv,H9,ys',I9.unpinned,T.keep _ _ _ st7 fun b hb o e=>(I9.pin (b,o) (qAy _ (qAy _ (Di hb e)))).1,fun b hb=>?_,hD9,w9]
    obtain⟨o,e,d⟩:=T.obj _ _ st7 b hb
    exact(I9.pin (b,o) (qAy _ (qAy _ (Di hb e)))).2.1
   refine wpAny_mono (hifs cl C s2 H2 fp _ s8 _ H7 _ I8 (next xv H7 y7)) (fun b s9 hh=>?_) fun _ _ z=>z.elim
   obtain⟨H9,I9,q9⟩:=hh
   cases b with
   |true =>
    rw[if_pos rfl] at q9 ⊢
    refine wpAny_mono (helt cl C s2 H2 fp _ s9 _ H9 _ I9 q9) (fun y s10 hh=>?_) fun _ _ z=>z.elim
    obtain⟨v,H10,I10,r10,hD10,hl,m',hm,w'⟩:=hh
    refine wpAny_mono (AN (X:=Av X N scope cl C s2 H2 fp) _ s10 _ H10 (.ref D) [v] (.ref D) [y] (fun _ H'=>H'=upd H10 D (.lst (ys++[v]))) I10 rfl (.cons r10 .nil) #[D,ys,v,rfl,rfl,hD10,hl,rfl]) (fun _ s11 hh=>?_) fun _ _ z=>z.elim
    obtain⟨_,H11,I11,_,e11⟩:=hh
    subst e11
    exact again I11 Ap hm w'
   |false =>
    rw[if_neg qAs] at q9 ⊢
    obtain⟨hD9,m',hm,w'⟩:=q9
    exact again I9 hD9 hm w'
 exact codeAny_compStart_list (loop _ rfl) (T.self X.A 0 _ _ _ st4 (loop _ rfl))
theorem U9 {elt iter:Expr}{ifs:List Expr}{wi:TI}{tt:Hp->TT}{te:Hp->TE}{pos:Pos}(O:AZ X x scope N idx) (hc:X.calm=true) (hi:PI X (.Name x px) iter wi)
 (hifs:∀cl C s₀ H₀ fp,Tr (Av X N scope cl C s₀ H₀ fp) ifs (tt H₀)) (helt:∀cl C s₀ H₀ fp,PE (Av X N scope cl C s₀ H₀ fp) elt (te H₀))
 (hs:∀x,foldedSetIterable iter X.env x=pure x:=by intro _;rfl):PE X (.ListComp elt [#[.Name x px,iter,ifs,0]] scope pos) (Sy X.K idx wi tt te):=by
 intro pins s σ H Q I h
 rw[eval_ListComp]
 refine Ng (use:=none) O hc hi hifs helt hs I h fun s2 H2 fp cl C D σ' H' s' I2 f2 hC I' q=>?_
 obtain⟨m,hn,_⟩:=I'.loc
 exact#[m,hn,fun h' hs'=>#[.ref D,H',Gd I2 f2 hC I' hs',rfl,q]]
theorem QU {C:Addr}{h':Heap}{H:Hp}{s:Shared}(I:Inv X pins σ H s) (hs:Heap.SameBut C s.heap h') (h0:X.s₀.heap.objs.size<=C) (hH:H C=none) (hL:C≠X.env.locals) (hc:∀y c,X.env.cells.lookup y=some c->c≠C) (hp:∀p∈X.pn++pins,p.1≠C) :
 Inv X pins σ H { s with heap:=h' }:=by
 obtain⟨m,hn,hl⟩:=I.loc
 have ne:∀b o,X.s₀.heap.get? b=some o->b≠C:=fun b o e=>qAx (qAv (qAj e) h0)
 refine#[I.ok,I.os,I.bare,#[fun b o e n hb hx=>(hs.2 b (ne b o e)).trans (I.base.keep b o e n hb hx),fun b o e n hb hx=>?_,I.base.free,fun b o e hx=>?_,I.base.tups,I.base.frzs,I.base.tbls],#[m,hn.sameBut hs (Ne.symm hL),fun i y v e1 e2 e3=>?_],fun y c e=>?_,I.free,I.freeC,fun p hq=>?_,fun b ob e=>?_,I.len]
 .obtain⟨sl,e1⟩:=I.base.slot b o e n hb hx
  exact#[sl,(hs.2 b (ne b o e)).trans e1]
 .obtain⟨o',e1⟩:=I.base.there b o e hx
  exact#[o',(hs.2 b (ne b o e)).trans e1]
 .obtain⟨u,ru,lk⟩:=hl i y v e1 e2 e3
  refine#[u,ru,?_]
  rcases lk with lk|⟨k,c,e,ic⟩
  .exact .inl lk
  .exact .inr #[k,c,e,ic.sameBut hs (hc y c e)]
 .obtain⟨v,ic⟩:=I.cell y c e
  exact#[v,ic.sameBut hs (hc y c e)]
 .obtain⟨e,n,ne',nf,d⟩:=I.pin p hq
  exact#[(hs.2 p.1 (hp p hq)).trans e,n,ne',nf,d]
 .refine(I.hok b ob e).stay (fun c w' hc' q=>(hs.2 c ?_).trans q) (fun _ q=>q) fun _ _ q=>q
  rintro rfl
  rcases hc' with rfl|hc'
  .rw[hH] at e;cases e
  .rw[hH] at hc';cases hc'
def Vo (i:Nat)(te:TE):TS:=fun D σ H=>te σ H fun v H1=>D.nx (σ.set i (some v)) H1
theorem OB {i:Nat}{y:Str}{py spos:Pos}{elt iter:Expr}{ifs:List Expr}{wi:TI}{tt:Hp->TT}{te:Hp->TE}{pos:Pos}(O:AZ X x scope N idx) (hc:X.calm=true) (hi:PI X (.Name x px) iter wi)
 (hifs:∀cl C s₀ H₀ fp,Tr (Av X N scope cl C s₀ H₀ fp) ifs (tt H₀)) (helt:∀cl C s₀ H₀ fp,PE (Av X N scope cl C s₀ H₀ fp) elt (te H₀)) (hN:X.N.Nodup) (hy:X.N[i]? = some y) (hly:Loc X.env.scope y)
 (hsw:swapsWith (.ListComp elt [#[.Name x px,iter,ifs,0]] scope pos) (some (.Name y py)) spos.line X.env=pure true:=by rfl) (hs:∀x,foldedSetIterable iter X.env x=pure x:=by intro _;rfl)
 (hfn:X.fn y=true\/X.env.scope.names.lookup y=some .local:=by first|exact .inl rfl|exact .inr rfl|assumption) :
 PS X (.Assign [.Name y py] (.ListComp elt [#[.Name x px,iter,ifs,0]] scope pos) spos) (Vo i (Sy X.K idx wi tt te)):=by
 intro pins s σ H D I h
 rw[exec_Assign_Name_used _ _ _ _ hsw]
 refine wpAny_bind (wpAny_standAt (wpAny_bind ?_))
 show wpAny _ X.A (do let _ <-comprehension (.ListComp elt [#[.Name x px,iter,ifs,0]] scope pos) scope X.env _ (newList []) false (eval iter X.env) (some (assign (.Name y py) X.env))) _ _ s
 refine wpAny_bind (wpAny_mono (Ng (use:=some (assign (.Name y py) X.env)) (QQ:=fun _ s'=>SP X pins D .next s') O hc hi hifs helt hs I h fun s2 H2 fp cl C E σ' H' s' I2 f2 hC I' q=>?_) (fun _ s' hq=>wpAny_pure (wpAny_pure hq)) fun _ _ e=>e)
 have I3:Inv X pins σ H' s':=Gd (h':=s'.heap) I2 f2 hC I' #[rfl,fun _ _=>rfl]
 obtain⟨mC,hnC,_⟩:=I'.loc
 have h0:X.s₀.heap.objs.size<=C:=qAD I2.sz (qBr hC)
 have hCL:C≠X.env.locals:=qA9 (qBi I2.lt hC)
 have hCc:∀y c,X.env.cells.lookup y=some c->c≠C:=fun y c e=>by
  obtain⟨v,ic⟩:=I2.cell y c e
  exact qAx (qBi ic.lt hC)
 have hCp:∀p∈X.pn++pins,p.1≠C:=fun p hp=>qAx (qBi (qAj (I2.pin p hp).1) hC)
 show wpAny _ X.A (assign (.Name y py) X.env (.ref E)) _ _ _
 refine wpAny_assign_Name (IX (v:=.ref E) I3 hN hy hly rfl (fun s4 I4 hb=>?_) hfn)
 obtain⟨a,hsa,ha⟩:=hb
 have hCa:C≠a:=by
  rcases ha with rfl|ha
  .exact hCL
  .exact fun z=>hCc y a ha z.symm
 exact#[mC,hnC.sameBut hsa hCa,fun h' hs'=>#[_,H',QU I4 hs' h0 I'.free hCL hCc hCp,q]]
end
abbrev TX3:=Tau->(List D->Prop)->Prop
def Src (X:Cx)(wi:TI)(ws:TX3):Prop:=∀(B:HZ)(τ:Tau)(σ:St)(H z:Hp)(P:List D->Prop)(R:It->Hp->Prop),Rep X B τ σ #[H,z]->ws τ P ->
 (∀(J:It)(q:HZ)(xs:List D),Ext #[H,z] q->P xs->(∀H',Bw q.h H'->(∀i,i<xs.length->J.go i H'/\∀x H'',J.yld i H' x H''->H''=H'/\∃d,xs[i]? = some d/\Is X.K q.z x d)/\∀i,xs.length<=i->J.stop i H')->R J q.h)->wi σ H R
def Y5 (te:TE3):TX3:=fun τ P=>te τ fun s=>match items s with
 |some xs=>P xs
 |none=>False
theorem J5 {X:Cx}{q:HZ}{a:Addr}{vs:List V}{xs:List D}(h:SqL X.K q.h a vs) (hi:Iss X.K q.z vs xs):∀H',Bw q.h H'->(∀i,i<xs.length->(Itl X.K a).go i H'/\∀x H'',(Itl X.K a).yld i H' x H''->H''=H'/\∃d,xs[i]? = some d/\Is X.K q.z x d)/\∀i,xs.length<=i->(Itl X.K a).stop i H':=by
 intro H' e
 have h':SqL X.K H' a vs:=e.seq h
 refine#[fun i hlt=>#[#[vs,vs[i]'(by rw[hi.1];exact hlt),h',qAb (by rw[hi.1];exact hlt)],fun x H'' hy=>#[hy.1,?_]],fun i hle=>#[vs,h',by rw[hi.1];exact hle]]
 obtain⟨d,h1,h2⟩:=CN hi (hy.2 vs h')
 exact#[d,h1,h2]
theorem T1 {X:Cx}{q:HZ}{a:Addr}{vs:List V}{xs:List D}(h:SqT X.K q.h a vs) (hi:Iss X.K q.z vs xs):∀H',Bw q.h H'->(∀i,i<xs.length->(Itt X.K a).go i H'/\∀x H'',(Itt X.K a).yld i H' x H''->H''=H'/\∃d,xs[i]? = some d/\Is X.K q.z x d)/\∀i,xs.length<=i->(Itt X.K a).stop i H':=by
 intro H' e
 have h':SqT X.K H' a vs:=SqT.same e h
 refine#[fun i hlt=>#[#[vs,vs[i]'(by rw[hi.1];exact hlt),h',qAb (by rw[hi.1];exact hlt)],fun x H'' hy=>#[hy.1,?_]],fun i hle=>#[vs,h',by rw[hi.1];exact hle]]
 obtain⟨d,h1,h2⟩:=CN hi (hy.2 vs h')
 exact#[d,h1,h2]
section
variable {X:Cx}{e:Expr}{te:TE3}{ta:TA3}
theorem DW:Src X (VQ X.K (FE X te)) (Y5 te):=by
 intro B τ σ H z P R r ht k
 refine#[B,z,τ,_,r,ht,fun s v H1 e1 i1 f1 h1=>?_]
 try dsimp only at h1
 split at h1
 .rename_i xs hx
  cases s with
  |d z =>
   cases z with
   |tup zs =>
    cases hx
    obtain⟨p,vs,rfl,h3,h4⟩:=Is.tup_inv i1
    exact#[p,rfl,.inr #[#[vs,SqT.same e1.sub h3],k _ H1 _ e1 h1 (T1 (SqT.same e1.sub h3) h4)]]
   |lst zs =>
    cases hx
    obtain⟨p,vs,rfl,h3,h4⟩:=Is.lst_inv i1
    exact#[p,rfl,.inl #[#[vs,e1.sub.seq h3],k _ H1 _ e1 h1 (J5 (e1.sub.seq h3) h4)]]
   |_=>cases hx
  |l zs =>
   cases hx
   obtain⟨p,vs,rfl,h3,h4⟩:=i1
   exact#[p,rfl,.inl #[#[vs,SqL.of h3],k _ H1 _ e1 h1 (J5 (SqL.of h3) h4)]]
  |r zs =>
   cases hx
   obtain⟨p,vs,rfl,h3,h4⟩:=i1
   exact#[p,rfl,.inl #[#[vs,h3],k _ H1 _ e1 h1 (J5 h3 h4)]]
 .exact h1.elim
def Vj (lo st:Int)(n:Nat):List D:=(List.range n).map fun(i:Nat)=>D.int (lo+i*st)
theorem BO (lo st:Int)(n:Nat):(Vj lo st n).length=n:=by unfold Vj;rw[qAa,qAq]
theorem ND {lo st:Int}{n i:Nat}(h:i<n):(Vj lo st n)[i]? = some (.int (lo+i*st)):=by
 unfold Vj
 rw[qAc,qAC h]
 rfl
def X6 (ta:TA3):TX3:=fun τ P=>ta τ fun ss=>match ss with
 |[.d (.int i),.d (.int j)]=>(-(2^62)<=i/\i<2^62/\-(2^62)<=j/\j<2^62)/\P (Vj i 1 (j-i).toNat)
 |_=>False
theorem G0:Src X (Uo (FA X ta)) (X6 ta):=by
 intro B τ σ H z P R r ht k
 refine#[B,z,τ,_,r,ht,fun ss vs H1 e1 i1 h1=>?_]
 try dsimp only at h1
 split at h1
 .rename_i i0 j
  obtain⟨v,u,rfl,hv,hu⟩:=VE i1
  cases Is.int_inv hv
  cases Is.int_inv hu
  obtain⟨q,hP⟩:=h1
  refine#[i0,j,rfl,q,k _ H1 _ e1 hP fun H' e=>#[fun i hlt=>?_,fun i hle=>?_]]
  .rw[BO] at hlt
   refine#[hlt,fun x H'' hy=>#[hy.1,_,ND hlt,?_]]
   rw[hy.2,Int.mul_one]
   exact .int _
  .rw[BO] at hle;exact hle
 .exact h1.elim
end
def S6 (τ:Tau)(idx:List Nat)(x:D):Tau:=some (.d x)::(DO τ idx).map (Option.map S.share)
structure OS (X:Cx)(ifs:List Expr)(t:TT3):Prop where
 out:Tr X ifs (FT X t)
def ZH:TT3:=fun _ R=>R true
theorem Cn {X:Cx}:OS X [] ZH:=#[fun pins s σ H Q I #[B,z,τ,R,r,ht,q]=>Rz pins s σ H Q I (q true #[H,z] (Ext.refl r.ext.sub) ht)]
theorem OT {X:Cx}{c:Expr}{t:TT3}(h:PT3 X c t):OS X [c] t:=#[RK h.out]
abbrev cxC (X:Cx)(N:List Str)(scope:Scope)(H₀:Hp):Cx:=Av X N scope [] 0 X.s₀ H₀ []
section
variable {X:Cx}{x:Str}{px pos:Pos}{scope:Scope}{N:List Str}{idx:List Nat}{cl:List (Str×Addr)}{C:Addr}{s₀:Shared}{H₀ H H':Hp}{fp:List Addr}{σ:St}{τ:Tau}
theorem Tj {B p:HZ}(r:Rep (cxC X N scope H₀) B τ σ p):Rep (Av X N scope cl C s₀ H₀ fp) B τ σ p:=#[r.len,r.ext,r.val,r.own,r.sep,r.top,r.pin]
theorem RW {α β:Type}(a:List (Option α)) (b:List (Option β)) (idx:List Nat):(DO a idx).length=(DO b idx).length:=by unfold DO;rw[qAa,qAa]
theorem NH {B p p0 q:HZ}{d:D}{v:V}(r:Rep X B τ σ p) (e:Ext p p0) (e':Ext p0 q) (iv:Is X.K q.z v d):Rep (cxC X N scope p0.h) p0 (S6 τ idx d) (some v::DO σ idx) q:=by
 have no:∀(i:Nat)(xs:List D),¬(S6 τ idx d)[i]? = some (some (.l xs)):=fun i xs z=>by
  cases i with
  |zero=>cases z
  |succ k =>
   have z':((DO τ idx).map (Option.map S.share))[k]? = some (some (.l xs)):=z
   rw[qAc] at z'
   cases q:(DO τ idx)[k]? with
   |none=>rw[q] at z';cases z'
   |some o =>
    rw[q] at z'
    cases o with
    |none=>cases z'
    |some s0 =>
     have z2:s0.share=.l xs:=qAn (qAn z')
     cases s0<;>cases z2
 refine#[?_,e',fun i s hs=>?_,fun i xs a z _=>absurd z (no i xs),fun i j xs s a _ z _ _ _=>absurd z (no i xs),fun _=>Bw.refl _,fun k a h=>by cases h]
 .unfold S6
  rw[qAW,qAW,qAa,RW]
 .cases i with
  |zero =>
   cases hs
   exact#[v,rfl,iv]
  |succ k =>
   have z':((DO τ idx).map (Option.map S.share))[k]? = some (some s):=hs
   rw[qAc] at z'
   cases q:(DO τ idx)[k]? with
   |none=>rw[q] at z';cases z'
   |some o =>
    rw[q] at z'
    cases o with
    |none=>cases z'
    |some s0 =>
     have z2:s0.share=s:=qAn (qAn z')
     obtain⟨j,hj,hτ⟩:=HY q
     obtain⟨w,hw,iw⟩:=r.val j s0 hτ
     refine#[w,?_,?_]
     .show(DO σ idx)[k]? = some (some w)
      unfold DO
      rw[qAc,hj]
      show some ((σ[j]?).getD none)=_
      rw[hw]
      rfl
     .rw[<-z2]
      exact(iw.mono (e.trans e')).share
end
def Ud (idx:List Nat)(ws:TX3)(tt:TT3)(te:TE3):TE3:=fun τ R=>ws τ fun xs=>∃os:List (Option D),os.length=xs.length /\
 (∀(n:Nat)(x:D),xs[n]? = some x->tt (S6 τ idx x) fun b=>if b=true then te (S6 τ idx x) (fun s=>dd s.arg fun y=>os[n]? = some (some y)) else os[n]? = some none)/\xs.length<=100000/\R (.l (os.filterMap id))
section
variable {X:Cx}{x:Str}{px pos:Pos}{scope:Scope}{N:List Str}{idx:List Nat}{elt iter:Expr}{ifs:List Expr}{wi:TI}{ws:TX3}{tt:TT3}{te:TE3}
theorem Nf (hsrc:Src X wi ws){σ:St}{H:Hp}{Q:VK}(h:FE X (Ud idx ws tt te) σ H Q):Sy X.K idx wi (fun H₀=>FT (cxC X N scope H₀) tt) (fun H₀=>FE (cxC X N scope H₀) te) σ H Q:=by
 obtain⟨B,z,τ,R,r,ht,q⟩:=h
 refine hsrc B τ σ H z _ _ r ht fun J p1 xs e1 hP hJ=>fun D' hD hK=>?_
 obtain⟨os,hlen,hel,hsz,hR⟩:=hP
 have sz:(100000:Nat)<sizeLine:=∅
 refine#[fun i m ys H'=>m=xs.length-i/\i<=xs.length/\∃z',Ext p1 #[H',z']/\z' D'=none/\Iss X.K z' ys ((os.take i).filterMap id),#[xs.length,rfl,qA7 _,p1.z,Ext.own e1.sub hD _,e1.sub.free hD,Iss.nil],?_]
 rintro i m ys H' hD' ⟨rfl,hi,z',hs,hzD,hiss⟩
 by_cases hlt:i<xs.length
 .obtain⟨go,yl⟩:=(hJ H' hs.hh).1 i hlt
  refine .inr #[go,fun v H'' hy=>?_]
  obtain⟨rfl,d,hx,iv⟩:=yl v H'' hy
  have rr:Rep (cxC X N scope p1.h) p1 (S6 τ idx d) (some v::DO σ idx) #[H'',z']:=NH r e1 hs (iv.mono hs.zz)
  have hys:ys.length<=i:=by
   rw[hiss.1]
   refine qAD (qBI _ _) ?_
   rw[qAU];omega
  have keep:∀q:HZ,Ext #[H'',z'] q->q.z D'=none:=fun q e=>by
   cases y:q.z D' with
   |none=>rfl
   |some o =>
    rcases e.new D' o y with y|y
    .exact nomatch (hzD.symm.trans y)
    .exact nomatch (hD'.symm.trans y)
  refine#[_,_,_,_,rr,hel i d hx,fun b q3 e3 hb=>?_]
  cases b with
  |true =>
   rw[if_pos rfl] at hb ⊢
   refine#[_,_,_,_,rr.mono e3,hb,fun s v2 q4 e4 i4 f4 h4=>?_]
   obtain⟨y,hy',h4⟩:=Fz h4
   obtain⟨z5,e5,i5⟩:=FN e4 i4 f4
   rw[hy'] at i5
   have e35:=e3.trans e5
   have hD4:q4.h D'=some (.lst ys):=e35.hh _ _ hD'
   have hz5:z5 D'=none:=keep _ e35
   refine#[hD4,(),xs.length-(i+1),(),rfl,hlt,z5,?_,hz5,?_]
   .have e15:=hs.trans e35
    refine#[fun b o hb'=>?_,e15.zz,fun b o hb'=>?_,e15.new]
    .have hne:b≠D':=by rintro rfl;rw[hD] at hb';cases hb'
     show upd q4.h D' _ b=some o
     rw[Ag hne]
     exact e15.hh b o hb'
    .have hne:b≠D':=by
      rintro rfl
      have hb2:z5 b=some o:=hb'
      rw[hz5] at hb2;cases hb2
     show upd q4.h D' _ b=some o
     rw[Ag hne]
     exact e15.sub b o hb'
   .rw[qA2,h4,qCO]
    exact(hiss.mono e35.zz).snoc i5
  |false =>
   rw[if_neg qAs] at hb ⊢
   refine#[e3.hh _ _ hD',xs.length-(i+1),(),rfl,hlt,q3.z,hs.trans e3,keep _ e3,?_]
   rw[qA2,hb,qCO]
   have:([none]:List (Option D)).filterMap id=[]:=rfl
   show Iss X.K q3.z ys ((os.take i).filterMap id++([none]:List (Option D)).filterMap id)
   rw[this,qBq]
   exact hiss.mono e3.zz
 .have ei:i=xs.length:=()
  subst ei
  refine .inl #[(hJ H' hs.hh).2 _ (qAf _),q (.l (os.filterMap id)) _ #[H',z'] (e1.trans hs) #[D',ys,rfl,hD',?_] (fun xs a _ h2=>?_) hR]
  .rw[<-hlen,List.take_length] at hiss
   exact hiss
  .cases h2
   exact#[e1.hh.free hD,hK,hzD]
theorem QA (hifs:∀cl C s₀ H₀ fp,OS (Av X N scope cl C s₀ H₀ fp) ifs tt):∀cl C s₀ H₀ fp,Tr (Av X N scope cl C s₀ H₀ fp) ifs (FT (cxC X N scope H₀) tt):=fun cl C s₀ H₀ fp pins s σ H Q I #[B,z,τ,R,r,ht,q] =>
 (hifs cl C s₀ H₀ fp).out pins s σ H Q I #[B,z,τ,R,Tj r,ht,q]
theorem Ko (helt:∀cl C s₀ H₀ fp,PE3 (Av X N scope cl C s₀ H₀ fp) elt te):∀cl C s₀ H₀ fp,PE (Av X N scope cl C s₀ H₀ fp) elt (FE (cxC X N scope H₀) te):=fun cl C s₀ H₀ fp pins s σ H Q I #[B,z,τ,R,r,ht,q] =>
 (helt cl C s₀ H₀ fp).out pins s σ H Q I #[B,z,τ,R,Tj r,ht,q]
theorem FC (O:AZ X x scope N idx)(hc:X.calm=true)(hi:PI X (.Name x px) iter wi)(hsrc:Src X wi ws)(hifs:∀cl C s₀ H₀ fp,OS (Av X N scope cl C s₀ H₀ fp) ifs tt)(helt:∀cl C s₀ H₀ fp,PE3 (Av X N scope cl C s₀ H₀ fp) elt te)
 (hs:∀x,foldedSetIterable iter X.env x=pure x:=by intro _;rfl):PE3 X (.ListComp elt [#[.Name x px,iter,ifs,0]] scope pos) (Ud idx ws tt te) :=
 #[BJ (U9 O hc hi (QA hifs) (Ko helt) hs) fun σ H Q h=>Nf hsrc h]
theorem LN {i:Nat}{y:Str}{py spos:Pos}(O:AZ X x scope N idx) (hc:X.calm=true) (hi:PI X (.Name x px) iter wi) (hsrc:Src X wi ws) (hifs:∀cl C s₀ H₀ fp,OS (Av X N scope cl C s₀ H₀ fp) ifs tt) (helt:∀cl C s₀ H₀ fp,PE3 (Av X N scope cl C s₀ H₀ fp) elt te)
 (hN:X.N.Nodup) (hy:X.N[i]? = some y) (hly:Loc X.env.scope y)
 (hsw:swapsWith (.ListComp elt [#[.Name x px,iter,ifs,0]] scope pos) (some (.Name y py)) spos.line X.env=pure true:=by rfl) (hs:∀x,foldedSetIterable iter X.env x=pure x:=by intro _;rfl)
 (hfn:X.fn y=true\/X.env.scope.names.lookup y=some .local:=by first|exact .inl rfl|exact .inr rfl|assumption) (hp:Em X i:=by first|exact Ed rfl|exact Ea rfl ∅|assumption) :
 PS3 X (.Assign [.Name y py] (.ListComp elt [#[.Name x px,iter,ifs,0]] scope pos) spos) (Xk i (Ud idx ws tt te)) :=
 #[CS (OB O hc hi (QA hifs) (Ko helt) hN hy hly hsw hs hfn) fun D2 σ H hh=>by obtain⟨B,z,τ,D3,r,ht,c⟩:=hh;exact Nf hsrc #[B,z,τ,_,r,ht,fun s v H' e i f h=>by
  cases s with
  |r _=>exact h.elim
  |d y=>exact c.nx _ _ _ (r.set e i f rfl hp) h
  |l ys=>exact c.nx _ _ _ (r.set e i f rfl hp) h]]
end
def NT (fN:List Str)(scope:Scope)(N:List Str):Nat->List Nat->Bool
 |_,[]=>true
 |k,j::r=>(match N[k+1]?,fN[j]? with
  |some y,some y'=>y==y'&&(scope.names.lookup y==some NameKind.free)
  |_,_=>false)&&NT fN scope N (k+1) r
def O9 (fsc:Scope)(fN:List Str)(x:Str)(scope:Scope)(N:List Str)(idx:List Nat):Bool :=
 (scope.kind == .function)&&scope.names.all (fun y=>!(y.2 == .cell))&&scope.names.all (fun y=>!(y.2 == .local)||scope.names.lookup y.1==some .local)&&(scope.names.lookup x==some NameKind.local) &&
 scope.names.all (fun y=>!(y.2 == .free)||fsc.names.lookup y.1==some .cell)&&decide N.Nodup&&(N[0]? == some x)&&(N.length==idx.length+1)&&NT fN scope N 0 idx
theorem Tl {fN:List Str}{scope:Scope}{N:List Str}:∀{idx:List Nat}{k0:Nat},NT fN scope N k0 idx=true->∀(k j:Nat),idx[k]? = some j->∃y,N[k0+k+1]? = some y/\fN[j]? = some y/\scope.names.lookup y=some .free
 |[],_,_,_,_,h=>by simp at h
 |i::r,k0,h,k,j,hk=>by
  unfold NT at h
  rw[qAV] at h
  cases k with
  |zero =>
   have e:i=j:=by simpa using hk
   subst e
   obtain⟨h1,_⟩:=h
   split at h1
   .rename_i y y' e1 e2
    rw[qAV] at h1
    have ey:y=y':=by simpa using h1.1
    subst ey
    exact#[y,e1,e2,by simpa using h1.2]
   .cases h1
  |succ k =>
   obtain⟨y,a,b,c⟩:=Tl h.2 k j (by simpa using hk)
   exact#[y,by rw[<-a];congr 1;omega,b,c]
theorem AZ.mk' {X:Cx}{x:Str}{scope:Scope}{N:List Str}{idx:List Nat}(fsc:Scope) (fN:List Str) (h1:X.env.scope=fsc) (h2:X.N=fN) (h:O9 fsc fN x scope N idx=true):AZ X x scope N idx:=by
 subst h1 h2
 unfold O9 at h
 simp only[qAV] at h
 obtain⟨⟨⟨⟨⟨⟨⟨⟨a1,a2⟩,a3⟩,a4⟩,a5⟩,a6⟩,a7⟩,a8⟩,a9⟩:=h
 refine#[by simpa using a1,fun y hy=>?_,fun y hy hl=>?_,by simpa using a4,fun y hy hf=>?_,by simpa using a6,by simpa using a7,by simpa using a8,fun k j hk=>?_]
 .have:=qAH.mp a2 y hy
  simpa using this
 .have:=qAH.mp a3 y hy
  rw[hl] at this
  simpa using this
 .have:=qAH.mp a5 y hy
  rw[hf] at this
  show X.env.scope.names.lookup y.1=some .cell
  simpa using this
 .have:=Tl a9 k j hk
  simpa using this
section
variable {X:Cx}{e a b c:Expr}{te ta tb tc:TE3}{pos:Pos}
theorem XI {t:TE}(h:PE X e t):PE X e (fun σ H Q=>t σ H fun v H'=>(∀a o,H' a=some o->X.K.lookup a=none)->Q v H'):=fun pins s σ H Q I q =>
 thn (h pins s σ H _ I q) fun u s1 #[v,H1,I1,r1,q1]=>#[v,H1,I1,r1,q1 fun a o e=>by
  cases y:X.K.lookup a with
  |none=>rfl
  |some o' =>
   have:=(I1.bs a o' (I1.ok.mod.kin a o' y)).2
   rw[e] at this
   cases this]
def Td:D->Bool
 |.non=>true
 |_=>false
theorem Pr {K:W.Frag}{z:Hp}{v:V}{x:D}(h:Is K z v x):decide (v=.non)=Td x:=by cases h<;>rfl
def Yz:R3:=fun dx dy R=>match dy with
 |.non=>R (.bl (Td dx))
 |_=>False
theorem Lf:Ib X (compareOp .Is) Yz:=FW WZ fun x y H Q hh=>by
 obtain⟨z,dx,dy,R,hz,hx,hy,h3,q⟩:=hh
 unfold Yz at h3
 split at h3
 .exact#[hy.non_inv,q _ _ #[H,z] (Ext.refl hz) (.bl _) (by rw[Pr hx];exact h3)]
 .exact h3.elim
def Xg:R3:=fun dx dy R=>match dx,dy with
 |.tup xs,.tup ys=>xs≠[]/\xs.length+ys.length<=100000/\R (.tup (xs++ys))
 |.lst xs,.lst ys=>xs.length+ys.length<=100000/\R (.lst (xs++ys))
 |.int i,.int j=>R (.int (i+j))
 |_,_=>False
theorem Iss.append {K:W.Frag}{H:Hp}{vs ws:List V}{xs ys:List D}(h:Iss K H vs xs) (h':Iss K H ws ys):Iss K H (vs++ws) (xs++ys):=by
 refine#[by simp[h.1,h'.1],fun i v x h1 h2=>?_]
 by_cases hi:i<vs.length
 .rw[qAp hi] at h1
  rw[qAp (by have:=h.1;omega)] at h2
  exact h.2 i v x h1 h2
 .rw[qAu ()] at h1
  rw[qAu (by have:=h.1;omega)] at h2
  have:=h.1
  exact h'.2 (i-vs.length) v x h1 (by rw[this];exact h2)
theorem IB {K:W.Frag}{H:Hp}{vs:List V}{xs:List D}(h:Iss K H vs xs):vs=[] ↔ xs=[]:=by
 have:=h.1
 constructor
 .rintro rfl;exact qAS (by simpa using this.symm)
 .rintro rfl;exact qAS (by simpa using this)
theorem J6:Ib X (binaryOp .Add) Xg:=FW ((TR.or VA).or SD) fun x y H Q hh=>by
 obtain⟨z,dx,dy,R,hz,hx,hy,h3,q⟩:=hh
 have sz:(100000:Nat)<sizeLine:=∅
 unfold Xg at h3
 split at h3
 .rename_i xs ys
  obtain⟨h1,h2,h3⟩:=h3
  obtain⟨p,vs,rfl,g1,g2⟩:=Is.tup_inv hx
  obtain⟨p',ws,rfl,g1',g2'⟩:=Is.tup_inv hy
  refine .inl (.inl #[p,p',vs,ws,rfl,rfl,SqT.same hz g1,SqT.same hz g1',fun w=>h1 ((IB g2).mp w),by rw[g2.1,g2'.1];omega,fun w=>?_,fun w l hl=>?_])
  .have:ys=[]:=(IB g2').mp w
   subst this
   rw[qBq] at h3
   exact q _ _ #[H,z] (Ext.refl hz) hx h3
  .have j:=(g2.append g2').mono (BX (hz.free hl) (.tup (vs++ws)))
   exact q _ _ _ (Ext.lay hz hl (.tup (vs++ws))) (Is.tup (SqT.of Ap) j.1 j.2) h3
 .rename_i xs ys
  obtain⟨h2,h3⟩:=h3
  obtain⟨p,vs,rfl,g1,g2⟩:=Is.lst_own hx
  obtain⟨p',ws,rfl,g1',g2'⟩:=Is.lst_own hy
  refine .inl (.inr #[p,p',vs,ws,rfl,rfl,hz _ _ g1,hz _ _ g1',by rw[g2.1,g2'.1];omega,fun l hl=>?_])
  have j:=(g2.append g2').mono (BX (hz.free hl) (.lst (vs++ws)))
  exact q _ _ _ (Ext.lay hz hl (.lst (vs++ws))) (Is.lst Ap j.1 j.2) h3
 .rename_i i j
  exact .inr #[i,j,hx.int_inv,hy.int_inv,q _ _ #[H,z] (Ext.refl hz) (.int _) h3]
 .exact h3.elim
def Eh (xs:List D)(lo hi:Option Int):List D:=(xs.drop (HT.sIx xs.length 0 lo)).take (HT.sIx xs.length xs.length hi-HT.sIx xs.length 0 lo)
theorem Qx {K:W.Frag}{H:Hp}{vs:List V}{xs:List D}(h:Iss K H vs xs) (lo hi:Option Int):Iss K H (OH vs lo hi) (Eh xs lo hi):=by
 unfold OH Eh
 rw[h.1]
 refine#[by simp[h.1],fun i v x h1 h2=>?_]
 rw[List.getElem?_take] at h1 h2
 split at h1
 .rename_i hlt
  rw[if_pos hlt] at h2
  rw[qBa] at h1 h2
  exact h.2 _ v x h1 h2
 .cases h1
abbrev TO3:=Tau->(Option Int->Prop)->Prop
structure PO3 (X:Cx)(e:Option Expr)(t:TO3):Prop where
 out:PO X e (fun σ H Q=>∃B z τ R,Rep X B τ σ #[H,z]/\t τ R/\∀o q,Ext #[H,z] q->R o->Q o q.h)
def oNo:TO3:=fun _ R=>R none
def Zy (te:TE3):TO3:=fun τ R=>te τ fun s=>match s with
 |.d (.int i)=>R (some i)
 |_=>False
theorem Si:PO3 X none oNo:=#[fun pins s σ H Q I #[B,z,τ,R,r,ht,q]=>UT pins s σ H Q I (q none #[H,z] (Ext.refl r.ext.sub) ht)]
theorem Hk (h:PE3 X e te):PO3 X (some e) (Zy te):=#[fun pins s σ H Q I #[B,z,τ,R,r,ht,q]=>To h.out pins s σ H Q I #[B,z,τ,_,r,ht,fun s v q1 e1 i1 f1 h1=>by
 split at h1
 .rename_i i
  exact#[i,Is.int_inv i1,q _ _ e1 h1]
 .exact h1.elim]]
def vSl (te:TE3)(lo hi:TO3):TE3:=fun τ R=>te τ fun x=>lo τ fun l=>hi τ fun u=>match x with
 |.d (.tup xs)=>¬(HT.sIx xs.length 0 l=0/\HT.sIx xs.length xs.length u=xs.length)/\R (.d (.tup (Eh xs l u)))
 |.d (.lst xs)=>R (.l (Eh xs l u))
 |.l xs=>R (.l (Eh xs l u))
 |.r xs=>R (.l (Eh xs l u))
 |_=>False
theorem OQ {lo hi:Option Expr}{tl th:TO3}{p2:Pos}(he:PE3 X e te) (hl:PO3 X lo tl) (hh:PO3 X hi th):PE3 X (.Subscript e (.Slice lo hi none p2) pos) (vSl te tl th) :=
 #[BJ (XI (Rx (V4.or Vc) he.out hl.out hh.out)) fun σ H Q hh=>by
  obtain⟨B,z,τ,R,r,ht,q⟩:=hh
  refine#[B,z,τ,_,r,ht,fun x v q1 e1 i1 f1 h1=>?_]
  refine#[B,_,τ,_,r.mono e1,h1,fun l q2 e2 h2=>?_]
  refine#[B,_,τ,_,(r.mono e1).mono e2,h2,fun u q3 e3 h3=>?_]
  have e23:=e2.trans e3
  have i1':=IsS.mono e23 i1
  have lists:∀(p:Addr)(vs:List V)(xs:List D),v=.ref p->SqL X.K q3.h p vs->Iss X.K q3.z vs xs->R (.l (Eh xs l u))->∃a xs,v=.ref a/\SqL X.K q3.h a xs/\∀p,q3.h p=none->((∀a o,upd q3.h p (.lst (OH xs l u)) a=some o->X.K.lookup a=none)->Q (.ref p) (upd q3.h p (.lst (OH xs l u)))):=fun p vs xs hv hs hi hR =>
   #[p,vs,hv,hs,fun d hd hk=>q (.l (Eh xs l u)) _ #[_,q3.z] ((e1.trans e23).trans (Ext.own e23.sub hd _)) #[d,_,rfl,Ap,Qx hi l u] (fun ys a _ h2=>by
    cases h2
    exact#[(e1.trans e23).hh.free hd,hk d _ Ap,e23.sub.free hd]) hR]
  split at h3
  .rename_i xs
   obtain⟨p,vs,rfl,g1,g2⟩:=Is.tup_inv i1'
   refine .inl #[p,vs,rfl,SqT.same e23.sub g1,by rw[g2.1];exact h3.1,fun d hd _=>?_]
   have j:=(Qx g2 l u).mono (BX (e23.sub.free hd) (.tup (OH vs l u)))
   exact q (.d _) _ _ ((e1.trans e23).trans (Ext.lay e23.sub hd (.tup (OH vs l u)))) (Is.tup (SqT.of Ap) j.1 j.2) GD h3.2
  .rename_i xs
   obtain⟨p,vs,rfl,g1,g2⟩:=Is.lst_inv i1'
   exact .inr (lists p vs xs rfl (e23.sub.seq g1) g2 h3)
  .rename_i xs
   obtain⟨p,vs,rfl,g1,g2⟩:=i1'
   exact .inr (lists p vs xs rfl (SqL.of g1) g2 h3)
  .rename_i xs
   obtain⟨p,vs,rfl,g1,g2⟩:=i1'
   exact .inr (lists p vs xs rfl g1 g2 h3)
  .exact h3.elim]
def W6 (te:TE3):TE3:=fun τ R=>te τ fun s=>match items s with
 |some xs=>R (.d (.tup xs))
 |none=>False
theorem VW {K:W.Frag}{p:HZ}{v:V}{s:S}{xs:List D}(i:IsS K p v s) (hz:Bw p.z p.h) (h:items s=some xs):∃a vs,v=.ref a/\Iss K p.z vs xs/\((SqL K p.h a vs)\/(SqT K p.z a vs/\s=.d (.tup xs))):=by
 cases s with
 |d z =>
  cases z with
  |tup zs=>cases h;obtain⟨a,vs,rfl,g1,g2⟩:=Is.tup_inv i;exact#[a,vs,rfl,g2,.inr #[g1,rfl]]
  |lst zs=>cases h;obtain⟨a,vs,rfl,g1,g2⟩:=Is.lst_inv i;exact#[a,vs,rfl,g2,.inl (hz.seq g1)]
  |_=>cases h
 |l zs=>cases h;obtain⟨a,vs,rfl,g1,g2⟩:=i;exact#[a,vs,rfl,g2,.inl (SqL.of g1)]
 |r zs=>cases h;obtain⟨a,vs,rfl,g1,g2⟩:=i;exact#[a,vs,rfl,g2,.inl g1]
theorem Q0 {p:Pos}(he:PE3 X e te) (hg:Gl X "tuple") (hm:X.mg "tuple"=none) (hs:starEach [e] X.env=(false,eval e X.env)::starEach [] X.env:=by exact Dz rfl):PE3 X (.Call (.Name "tuple" p) [e] [] pos) (W6 te) :=
 #[BJ (Qj Km hg hm qCH (AL he.out BD hs) (he:=hs)) fun σ H Q hh=>by obtain⟨B,z,τ,R,r,ht,q⟩:=hh;exact#[B,z,τ,_,r,ht,fun s v q1 e1 i1 f1 h1=>by
  split at h1
  .rename_i xs hx
   obtain⟨a,vs,rfl,g2,g1⟩:=VW i1 e1.sub hx
   refine#[a,vs,rfl,?_]
   rcases g1 with g1|⟨g1,rfl⟩
   .refine .inl #[g1,fun d hd=>?_]
    have j:=g2.mono (BX (e1.sub.free hd) (.tup vs))
    exact q (.d _) _ _ (e1.trans (Ext.lay e1.sub hd (.tup vs))) (Is.tup (SqT.of Ap) j.1 j.2) GD h1
   .exact .inr #[SqT.same e1.sub g1,q (.d _) _ q1 e1 i1 GD h1]
  .exact h1.elim]]
end
section
variable {X:Cx}{e a b c:Expr}{te ta tb tc ti:TE3}{pos:Pos}
def Yr:S->Option (List D)
 |.d (.lst xs)=>some xs
 |.l xs=>some xs
 |.r xs=>some xs
 |_=>none
theorem SE {K:W.Frag}{p:HZ}{v:V}{s:S}{xs:List D}(i:IsS K p v s) (hz:Bw p.z p.h) (h:Yr s=some xs):∃a vs,v=.ref a/\Iss K p.z vs xs/\SqL K p.h a vs:=by
 cases s with
 |d z =>
  cases z with
  |lst zs=>cases h;obtain⟨a,vs,rfl,g1,g2⟩:=Is.lst_inv i;exact#[a,vs,rfl,g2,hz.seq g1]
  |_=>cases h
 |l zs=>cases h;obtain⟨a,vs,rfl,g1,g2⟩:=i;exact#[a,vs,rfl,g2,SqL.of g1]
 |r zs=>cases h;obtain⟨a,vs,rfl,g1,g2⟩:=i;exact#[a,vs,rfl,g2,g1]
end
section
variable {X:Cx}{e:Expr}{es:List Expr}{tr:TA3}{th:TS3}
end
structure GC (K:W.Frag)(mg:Str->Option Value)(x:Str)(d:D):Prop where
 ex:∃u v,mg x=some u/\CK v u/\∀H,Is K H v d
theorem KY {X:Cx}{x:Str}{d:D}{pos:Pos}(hg:Gl X x) (c:GC X.K X.mg x d) (hd:(x==("__debug__":Str))=false:=by decide):PE3 X (.Name x pos) (vC d):=by
 obtain⟨u,v,hm,hr,hi⟩:=c.ex
 exact#[BJ (U1 hg hm hr hd) fun σ H Q hh=>by obtain⟨B,z,τ,R,r,ht,q⟩:=hh;exact q (.d d) v #[H,z] (Ext.refl r.ext.sub) (hi _) GD ht]
def KD (K:W.Frag)(u:Value)(d:D):Prop:=∃v,CK v u/\∀H,Is K H v d
theorem KD.of {K:W.Frag}{mg:Str->Option Value}{x:Str}{u:Value}{d:D}(hm:mg x=some u) (h:KD K u d):GC K mg x d:=by
 obtain⟨v,r,i⟩:=h
 exact#[u,v,hm,r,i]
section
variable {K:W.Frag}
theorem KD.int {i:Int}{t}:KD K (Value.int i t) (.int i):=#[.int i,#[t,rfl],fun _=>.int i]
inductive KDs (K:W.Frag):List Value->List D->Prop where
 |nil:KDs K [] []
 |cons {u:Value}{us:List Value}{d:D}{ds:List D}:KD K u d->KDs K us ds->KDs K (u::us) (d::ds)
theorem KDs.out:∀{us:List Value}{ds:List D},KDs K us ds->∃vs,B8 vs us/\∀H,Iss K H vs ds
 |_,_,.nil=>#[[],.nil,fun _=>#[rfl,fun i v x h=>by simp at h]]
 |_,_,.cons #[v,r,i] t=>by
  obtain⟨vs,rs,is⟩:=t.out
  refine#[v::vs,.cons r rs,fun H=>#[by simp[(is H).1],fun j w x h1 h2=>?_]]
  cases j with
  |zero=>simp at h1 h2;subst h1;subst h2;exact i H
  |succ j=>exact(is H).2 j w x (by simpa using h1) (by simpa using h2)
theorem KD.tup {a:Addr}{od:Option Addr}{its:Array Value}{n:Nat}{sl:Array (Option Value)}{ds:List D}(h:K.lookup a=some #[.type "tuple",od,.seq its n,sl]) (hz:its.size<=sizeLine) (hs:KDs K its.toList ds):KD K (.ref a) (.tup ds):=by
 obtain⟨vs,rs,is⟩:=hs.out
 exact#[.ref a,rfl,fun H=>.tup (.inr #[_,its,n,h,rfl,rfl,hz,rs]) (is H).1 (is H).2]
end
section
variable {X:Cx}{e:Expr}{es:List Expr}{tr:TA3}
end
end L3
namespace CH
open PySem L2 L3
theorem AI {i j:Int}{m n:Nat}(hi:i.natAbs<2^m) (hj:j.natAbs<2^n) (h:m+n<=134217728):IntMulOk i j :=
 PyProof.Rows.mulOk_of_bits (qCI hi) (qCI hj) h
def dg (n:Int):Nat:=if n==0 then 0 else n.natAbs.log2/30+1
theorem PH {i:Int}{m:Nat}(h:i.natAbs<2^m):dg i<=m/30+1:=by
 unfold dg
 by_cases h0:(i==0)=true
 .rw[if_pos h0];omega
 .rw[if_neg h0]
  have hn:i.natAbs≠0:=by
   intro z
   apply h0
   have:i=0:=()
   rw[this];rfl
  have:i.natAbs.log2<m:=(Nat.log2_lt hn).mpr h
  omega
theorem Xl {i j:Int}(h:i.natAbs<2^13000):Builtin.divisionGoesByPylong i j=false:=by
 have k:=PH h
 clear h
 show(decide (dg j>300)&&decide (dg i>dg j+150))=false
 rw[Bool.and_eq_false_iff]
 by_cases hq:dg j>300
 .exact .inr (decide_eq_false ())
 .exact .inl (decide_eq_false hq)
theorem HJ {i j:Int}(h:j.natAbs<1073741824):Builtin.divisionGoesByPylong i j=false:=PyProof.noPylong_small h
theorem nz2:(2:Int)≠0:=∅
theorem QB (i:Int):0<=(if i<0 then -i else i):=by split<;>omega
def cell (ns:List Int)(k:Int):Int:=ns.getD k.toNat 0
theorem Rk {ns:List Int}{k:Int}(h0:0<=k) (h1:k<(ns.length:Int)):atI (ns.map D.int) k=some (.int (cell ns k)):=by
 have hk:k.toNat<ns.length:=()
 have ek:k=((k.toNat:Nat):Int):=()
 have q:atI (ns.map D.int) ((k.toNat:Nat):Int)=some (.int ns[k.toNat]):=atI_nat (by rw[qAc,qAb hk]<;>rfl)
 rw[<-ek] at q
 rw[q]
 unfold cell
 rw[qAg,qAb hk]
 rfl
abbrev I (i:Int):Option S:=some (.d (.int i))
theorem B9 {c A B:Prop} [Decidable c] (h1:c->A) (h2:¬c->B):if decide c=true then A else B:=by
 by_cases h:c
 .rw[decide_eq_true h,if_pos rfl];exact h1 h
 .rw[decide_eq_false h,if_neg qAs];exact h2 h
theorem Ui {c A B:Prop} [Decidable c] (h1:¬c->A) (h2:c->B):if (!decide c)=true then A else B:=by
 by_cases h:c
 .rw[decide_eq_true h];exact h2 h
 .rw[decide_eq_false h];exact h1 h
theorem iF {b:Bool}{A B:Prop}(h:B) (hb:b=false:=by rfl):if b=true then A else B:=by subst hb;rw[if_neg qAs];exact h
end CH
namespace L3
open PySem PySem.Spec PyProof.Rows L2
section
variable {prog:Program}{w:World}{A:Around}{R:Result->Shared->Prop}{s:Shared}
theorem UR {fa:Addr}{ag:PySem.Args}{ob:Obj}{f:FuncData}{bd:Expr}{nm:Str}(hroom:A.depth<recursionLimit) (hob:s.heap.get? fa=some ob) (hdt:ob.data=.func f)
 (hc1:f.scope.isCoroutine=false) (hc2:f.scope.isGenerator=false) (hbd:f.body=.expr bd) (hcd:s.heap.CodeRec f.code nm)
 (k:wpAny (model prog w) A.in1 (bindArgs f ag) (fun bs s1=>wpAny (model prog w) A.in1 (newFunctionEnv f.scope f.globals f.closure bs (nm ++ ".<locals>.") (some fa) f.code none f.builtins)
  (fun en s2=>s2.heap.NoLimit/\codeAny (model prog w) A (.expr bd en) R s2) (fun x s3=>R (.error x) s3) s1) (fun x s3=>R (.error x) s3) s) :
 codeAny (model prog w) A (.call (.ref fa) ag) R s:=by
 refine codeAny_of_tree ?_
 show wpAny _ A.in1 (callAny (.ref fa) ag) _ _ s
 simp only[callAny]
 refine wpAny_bind (wpAny_load hob ?_)
 obtain⟨cc,oc,fs,tq,hc,hoc,hdc,hq⟩:=hcd
 simp only[hdt,callFunction,hc1,hc2,hbd,hc]
 rw[hc] at k
 refine wpAny_bind (m:=field (.ref cc) 1) (wpAny_field hoc hdc hq (wpAny_bind (wpAny_pure ?_)))
 exact wpAny_bind (wpAny_mono k (fun bs s1 k1=>wpAny_bind (wpAny_mono k1 (fun en s2 k2=>wpAny_bind (wpAny_enterFrame k2.1 hroom (wpAny_pure (And.intro rfl k2.2)))) fun _ _ z=>z)) fun _ _ z=>z)
end
structure RO (P:Program)(w:World)(K:W.Frag)(mg:Str->Option Value)(base:Heap)(k:Nat)(s:Shared)(H:Hp)(fs:List Addr)(a:Addr)(dom:D->Prop)(p:D->Bool):Prop where
 obj:∃o u fd,H a=some (.frz o u)/\o.data=.func fd
 run:∀(A:Around)(outer:List Env)(s':Shared)(H':Hp)(v:V)(u:Value)(x:D),E9 k A->Vi P w K mg base A outer s' H' ->
  (∀b o,s.heap.get? b=some o->H b=none->b∉fs->s'.heap.get? b=some o/\H' b=none)->Bw H H'->CK v u->Is K H' v x->dom x ->
  codeAny (model P w) A (.call (.ref a) #[[u],[]]) (CR CX0 outer P w H' s' (fun r H2=>r=.bl (p x)/\Bw H' H2) fun _ _ _=>False) s'
def Q9 (X:Cx)(N:List Str)(scope:Scope)(cl:List (Str×Addr))(nm:Str)(a:Addr)(cdv:Value)(A:Around)(outer:List Env)(s:Shared)(H:Hp):Cx :=
 { X with A:=A.deeper (W.envX nm scope s.heap.objs.size a cdv cl),N:=N,s₀:=s,H₀:=H,env:=W.envX nm scope s.heap.objs.size a cdv cl,outer:=outer,stack:=W.envX nm scope s.heap.objs.size a cdv cl::outer,ex:=[],fn:=fun _=>false,calm:=true,pn:=[],xe:=fun _ _=>False,lent:=none }
def Js (τ:Tau)(idx:List Nat):Tau:=idx.map fun j=>match τ[j]? with
 |some (some (S.d y))=>some (S.d y)
 |_=>none
section
variable {X:Cx}{pins:List (Addr×Obj)}{σ:St}{H1 H:Hp}{s1 s:Shared}{x:Str}{scope:Scope}{N:List Str}{idx:List Nat}{cl:List (Str×Addr)}
theorem OC (I1:Inv X pins σ H1 s1)(hfn:∀y,X.fn y=true){y:Str}{c:Addr}(e:X.env.cells.lookup y=some c):c∉frs X.stack:=fun hb=>by
 rcases qAl.mp (I1.stkSub c hb) with z|z
 .exact I1.cne y c e z
 .obtain⟨_,o,ho,_⟩:=I1.ok.funs.mem z
  exact absurd (qAv (qAj ho) (I1.ok.cab y c (hfn y) e)) (qAZ _)
theorem OR (O:AZ X x scope N idx)(hfn:∀y,X.fn y=true)(I1:Inv X pins σ H1 s1)(hcl:∀y c,cl.lookup y=some c->X.env.cells.lookup y=some c)(hcl2:∀y,(y,NameKind.free)∈scope.names->∃c,cl.lookup y=some c)
 {A:Around}{outer:List Env}{s':Shared}{H':Hp}(e0:Vi X.prog X.w X.K X.mg X.base A outer s' H') (hd:A.handled=none)
 (st:∀b o,s1.heap.get? b=some o->H1 b=none->b∉frs X.stack->s'.heap.get? b=some o/\H' b=none){v:V}{u:Value}(r:CK v u)
 {h1:Heap}(hns:h1.Ns s'.heap.objs.size (fun y=>[(x,u)].reverse.lookup y)) (old:∀b o,s'.heap.get? b=some o->h1.get? b=some o){tk:Nat}{nm:Str}{a:Addr}{cdv:Value} :
 Inv (Q9 X N scope cl nm a cdv A outer s' H') [] (some v::DO σ idx) H' { s' with heap:=h1,toks:=tk }:=by
 have kept:∀y c,X.env.cells.lookup y=some c->∀z,s1.heap.IsCell c z->h1.IsCell c z/\H' c=none:=fun y c e z hh=>by
  obtain⟨o,ho,hd⟩:=hh
  obtain⟨g1,g2⟩:=st c o ho (I1.freeC y c e) (OC I1 hfn e)
  exact#[#[o,old _ _ g1,hd],g2]
 refine#[#[e0.mod,O.kind,rfl,rfl,qAf _,fun y z c h1 h2=>I1.ok.inj y z c (hcl y c h1) (hcl z c h2),fun y hy=>?_,(fun _ _ z=>by cases z),fun _=>hd,Around.frames_deeper e0.frames,.inr #[rfl,rfl],(fun b z=>by cases z),e0.bs,e0.bsz,(fun _ _ _ z=>by cases z),(fun b z=>by cases z),e0.funs,e0.frf,e0.tb],
  rfl,e0.bare,Un.kept old,#[_,hns,fun i y v' e1 e2 e3=>?_],fun y c e=>?_,e0.hok.fresh (qAf _),fun y c e=>?_,(fun p hp=>by cases hp),e0.hok.kept old,?_]
 .have hy':scope.names.lookup y=some .cell\/scope.names.lookup y=some .free:=hy
  rcases hy' with z|z
  .exact absurd rfl (O.cell _ (Bz z))
  .exact hcl2 y (Bz z)
 .cases i with
  |zero =>
   have e1':y=x:=qAn (e1.symm.trans O.fst)
   subst e1'
   cases e2
   exact#[u,r,.inl #[O.own,by simp]]
  |succ k =>
   obtain⟨j,ej,es⟩:=HY (k:=k) e2
   obtain⟨y',n1,n2,n3⟩:=O.cap k j ej
   have ey:y'=y:=qAn (n1.symm.trans e1)
   subst ey
   have kc:=O.free _ (Bz n3) rfl
   obtain⟨m0,hn0,hl0⟩:=I1.loc
   obtain⟨u',ru,lk⟩:=hl0 j y' v' n2 es (.inr (.inl kc))
   refine#[u',ru,?_]
   rcases lk with⟨k1,_⟩|⟨_,c,hc,ic⟩
   .rw[kc] at k1;cases k1
   .obtain⟨c',hc'⟩:=hcl2 y' (Bz n3)
    have:c'=c:=qAn ((hcl y' c' hc').symm.trans hc)
    subst this
    exact .inr #[.inr n3,c',hc',(kept y' c' hc _ ic).1]
 .obtain⟨z,ic⟩:=I1.cell y c (hcl y c e)
  exact#[z,(kept y c (hcl y c e) z ic).1]
 .obtain⟨z,ic⟩:=I1.cell y c (hcl y c e)
  exact(kept y c (hcl y c e) z ic).2
 .show(some v::DO σ idx).length=N.length
  rw[O.len,qAW]
  unfold DO
  rw[qAa]
theorem Lo {τ:Tau}{idx:List Nat}{k:Nat}{y:S}(h:(Js τ idx)[k]? = some (some y)):∃j d,idx[k]? = some j/\y=.d d/\τ[j]? = some (some (.d d)):=by
 unfold Js at h
 rw[qAc] at h
 cases e:idx[k]? with
 |none=>rw[e] at h;cases h
 |some j =>
  rw[e] at h
  have h':=qAn h
  dsimp only at h'
  split at h'
  .rename_i d hd
   exact#[j,d,rfl,(qAn h').symm,hd]
  .cases h'
theorem Tg (O:AZ X x scope N idx)(hfn:∀y,X.fn y=true)(I1:Inv X pins σ H1 s1)(hcl:∀y c,cl.lookup y=some c->X.env.cells.lookup y=some c)(hcl2:∀y,(y,NameKind.free)∈scope.names->∃c,cl.lookup y=some c)
 {a c':Addr}{fo oc:Obj}{fs:Array Value}{nm qual:Str}{tq kb:Nat}{u1 u2:HO}{params:Arguments}{body:Expr}{pm ctv:Value}{tb:TE3}{dom:D->Prop}{p:D->Bool}{B:HZ}{z:Hp}{τ:Tau}
 (ha:H1 a=some (.frz fo u1)) (hfo:fo.data=.func (qB3 "<lambda>" qual params body scope cl pm (.ref c') ctv)) (hc:H1 c'=some (.frz oc u2)) (hoc:oc.data=.fields fs) (hfs:fs[1]? = some (.str nm tq))
 (hco:scope.isCoroutine=false) (hgen:scope.isGenerator=false) (hbind:∀(q:Str)(cl:List (Str×Addr))(pm cv ct u:Value),bindArgs (qB3 "<lambda>" q params body scope cl pm cv ct) #[[u],[]]=pure [(x,u)])
 (hb:∀cl nm a cdv A outer s H,E9 kb (A.deeper (W.envX nm scope s.heap.objs.size a cdv cl))->PE3 (Q9 X N scope cl nm a cdv A outer s H) body tb)
 (rep:Rep X B τ σ #[H1,z]) (hdom:∀x,dom x->tb (some (.d x)::Js τ idx) fun s=>s=.d (.bl (p x))):RO X.prog X.w X.K X.mg X.base (kb+1) s1 H1 (frs X.stack) a dom p:=by
 refine#[#[fo,u1,_,ha,hfo],fun A outer s' H' v u d hr e0 st sm rv is dm=>?_]
 have ga:s'.heap.get? a=some fo:=(e0.hok a _ (sm _ _ ha)).1
 have gc:s'.heap.get? c'=some oc:=(e0.hok c' _ (sm _ _ hc)).1
 have lim:s'.heap.NoLimit:=e0.mod.nolimit.keeps fun b o e=>(e0.bs b o e).1
 refine UR (nm:=nm) hr.depth ga hfo hco hgen rfl #[c',oc,fs,tq,rfl,gc,hoc,hfs] ?_
 rw[hbind]
 refine wpAny_pure (wpAny_newFunctionEnv O.cell (fun y hy=>?_) (fun h1 hns hsb=>?_) O.kind)
 .have:y=(x,u):=by simpa using hy
  subst this
  exact O.own
 have old:∀b o,s'.heap.get? b=some o->h1.get? b=some o:=fun b o e=>hsb.extBut b o (qAx (qAj e)) (qAh _ e)
 refine#[lim.keeps old,?_]
 show codeAny _ _ (.expr body (W.envX nm scope s'.heap.objs.size a (.ref c') cl)) _ _
 have J:=OR (nm:=nm) (a:=a) (cdv:=.ref c') (tk:=s'.toks + [(x,u)].length) O hfn I1 hcl hcl2 e0 hr.hd st rv hns old
 refine W.kla_codeExpr (wpAny_mono ((hb cl nm a (.ref c') A outer s' H' (hr.deeper _)).out [] _ _ H' (fun r H2=>r=.bl (p d)/\Bw H' H2) J #[#[H',H'],H',some (.d d)::Js τ idx,fun s=>s=.d (.bl (p d)),?_,hdom d dm,fun s2 v2 q2 e2 i2 f2 h2=>?_])
  (fun r s2 #[v2,H2,J2,r2,hq]=>#[v2,H2,J2.os,J2.bare,J2.base,J2.hok,r2,hq]) fun _ _ z=>z.elim)
 .have noL:∀(i:Nat)(xs:List D),¬(some (S.d d)::Js τ idx)[i]? = some (some (.l xs)):=fun i xs z=>by
   cases i with
   |zero=>cases z
   |succ k=>obtain⟨_,_,_,e,_⟩:=Lo (k:=k) z;cases e
  refine#[by simp[DO,Js],Ext.refl (Bw.refl _),fun i y hy=>?_,fun i xs _ z _=>absurd z (noL i xs),fun i _ xs _ _ _ z _ _ _=>absurd z (noL i xs),fun _=>Bw.refl _,fun k a h=>by cases h]
  cases i with
  |zero=>cases hy;exact#[v,rfl,is]
  |succ k =>
   obtain⟨j,y',ej,ey,et⟩:=Lo (k:=k) hy
   subst ey
   obtain⟨v',e1,e2⟩:=rep.val j _ et
   refine#[v',?_,(Is.mono rep.ext.sub e2).mono sm]
   show(DO σ idx)[k]? = _
   unfold DO
   rw[qAc,ej]
   show some ((σ[j]?).getD none)=_
   rw[e1]
   rfl
 .subst h2
  exact#[Is.bl_inv i2,e2.hh]
end
section
variable {X:Cx}{pins:List (Addr×Obj)}{σ:St}{H:Hp}{s:Shared}
theorem KZ {pos pos':Pos}{c cv:Value}:∀(l:List Value),TriplesOk l->codeAmong pos' (l++[rawInt pos.line,rawInt pos.col,c])=some cv->codeAmong pos' l=some cv\/cv=c:=by
 intro l h
 fun_induction TriplesOk l with
 |case1 =>
  intro e
  simp only[List.nil_append,codeAmong,rawInt] at e
  split at e
  .exact .inr (qAn e).symm
  .cases e
 |case2 a t b u x rest ih =>
  intro e
  simp only[List.cons_append,codeAmong] at e ⊢
  split at e
  .rename_i hc;rw[if_pos hc];exact .inl e
  .rename_i hc;rw[if_neg hc];exact ih h e
 |case3 l h1 h2=>exact h.elim
theorem MU {x:Str}{c T:Addr}{params:Arguments}{body:Expr}{scope:Scope}{pos:Pos}{cl:List (Str×Addr)}{E:Value->Shared->Prop}{QQ:Value->Shared->Prop}(I:Inv X pins σ H s) (ht:W.tabIn X.K x=some (c,T)) (hp:(recsOf X.prog).any (fun d=>d.name==x)=true)
 (hcode:X.env.code=.ref c) (hdef:defaultsOf params X.env=([],[])) (hcl:closureFor scope X.env=pure cl)
 (h:∀(a c':Addr)(H':Hp)(s':Shared)(fo oc:Obj)(fs:Array Value)(nm qual:Str)(tq:Nat)(pm ctv:Value),Inv X pins σ H' s'->Bw H H'->H' a=some (.frz fo (.own T))->fo.data=.func (qB3 "<lambda>" qual params body scope cl pm (.ref c') ctv) ->
  H' c'=some (.frz oc (.own T))->oc.data=.fields fs->fs[1]? = some (.str nm tq)->QQ (.ref a) s') :
 wpAny (model X.prog X.w) X.A (eval (.Lambda params body scope pos) X.env) QQ E s:=by
 obtain⟨hd,ps,hT⟩:=I.tb.tab x c T ht hp
 obtain⟨bm,ob,b1,b2,b3,b4,b5,b6⟩:=I.tb.bm
 obtain⟨tab,e1,tr,cod⟩:=(show ME H s.heap T from I.hok T _ hT)
 have tabNe:∀{b:Addr}{o:Obj},X.base.get? b=some o->b≠T:=fun {b o} e z=>by
  have:=(I.bs b o e).2
  rw[z,hT] at this
  cases this
 have hgs:s.heap.Ns mainGlobals X.mg:=I.mod.glob.keeps I.bk
 have hgT:mainGlobals≠T:=by
  obtain⟨o,_,_,e,_⟩:=I.mod.glob
  exact tabNe e
 have hbG:bm≠mainGlobals:=fun z=>by
  obtain⟨o,es,ep,e,d,_⟩:=I.mod.glob
  rw[z,e] at b3;cases b3;rw[d] at b6;cases b6
 have hB:s.heap.BuiltinsAt X.mg T:=#[bm,ob,b1,b2,hbG,tabNe b3,I.bk _ _ b3,b4,b5,b6]
 refine W.kla_eval hdef ?_
 cases hf:codeAmong pos tab.toList with
 |some cv =>
  obtain⟨c',oc,fs,nm,tq,rfl,hc',hoc,hfs⟩:=cod pos cv hf
  refine W.kla_makeFunctionHit (mg:=X.mg) hcl I.ok.glob hgs hcode (hd.keeps I.bk) e1 tr hf hB fun ctv h' tk old sz=>?_
  refine h h'.objs.size c' (upd H h'.objs.size (.frz _ (.own T))) _ _ oc fs nm _ tq _ ctv (I.laid (fun b o e=>qAh _ (old b o e)) sz #[qAt _ rfl,_,qAt _ rfl]) (BX (I.hok.fresh sz) _) Ap rfl ?_ hoc hfs
  rw[Ag (qAx (qAv (I.hok.lt hc') sz))]
  exact hc'
 |none =>
  refine W.kla_makeFunction (mg:=X.mg) hcl I.ok.glob hgs hcode (hd.keeps I.bk) e1 tr hf hgT hB fun c' ctv h' tk hx hge hlt hrec htb=>?_
  obtain⟨c2,oc,fs,tq,ec,hoc,hdt,hfs⟩:=hrec
  cases ec
  have nT:∀{b:Addr}{o:Obj},s.heap.get? b=some o->b≠T->h'.get? b=some o:=fun {b o} e z=>hx b o z e
  have fresh1:H c'=none:=I.hok.fresh hge
  have cT:T≠c':=qAx (qAv (qAj e1) hge)
  have s1:Bw H (upd H c' (.frz oc (.own T))):=BX fresh1 _
  have ok1:HOk X.prog X.w (upd H c' (.frz oc (.own T))) h':=fun b u e=>by
   by_cases hb:b=c'
   .subst hb
    rw[Ap] at e
    cases e
    exact#[hoc,oc,hoc]
   .rw[Ag hb] at e
    by_cases hb2:b=T
    .subst hb2
     rw[hT] at e
     cases e
     refine#[_,htb,by rw[Array.toList_append];exact TriplesOk_snoc _ _ _ _ tr,fun pos' cv z=>?_]
     rw[Array.toList_append] at z
     rcases KZ _ tr z with z|z
     .obtain⟨c3,o3,f3,n3,t3,q1,q2,q3⟩:=cod pos' cv z
      exact#[c3,o3,f3,n3,t3,q1,s1 _ _ q2,q3]
     .exact#[c',oc,fs,_,tq,z,Ap,hdt,hfs]
    .refine(I.hok b u e).stay (hf:=fun d w1 w2 q=>s1 _ _ q) (fun d o hdd q=>nT q ?_) (fun d q=>s1 _ _ q) fun d xs q=>s1 _ _ q
     rcases hdd with rfl|hdd
     .exact hb2
     .rintro rfl
      rw[hT] at hdd
      cases hdd
  have un1:Un X.fs [] H (upd H c' (.frz oc (.own T))) s.heap h':=by
   refine#[fun b o e n _ _=>nT e (fun z=>by rw[z,hT] at n;cases n),fun b o e n _ _=>#[o.slots,nT e (fun z=>by rw[z,hT] at n;cases n)],fun b o e n _=>?_,fun b o e _=>?_,fun b xs q=>s1 _ _ q,fun b o u q=>s1 _ _ q,fun b ps q=>#[(List.toArray []),by rw[s1 _ _ q];simp]]
   .rw[Ag (qAx (qAv (qAj e) hge))];exact n
   .by_cases z:b=T
    .subst z;exact#[_,htb]
    .exact#[o,nT e z]
  have I1:Inv X pins σ (upd H c' (.frz oc (.own T))) { s with heap:=h',toks:=tk }:=I.un un1 ok1
  have I2:=I1.laid (a:=h'.objs.size) (o:=.frz (W.kla_obj "<lambda>" (X.env.qual ++ "<lambda>") params body scope cl ((X.mg "__name__").getD .none) c' ctv) (.own T)) (t':=tk) (h':=h'.push (W.kla_obj "<lambda>" (X.env.qual ++ "<lambda>") params body scope cl ((X.mg "__name__").getD .none) c' ctv))
   (fun b o e=>qAh _ e) (qAf _) #[qAt _ rfl,_,qAt _ rfl]
  refine h h'.objs.size c' _ _ _ oc fs _ _ tq _ ctv I2 (s1.trans (BX (I1.hok.fresh (qAf _)) _)) Ap rfl ?_ hdt hfs
  rw[Ag (qAx hlt)]
  exact Ap
end
abbrev SpL:=Addr->(D->Prop)->(D->Bool)->Sp3
structure Oq (P:Program)(w:World)(K:W.Frag)(mg:Str->Option Value)(base:Heap)(k kl:Nat)(f:Addr)(fd:FuncData)(ps:List Str)(sp:SpL):Prop where
 len:∀a dom p ss R U,sp a dom p ss R U->ss.length=ps.length
 run:∀(A:Around)(outer:List Env)(s:Shared)(H:Hp)(args:PySem.Args)(us:List Value)(vs:List V)(Q:VK)(E:XK)(a:Addr)(dom:D->Prop)(p:D->Bool),E9 k A->Vi P w K mg base A outer s H->BindsTo s fd args (ps.zip us)->B8 vs us ->
  RO P w K mg base kl s H (frs outer) a dom p->Ae K mg (sp a dom p) vs H Q E->codeAny (model P w) A (.call (.ref f) args) (CR CX0 outer P w H s Q E) s
structure Xc (P:Program)(w:World)(K:W.Frag)(mg:Str->Option Value)(base:Heap)(k kl:Nat)(x:Str)(ps:List Str)(sp:SpL):Prop where
 ex:∃f fd,Oq P w K mg base k kl f fd ps sp/\mg x=some (.ref f)/\W.keepIn K (.ref f)=true/\Binds K fd ps []
section
variable {P:Program}{w:World}{K:W.Frag}{mg:Str->Option Value}{base:Heap}
theorem fnL {x qual:Str}{st:Stmt}{f:Addr}{fd:FuncData}{N ps:List Str}{k kl:Nat}{sp:SpL}(F:Fun K x qual st f fd) (Sc:Ad N ps (Ab st)) (len:∀a dom p ss R U,sp a dom p ss R U->ss.length=ps.length)
 (hbody:∀(cdv:Value)(A:Around)(outer:List Env)(s:Shared)(H:Hp)(E:XK)(a:Addr)(dom:D->Prop)(p:D->Bool)(ss:List S)(R:S->Prop)(U:Str->Prop),E9 k (A.deeper (envOfC qual (Ab st) s.heap.objs.size f cdv))->RO P w K mg base kl s H (frs outer) a dom p->sp a dom p ss R U ->
  ∃t,Eg (K9 CX0 P w K mg base N qual (Ab st) f cdv A outer s H E).nox (Ce st) t/\t { nx:=fun _=>R (.d .non),rt:=R } (Ci N ss)):Oq P w K mg base (k+1) kl f fd ps sp:=by
 obtain⟨oc,od,kV,doc,pm,an,cdv,ct,osl,rfl,lk,hcd⟩:=F.ex
 refine#[len,fun A outer s H args us vs Q E a dom p hr e0 hb rv hL hh=>?_]
 obtain⟨z,ss,R,U,hz,ha,h3,q,qe⟩:=hh
 have hl:vs.length=ps.length:=ha.1.trans (len _ _ _ _ _ _ h3)
 have KX:K.In s.heap:=e0.mod.kin.keeps fun b o e=>(e0.bs b o e).1
 have lim:s.heap.NoLimit:=e0.mod.nolimit.keeps fun b o e=>(e0.bs b o e).1
 refine codeAny_call_function hr.depth (KX _ _ lk) rfl Sc.co Sc.gen rfl (W.codeRec_of KX hcd) (hb _ _ _ _ ?_)
 refine wpAny_newFunctionEnv_cells Sc.kind (fun y hy=>?_) fun env he s1 xx=>?_
 .obtain⟨n,v⟩:=y
  rcases Sc.par n (qCi hy).1 with g|g
  .exact .inl g
  .exact .inr #[g,qB6 _ _ _ (.inl g)]
 subst he
 refine#[lim.keeps xx.toInCall.keep,codeAny_func ?_]
 obtain⟨t,ht,hq⟩:=hbody cdv A outer s H E a dom p ss R U (hr.deeper _) hL h3
 have I:Inv (K9 CX0 P w K mg base N qual (Ab st) f cdv A outer s H E) [] (start N vs) H s1:=LU Sc hr.hd e0 hl rv xx
 refine wpAny_mono (ht.out.nox [] s1 (start N vs) H { nx:=fun _ H'=>Q .non H',rt:=Q } I #[#[H,z],z,Ci N ss,_,E4 ha hz (Bw.refl H),hq,#[fun τ σ p r h=>q (.d .non) _ p r.ext Is.non GD h,fun _ _ _ _ z=>z.elim,fun _ _ _ _ z=>z.elim,fun s v p e i f h=>q s v p e i f h]]) (fun fl s' hs=>?_) fun e s' hs=>hs
 have fin:∀{σ':St}{H':Hp}{v:V}{u:Value},Inv (K9 CX0 P w K mg base N qual (Ab st) f cdv A outer s H E) [] σ' H' s'->CK v u->Q v H'->CE outer P w H s Q u s' :=
  fun {σ' H' v u} J rv q=>#[v,H',J.os,J.bare,J.base,J.hok,rv,q]
 cases fl with
 |ret u =>
  obtain⟨v,σ',H',J,rv,q⟩:=hs
  exact fin J rv q
 |next =>
  obtain⟨σ',H',J,q⟩:=hs
  exact fin (v:=V.non) (u:=Value.none) J rfl q
 |brk=>obtain⟨_,_,_,g⟩:=hs;exact False.elim g
 |cont=>obtain⟨_,_,_,g⟩:=hs;exact False.elim g
end
section
variable {X:Cx}{pos:Pos}{e:Expr}{te tb:TE3}
theorem WC {outer:List Env}{P:Program}{w:World}{H:Hp}{s s':Shared}{Q Q':VK}{u:Value}(h:CE outer P w H s Q u s') (f:∀v H',Q v H'->Q' v H'):CE outer P w H s Q' u s' :=
 let #[v,H',a,b,c,d,r,q]:=h;#[v,H',a,b,c,d,r,f _ _ q]
def WR (i:Nat)(a:Addr)(dom:D->Prop)(p:D->Bool)(te:TE3):TE3:=fun τ R=>τ[i]? = some (some (.d (.ref a)))/\te τ fun s=>dd s fun x=>dom x/\R (.d (.bl (p x)))
theorem TJ {i k:Nat}{x:Str}{np:Pos}{a:Addr}{dom:D->Prop}{p:D->Bool}(hL:RO X.prog X.w X.K X.mg X.base k X.s₀ X.H₀ X.fs a dom p) (hr:E9 k X.A) (hv:PE X (.Name x np) (OW i)) (he:PE3 X e te) (hex:X.ex=[]:=by rfl) (hl:X.lent=none:=by rfl)
 (hs:starEach [e] X.env=(false,eval e X.env)::starEach [] X.env:=by exact Dz rfl):PE3 X (.Call (.Name x np) [e] [] pos) (WR i a dom p te):=by
 refine#[fun pins s σ H Q I hh=>?_]
 obtain⟨B,z,τ,R,r,⟨hi,ht⟩,q⟩:=hh
 obtain⟨v,h1,h2⟩:=r.val i _ hi
 have ev:v=.ref a:=by
  have h2':Is X.K z v (.ref a):=h2
  cases h2';rfl
 subst ev
 obtain⟨o,uu,fd,ho,hfd⟩:=hL.obj
 refine wpAny_Call_Name_kw (thn (hv pins s σ H (fun v' H'=>v'=.ref a/\H'=H) I #[_,h1,rfl,rfl]) fun f s1 hh=>?_)
 obtain⟨v',H',I1,rv,e1,e2⟩:=hh
 subst e1;subst e2
 obtain rfl:f=Value.ref a:=rv
 have pa:wpAny (model X.prog X.w) X.A (spliced (backTo pos (starEach [e] X.env))) _ X.xe s1:=(AL he.out BD hs) pos pins s1 σ H' (fun vs H1=>∃y z1 x,vs=[y]/\Ext #[H',z] #[H1,z1]/\Is X.K z1 y x/\dom x/\R (.d (.bl (p x)))) I1 #[B,z,τ,_,r,ht,fun s2 v2 q2 e2 i2 f2 h2=>by
  obtain⟨x,rfl,hx⟩:=Fz h2
  exact#[v2,q2.z,x,rfl,e2,i2,hx]]
 rw[hs] at pa ⊢
 refine W.callWith_of (P:=fun h=>∃ob,h.get? a=some ob/\ob.data=.func fd) rfl (fun h #[ob,g1,g2]=>#[.frame,.inl rfl,?_]) (Calls.evalArgs_plain (thn pa fun us s2 #[vs,H2,I2,rv2,y,z1,x,evs,e2,i2,dm,hR]=>?_))
 .obtain⟨oc,od,od2,osl⟩:=ob
  cases g2
  exact(W.Looks.ld (part:=none) g1).andThen .now
 subst evs
 have sm:Bw X.H₀ H2:=(r.all hl).trans e2.hh
 obtain⟨u,rfl,ru⟩:∃u,us=[u]/\CK y u:=by
  cases rv2 with
  |cons a b=>cases b;exact#[_,rfl,a]
 refine#[#[o,(I2.hok a _ (sm _ _ ho)).1,hfd],wpAny_call (codeAny_mono (hL.run X.A X.stack s2 H2 y u x hr I2.env0 (fun b ob g1 g2 g3=>#[I2.base.keep b ob g1 g2 g3 (by rw[hex];simp),I2.base.free b ob g1 g2 (by rw[hex];simp)]) sm ru (Is.mono e2.sub i2) dm) fun r2 s3 hq=>?_)]
 cases r2 with
 |error e=>exact hq.elim
 |ok fl =>
  cases fl with
  |ret u2 =>
   refine I2.after (WC hq fun v3 H3 h3=>?_)
   obtain⟨rfl,sm3⟩:=h3
   exact q (.d (.bl (p x))) _ #[H3,z1] (e2.trans (Ext.grow e2.sub sm3)) (.bl _) GD hR
  |next=>exact False.elim hq
  |brk=>exact False.elim hq
  |cont=>exact False.elim hq
def Wv (sp:SpL)(U:Str->Prop)(idx:List Nat)(te tb:TE3):TE3:=fun τ R=>te τ fun s=>∃(dom:D->Prop)(p:D->Bool),(∀x,dom x->tb (some (.d x)::Js τ idx) fun s=>s=.d (.bl (p x)))/\dd s fun d=>∀a,sp a dom p [.d d,.d (.ref a)] R U
theorem Qo {k kb:Nat}{g x y:Str}{np lp:Pos}{ps:List Str}{sp:SpL}{c T:Addr}{params:Arguments}{body:Expr}{scope:Scope}{N:List Str}{idx:List Nat}(cal:Xc X.prog X.w X.K X.mg X.base k (kb+1) g ps sp) (hr:E9 k X.A) (hg:Gl X g)
 (ht:W.tabIn X.K y=some (c,T)) (hp:(recsOf X.prog).any (fun d=>d.name==y)=true) (hcode:X.env.code=.ref c) (O:AZ X x scope N idx) (he:PE3 X e te)
 (hb:∀cl nm a cdv A outer s H,E9 kb (A.deeper (W.envX nm scope s.heap.objs.size a cdv cl))->PE3 (Q9 X N scope cl nm a cdv A outer s H) body tb)
 (hfn:∀y,X.fn y=true:=by intro _;rfl) (hdef:defaultsOf params X.env=([],[]):=by rfl) (hco:scope.isCoroutine=false:=by rfl) (hgen:scope.isGenerator=false:=by rfl)
 (hbind:∀(q:Str)(cl:List (Str×Addr))(pm cv ct u:Value),bindArgs (qB3 "<lambda>" q params body scope cl pm cv ct) #[[u],[]]=pure [(x,u)]:=by intros;rfl)
 (hdb:(g==("__debug__":Str))=false:=by decide) (hs:starEach [e,.Lambda params body scope lp] X.env=(false,eval e X.env)::starEach [.Lambda params body scope lp] X.env:=by exact Dz rfl) :
 PE3 X (.Call (.Name g np) [e,.Lambda params body scope lp] [] pos) (Wv sp NoU idx te tb):=by
 refine#[fun pins s σ H Q I hh=>?_]
 obtain⟨B,z,τ,R,r,ht1,q⟩:=hh
 obtain⟨f,fd,F,hm,hk,hbi⟩:=cal.ex
 obtain⟨cl,ecl,hcl,hcl2⟩:=Fc (scope:=scope) (env:=X.env) fun y hy hf=>I.ok.has y.1 (.inl (O.free y hy hf))
 refine wpAny_Call_Name_kw (IW I hg hm ?_ hdb)
 refine qCt (h₀:=X.base) I.ok.mod.kin hk ?_ hs rfl
 rw[hs]
 refine Calls.spliced_cons (thn (he.out pins s σ H (fun v1 H1=>∃z1 d,Ext #[H,z] #[H1,z1]/\Is X.K z1 v1 d/\∃(dom:D->Prop)(p:D->Bool),(∀x,dom x->tb (some (.d x)::Js τ idx) fun s=>s=.d (.bl (p x)))/\∀a,sp a dom p [.d d,.d (.ref a)] R NoU) I #[B,z,τ,_,r,ht1,fun s2 v2 q2 e2 i2 f2 h2=>?_]) fun u1 s1 #[v1,H1,I1,rv1,z1,d,e1,i1,dom,p,hdom,hsp]=>?_)
 .obtain⟨dom,p,hdom,h3⟩:=h2
  obtain⟨d,rfl,h4⟩:=Fz h3
  exact#[q2.z,d,e2,i2,dom,p,hdom,h4]
 have hs2:starEach [Expr.Lambda params body scope lp] X.env=(false,eval (.Lambda params body scope lp) X.env)::starEach [] X.env:=Dz rfl
 rw[hs2]
 refine Calls.spliced_cons (MU I1 ht hp hcode hdef ecl fun a c' H2 s2 fo oc fs nm qual tq pm ctv I2 sm ha hfo hc hoc hfs=>?_)
 refine Calls.spliced_nil #[I2.kIn,?_]
 have e12:Ext #[H,z] #[H2,z1]:=e1.trans (Ext.grow e1.sub sm)
 have r2:Rep X B τ σ #[H2,z1]:=r.mono e12
 have hL:=Tg O hfn I2 hcl hcl2 ha hfo hc hoc hfs hco hgen hbind hb r2 hdom
 have i1':Is X.K z1 v1 d:=i1
 have hl:[u1,Value.ref a].length=ps.length:=F.len a dom p _ _ _ (hsp a)
 have rvs:B8 [v1,V.ref a] [u1,Value.ref a]:=.cons rv1 (.cons rfl .nil)
 refine wpAny_call (codeAny_mono (F.run X.A X.stack s2 H2 #[[u1,.ref a],[]] [u1,.ref a] [v1,.ref a] Q (fun _ _ _=>False) a dom p hr I2.env0 ?_ rvs hL #[z1,[.d d,.d (.ref a)],R,NoU,e12.sub,#[rfl,fun i v s h1 h2=>?_],hsp a,fun s v q3 e3 i3 f3 h3=>q s v q3 (e12.trans e3) i3 (Lv e12 f3) h3,fun _ _ _ _ _ z=>z.elim]) fun rr s3 hq=>?_)
 .have:=hbi s2 [u1,.ref a] I2.kIn (by simpa using hl)
  simpa using this
 .match i,h1,h2 with
  |0,h1,h2=>cases h1;cases h2;exact#[i1',rfl]
  |1,h1,h2=>cases h1;cases h2;exact#[Is.ref a,rfl]
 cases rr with
 |error e=>exact(show False from hq).elim
 |ok fl =>
  cases fl with
  |ret u=>exact I2.after hq
  |next=>exact False.elim hq
  |brk=>exact False.elim hq
  |cont=>exact False.elim hq
end
theorem Nm {K:W.Frag}{x:Str}{c T f:Addr}{oc:Value}{od:Option Addr}{fd:FuncData}{osl:Array (Option Value)}(ht:W.tabIn K x=some (c,T)) (hn:W.nsIn K mainGlobals x=some (some (.ref f))) (lk:K.lookup f=some #[oc,od,.func fd,osl]):fd.code=.ref c:=by
 unfold W.tabIn at ht
 rw[hn] at ht
 dsimp only at ht
 rw[lk] at ht
 dsimp only at ht
 split at ht
 .rename_i c2 hc
  split at ht
  .split at ht
   .cases ht;exact hc
   .cases ht
  .cases ht
 .cases ht
section
variable {P:Program}{w:World}{K:W.Frag}{mg:Str->Option Value}{base:Heap}
theorem Zz {x qual:Str}{st:Stmt}{f c T:Addr}{fd:FuncData}{N ps:List Str}{k:Nat}{sp:Sp3}(ht:W.tabIn K x=some (c,T)) (hn:W.nsIn K mainGlobals x=some (some (.ref f))) (F:Fun K x qual st f fd) (Sc:Ad N ps (Ab st)) (len:∀ss R U,sp ss R U->ss.length=ps.length)
 (hbody:∀(cdv:Value)(A:Around)(outer:List Env)(s:Shared)(H:Hp)(E:XK)(ss:List S)(R:S->Prop)(U:Str->Prop),cdv=.ref c->E9 k (A.deeper (envOfC qual (Ab st) s.heap.objs.size f cdv))->sp ss R U ->
  Uz (K9 (CXU P w) P w K mg base N qual (Ab st) f cdv A outer s H E) U ->
  ∃t,Eg (K9 (CXU P w) P w K mg base N qual (Ab st) f cdv A outer s H E) (Ce st) t/\t { nx:=fun _=>R (.d .non),rt:=R } (Ci N ss)):Aq P w K mg base (CXU P w) (k+1) f fd ps (Ae K mg sp):=by
 obtain⟨oc,od,kV,doc,pm,an,cdv,ct,osl,rfl,lk,hcd⟩:=F.ex
 have ec:cdv=.ref c:=Nm ht hn lk
 refine R5 lk hcd Sc (fun vs H Q E hh=>by obtain⟨z,ss,R,U,hz,ha,h3,_⟩:=hh;exact ha.1.trans (len ss R U h3)) fun A outer s H vs Q E hr hh9=>?_
 obtain⟨z,ss,R,U,hz,ha,h3,q,qe⟩:=hh9
 obtain⟨t,ht,hq⟩:=hbody cdv A outer s H E ss R U ec hr h3 (Qe qe)
 exact#[_,ht.out,#[H,z],z,Ci N ss,_,E4 ha hz (Bw.refl H),hq,#[fun τ σ p r h=>q (.d .non) _ p r.ext Is.non GD h,fun _ _ _ _ z=>z.elim,fun _ _ _ _ z=>z.elim,fun s v p e i f h=>q s v p e i f h]]
theorem WO {x qual:Str}{st:Stmt}{f c T:Addr}{fd:FuncData}{N ps:List Str}{k:Nat}{sp:Sp3}(ht:W.tabIn K x=some (c,T)) (hn:W.nsIn K mainGlobals x=some (some (.ref f))) (F:Fun K x qual st f fd) (Sc:Ad N ps (Ab st)) (len:∀ss R U,sp ss R U->ss.length=ps.length)
 (hbody:∀(cdv:Value)(A:Around)(outer:List Env)(s:Shared)(H:Hp)(E:XK)(ss:List S)(R:S->Prop)(U:Str->Prop),cdv=.ref c->E9 k (A.deeper (envOfC qual (Ab st) s.heap.objs.size f cdv))->sp ss R U ->
  ∃t,Eg (K9 CX0 P w K mg base N qual (Ab st) f cdv A outer s H E).nox (Ce st) t/\t { nx:=fun _=>R (.d .non),rt:=R } (Ci N ss)):Aq P w K mg base CX0 (k+1) f fd ps (Ae K mg sp):=by
 obtain⟨oc,od,kV,doc,pm,an,cdv,ct,osl,rfl,lk,hcd⟩:=F.ex
 have ec:cdv=.ref c:=Nm ht hn lk
 refine R5 lk hcd Sc (fun vs H Q E hh=>by obtain⟨z,ss,R,U,hz,ha,h3,_⟩:=hh;exact ha.1.trans (len ss R U h3)) fun A outer s H vs Q E hr hh9=>?_
 obtain⟨z,ss,R,U,hz,ha,h3,q,qe⟩:=hh9
 obtain⟨t,ht,hq⟩:=hbody cdv A outer s H E ss R U ec hr h3
 exact#[_,ht.out.nox,#[H,z],z,Ci N ss,_,E4 ha hz (Bw.refl H),hq,#[fun τ σ p r h=>q (.d .non) _ p r.ext Is.non GD h,fun _ _ _ _ z=>z.elim,fun _ _ _ _ z=>z.elim,fun s v p e i f h=>q s v p e i f h]]
end
theorem Jy {us:List Value}{n:Nat}(h:us.length=n+1):∃x r,us=x::r/\r.length=n:=by
 cases us with
 |nil=>cases h
 |cons x r=>exact#[x,r,rfl,Nat.succ.inj h]
theorem Uc {us:List Value}(h:us.length=1):∃x0,us=[x0]:=by
 obtain⟨x0,r0,e0,h0⟩:=Jy h
 have e:=qAS h0
 exact#[x0,by rw[e0,e]]
theorem U7 {us:List Value}(h:us.length=2):∃x0 x1,us=[x0,x1]:=by
 obtain⟨x0,r0,e0,h0⟩:=Jy h
 obtain⟨x1,r1,e1,h1⟩:=Jy h0
 have e:=qAS h1
 exact#[x0,x1,by rw[e0,e1,e]]
theorem T3 {us:List Value}(h:us.length=3):∃x0 x1 x2,us=[x0,x1,x2]:=by
 obtain⟨x0,r0,e0,h0⟩:=Jy h
 obtain⟨x1,r1,e1,h1⟩:=Jy h0
 obtain⟨x2,r2,e2,h2⟩:=Jy h1
 have e:=qAS h2
 exact#[x0,x1,x2,by rw[e0,e1,e2,e]]
theorem Tq {us:List Value}(h:us.length=4):∃x0 x1 x2 x3,us=[x0,x1,x2,x3]:=by
 obtain⟨x0,r0,e0,h0⟩:=Jy h
 obtain⟨x1,r1,e1,h1⟩:=Jy h0
 obtain⟨x2,r2,e2,h2⟩:=Jy h1
 obtain⟨x3,r3,e3,h3⟩:=Jy h2
 have e:=qAS h3
 exact#[x0,x1,x2,x3,by rw[e0,e1,e2,e3,e]]
open Classical in
theorem OZ {P q:Program}{loose:List Str}{mean:ExcName->Option Value}{w:World}{K:W.Frag}{mg mb:Str->Option Value}{k:Nat}{fa a:Addr}{fd:FuncData}{x:Str}{s₁:Shared}{vs:List Value}{ns:List Int}
 (T:Top q loose mean mg mb s₁.heap) (hq:∀y:Str,(recsOf P).any (fun d=>d.name==y)=true->(recsOf q).any (fun d=>d.name==y)=true) (hnt:W.noTabs K=true) (KX:K.In s₁.heap) (hg:s₁.gens=(List.toArray []))
 (ha:s₁.heap.get? a=some { cls:=.type "list",data:=.seq vs.toArray }) (hi:IntsAre vs ns) (hl:ns.length<=63) (hr:E9 k callerA)
 (F:∀base:Heap,K.In base->base.Ns mainGlobals mg->∃mg',Aq P w K mg base CX0 k fa fd [x] (Ae K mg' Ny)) (hbind:∀(s:Shared)(u:Value),BindsTo s fd #[[u],[]] [(x,u)]) :
 codeAny (model P w) callerA (.call (.ref fa) #[[.ref a],[]]) (fun r s'=>r=.ok (.ret (.bool true))/\OldK s₁.heap s'.heap/\s'.os=s₁.os/\AllBare s'.gens) s₁:=by
 have rv:=Gs hi
 have lenV:=hi.length
 have sz:(63:Nat)<=sizeLine:=∅
 let IsT:Addr->Prop:=fun b=>∃y c,W.tabIn K y=some (c,b)/\(recsOf P).any (fun d=>d.name==y)=true
 have tabs:∀{y:Str}{c b:Addr},W.tabIn K y=some (c,b)->(recsOf P).any (fun d=>d.name==y)=true->W.CodeHd s₁.heap c b/\s₁.heap.get? b=some (W.tabObj (List.toArray [])):=fun {y c b} h1 h2=>by
  have h3:=hq y h2
  cases e:(recsOf q).find? (fun d=>d.name==y) with
  |some d=>exact W.tab_of T KX e h1
  |none =>
   obtain⟨d,hd,hn⟩:=List.any_eq_true.mp h3
   exact absurd hn (List.find?_eq_none.mp e d hd)
 have tabG:∀{b:Addr},IsT b->s₁.heap.get? b=some (W.tabObj (List.toArray [])):=fun#[_,_,h1,h2]=>(tabs h1 h2).2
 let H:Hp:=fun b=>if b=a/\K.lookup a=none then some (.frz { cls:=.type "list",data:=.seq vs.toArray } (.lst (ns.map V.int))) else if IsT b then some (.tbl (List.toArray [])) else none
 have Ha:K.lookup a=none->H a=some (.frz { cls:=.type "list",data:=.seq vs.toArray } (.lst (ns.map V.int))):=fun h=>if_pos #[rfl,h]
 have neT:∀{b:Addr},IsT b->b≠a:=fun t z=>by
  have:=tabG t
  rw[z,ha] at this
  cases this
 have Ht:∀{b:Addr},IsT b->H b=some (.tbl (List.toArray [])):=fun {b} t=>(if_neg (fun z=>neT t z.1)).trans (if_pos t)
 have Hn:∀{b:Addr},¬(b=a/\K.lookup a=none)->¬IsT b->H b=none:=fun {b} h1 h2=>(if_neg h1).trans (if_neg h2)
 have three:∀b,H b=none\/(b=a/\K.lookup a=none)\/IsT b:=fun b=>by
  by_cases h1:b=a/\K.lookup a=none
  .exact .inr (.inl h1)
  .by_cases h2:IsT b
   .exact .inr (.inr h2)
   .exact .inl (Hn h1 h2)
 have free_of:∀{b:Addr}{o:Obj},s₁.heap.get? b=some o->(∀xs n,o.data≠.seq xs n)->o≠W.tabObj (List.toArray [])->H b=none:=fun {b o} e h1 h2=>by
  refine Hn (fun z=>?_) (fun z=>?_)
  .rw[z.1,ha] at e
   cases e
   exact h1 _ _ rfl
  .have:=tabG z
   rw[e] at this
   exact h2 (qAn this)
 have hok:HOk P w H s₁.heap:=fun b u e=>by
  rcases three b with z|z|z
  .rw[z] at e;cases e
  .obtain⟨rfl,z⟩:=z
   rw[Ha z] at e
   cases e
   exact#[ha,by rw[qAa];exact qAD hl sz,vs,_,rv,ha]
  .rw[Ht z] at e
   cases e
   exact#[(List.toArray []),tabG z,trivial,fun pos cv z=>by cases z]
 have base_of:∀{b:Addr}{o:Obj},s₁.heap.get? b=some o->H b=none->(Q4 s₁.heap H).get? b=some o:=fun e n=>Rq e n
 have nsK:∀{b:Addr}{m:Str->Option Value},s₁.heap.Ns b m->(Q4 s₁.heap H).Ns b m:=fun {b m} #[o,es,ep,e,d,r]=>#[o,es,ep,base_of e (free_of e (fun xs n z=>by rw[d] at z;cases z) (fun z=>by rw[z] at d;cases d)),d,r]
 have hKb:K.In (Q4 s₁.heap H):=fun b o e=>base_of (KX b o e) (Hn (fun z=>by rw[z.1,z.2] at e;cases e) (fun z=>by
  have h1:=tabG z
  rw[KX b o e] at h1
  have h2:=qAH.mp hnt (b,o) (W.mem_of_lookupK e)
  rw[qAn h1] at h2
  exact absurd (show false=true from h2) qAs))
 have hM:Mod K mg (Q4 s₁.heap H):=#[hKb,nsK T.g,#[mb,nsK T.b,T.builtins],let #[mc,h1,h2]:=T.nolimit;#[mc,nsK h1,h2]]
 have hTB:TB P K mg (Q4 s₁.heap H) H:=by
  refine#[?_,fun y c b h1 h2=>#[?_,(List.toArray []),Ht #[y,c,h1,h2]]]
  .obtain⟨bm,ob,b1,b2,b3,b4,b5,b6⟩:=T.bmain
   exact#[bm,ob,b1,b2,base_of b3 (free_of b3 (fun xs n z=>by rw[b6] at z;cases z) (fun z=>by rw[z] at b4;cases b4)),b4,b5,b6]
  .obtain⟨o,fs,file,tf,flags,tg,inF,text,tt,g1,g2,g3,g4⟩:=(tabs h1 h2).1
   exact#[o,fs,file,tf,flags,tg,inF,text,tt,base_of g1 (free_of g1 (fun xs n z=>by rw[g3] at z;cases z) (fun z=>by rw[z] at g2;cases g2)),g2,g3,g4]
 have e0:Vi P w K mg (Q4 s₁.heap H) callerA [] s₁ H:=#[rfl,hM,fun b o e=>UC e,Nat.le_of_eq (PJ _ _),trivial,fun b hb=>absurd (show b∈([]:List Addr) from hb) (by simp),hok,.of_eq hg,hTB]
 have hS:SqL K H a (ns.map V.int):=by
  cases hk:K.lookup a with
  |some o =>
   have e:=KX a o hk
   rw[ha] at e
   cases e
   exact .inr #[_,vs.toArray,_,hk,rfl,rfl,rfl,by rw[qAF,lenV];exact qAD hl sz,by simpa using rv]
  |none=>exact .inl (.inr #[_,Ha hk])
 obtain⟨mg',FF⟩:=F _ hKb (nsK T.g)
 refine codeAny_mono (FF.run callerA [] s₁ H #[[.ref a],[]] [.ref a] [.ref a] (fun v _=>v=.bl true) (fun _ _ _=>False) hr e0 (hbind s₁ (.ref a)) (.cons rfl .nil) #[H,[.r (ns.map D.int)],fun s=>s=.d (.bl true),NoU,Bw.refl H,#[rfl,fun i v s h1 h2=>?_],#[ns,rfl,hl,rfl],fun s v q _ i _ e=>?_,fun _ _ _ _ _ z=>z.elim]) fun r s' h=>?_
 .cases i with
  |zero =>
   cases h1
   cases h2
   exact#[#[a,_,rfl,hS,KW ns],rfl]
  |succ i=>cases h1
 .subst e
  exact Is.bl_inv i
 cases r with
 |error e=>exact(show False from h).elim
 |ok fl =>
  cases fl with
  |next=>exact False.elim h
  |brk=>exact False.elim h
  |cont=>exact False.elim h
  |ret u =>
   obtain⟨v,H',os,bare,un,hok',r',g⟩:=h
   have g':v=.bl true:=g
   subst g'
   obtain rfl:u=Value.bool true:=r'
   refine#[rfl,#[fun b o e=>?_,fun b o e=>un.there b o e (by simp)],os,bare]
   rcases three b with z|z|z
   .exact .inl (un.keep b o e z (by intro z;exact absurd (show b∈([]:List Addr) from z) (by simp)) (by simp))
   .obtain⟨rfl,z⟩:=z
    obtain⟨e2,_⟩:=hok' b _ (un.frzs b _ _ (Ha z))
    rw[ha] at e
    cases e
    exact .inl e2
   .have e1:=tabG z
    obtain⟨y,c,h1,h2⟩:=id z
    rw[e] at e1
    cases e1
    obtain⟨more,e3⟩:=un.tbls b _ (Ht z)
    obtain⟨tab,e4,_⟩:=(show ME H' s'.heap b from hok' b _ e3)
    exact .inr (.inl #[((tabs h1 h2).1.tab (tabs h1 h2).2).isCodeTable,rfl,(List.toArray []),tab,rfl,by rw[e4];simp])
theorem walk3 {l:W.OpenLaw}{k:Nat}{q:Program}{loose:List Str}{XP:(Str->Option Value)->Heap->Prop}{YP:World->Heap->Prop}{d:DefRec}{K:Params->W.Frag}{x:Str}(hn:l.most=some 63) (hdf:d.params.defaults=[]) (hr:E9 k callerA)
 (hq:∀y:Str,(recsOf l.prog).any (fun d=>d.name==y)=true->(recsOf q).any (fun d=>d.name==y)=true)
 (hY:∀(w:World)(h:Heap),YP w h->(K w.params).In h) (hnt:∀w:World,W.noTabs (K w.params)=true)
 (F:∀(w:World)(mg:Str->Option Value)(fa:Addr)(h:Heap),(K w.params).In h->h.Ns mainGlobals mg->mg d.name=some (.ref fa) ->
  ∃fd:FuncData,(∀(s:Shared)(u:Value),BindsTo s fd #[[u],[]] [(x,u)])/\∀base:Heap,(K w.params).In base->base.Ns mainGlobals mg->∃mg',Aq l.prog w (K w.params) mg base CX0 k fa fd [x] (Ae (K w.params) mg' Ny)) :
 W.WalkO q loose XP YP l.row.toRowW d [] (fun f vs=>PySem.call f vs):=by
 refine Att.attach_call hn hdf fun w s₀ s₁ mg mb fa o pm cd doc a vs ns G Y ho hd hcd hmg hobj hints hlen hg=>?_
 have KX:=hY w _ Y
 obtain⟨fd,hb,hF⟩:=F w mg fa _ KX G.T.g hmg
 exact OZ G.T hq (hnt w) KX hg hobj hints hlen hr hF hb
open PySem L2
def S.wk:S->S
 |.d (.lst xs)=>.r xs
 |s=>s
def S.nl:S->Bool
 |.d (.lst _)=>false
 |_=>true
theorem VR:∀s:S,s.wk.own=s.own
 |.d (.lst _)=>rfl
 |.d .non|.d (.bl _)|.d (.int _)|.d (.str _)|.d (.ty _)|.d (.ref _)|.d (.tup _)|.l _|.r _=>rfl
theorem Wc:∀s:S,s.wk.nl=true
 |.d (.lst _)=>rfl
 |.d .non|.d (.bl _)|.d (.int _)|.d (.str _)|.d (.ty _)|.d (.ref _)|.d (.tup _)|.l _|.r _=>rfl
theorem Ju {y:S}{l:List D}(h:y=.r l\/y=.d (.lst l)) (n:y.nl=true):y=.r l:=by
 rcases h with rfl|rfl
 .rfl
 .cases n
theorem Xn {K:W.Frag}{p:HZ}{v:V}(hz:Bw p.z p.h):∀s:S,IsS K p v s->IsS K p v s.wk
 |.d (.lst _),h=>by
  have h:Is K p.z v (.lst _):=h
  cases h with
  |lst e hl r=>exact#[_,_,rfl,.inl (.inl (hz _ _ e)),hl,r]
 |.d .non,h|.d (.bl _),h|.d (.int _),h|.d (.str _),h|.d (.ty _),h|.d (.ref _),h|.d (.tup _),h|.l _,h|.r _,h=>h
def NL (sp:Sp3):Sp3:=fun ss R U=>sp ss R U/\∀s∈ss,s.nl=true
theorem Pm {K:W.Frag}{mg:Str->Option Value}{sp:Sp3}(hs:∀ss R U,sp ss R U->sp (ss.map S.wk) R U){vs:List V}{H:Hp}{Q:VK}{E:XK}(h:Ae K mg sp vs H Q E):Ae K mg (NL sp) vs H Q E:=by
 obtain⟨z,ss,R,U,hz,⟨hl,ha⟩,h3,q⟩:=h
 refine#[z,ss.map S.wk,R,U,hz,#[by rw[qAa];exact hl,fun i v s hv h=>?_],#[hs _ _ _ h3,fun s h=>?_],q]
 .rw[qAc] at h
  obtain⟨t,e,rfl⟩:=Option.map_eq_some_iff.mp h
  have:=ha i v t hv e
  exact#[Xn hz _ this.1,(VR t).trans this.2]
 .obtain⟨t,_,rfl⟩:=qAM.mp h
  exact Wc t
section
variable {P:Program}{w:World}{K:W.Frag}{mg:Str->Option Value}{base:Heap}{f:Addr}{fd:FuncData}{ps:List Str}{k:Nat}
theorem fnW {CX:CXT}{sp:Sp3}(hs:∀ss R U,sp ss R U->sp (ss.map S.wk) R U) (F:Aq P w K mg base CX k f fd ps (Ae K mg (NL sp))):Aq P w K mg base CX k f fd ps (Ae K mg sp):=F.imp fun _ _ _ _=>Pm hs
theorem ZA {kl:Nat}{sp:SpL}(hs:∀a d p ss R U,sp a d p ss R U->sp a d p (ss.map S.wk) R U) (F:Oq P w K mg base k kl f fd ps (fun a d p=>NL (sp a d p))):Oq P w K mg base k kl f fd ps sp :=
 #[fun a d p ss R U h=>by have:=F.len a d p _ R U #[hs _ _ _ _ _ _ h,fun s h=>by obtain⟨t,_,rfl⟩:=qAM.mp h;exact Wc t];rw[qAa] at this;exact this,
  fun A outer s H args us vs Q E a d p hr e0 hb rv hL hh=>F.run A outer s H args us vs Q E a d p hr e0 hb rv hL (Pm (hs a d p) hh)]
end
section
variable {X:Cx}{e a b:Expr}{es:List Expr}{te ta tb:TE3}{tr:TA3}{pos:Pos}
theorem vN (i:Nat){x:Str}(hN:X.N[i]? = some x:=by rfl) (hv:Vis X.env.scope x:=by first|exact Or.inl rfl|exact Or.inr (Or.inl rfl)|exact Or.inr (Or.inr rfl)) (hd:(x==("__debug__":Str))=false:=by decide) (hcd:(x==("__classdict__":Str))=false:=by decide):PE3 X (.Name x pos) (Xi i):=XU (pv i hN hv hd hcd)
theorem vK (i:Nat){x:Str}{n:Int}{j:Nat}{p q:Pos}(hN:X.N[i]? = some x:=by rfl) (hv:Vis X.env.scope x:=by first|exact Or.inl rfl|exact Or.inr (Or.inl rfl)|exact Or.inr (Or.inr rfl)) (hd:(x==("__debug__":Str))=false:=by decide) (hcd:(x==("__classdict__":Str))=false:=by decide):PE3 X (.Subscript (.Name x p) (.Constant (.int n) j q) pos) (vIx (Xi i) (vC (.int n))):=A5 (vN i hN hv hd hcd) Ac
theorem a1 (ha:PE3 X e te)(hs:starEach [e] X.env=(false,eval e X.env)::starEach [] X.env:=by exact Dz rfl):PA3 X [e] (QN te W9):=AV ha LA hs
theorem a2 (ha:PE3 X a ta)(hb:PE3 X b tb)(h1:starEach [a,b] X.env=(false,eval a X.env)::starEach [b] X.env:=by exact Dz rfl)(h2:starEach [b] X.env=(false,eval b X.env)::starEach [] X.env:=by exact Dz rfl):PA3 X [a,b] (QN ta (QN tb W9)):=AV ha (AV hb LA h2) h1
theorem NM {k k':Nat}{x:Str}{ps:List Str}{sp:Sp3}{p:Pos}{U:Str->Prop}(xo:Uz X U) (hr:E9 k' X.A) (c:Cal X.prog X.w X.K X.mg X.base (CXU X.prog X.w) k x ps sp) (ha:PA3 X (e::es) tr) (hk:k<=k':=by decide) (hg:Gl X x:=by exact rfl)
 (hdb:(x==("__debug__":Str))=false:=by decide) (he:starEach (e::es) X.env=(false,eval e X.env)::starEach es X.env:=by exact Dz rfl) (hpl:(backTo pos (starEach es X.env)).any (·.1)=false:=by exact Gy rfl) (hl:X.lent=none\/∀y,¬U y:=by first|exact .inl rfl|exact .inr (fun _ z=>z)) :
 PE3 X (.Call (.Name x p) (e::es) [] pos) (OY U sp tr):=Pw xo c (hr.mono hk) hg ha hdb he hpl hl
theorem Al {k k':Nat}{x:Str}{ps:List Str}{sp:Sp3}{p:Pos}(hr:E9 k' X.A) (c:Cal X.prog X.w X.K X.mg X.base (CXU X.prog X.w) k x ps sp) (ha:PA3 X (e::es) tr) (hk:k<=k':=by decide) (hg:Gl X x:=by exact rfl)
 (hdb:(x==("__debug__":Str))=false:=by decide) (he:starEach (e::es) X.env=(false,eval e X.env)::starEach es X.env:=by exact Dz rfl) (hpl:(backTo pos (starEach es X.env)).any (·.1)=false:=by exact Gy rfl) :
 PE3 X (.Call (.Name x p) (e::es) [] pos) (OY NoU sp tr):=Pw TN c (hr.mono hk) hg ha hdb he hpl (.inr fun _ z=>z)
theorem DA {p:Pos}(hm:X.mg "len"=none) (ha:PE3 X e te) (hg:Gl X "len":=by exact rfl) (he:starEach [e] X.env=(false,eval e X.env)::starEach [] X.env:=by exact Dz rfl) (hpl:(backTo pos (starEach [] X.env)).any (·.1)=false:=by exact Gy rfl) :
 PE3 X (.Call (.Name "len" p) [e] [] pos) (vCB XS (QN te W9)):=Kt Yb hg hm PySem.boot_len (AV ha LA he) ∅ ∅ he hpl
theorem AE (i:Nat){x:Str}{pos':Pos}{ps:List Str}{sc:Scope}(O:Ad X.N ps sc) (he:PE3 X e te) (hi:X.N[i]? = some x:=by rfl) (hx:Loc X.env.scope x:=by first|exact Or.inl rfl|exact Or.inr rfl) (hs:swapsWith e (some (.Name x pos')) pos.line X.env=pure false:=by rfl) (hf:X.fn x=true\/X.env.scope.names.lookup x=some .local:=by first|exact .inl rfl|exact .inr rfl|assumption) (hp:Em X i:=by first|exact Ed rfl|exact Ea rfl ∅|assumption) :
 PS3 X (.Assign [.Name x pos'] e pos) (Xk i te):=X2 O.nd hi hx he hs hf hp
theorem Bg (he:PE3 X e te):Eg X [.Return (some e) pos] (YJ te):=Af (Yd he)
theorem Cm {op:CmpOp}{r3:R3}(ho:Ib X (compareOp op) r3) (ha:PE3 X a ta) (hb:PE3 X b tb) (hm:behindInMarks op b=false:=by exact Hx _):PT3 X (.Compare a [op] [b] pos) (Ue (vOp r3 ta tb)):=Yk ho ha hb hm
end
theorem scN {N P:List Str}{sc:Scope}(h1:(sc.kind=.function/\sc.isCoroutine=false/\sc.isGenerator=false):=by exact#[rfl,rfl,rfl]) (h2:N.take P.length=P:=by rfl) (h3:N.Nodup/\(∀x∈P,sc.names.lookup x=some .local\/sc.names.lookup x=some .cell)/\∀y∈sc.names,y.2≠.free:=by decide +kernel):Ad N P sc:=#[h1.1,h1.2.1,h1.2.2,h3.1,h2,h3.2.1,h3.2.2]
def Bnd (st:Stmt)(n:Str)(ps:List Str):Prop:=∀(kV doc pm:Value)(an:Option Addr)(cdv ct:Value)(us:List Value),us.length=ps.length->bindArgs (W.fnOf n n (F3 st) (Ce st) (Ab st) .none kV doc pm an cdv ct) #[us,[]]=pure (ps.zip us)
section
variable {P:Program}{w:World}{K:W.Frag}{mg:Str->Option Value}{base h:Heap}
theorem mkC (X:K.In h)(G:h.Ns mainGlobals mg){n:Str}{st:Stmt}(r:Rw K n st){k:Nat}{ps:List Str}{sp:Sp3}(ok:∀{f:Addr}{fd:FuncData},Fun K n n st f fd->rA K n f->Aq P w K mg base (CXU P w) k f fd ps (Ae K mg sp))
 (hb:Bnd st n ps:=by(intro _ _ _ _ _ _ us hl;first|(obtain⟨x0,rfl⟩:=Uc hl;rfl)|(obtain⟨x0,x1,rfl⟩:=U7 hl;rfl)|(obtain⟨x0,x1,x2,rfl⟩:=T3 hl;rfl)|(obtain⟨x0,x1,x2,x3,rfl⟩:=Tq hl;rfl))):Cal P w K mg base (CXU P w) k n ps sp:=by
 obtain⟨a,l,c,k⟩:=r
 have F:=M4 (st:=st) l c k
 exact#[#[_,_,ok F a,qBL X G a,k,F.binds hb]]
theorem mkL (X:K.In h)(G:h.Ns mainGlobals mg){n:Str}{st:Stmt}(r:Rw K n st){k kl:Nat}{ps:List Str}{sp:SpL}(ok:∀{f:Addr}{fd:FuncData},Fun K n n st f fd->rA K n f->Oq P w K mg base k kl f fd ps sp)
 (hb:Bnd st n ps:=by(intro _ _ _ _ _ _ us hl;first|(obtain⟨x0,rfl⟩:=Uc hl;rfl)|(obtain⟨x0,x1,rfl⟩:=U7 hl;rfl)|(obtain⟨x0,x1,x2,rfl⟩:=T3 hl;rfl)|(obtain⟨x0,x1,x2,x3,rfl⟩:=Tq hl;rfl))):Xc P w K mg base k kl n ps sp:=by
 obtain⟨a,l,c,k⟩:=r
 have F:=M4 (st:=st) l c k
 exact#[#[_,_,ok F a,qBL X G a,k,F.binds hb]]
end
section
variable {X:Cx}{e a b:Expr}{te ta tb:TE3}{pos:Pos}
def YD (i:Nat)(te:TE3):TS3:=fun D3 τ=>match τ[i]? with
 |some (some (S.d (D.int n)))=>te τ fun s=>dd s fun d=>match d with
  |.int j=>D3.nx (τ.set i (some (.d (.int (n+j)))))
  |_=>False
 |_=>False
theorem K8 {i:Nat}{x:Str}{px:Pos}(hN:X.N.Nodup) (hi:X.N[i]? = some x) (hx:Loc X.env.scope x) (he:PE3 X e te) (hf:X.fn x=true\/X.env.scope.names.lookup x=some .local:=by first|exact .inl rfl|exact .inr rfl|assumption) (hp:Em X i:=by first|exact Ed rfl|exact Ea rfl ∅|assumption) :
 PS3 X (.AugAssign (.Name x px) .Add e pos) (YD i te):=#[CS (WT hN hi hx he.out VG hf) fun D2 σ H hh=>by
 obtain⟨B,z,τ,D3,r,ht,c⟩:=hh
 unfold YD at ht
 split at ht
 .rename_i n hs
  obtain⟨v,h1,h2⟩:=r.val i _ hs
  have ev:v=.int n:=Is.int_inv h2
  subst ev
  refine#[.int n,h1,B,_,τ,_,r,ht,fun s v q1 e1 i1 f1 h3=>?_]
  obtain⟨d,rfl,h4⟩:=Fz h3
  split at h4
  .rename_i j
   have ev:v=.int j:=Is.int_inv i1
   subst ev
   refine#[n,j,rfl,rfl,?_]
   exact c.nx _ _ _ ((r.mono e1).setd (.int (n+j)) hp) h4
  .exact h4.elim
 .exact ht.elim]
def Zo (r3:R3)(ta tb:TE3):TE3:=fun τ R=>ta τ fun x=>tb τ fun y=>dd x.arg fun dx=>dd y.arg fun dy=>r3 dx dy fun d=>R (.d d)
theorem Kr {op:Operator}{r3:R3}(ho:Ib X (binaryOp op) r3) (ha:PE3 X a ta) (hb:PE3 X b tb):PE3 X (.BinOp a op b pos) (Zo r3 ta tb):=#[BJ (Wr ho ha.out hb.out) fun σ H Q hh=>by
 obtain⟨B,z,τ,R,r,ht,q⟩:=hh
 refine#[B,z,τ,_,r,ht,fun s v q1 e1 i1 f1 h1=>?_]
 obtain⟨z1,e1',i1'⟩:=FN e1 i1 f1
 refine#[B,z1,τ,_,r.mono e1',h1,fun s2 v2 q2 e2 i2 f2 h2=>?_]
 obtain⟨z2,e2',i2'⟩:=FN e2 i2 f2
 obtain⟨dx,ex,h2⟩:=Fz h2
 obtain⟨dy,ey,h2⟩:=Fz h2
 rw[ex] at i1'
 rw[ey] at i2'
 refine#[z2,dx,dy,_,e2'.sub,(show Is X.K z1 v dx from i1').mono e2'.zz,i2',h2,fun d w q3 e3 i3 h3=>?_]
 exact q (.d d) w q3 (e1'.trans (e2'.trans e3)) i3 GD h3]
end
def Ite (K:W.Frag)(a:Addr):It :=
 #[fun i H=>∃xs x,SqL K H a xs/\xs[i]? = some x,fun i H x H'=>∃p y,H p=none/\x=.ref p/\(∀xs,SqL K H a xs->xs[i]? = some y)/\H'=upd H p (.tup [.int i,y]),fun i H=>∃xs,SqL K H a xs/\xs.length<=i]
theorem P7 {P:Program}{w:World}{K:W.Frag}{elts:List Expr}{x1:Nat}{tpos:Pos}(a e it:Addr) (hne:e≠it):RE P w K (.Tuple elts x1 tpos) (Ite K a) [e,it] e (fun i h=>(∃old,IsEnum h e it ((i:Nat):Int) old)/\h.IsListIter it a i) where
 mem:=by simp
 obj:=fun i h st b hb=>by
  obtain⟨⟨old,he⟩,hi⟩:=st
  rcases qAl.mp hb with rfl|hb
  .exact#[_,he,fun v z=>by cases z]
  .have:b=it:=by simpa using hb
   subst this
   obtain⟨o,e1,c,d⟩:=hi
   exact#[o,e1,fun v z=>by rw[d] at z;cases z]
 keep:=fun i h h' st k=>#[let #[old,he]:=st.1;#[old,k e (by simp) _ he],st.2.at fun o e1=>k it (by simp) o e1]
 item:=by
  intro X hP hw hK hc i pins s σ H E I hf st hg
  subst hP hw hK
  obtain⟨xs,x,hq,hx⟩:=hg
  obtain⟨its,rv,p,hz⟩:=I.list hq
  obtain⟨u,hu,ru⟩:=rv.get hx
  obtain⟨⟨old,he⟩,hi⟩:=st
  obtain⟨f0,f1,f2,f3,f4,f5⟩:=hf e (by simp)
  obtain⟨g0,g1,g2,g3,g4,g5⟩:=hf it (by simp)
  refine wpAny_pyNext_enum_item he hi p.isList (x:=u) (by simpa using hu) hne fun h1 heo hit1 ht1 hz1 hk1=>#[_,rfl,wpAny_letOwnedTupleGo_enum (s:={ s with heap:=h1,toks:=s.toks+1 }) heo fun h2 he2 hs2=>?_]
  have hs2':Heap.SameBut e h1 h2:=hs2
  have el:e<s.heap.objs.size:=qAj he
  have sz:s.heap.objs.size≠e:=qA9 el
  have hn:H s.heap.objs.size=none:=I.hok.fresh (qAf _)
  have old2:∀b o,b≠e->b≠it->s.heap.get? b=some o->h2.get? b=some o:=fun b o n1 n2 z=>(hs2'.2 b n1).trans (hk1 b o n1 n2 z)
  have tup2:h2.get? s.heap.objs.size=some { cls:=.type "tuple",data:=.seq (List.toArray [.int i s.toks,u]) }:=(hs2'.2 _ sz).trans ht1
  have trk:∀{b:Addr}{o:HO},H b=some o->b≠e/\b≠it:=fun {b o} z=>#[(fun y=>by rw[y,f0] at z;cases z),(fun y=>by rw[y,g0] at z;cases z)]
  have hok2:HOk X.prog X.w (upd H s.heap.objs.size (.tup [.int i,x])) h2:=fun b o z=>by
   by_cases hb:b=s.heap.objs.size
   .subst hb
    rw[Ap] at z
    cases z
    exact#[by show 2<=sizeLine;decide,[.int i s.toks,u],.cons #[_,rfl] (.cons ru .nil),#[_,tup2,rfl,_,rfl]]
   .rw[Ag hb] at z
    refine(I.hok b o z).stay (hf:=fun c w1 w2 y=>by rw[Ag (Ao y hn)];exact y) (fun c v hc' y=>?_) (fun c y=>by rw[Ag (Ao y hn)];exact y) fun c ys y=>by rw[Ag (Ao y hn)];exact y
    have t:c≠e/\c≠it:=by
     rcases hc' with rfl|hc'
     .exact trk z
     .exact trk hc'
    exact old2 c v t.1 t.2 y
  have I2:Inv X pins σ (upd H s.heap.objs.size (.tup [.int i,x])) { s with heap:=h2,toks:=s.toks+1 }:=by
   refine I.step (g':=s.gens) (d':=s.drawn) (ch:=[e,it]) (fun b hb=>?_) (fun b o _ _ hb z _=>old2 b o (fun y=>hb (by simp[y])) (fun y=>hb (by simp[y])) z) (fun b o _ _ hb z _=>#[o.slots,old2 b o (fun y=>hb (by simp[y])) (fun y=>hb (by simp[y])) z])
    (fun b o _ z n=>by rw[Ag (qAx (qAj z))];exact n) (fun b o hb z=>#[o,old2 b o (fun y=>hb (by simp[y])) (fun y=>hb (by simp[y])) z])
    (fun b ys y=>by rw[Ag (Ao y hn)];exact y) (fun b o ys y=>by rw[Ag (Ao y hn)];exact y) (fun b ps y=>#[(List.toArray []),by rw[Ag (Ao y hn),y];simp]) (fun m hm=>?_) hok2 I.bare
   .rcases qAl.mp hb with rfl|hb
    .exact#[f3,f1,f4,f5]
    .have:b=it:=by simpa using hb
     subst this
     exact#[g3,g1,g4,g5]
   .obtain⟨o,es,ep,ho,r⟩:=hm
    exact#[o,es,ep,old2 _ o (Ne.symm f1) (Ne.symm g1) ho,r]
  refine#[.ref s.heap.objs.size,_,I2,rfl,#[_,x,hn,rfl,fun ys hy=>by rw[I.list_inj hy hq];exact hx,rfl],#[#[u,?_],hit1.extBut hs2'.extBut (Ne.symm hne)],fun b hb=>?_]
  .have:((i+1:Nat):Int)=(i:Int)+1:=()
   rw[this]
   exact he2
  .rcases qAl.mp hb with rfl|hb
   .rw[Ag (Ne.symm sz)];exact f0
   .have:b=it:=by simpa using hb
    subst this
    obtain⟨o,e1,_⟩:=hi
    rw[Ag (qAx (qAj e1))]
    exact g0
 done:=by
  intro X hP hw hK hc i pins s σ H E I hf st hg
  subst hP hw hK
  obtain⟨xs,hq,hx⟩:=hg
  obtain⟨its,rv,p,hz⟩:=I.list hq
  obtain⟨⟨old,he⟩,hi⟩:=st
  obtain⟨g0,g1,g2,g3,g4,g5⟩:=hf it (by simp)
  refine wpAny_pyNext_enum_end (I.ok.hd hc) he hi p.isList (by rw[qBC];rw[qAO,<-rv.length];exact hx) fun h' hx'=>#[rfl,?_]
  exact I.turned (t':=s.toks) (fun b o hb z=>hx' b o hb z) g0 g1 g3 g4 g5
 self:=fun A i s Q E st h=>by
  obtain⟨⟨old,he⟩,_⟩:=st
  exact wpAny_pyIter_enum he h
section
variable {X:Cx}{pos:Pos}
def VM (K:W.Frag)(tl:TE):TI:=fun σ H R=>tl σ H fun x H1=>∃a,x=.ref a/\(∃xs,Rd H1 a (.lst xs))/\R (Ite K a) H1
theorem Pj {elts:List Expr}{x1:Nat}{tpos p:Pos}{l:Expr}{tl:TE}(hg:Gl X "enumerate") (hm:X.mg "enumerate"=none) (hl:PE X l tl) (hs:starEach [l] X.env=[(false,eval l X.env)]:=by rfl):PI X (.Tuple elts x1 tpos) (.Call (.Name "enumerate" p) [l] [] pos) (VM X.K tl):=by
 intro pins s σ H R I h
 refine Call_ (HE I hg hm PyProof.Rows.boot_enumerate (qBe ?_ hs rfl))
 rw[hs]
 refine Calls.spliced_cons (thn (hl pins s σ H _ I h) fun v s1 #[x,H1,I1,r1,q1]=>Calls.spliced_nil ?_)
 obtain⟨a,e,⟨xs,hq⟩,q⟩:=q1
 subst e
 cases r1
 obtain⟨_,its,n,rv,ho⟩:=hq.ok I1.hok
 refine call_enumerate_1 (items:=its.toArray) (n:=n) ho fun h' he hit hz old=>?_
 have I2:Inv X pins σ H1 { s1 with heap:=h' }:=I1.kept (t':=s1.toks) old
 refine wpAny_pyIter_enum (s:={ s1 with heap:=h' }) he ?_
 refine#[s1.heap.objs.size+1,[s1.heap.objs.size+1,s1.heap.objs.size],_,_,H1,rfl,I2,P7 a (s1.heap.objs.size+1) s1.heap.objs.size (Nat.succ_ne_self _),#[#[_,he],hit],fun b hb=>?_,q]
 rcases qAl.mp hb with rfl|hb
 .exact I1.fpOk (qBZ _) (I1.hok.fresh (qBZ _))
 .have:b=s1.heap.objs.size:=by simpa using hb
  subst this
  exact I1.fpOk (qAf _) (I1.hok.fresh (qAf _))
def WY (i1 i2:Nat)(xs:List D)(tb:TS3)(D3:Ka)(τ0:Tau):Prop:=∃I:Nat->Tau->Prop,I 0 τ0 /\
 (∀n τ x,xs[n]? = some x->I n τ->tb { D3 with nx:=I (n+1),ct:=I (n+1),bk:=D3.nx } ((τ.set i1 (some (.d (.int n)))).set i2 (some (.d x))))/\∀τ,I xs.length τ->D3.nx τ
def WU (j i1 i2:Nat)(tb:TS3):TS3:=fun D3 τ=>match τ[j]? with
 |some (some (.l xs))=>WY i1 i2 xs tb D3 (τ.set j (some (.r xs)))
 |_=>False
theorem SK {j i1 i2:Nat}{x1 x2 y:Str}{p1 p2 pt py pn pc:Pos}{kt:Nat}{body:List Stmt}{tb:TS3}
 (h:PS X (.For (.Tuple [.Name x1 p1,.Name x2 p2] kt pt) (.Call (.Name "enumerate" pn) [.Name y py] [] pc) body [] pos) (TC (VM X.K (OW j)) (W7 X.K 2 (Lx (Ey i1) (Lx (Ey i2) Xf))) (FS X tb))) (hp1:Em X i1:=by first|exact Ed rfl|exact Ea rfl ∅|assumption) (hp2:Em X i2:=by first|exact Ed rfl|exact Ea rfl ∅|assumption) :
 PS3 X (.For (.Tuple [.Name x1 p1,.Name x2 p2] kt pt) (.Call (.Name "enumerate" pn) [.Name y py] [] pc) body [] pos) (WU j i1 i2 tb):=#[CS h fun D2 σ H hh=>by
 obtain⟨B,z,τ,D3,r,ht,c⟩:=hh
 unfold WU at ht
 split at ht
 .rename_i xs hs
  obtain⟨v,h1,a,vs,rfl,h3,h4⟩:=r.val j _ hs
  have r':=r.freeze hs rfl
  obtain⟨I,i0,turn,out⟩:=ht
  have hno:∀(m:Nat)(ys:List D),(τ.set j (some (.r xs)))[m]? = some (some (S.l ys))->σ[m]?≠some (some (V.ref a)):=fun m ys hm hσ=>by
   rcases AB hm with⟨rfl,z⟩|⟨hn,hm'⟩
   .cases z
   .have hl:j<τ.length:=(qAe.mp hs).1
    exact r'.sep m j ys (.r xs) a hn hm (by rw[qBx hl]) rfl hσ h1
  have hB:SqL X.K (K2 (τ.set j (some (.r xs))) σ H) a vs:=.inl (.inl (by rw[Gp hno];exact h3))
  refine#[.ref a,h1,a,rfl,#[vs,.inl h3],fun n m σ1 H1=>m=vs.length-n/\n<=vs.length/\∃z1 τ1,Rep X #[K2 (τ.set j (some (.r xs))) σ H,z] τ1 σ1 #[H1,z1]/\I n τ1,#[vs.length,by simp,qA7 _,z,_,r'.inB,i0],?_]
  rintro n m σ1 H1 ⟨rfl,hn,z1,τ1,r1,ih1⟩
  have q:=r1.ext.hh.seq hB
  by_cases hlt:n<vs.length
  .refine .inr #[#[vs,vs[n],q,by simp[hlt]],fun σ' H'=>∃z' τ',Rep X #[K2 (τ.set j (some (.r xs))) σ H,z] τ' σ' #[H',z']/\I (n+1) τ',fun σ' H' p'=>#[vs.length-(n+1),(),rfl,hlt,p'],fun x H' y=>?_]
   obtain⟨p,w,hp,rfl,hy,rfl⟩:=y
   have hw:=hy vs q
   obtain⟨d,hd,id⟩:=CN h4 hw
   have e1:Ext #[H1,z1] #[upd H1 p (.tup [.int n,w]),z1]:=Ext.own r1.ext.sub hp _
   have r2:=r1.mono e1
   refine#[p,[.int n,w],rfl,.inl (.inl Ap),rfl,.int n,[w],rfl,w,[],rfl,rfl,?_]
   exact#[_,_,_,_,(r2.setd (i:=i1) (.int (n:Int)) hp1).setd (i:=i2) (id.mono r1.ext.zz) hp2,turn n τ1 d hd ih1,c.inB r'.leB fun τ' σ' p' r' h'=>#[p'.z,τ',r',h']]
  .have e:n=vs.length:=()
   subst e
   exact .inl #[#[vs,q,qAf _],c.nx _ _ _ (r1.outB r'.leB) (out τ1 (by rw[<-h4.1];exact ih1))]
 .exact ht.elim]
end
section
variable {X:Cx}
theorem Nn {ns:List Int}:∀{its:List Value},B8 (ns.map V.int) its->PyProof.Rows.IntsAre its ns:=by
 induction ns with
 |nil=>intro its h;cases h;exact .nil
 |cons n ns ih =>
  intro its h
  cases h with
  |cons r t =>
   obtain⟨k,rfl⟩:=r
   exact .cons n k (ih t)
theorem Gs {vs:List Value}{ns:List Int}(h:PyProof.Rows.IntsAre vs ns):B8 (ns.map V.int) vs:=by
 induction h with
 |nil=>exact .nil
 |cons n t _ ih=>exact .cons #[t,rfl] ih
theorem O8 {vs:List Value}{ns:List Int}(h:PyProof.Rows.IntsAre vs ns):vs.length=ns.length:=by
 induction h with
 |nil=>rfl
 |cons n t _ ih=>rw[qAW,qAW,ih]
theorem JF {pins:List (Addr×Obj)}{σ:St}{H:Hp}{s:Shared}{Q:VK}{its:List Value}{out:Array Value}{ns:List Int}(I:Inv X pins σ H s) (a1:PyProof.Rows.IntsAre out.toList ns) (hl:ns.length<=sizeLine)
 (q:∀l,H l=none->Q (.ref l) (upd H l (.lst (ns.map V.int)))):EP X pins σ Q (.ref (s.heap.objs.size+1)) { s with heap:=PyProof.Rows.sortedAll s.heap its out }:=by
 obtain⟨e,he⟩:=PyProof.Rows.sortedAll_at s.heap its out
 refine#[.ref (s.heap.objs.size+1),_,I.laid (t':=s.toks) (fun b o=>PyProof.Rows.sortedAll_old) (qBZ _) (show Dt X.prog X.w _ _ _ (.lst (ns.map V.int)) from #[by rw[qAa];exact hl,out.toList,e,Gs a1,he]),rfl,q _ (I.hok.fresh (qBZ _))]
def MJ (X:Cx):List V->Hp->VK->Prop:=fun xs H Q=>∃p ns,xs=[.ref p]/\SqL X.K H p (ns.map V.int)/\ns.length<64/\∀ns':List Int,ns'.Perm ns->∀l,H l=none->Q (.ref l) (upd H l (.lst (ns'.map V.int)))
theorem Mg:Jq X (.builtin "sorted") (MJ X):=by
 intro pins s σ H xs us Q I r h
 obtain⟨p,ns,rfl,hq,h64,q⟩:=h
 obtain⟨u,rfl,rx⟩:=OD r
 cases rx
 obtain⟨its,r',pl,hz⟩:=I.list hq
 have hI:=Nn r'
 refine PyProof.Rows.sorted_ints pl.isList hI (by rw[O8 hI];exact h64) fun out ns' a1 a2 a3=>?_
 exact JF I a1 (by rw[a2.length_eq];rw[qAa] at hz;exact hz) (q ns' a2)
theorem RA {p pos kpos:Pos}{e:Expr}{t:TA}{b:Bool}{kj:Nat}{kp:Pos}(hg:Gl X "sorted") (hm:X.mg "sorted"=none) (ha:PA X [e] t)
 (he:starEach [e] X.env=(false,eval e X.env)::starEach [] X.env:=by rfl) :
 PE X (.Call (.Name "sorted" p) [e] [#[some "reverse",.Constant (.bool b) kj kp,kpos]] pos) (tCB (MJ X) t):=by
 intro pins s σ H Q I h
 refine wpAny_Call_Name_kw (HE I hg hm qCC ?_ ∅ ∅)
 refine PyProof.Rows.callWith_kw (thn (ha pos pins s σ H _ I h) fun us s1 #[vs,H1,I1,r1,q1]=>?_) (by rw[he];rfl) (by rw[he];rfl)
 refine thn ((Tv WN WL:PK X [#[some "reverse",.Constant (.bool b) kj kp,kpos]] _) pos pins s1 σ H1 (fun ws H2=>ws=[V.bl b]/\MJ X vs H2 Q) I1 #[rfl,q1]) fun ws s2 #[zs,H2,I2,rz,ez,q1]=>?_
 subst ez
 obtain⟨w,rfl,rw⟩:=OD rz
 cases rw
 obtain⟨pp,ns,rfl,hq,h64,q⟩:=q1
 obtain⟨u,rfl,rx⟩:=OD r1
 cases rx
 obtain⟨its,r',pl,hz⟩:=I2.list hq
 have hI:=Nn r'
 refine PyProof.Rows.sorted_ints_rev pl.isList hI (by rw[O8 hI];exact h64) fun out ns' a1 a2 a3=>?_
 exact JF I2 a1 (by rw[a2.length_eq];rw[qAa] at hz;exact hz) (q ns' a2)
theorem NB {K:W.Frag}{H:Hp}{vs:List V}{ns:List Int}(h:Iss K H vs (ns.map D.int)):vs=ns.map V.int:=by
 refine qCy fun i=>?_
 have hl:=h.1
 rw[qAa] at hl
 rw[qAc]
 by_cases c:i<vs.length
 .have e:=qAb c
  have e2:ns[i]? = some ns[i]:=qAb ()
  have:=h.2 i vs[i] (.int ns[i]) e (by rw[qAc,e2];rfl)
  rw[e,e2,Is.int_inv this]
  rfl
 .rw[qAO.mpr (),qAO.mpr ()]
  rfl
def QJ (te:TE3):TE3:=fun τ R=>te τ fun s=>match Yr s with
 |some xs=>∃ns:List Int,xs=ns.map D.int/\ns.length<64/\∀ns':List Int,ns'.Perm ns->R (.l (ns'.map D.int))
 |none=>False
theorem Sx {e:Expr}{te:TE3}{p pos:Pos}(he:PE3 X e te) (hg:Gl X "sorted") (hm:X.mg "sorted"=none) (hs:starEach [e] X.env=(false,eval e X.env)::starEach [] X.env:=by exact Dz rfl):PE3 X (.Call (.Name "sorted" p) [e] [] pos) (QJ te) :=
 #[BJ (XI (Kc Mg hg hm qCC (AL he.out BD hs) (he:=hs))) fun σ H Q hh=>by
  obtain⟨B,z,τ,R,r,ht,q⟩:=hh
  exact#[B,z,τ,_,r,ht,fun s v q1 e1 i1 f1 h1=>by
   split at h1
   .rename_i xs hx
    obtain⟨ns,rfl,h64,h1⟩:=h1
    obtain⟨a,vs,rfl,g2,g1⟩:=SE i1 e1.sub hx
    have ev:=NB g2
    subst ev
    refine#[a,ns,rfl,g1,h64,fun ns' pm d hd hk=>?_]
    exact q (.l (ns'.map D.int)) _ #[_,q1.z] (e1.trans (Ext.own e1.sub hd _)) #[d,ns'.map V.int,rfl,Ap,KW ns'] (fun ys a _ h2=>by
     cases h2
     exact#[e1.hh.free hd,hk d _ Ap,e1.sub.free hd]) (h1 ns' pm)
   .exact h1.elim]]
theorem O1 {e:Expr}{te:TE3}{p pos kpos kp:Pos}{b:Bool}{kj:Nat}(he:PE3 X e te) (hg:Gl X "sorted") (hm:X.mg "sorted"=none) (hs:starEach [e] X.env=(false,eval e X.env)::starEach [] X.env:=by exact Dz rfl):PE3 X (.Call (.Name "sorted" p) [e] [#[some "reverse",.Constant (.bool b) kj kp,kpos]] pos) (QJ te) :=
 #[BJ (XI (RA hg hm (AL he.out BD hs) hs)) fun σ H Q hh=>by
  obtain⟨B,z,τ,R,r,ht,q⟩:=hh
  exact#[B,z,τ,_,r,ht,fun s v q1 e1 i1 f1 h1=>by
   split at h1
   .rename_i xs hx
    obtain⟨ns,rfl,h64,h1⟩:=h1
    obtain⟨a,vs,rfl,g2,g1⟩:=SE i1 e1.sub hx
    have ev:=NB g2
    subst ev
    refine#[a,ns,rfl,g1,h64,fun ns' pm d hd hk=>?_]
    exact q (.l (ns'.map D.int)) _ #[_,q1.z] (e1.trans (Ext.own e1.sub hd _)) #[d,ns'.map V.int,rfl,Ap,KW ns'] (fun ys a _ h2=>by
     cases h2
     exact#[e1.hh.free hd,hk d _ Ap,e1.sub.free hd]) (h1 ns' pm)
   .exact h1.elim]]
end
end L3
namespace CH
open PySem L2 L3
def qd (q:Rat):D:=.tup [.int q.num,.int (q.den:Int)]
abbrev tp (a b:Int):D:=.tup [.int a,.int b]
abbrev Cs:=List (Rat×Rat)
def cd (c:Rat×Rat):D:=.tup [qd c.1,qd c.2]
def tt (cs:Cs)(k:Nat):Rat:=(cs.getD k (0,0)).1
def vv (cs:Cs)(k:Nat):Rat:=(cs.getD k (0,0)).2
def slp (cs:Cs)(m:Rat)(k:Nat):Rat:=if k+1<cs.length then (vv cs (k+1)-vv cs k)/(tt cs (k+1)-tt cs k) else m
def Up (cs:Cs):Prop:=∀k,k+1<cs.length->tt cs k<tt cs (k+1)
def SzC (n:Nat)(cs:Cs):Prop:=∀k,k<cs.length->Sz n (tt cs k)/\Sz n (vv cs k)
theorem Mf {cs:Cs}{k:Nat}(h:k<cs.length):atI (cs.map cd) (k:Int)=some (.tup [qd (tt cs k),qd (vv cs k)]):=by
 refine atI_nat ?_
 rw[qAc,qAb h]
 unfold tt vv
 rw[qAg,qAb h]
 rfl
theorem atR {o:Option D}{d:D}{F:D->Prop}(e:o=some d) (h:F d):(match (generalizing:=false) o with|some d=>F d|none=>False):=by subst e;exact h
theorem Ca {cs:Cs}{i:Int}(k:Nat) (hi:i=(k:Int)) (h:k<cs.length):atI (cs.map cd) i=some (.tup [qd (tt cs k),qd (vv cs k)]):=by subst hi;exact Mf h
def L4 (k:Nat)(a b c d:Int):Prop:=a.natAbs<2^k/\b.natAbs<2^k/\c.natAbs<2^k/\d.natAbs<2^k
theorem l4 {k m:Nat}{p q:Rat}(hp:Sz m p) (hq:Sz m q) (h:m<=k):L4 k p.num p.den q.num q.den:=#[AU hp.1 h,AU (Ay hp) h,AU hq.1 h,AU (Ay hq) h]
def Lb (k:Nat)(a:Int):Prop:=a.natAbs<2^k
theorem B7 {cs:Cs}{m:Rat}{k:Nat}(h:k+1<cs.length):slp cs m k=(vv cs (k+1)-vv cs k)/(tt cs (k+1)-tt cs k):=if_pos h
theorem Az {cs:Cs}{m:Rat}{k:Nat}(h:¬k+1<cs.length):slp cs m k=m:=if_neg h
theorem UL (q:Rat):((q.num:Int):Rat)=q*(((q.den:Nat):Int):Rat):=by rw[Rat.intCast_natCast];exact GO q
theorem ES {a b:Rat}(h:a<b):b-a≠0:=⋯
def crv (cs:Cs)(m:Rat):D:=.tup [.tup (cs.map cd),qd m]
structure Crv (cs:Cs)(m:Rat):Prop where
 ne:0<cs.length
 t0:tt cs 0=0
 v0:0<=vv cs 0
 m0:0<=m
 up:Up cs
 vu:∀k,k+1<cs.length->vv cs k<=vv cs (k+1)
 bend:∀k,k+1<cs.length->slp cs m k≠slp cs m (k+1)
structure SzK (n:Nat)(cs:Cs)(m:Rat):Prop where
 len:cs.length<=100000
 cs:SzC n cs
 m:Sz n m
theorem FJ {cs:Cs}{n:Nat}{x:D}(h:(cs.map cd)[n]? = some x):n<cs.length/\x=.tup [qd (tt cs n),qd (vv cs n)]:=by
 have hl:n<cs.length:=by
  have:=(qAe.mp h).1
  rwa [qAa] at this
 have a:=Mf hl
 rw[show atI (cs.map cd) (n:Int)=(cs.map cd)[n]? from ?_,h] at a
 .exact#[hl,qAn a]
 .rw[h]
  exact atI_nat h
def kp (cs:Cs)(m:Rat):Nat->Cs
 |0=>[(tt cs 0,vv cs 0)]
 |n+1=>if slp cs m n=slp cs m (n+1) then kp cs m n else kp cs m n++[(tt cs (n+1),vv cs (n+1))]
theorem Qs {cs:Cs}{m:Rat}{n:Nat}(h:¬slp cs m n=slp cs m (n+1)):kp cs m (n+1)=kp cs m n++[(tt cs (n+1),vv cs (n+1))]:=if_neg h
theorem Jc {cs:Cs}{m:Rat}{n:Nat}(h:slp cs m n=slp cs m (n+1)):kp cs m (n+1)=kp cs m n:=if_pos h
theorem JX (cs:Cs)(m:Rat):∀n,(kp cs m n).length<=n+1
 |0=>qAf _
 |n+1=>by
  have:=JX cs m n
  by_cases h:slp cs m n=slp cs m (n+1)
  .rw[Jc h];omega
  .rw[Qs h,qAw];simp;omega
theorem Ot {L M:Cs}{k:Nat}(h:k<L.length):tt (L++M) k=tt L k:=by
 unfold tt;rw[qAg,qAg,qAp h]
theorem OE {L M:Cs}{k:Nat}(h:k<L.length):vv (L++M) k=vv L k:=by
 unfold vv;rw[qAg,qAg,qAp h]
theorem Q3 {L:Cs}{c:Rat×Rat}:tt (L++[c]) L.length=c.1:=by
 unfold tt;rw[qAg,qAu (qAf _)];simp
theorem SW {L:Cs}{c:Rat×Rat}:vv (L++[c]) L.length=c.2:=by
 unfold vv;rw[qAg,qAu (qAf _)];simp
theorem BM {L:Cs}{c:Rat×Rat}:(L++[c]).length=L.length+1:=by simp
theorem E8 {L:Cs}{c:Rat×Rat}{M M':Rat}{i:Nat}(hi:i<L.length) (h:(c.2-vv L (L.length-1))/(c.1-tt L (L.length-1))=M):slp (L++[c]) M' i=slp L M i:=by
 rw[B7 (by rw[BM];omega)]
 by_cases e:i+1<L.length
 .rw[B7 e,Ot e,Ot hi,OE e,OE hi]
 .rw[Az e,Ot hi,OE hi]
  have e':i+1=L.length:=()
  rw[e',Q3,SW,show i=L.length-1 from ()]
  exact h
theorem HW {L:Cs}{c:Rat×Rat}{M':Rat}:slp (L++[c]) M' L.length=M':=Az (by rw[BM];omega)
structure Ord (cs:Cs):Prop where
 ne:0<cs.length
 t0:tt cs 0=0
 v0:0<=vv cs 0
 up:Up cs
 vu:∀k,k+1<cs.length->vv cs k<=vv cs (k+1)
theorem Ord.snoc {L:Cs}{c:Rat×Rat}(h:Ord L) (ht:tt L (L.length-1)<c.1) (hv:vv L (L.length-1)<=c.2):Ord (L++[c]):=by
 have n:=h.ne
 refine#[by rw[BM];omega,by rw[Ot n];exact h.t0,by rw[OE n];exact h.v0,fun k hk=>?_,fun k hk=>?_]
 all_goals
  rw[BM] at hk
  by_cases e:k+1<L.length
 .rw[Ot e,Ot ()];exact h.up k e
 .have e':k+1=L.length:=()
  rw[e',Q3,Ot (),show k=L.length-1 from ()];exact ht
 .rw[OE e,OE ()];exact h.vu k e
 .have e':k+1=L.length:=()
  rw[e',SW,OE (),show k=L.length-1 from ()];exact hv
theorem Ord.one {v:Rat}(h:0<=v):Ord [(0,v)]:=#[Nat.one_pos,rfl,h,fun k hk=>by simp at hk,fun k hk=>by simp at hk]
structure Zc (cs:Cs)(m:Rat)(n:Nat)(L:Cs):Prop where
 ord:Ord L
 bend:∀k,k+1<L.length->slp L (slp cs m n) k≠slp L (slp cs m n) (k+1)
 at_:∃j,j<=n/\tt L (L.length-1)=tt cs j/\vv L (L.length-1)=vv cs j/\vv cs n-vv cs j=slp cs m n*(tt cs n-tt cs j)/\tt cs j<=tt cs n/\vv cs j<=vv cs n
theorem seg {a b x y z v w s:Rat}(h1:w-v=s*(b-a)) (h2:(x-w)/(y-b)=s) (h3:b<y):x-v=s*(y-a):=by
 have h4:y-b≠0:=ES h3
 have h5:x-w=s*(y-b):=⋯
 grind
theorem Lz {x y s:Rat}(h:x=s*y) (hy:y≠0):x/y=s:=⋯
theorem Kf {cs:Cs}{m:Rat}(o:Ord cs):∀n,n<cs.length->Zc cs m n (kp cs m n)
 |0,h=>#[by
  have e:kp cs m 0=[(0,vv cs 0)]:=by show [(tt cs 0,vv cs 0)]=_;rw[o.t0]
  rw[e];exact Ord.one o.v0,fun k hk=>by simp[kp] at hk,0,qAf _,rfl,rfl,⋯,qAd,qAd]
 |n+1,h=>by
  obtain⟨ko,kb,j,hj,ht,hv,hs,tn,vn⟩:=Kf o n ()
  have u:=o.up n h
  have w:=o.vu n h
  have sn:=B7 (m:=m) h
  have g:vv cs (n+1)-vv cs j=slp cs m n*(tt cs (n+1)-tt cs j):=seg (z:=0) hs sn.symm u
  by_cases e:slp cs m n=slp cs m (n+1)
  .rw[Jc e]
   exact#[ko,e ▸ kb,j,(),ht,hv,e ▸ g,⋯,⋯]
  .rw[Qs e]
   have lt:tt cs j<tt cs (n+1):=⋯
   have sl:(vv cs (n+1)-vv (kp cs m n) ((kp cs m n).length-1))/(tt cs (n+1)-tt (kp cs m n) ((kp cs m n).length-1))=slp cs m n:=by
    rw[ht,hv];exact Lz g (ES lt)
   have nl:=ko.ne
   refine#[ko.snoc (by rw[ht];exact lt) (by rw[hv];grind),fun k hk=>?_,n+1,qAf _,?_,?_,⋯,qAd,qAd]
   .rw[BM] at hk
    by_cases e1:k+1<(kp cs m n).length
    .rw[E8 (c:=(tt cs (n+1),vv cs (n+1))) () sl,E8 (c:=(tt cs (n+1),vv cs (n+1))) e1 sl]
     exact kb k e1
    .have e2:k+1=(kp cs m n).length:=()
     rw[E8 (c:=(tt cs (n+1),vv cs (n+1))) () sl,Az e1,e2,HW]
     exact e
   .rw[BM,qBz,Q3]
   .rw[BM,qBz,SW]
theorem HS {cs:Cs}{m:Rat}(o:Ord cs) (hm:0<=m):Crv (kp cs m (cs.length-1)) m:=by
 have n:=o.ne
 have k:=Kf (m:=m) o (cs.length-1) ()
 have e:slp cs m (cs.length-1)=m:=Az ()
 exact#[k.ord.ne,k.ord.t0,k.ord.v0,hm,k.ord.up,k.ord.vu,by have b:=k.bend;rw[e] at b;exact b]
theorem VO {lo hi:Int}(c:lo<hi):lo<=(lo+hi)/2/\(lo+hi)/2<hi:=()
theorem Y4 {a b c:Int}(h:b<c) (h2:a<=b):(b-a).toNat<(c-a).toNat:=()
theorem Zs {m lo:Int}{L:Nat}(h1:0<=lo) (h2:lo<=m){hi:Int}(h3:m<hi) (h4:hi<=L):m.toNat<L:=()
theorem E1 {lo st:Int}{n i:Nat}{x:D}(h:(Vj lo st n)[i]? = some x):i<n/\x=.int (lo+i*st):=by
 have hl:i<n:=by
  have:=(qAe.mp h).1
  rwa [BO] at this
 rw[ND hl] at h
 exact#[hl,(qAn h).symm]
theorem fm {a m:Int}(h:0<m):0<=a.fmod m/\a.fmod m<m:=#[qB8 a h,qCu a h]
theorem Vd (f:Nat->Int)(n:Nat):((List.range n).map fun i=>some (D.int (f i))).filterMap id=((List.range n).map f).map D.int:=by
 rw[qBy,qBJ,<-qCe]
 rfl
theorem LM {a b c:Int}(hc:0<c) (h:a<b):Rat.divInt a c<Rat.divInt b c:=by
 have hc':(0:Rat)<(c:Rat):=qAY.mpr hc
 rw[qAG,qAG,Rat.div_lt_iff hc',qBb (fun z=>absurd (z ▸ hc') qBc)]
 exact qBP.mpr h
theorem OV {a b c:Int}(hc:0<c) (h:a<=b):Rat.divInt a c<=Rat.divInt b c:=by
 by_cases e:a=b
 .rw[e];exact qAd
 .exact qAk (LM hc ())
theorem Im {a c:Int}(hc:0<c) (h:0<=a):0<=Rat.divInt a c:=(Rat.divInt_nonneg_iff_of_pos_right hc).mpr h
theorem SzC.mono {n m:Nat}{L:Cs}(h:SzC n L) (hk:n<=m):SzC m L:=fun k hl=>#[(h k hl).1.mono hk,(h k hl).2.mono hk]
theorem GK {ms:List Int}{i:Int}(k:Nat) (hi:i=(k:Int)) (h:k<ms.length):atI (ms.map D.int) i=some (.int (cell ms k)):=by
 subst hi
 exact Rk () ()
theorem MK {a b:Int}{k:Nat}(hb:0<b) (h1:a.natAbs<2^k) (h2:b.natAbs<2^k):Sz k (Rat.divInt a b):=D9 () h1 h2
theorem Pu {cs:Cs}(j:Nat) (h0:0<j) (h:j<=cs.length):atI (cs.map cd) (-(j:Int))=some (.tup [qd (tt cs (cs.length-j)),qd (vv cs (cs.length-j))]):=by
 have e:=Mf (cs:=cs) (k:=cs.length-j) ()
 rw[<-e]
 unfold atI ixN
 rw[qAa,if_neg (),if_pos (),if_pos (),if_pos ()]
 rw[show(-(j:Int)+(cs.length:Int)).toNat=(((cs.length-j:Nat):Int)).toNat from ()]
def plc (cs:Cs)(t:Rat):Nat->Nat
 |0=>0
 |n+1=>if t<tt cs n then plc cs t n else n
theorem Lg {cs:Cs}{t:Rat}(h:0<cs.length):∀n,n<=cs.length->plc cs t n<cs.length
 |0,_=>h
 |n+1,hn=>by
  unfold plc
  split
  .exact Lg h n ()
  .omega
def val (cs:Cs)(m t:Rat):Rat:=vv cs (plc cs t cs.length)+slp cs m (plc cs t cs.length)*(t-tt cs (plc cs t cs.length))
structure Wq (k:Nat)(a b:Int)(q:Rat):Prop where
 pos:0<b
 eq:(a:Rat)=q*b
 la:Lb k a
 lb:Lb k b
theorem Wq.mono {k n:Nat}{a b:Int}{q:Rat}(h:Wq k a b q) (hk:k<=n):Wq n a b q:=#[h.pos,h.eq,AU h.la hk,AU h.lb hk]
theorem Wq.of {k:Nat}{q:Rat}(h:Sz k q):Wq k q.num q.den q:=#[by have:=den_pos q;omega,UL q,h.1,Ay h]
theorem Wq.minus {k:Nat}{a b c d:Int}{p q:Rat}(h:Wq k a b p) (g:Wq k c d q):Wq (k+k+1) (a*d-c*b) (b*d) (p-q):=by
 refine#[qBd h.pos g.pos,?_,GB (Ak h.la g.lb) (Ak g.la h.lb),AU (Ak h.lb g.lb) ()]
 rw[qBt,qAo,qAo,qAo,h.eq,g.eq]
 grind
theorem Wq.mul {k n:Nat}{a b c d:Int}{p q:Rat}(h:Wq k a b p) (g:Wq n c d q):Wq (k+n) (a*c) (b*d) (p*q):=by
 refine#[qBd h.pos g.pos,?_,Ak h.la g.la,Ak h.lb g.lb]
 rw[qAo,qAo,h.eq,g.eq]
 grind
theorem Wq.inv {k:Nat}{a b:Int}{q:Rat}(h:Wq k a b q) (hq:0<q):0<a/\Wq k b a (1/q):=by
 have hb:(0:Rat)<(b:Rat):=qAY.mpr h.pos
 have ha:(0:Rat)<(a:Rat):=by rw[h.eq];exact qBj hq hb
 have ha':0<a:=qAY.mp ha
 have q0:q≠0:=fun z=>absurd (z ▸ hq) qBc
 refine#[ha',ha',?_,h.lb,h.la]
 rw[h.eq]
 grind
theorem Wq.lt_iff {k n:Nat}{a b c d:Int}{p q:Rat}(h:Wq k a b p) (g:Wq n c d q):a*d<c*b ↔ p<q:=by
 have hb:(0:Rat)<(b:Rat):=qAY.mpr h.pos
 have hd:(0:Rat)<(d:Rat):=qAY.mpr g.pos
 rw[<-qBP,qAo,qAo,h.eq,g.eq]
 rw[show p*(b:Rat)*(d:Rat)=p*((b:Rat)*d) from ⋯,show q*(d:Rat)*(b:Rat)=q*((b:Rat)*d) from ⋯]
 have hp:=qBj hb hd
 constructor
 .intro e
  by_cases z:p<q
  .exact z
  .exact absurd e (qAz.mpr (Rat.mul_le_mul_of_nonneg_right (qAz.mp z) (qAk hp)))
 .intro e
  exact Rat.mul_lt_mul_of_pos_right e hp
theorem Wq.plus {k n:Nat}{a b c d:Int}{p q:Rat}(h:Wq k a b p) (g:Wq n c d q):Wq (k+n+1) (a*d+c*b) (b*d) (p+q):=by
 refine#[qBd h.pos g.pos,?_,HB (Ak h.la g.lb) (AU (Ak g.la h.lb) ()),AU (Ak h.lb g.lb) ()]
 rw[qBs,qAo,qAo,qAo,h.eq,g.eq]
 grind
theorem Wq.cast {k:Nat}{a b:Int}{p q:Rat}(h:Wq k a b p) (e:p=q):Wq k a b q:=e ▸ h
theorem Wq.l4 {k n:Nat}{a b c d:Int}{p q:Rat}(h:Wq k a b p) (g:Wq k c d q) (hk:k<=n):L4 n a b c d:=#[AU h.la hk,AU h.lb hk,AU g.la hk,AU g.lb hk]
theorem SM {cs:Cs}{t:Rat}{n:Nat}(h:t<tt cs n):plc cs t (n+1)=plc cs t n:=if_pos h
theorem M8 {cs:Cs}{t:Rat}{n:Nat}(h:¬t<tt cs n):plc cs t (n+1)=n:=if_neg h
theorem RH {a b:Rat}(h:a<b):0<b-a:=⋯
def sat (cs:Cs)(m t:Rat):Rat:=slp cs m (plc cs t cs.length)
theorem WQ {L M:Cs}{t:Rat}:∀n,n<=L.length->plc (L++M) t n=plc L t n
 |0,_=>rfl
 |n+1,h=>by
  unfold plc
  rw[Ot (),WQ n ()]
theorem MV {L:Cs}{c:Rat×Rat}{t:Rat}:plc (L++[c]) t (L++[c]).length=if t<c.1 then plc L t L.length else L.length:=by
 rw[BM]
 conv=>lhs;unfold plc
 rw[Q3,WQ _ (qAf _)]
theorem NK {L:Cs}{c:Rat×Rat}{M M' t:Rat}(n:0<L.length) (h:(c.2-vv L (L.length-1))/(c.1-tt L (L.length-1))=M):sat (L++[c]) M' t=if t<c.1 then sat L M t else M':=by
 unfold sat
 rw[MV]
 split
 .exact E8 (Lg n _ (qAf _)) h
 .exact HW
theorem Nr {L:Cs}{c:Rat×Rat}{M M' t:Rat}(n:0<L.length) (h:(c.2-vv L (L.length-1))/(c.1-tt L (L.length-1))=M):val (L++[c]) M' t=if t<c.1 then val L M t else c.2+M'*(t-c.1):=by
 unfold val
 rw[MV]
 split
 .have p:=Lg (t:=t) n _ (qAf _)
  rw[E8 p h,OE p,Ot p]
 .rw[HW,SW,Q3]
theorem Mn {L:Cs}{t:Rat}(n:0<L.length) (h:tt L (L.length-1)<=t):plc L t L.length=L.length-1:=by
 have e:L.length=L.length-1+1:=()
 rw[e,M8 (qAz.mpr h),qBz]
theorem MS {L:Cs}{M t:Rat}(n:0<L.length) (h:tt L (L.length-1)<=t):sat L M t=M:=by
 unfold sat
 rw[Mn n h,Az ()]
theorem Cq {L:Cs}{M t:Rat}(n:0<L.length) (h:tt L (L.length-1)<=t):val L M t=vv L (L.length-1)+M*(t-tt L (L.length-1)):=by
 unfold val
 rw[Mn n h,Az ()]
def pre (cs:Cs)(n:Nat):Cs:=cs.take (n+1)
theorem Qt {cs:Cs}{n:Nat}(h:n<cs.length):(pre cs n).length=n+1:=by unfold pre;rw[qAU];omega
theorem WE {cs:Cs}{n:Nat}(h:n+1<cs.length):pre cs (n+1)=pre cs n++[(tt cs (n+1),vv cs (n+1))]:=by
 unfold pre tt vv
 rw[List.take_succ,qAb h,qAg,qAb h]
 rfl
theorem Ww {cs:Cs}{n k:Nat}(h:n<cs.length) (hk:k<=n):tt (pre cs n) k=tt cs k/\vv (pre cs n) k=vv cs k:=by
 have e:cs=pre cs n++cs.drop (n+1):=(qCN _ _).symm
 have l:=Qt h
 constructor
 .conv=>rhs;rw[e]
  rw[Ot ()]
 .conv=>rhs;rw[e]
  rw[OE ()]
theorem U3 {cs:Cs}(n:0<cs.length):pre cs (cs.length-1)=cs:=by
 unfold pre
 exact qAX ()
theorem QX {cs:Cs}{m:Rat}(o:Ord cs) (t:Rat):∀n,n<cs.length->val (kp cs m n) (slp cs m n) t=val (pre cs n) (slp cs m n) t/\sat (kp cs m n) (slp cs m n) t=sat (pre cs n) (slp cs m n) t
 |0,h=>by
  have e:pre cs 0=kp cs m 0:=by
   cases cs with
   |nil=>exact absurd h (by simp)
   |cons c r=>rfl
  rw[e]
  exact#[rfl,rfl]
 |n+1,h=>by
  obtain⟨iv,is⟩:=QX (m:=m) o t n ()
  have k:=Kf (m:=m) o n ()
  obtain⟨j,hj,ht,hv,hs,tn,vn⟩:=k.at_
  have u:=o.up n h
  have sn:=B7 (m:=m) h
  have g:vv cs (n+1)-vv cs j=slp cs m n*(tt cs (n+1)-tt cs j):=seg (z:=0) hs sn.symm u
  have lp:=Qt (cs:=cs) (n:=n) ()
  have pl:=Ww (cs:=cs) (n:=n) (k:=n) () (qAf _)
  have sp:(vv cs (n+1)-vv (pre cs n) ((pre cs n).length-1))/(tt cs (n+1)-tt (pre cs n) ((pre cs n).length-1))=slp cs m n:=by
   rw[lp,qBz,pl.1,pl.2,sn]
  rw[WE h,Nr (c:=(tt cs (n+1),vv cs (n+1))) () sp,NK (c:=(tt cs (n+1),vv cs (n+1))) () sp]
  have lt:tt cs j<tt cs (n+1):=⋯
  by_cases e:slp cs m n=slp cs m (n+1)
  .rw[Jc e,<-e,iv,is]
   by_cases c:t<tt cs (n+1)
   .rw[if_pos c,if_pos c];exact#[rfl,rfl]
   .rw[if_neg c,if_neg c]
    have c':=qAz.mp c
    have en:tt (pre cs n) ((pre cs n).length-1)<=t:=by rw[lp,qBz,pl.1];grind
    rw[Cq () en,MS () en,lp,qBz,pl.1,pl.2]
    refine#[?_,rfl]
    have q:vv cs (n+1)-vv cs n=slp cs m n*(tt cs (n+1)-tt cs n):=by
     have:=ES u
     rw[sn];grind
    show _=vv cs (n+1)+slp cs m n*(t-tt cs (n+1))
    grind
  .have sl:(vv cs (n+1)-vv (kp cs m n) ((kp cs m n).length-1))/(tt cs (n+1)-tt (kp cs m n) ((kp cs m n).length-1))=slp cs m n:=by
    rw[ht,hv];exact Lz g (ES lt)
   rw[Qs e,Nr (c:=(tt cs (n+1),vv cs (n+1))) k.ord.ne sl,NK (c:=(tt cs (n+1),vv cs (n+1))) k.ord.ne sl,iv,is]
   exact#[rfl,rfl]
theorem HF {cs:Cs}{m:Rat}(o:Ord cs) (t:Rat):val (kp cs m (cs.length-1)) m t=val cs m t/\sat (kp cs m (cs.length-1)) m t=sat cs m t:=by
 have n:=o.ne
 have k:=QX (m:=m) o t (cs.length-1) ()
 rw[Az (show ¬cs.length-1+1<cs.length from ()),U3 n] at k
 exact k
theorem AK {cs:Cs}(u:Up cs){i:Nat}:∀{j:Nat},i<=j->j<cs.length->tt cs i<=tt cs j
 |0,h,_=>by have:i=0:=()
            subst this;exact qAd
 |j+1,h,hl=>by
  by_cases e:i=j+1
  .subst e;exact qAd
  .have:=AK u (i:=i) (j:=j) () ()
   have:=u j hl
   grind
theorem Mj {cs:Cs}(u:∀k,k+1<cs.length->vv cs k<=vv cs (k+1)){i:Nat}:∀{j:Nat},i<=j->j<cs.length->vv cs i<=vv cs j
 |0,h,_=>by have:i=0:=()
            subst this;exact qAd
 |j+1,h,hl=>by
  by_cases e:i=j+1
  .subst e;exact qAd
  .have:=Mj u (i:=i) (j:=j) () ()
   have:=u j hl
   grind
theorem Hu {cs:Cs}(u:Up cs){t:Rat}{k:Nat}(h1:tt cs k<=t) (h2:k+1<cs.length->t<tt cs (k+1)):∀n,k<n->n<=cs.length->plc cs t n=k
 |0,h,_=>()
 |n+1,h,hn=>by
  by_cases e:n=k
  .subst e;exact M8 (qAz.mpr h1)
  .rw[SM,Hu u h1 h2 n () ()]
   have a:=h2 ()
   have b:=AK u (i:=k+1) (j:=n) () ()
   grind
structure On (cs:Cs)(k:Nat)(t:Rat):Prop where
 lt:k<cs.length
 lo:tt cs k<=t
 hi:k+1<cs.length->t<=tt cs (k+1)
theorem CW {cs:Cs}{m:Rat}(u:Up cs){k:Nat}(h:k+1<cs.length):vv cs (k+1)=vv cs k+slp cs m k*(tt cs (k+1)-tt cs k):=by
 have:=ES (u k h)
 rw[B7 h];grind
theorem Bn {cs:Cs}{m t:Rat}(u:Up cs){k:Nat}(o:On cs k t):val cs m t=vv cs k+slp cs m k*(t-tt cs k):=by
 have hl:=o.lt
 by_cases e:k+1<cs.length/\t=tt cs (k+1)
 .obtain⟨e1,e2⟩:=e
  have p:plc cs t cs.length=k+1:=Hu u (by rw[e2];exact qAd) (fun h=>by rw[e2];exact u _ h) _ e1 (qAf _)
  unfold val
  rw[p,CW (m:=m) u e1,e2]
  grind
 .have p:plc cs t cs.length=k:=Hu u o.lo (fun h=>by
   have a:=o.hi h
   have b:t≠tt cs (k+1):=fun z=>e #[h,z]
   grind) _ hl (qAf _)
  unfold val
  rw[p]
def nxt (cs:Cs)(i:Nat):Rat:=if i+1<cs.length then tt cs (i+1) else tt cs i+1
theorem JA {cs:Cs}(u:Up cs) (i:Nat):tt cs i<nxt cs i:=by
 unfold nxt
 split
 .exact u _ (by assumption)
 .grind
theorem LB {cs:Cs}{i:Nat}{t:Rat}(h:i<cs.length) (h1:tt cs i<=t) (h2:t<=nxt cs i):On cs i t:=#[h,h1,fun e=>by unfold nxt at h2;rw[if_pos e] at h2;exact h2]
theorem Pf {a x y:Rat}(h1:a<x) (h2:a<y):∃t,a<t/\t<=x/\t<=y:=by
 by_cases e:x<=y
 .exact#[x,h1,qAd,e]
 .exact#[y,h2,⋯,qAd]
theorem V2 {cs:Cs}{m:Rat}(a:Crv cs m){i:Nat}(h:i<cs.length):0<=tt cs i:=by
 have:=AK a.up (i:=0) (j:=i) () h
 rw[a.t0] at this
 exact this
theorem KS {cs ds:Cs}{m k:Rat}(a:Crv cs m) (b:Crv ds k) (h:∀t,0<=t->val cs m t=val ds k t){i:Nat}(hc:i<cs.length) (hd:i<ds.length) (et:tt cs i=tt ds i) (ev:vv cs i=vv ds i):slp cs m i=slp ds k i:=by
 obtain⟨t,h1,h2,h3⟩:=Pf (JA a.up i) (show tt cs i<nxt ds i by rw[et];exact JA b.up i)
 have e:=h t (by have:=V2 a hc;grind)
 rw[Bn a.up (LB hc (qAk h1) h2),Bn b.up (LB hd (by rw[<-et];exact qAk h1) h3),ev,et] at e
 have n:t-tt ds i≠0:=by rw[<-et];exact ES h1
 grind
theorem MZ {cs ds:Cs}{m k:Rat}(a:Crv cs m) (b:Crv ds k) (h:∀t,0<=t->val cs m t=val ds k t){i:Nat}(hc:i+1<cs.length) (hd:i<ds.length) (et:tt cs i=tt ds i) (ev:vv cs i=vv ds i):i+1<ds.length/\tt ds (i+1)<=tt cs (i+1):=by
 have es:=KS a b h () hd et ev
 have bt:=a.bend i hc
 have u:=a.up i hc
 have key:(i+1<ds.length->tt cs (i+1)<tt ds (i+1))->False:=fun hx=>by
  have:∃t,tt cs (i+1)<t/\t<=nxt cs (i+1)/\(i+1<ds.length->t<=tt ds (i+1)):=by
   by_cases e:i+1<ds.length
   .obtain⟨t,h1,h2,h3⟩:=Pf (JA a.up (i+1)) (hx e)
    exact#[t,h1,h2,fun _=>h3]
   .exact#[nxt cs (i+1),JA a.up (i+1),qAd,fun z=>absurd z e]
  obtain⟨t,h1,h2,h3⟩:=this
  have e:=h t (by have:=V2 a hc;grind)
  rw[Bn a.up (LB hc (qAk h1) h2),Bn b.up #[hd,by rw[<-et];grind,h3],CW (m:=m) a.up hc,ev,et,<-es] at e
  have n:t-tt cs (i+1)≠0:=ES h1
  apply bt
  grind
 by_cases e:i+1<ds.length
 .refine#[e,?_]
  by_cases z:tt ds (i+1)<=tt cs (i+1)
  .exact z
  .exact(key fun _=>⋯).elim
 .exact(key fun z=>absurd z e).elim
theorem Nu {cs ds:Cs}{m k:Rat}(a:Crv cs m) (b:Crv ds k) (h:∀t,0<=t->val cs m t=val ds k t):∀i,(i<cs.length ↔ i<ds.length)/\(i<cs.length->tt cs i=tt ds i/\vv cs i=vv ds i)
 |0=>by
  refine#[#[fun _=>b.ne,fun _=>a.ne],fun _=>#[by rw[a.t0,b.t0],?_]]
  have e:=h 0 qAd
  rw[Bn a.up (LB a.ne (by rw[a.t0];exact qAd) (by rw[<-a.t0];exact qAk (JA a.up 0))),Bn b.up (LB b.ne (by rw[b.t0];exact qAd) (by rw[<-b.t0];exact qAk (JA b.up 0))),a.t0,b.t0] at e
  grind
 |i+1=>by
  obtain⟨h1,h2⟩:=Nu a b h i
  have fw:i+1<cs.length->i+1<ds.length/\tt ds (i+1)<=tt cs (i+1):=fun e=>by
   obtain⟨et,ev⟩:=h2 ()
   exact MZ a b h e (h1.mp ()) et ev
  have bw:i+1<ds.length->i+1<cs.length/\tt cs (i+1)<=tt ds (i+1):=fun e=>by
   obtain⟨et,ev⟩:=h2 (h1.mpr ())
   exact MZ b a (fun t ht=>(h t ht).symm) e (h1.mpr ()) et.symm ev.symm
  refine#[#[fun e=>(fw e).1,fun e=>(bw e).1],fun e=>?_]
  obtain⟨e1,e2⟩:=fw e
  have e3:=(bw e1).2
  have et:tt cs (i+1)=tt ds (i+1):=⋯
  obtain⟨eti,evi⟩:=h2 ()
  have es:=KS a b h () () eti evi
  exact#[et,by rw[CW (m:=m) a.up e,CW (m:=k) b.up e1,es,et,eti,evi]]
theorem U8 {cs ds:Cs}{m k:Rat}(a:Crv cs m) (b:Crv ds k) (h:∀t,0<=t->val cs m t=val ds k t):cs=ds/\m=k:=by
 have st:=Nu a b h
 have el:cs.length=ds.length:=by
  have x:=(st cs.length).1
  have y:=(st ds.length).1
  omega
 have na:=a.ne
 constructor
 .refine List.ext_getElem el fun i h1 h2=>?_
  obtain⟨et,ev⟩:=(st i).2 h1
  unfold tt at et
  unfold vv at ev
  rw[qAg,qAg,qAb h1,qAb h2] at et ev
  exact Prod.ext et ev
 .obtain⟨et,ev⟩:=(st (cs.length-1)).2 ()
  have es:=KS a b h (i:=cs.length-1) () () et ev
  rwa [Az (),Az ()] at es
theorem Wq.sz {k:Nat}{a b:Int}{q:Rat}(h:Wq k a b q):Sz k q:=by
 have hb:(b:Rat)≠0:=fun z=>absurd (qBv.mp z) (qBA h.pos)
 have e:q=Rat.divInt a b:=by
  rw[qAG,h.eq]
  grind
 rw[e]
 exact MK h.pos h.la h.lb
theorem Wq.div {k n:Nat}{a b c d:Int}{p q:Rat}(h:Wq k a b p) (g:Wq n c d q) (hq:0<q):Wq (k+n) (a*d) (b*c) (p/q):=by
 refine(h.mul (g.inv hq).2).cast ?_
 grind
theorem S8 (p q:Rat):eqN 1 (qd p) (qd q)=decide (p=q):=by
 by_cases h:p=q
 .subst h
  rw[decide_eq_true rfl]
  exact GU 1 _ rfl
 .rw[decide_eq_false h]
  cases e:eqN 1 (qd p) (qd q) with
  |false=>rfl
  |true =>
   exfalso
   apply h
   have e':((p.num==q.num&&((p.den:Int)==(q.den:Int)&&true))&&true)=true:=e
   rw[qCw,qCw,qAV,beq_iff_eq,beq_iff_eq] at e'
   exact Rat.ext e'.1 (Int.ofNat.inj e'.2)
theorem neT (p q:Rat){A B:Prop}(h1:¬p=q->A) (h2:p=q->B):if (!eqN 1 (qd p) (qd q))=true then A else B:=by
 rw[S8]
 exact Ui h1 h2
theorem eqT (p q:Rat){A B:Prop}(h1:p=q->A) (h2:¬p=q->B):if eqN 1 (qd p) (qd q)=true then A else B:=by
 rw[S8]
 exact B9 h1 h2
def Bgn (cs:Cs):Prop:=0<cs.length/\tt cs 0=0/\0<=vv cs 0
def Ris (cs:Cs)(n:Nat):Prop:=∀k,k<n->k+1<cs.length->tt cs k<tt cs (k+1)/\vv cs k<=vv cs (k+1)
def JO (cs:Cs)(m:Rat):List Rat:=(List.range cs.length).map (slp cs m)
theorem El (cs:Cs)(m:Rat):(JO cs m).length=cs.length:=by unfold JO;rw[qAa,qAq]
theorem atI_nat {α:Type}{xs:List α}{k:Nat}(h:k<xs.length):atI xs (k:Int)=xs[k]? := by
 unfold atI ixN
 rw[if_pos (),if_pos ()]
 simp
theorem MG {cs:Cs}{m:Rat}{i:Int}(k:Nat) (hi:i=(k:Int)) (h:k<cs.length):atI ((JO cs m).map qd) i=some (qd (slp cs m k)):=by
 subst hi
 rw[atI_nat (by rw[qAa,El];exact h)]
 unfold JO
 rw[qAc,qAc,qAC h]
 rfl
theorem Nt (cs:Cs)(m:Rat)(h:0<cs.length):(((List.range (cs.length-1)).map fun i=>some (qd (slp cs m i))).filterMap id)++[qd m]=(JO cs m).map qd:=by
 have e:((List.range (cs.length-1)).map fun i=>some (qd (slp cs m i))).filterMap id=(List.range (cs.length-1)).map fun i=>qd (slp cs m i):=by
  rw[qBy]
  exact congrFun (qCe (f:=fun i=>qd (slp cs m i))) _
 rw[e]
 unfold JO
 rw[qBJ]
 have e2:cs.length=cs.length-1+1:=()
 conv=>rhs;rw[e2,List.range_succ,qAN]
 show _++[qd m]=_++[qd (slp cs m (cs.length-1))]
 rw[Az (cs:=cs) (m:=m) (k:=cs.length-1) ()]
 rfl
def tOf:D->Rat
 |.tup (.tup [.int a,.int b]::_)=>Rat.divInt a b
 |_=>0
def vOf:D->Rat
 |.tup [_,.tup [.int a,.int b]]=>Rat.divInt a b
 |_=>0
theorem SX (a b:Rat):tOf (.tup [qd a,qd b])=a:=qB2 a
theorem Nx (a b:Rat):vOf (.tup [qd a,qd b])=b:=qB2 b
theorem DG {cs:Cs}{t:Rat}(h0:tt cs 0<=t):∀n,0<n->tt cs (plc cs t n)<=t/\plc cs t n<n/\∀i,plc cs t n<i->i<n->t<tt cs i
 |1,_=>by
  have e:plc cs t 1=0:=by rw[M8 (n:=0) (qAz.mpr h0)]
  rw[e]
  exact#[h0,Nat.one_pos,fun i h1 h2=>()]
 |n+2,_=>by
  obtain⟨h1,h2,h3⟩:=DG h0 (n+1) (Nat.succ_pos n)
  by_cases c:t<tt cs (n+1)
  .rw[SM c]
   refine#[h1,(),fun i i1 i2=>?_]
   by_cases e:i=n+1
   .rw[e];exact c
   .exact h3 i i1 ()
  .rw[M8 c]
   exact#[qAz.mp c,(),fun i i1 i2=>()]
theorem Uk {cs:Cs}{t:Rat}(up:Up cs) (h0:tt cs 0<=t){i:Nat}(hi:i<cs.length):(!decide (t<tt cs i))=decide (i<plc cs t cs.length+1):=by
 obtain⟨h1,h2,h3⟩:=DG h0 cs.length ()
 by_cases c:i<plc cs t cs.length+1
 .rw[decide_eq_true c,decide_eq_false (qAz.mpr (qAm (AK up (i:=i) (j:=plc cs t cs.length) () h2) h1))]
  rfl
 .rw[decide_eq_false c,decide_eq_true (h3 i () hi)]
  rfl
theorem NN {a b:Rat}(ha:0<=a) (hb:0<b):0<=a/b:=by
 by_cases h:0<=a/b
 .exact h
 .have h':0 < -(a/b):=⋯
  have:=qBj h' hb
  have e:-(a/b)*b=-a:=⋯
  rw[e] at this
  grind
structure Cg (cs:Cs)(m:Rat):Prop where
 o:Ord cs
 m0:0<=m
theorem JJ {cs:Cs}{m:Rat}(r:Cg cs m) (k:Nat):0<=slp cs m k:=by
 by_cases c:k+1<cs.length
 .rw[B7 c]
  have h1:=r.o.vu k c
  have h2:=r.o.up k c
  exact NN ⋯ ⋯
 .rw[Az c];exact r.m0
theorem D6 {cs:Cs}(o:Ord cs){t:Rat}(ht:0<=t):On cs (plc cs t cs.length) t:=by
 have n:=o.ne
 obtain⟨h1,h2,h3⟩:=DG (cs:=cs) (t:=t) (by rw[o.t0];exact ht) cs.length n
 exact#[h2,h1,fun c=>qAk (h3 _ () c)]
theorem OO {cs:Cs}{m t:Rat}(r:Cg cs m){k:Nat}(hk:k<cs.length) (h:tt cs k<=t):vv cs k<=val cs m t:=by
 have t0:0<=t:=by
  have:=AK r.o.up (i:=0) (j:=k) () hk
  rw[r.o.t0] at this
  grind
 have n:=r.o.ne
 obtain⟨h1,h2,h3⟩:=DG (cs:=cs) (t:=t) (by rw[r.o.t0];exact t0) cs.length n
 have kj:k<=plc cs t cs.length:=by
  by_cases c:k<=plc cs t cs.length
  .exact c
  .have:=h3 k () hk
   grind
 have:=Mj r.o.vu kj h2
 have s:=JJ r (plc cs t cs.length)
 have p:=qAi s (show 0<=t-tt cs (plc cs t cs.length) from ⋯)
 show vv cs k<=vv cs (plc cs t cs.length)+slp cs m (plc cs t cs.length)*(t-tt cs (plc cs t cs.length))
 grind
theorem QZ {cs:Cs}{m t:Rat}(r:Cg cs m){k:Nat}(hk:k<cs.length) (t0:0<=t) (h:t<=tt cs k):val cs m t<=vv cs k:=by
 have on:=D6 r.o t0
 generalize hj:plc cs t cs.length=j at on
 by_cases c:j<k
 .have c1:j+1<cs.length:=()
  have:=Mj r.o.vu (i:=j+1) (j:=k) () hk
  have e:=CW (m:=m) r.o.up c1
  have s:=JJ r j
  have p:=qAi s (show 0<=tt cs (j+1)-t by have:=on.hi c1;grind)
  rw[Bn r.o.up on]
  grind
 .have e1:=AK r.o.up (i:=k) (j:=j) () on.lt
  have e2:=on.lo
  have e:t=tt cs k:=⋯
  by_cases c2:j=k
  .subst c2
   rw[Bn r.o.up on,e]
   grind
  .have e3:=AK r.o.up (i:=k+1) (j:=j) () on.lt
   have e4:=r.o.up k (by have:=on.lt;omega)
   grind
theorem AQ {cs:Cs}{m x y:Rat}(r:Cg cs m) (x0:0<=x) (h:x<=y):val cs m x<=val cs m y:=by
 have ox:=D6 r.o x0
 have oy:=D6 r.o (qAm x0 h)
 by_cases c:plc cs y cs.length<=plc cs x cs.length
 .have e1:=AK r.o.up c ox.lt
  have oy2:On cs (plc cs x cs.length) y\/plc cs y cs.length<plc cs x cs.length:=by
   by_cases e:plc cs y cs.length=plc cs x cs.length
   .rw[<-e];exact .inl oy
   .exact .inr ()
  rcases oy2 with oy2|oy2
  .rw[Bn r.o.up ox,Bn r.o.up oy2]
   have s:=JJ r (plc cs x cs.length)
   have p:=qAi s (show 0<=y-x from ⋯)
   grind
  .have h3:=(DG (cs:=cs) (t:=y) (by rw[r.o.t0];exact qAm x0 h) cs.length r.o.ne).2.2 _ oy2 ox.lt
   have:=ox.lo
   grind
 .have c':plc cs x cs.length+1<cs.length:=by have:=oy.lt;omega
  have h1:=QZ (m:=m) r c' x0 (ox.hi c')
  have h2:=OO (m:=m) (t:=y) r c' (by
   have e3:=AK r.o.up (i:=plc cs x cs.length+1) (j:=plc cs y cs.length) () oy.lt
   have:=oy.lo
   grind)
  exact qAm h1 h2
def Rch (cs:Cs)(m h:Rat):Option Rat->Prop
 |none=>∀x,0<=x->val cs m x<h
 |some t=>0<=t/\(val cs m t=h\/(t=0/\h<=val cs m 0))/\∀x,0<=x->x<t->val cs m x<h
def Psd (cs:Cs)(m h:Rat):Option Rat->Prop
 |none=>h<val cs m 0\/∀x,0<=x->val cs m x<=h
 |some t=>0<=t/\val cs m t=h/\∀x,t<x->h<val cs m x
def oD:Option Rat->D
 |none=>.non
 |some q=>qd q
theorem SI {n:Nat}(P:Nat->Bool) (mono:∀i,i+1<n->P (i+1)=true->P i=true):∃k,k<=n/\∀i,i<n->P i=decide (i<k):=by
 induction n with
 |zero=>exact#[0,qAf _,fun i h=>absurd h (qBf i)]
 |succ n ih =>
  obtain⟨k,hk,h⟩:=ih (fun i hi=>mono i ())
  cases e:P n with
  |true =>
   refine#[n+1,qAf _,fun i hi=>?_]
   have all:∀j,j<=n->P (n-j)=true:=by
    intro j
    induction j with
    |zero=>intro _;exact e
    |succ j ihj =>
     intro hj
     have:=ihj ()
     exact mono (n-(j+1)) () (by rw[show n-(j+1)+1=n-j from ()];exact this)
   rw[decide_eq_true hi]
   have:=all (n-i) ()
   rw[show n-(n-i)=i from ()] at this
   exact this
  |false =>
   refine#[k,(),fun i hi=>?_]
   by_cases c:i<n
   .exact h i c
   .have:i=n:=()
    subst this
    rw[e,decide_eq_false ()]
theorem A7 {cs:Cs}{m:Rat}(o:Ord cs){k:Nat}(hk:k<cs.length):val cs m (tt cs k)=vv cs k:=by
 rw[Bn (k:=k) o.up #[hk,qAd,fun c=>qAk (o.up k c)]]
 grind
theorem BZ {cs:Cs}{m:Rat}(o:Ord cs):val cs m 0=vv cs 0:=by
 have:=A7 (m:=m) o o.ne
 rw[o.t0] at this
 exact this
theorem met {cs:Cs}{m h:Rat}(r:Cg cs m){k:Nat}(hk:k<cs.length) (s:slp cs m k≠0) (h1:vv cs k<=h) (h2:k+1<cs.length->h<=vv cs (k+1)) :
 On cs k (tt cs k+(h-vv cs k)/slp cs m k)/\val cs m (tt cs k+(h-vv cs k)/slp cs m k)=h:=by
 have s0:0<slp cs m k:=qBB (JJ r k) (fun z=>s z.symm)
 have d0:=NN (show 0<=h-vv cs k from ⋯) s0
 have on:On cs k (tt cs k+(h-vv cs k)/slp cs m k):=by
  refine#[hk,⋯,fun c=>?_]
  have e:=CW (m:=m) r.o.up c
  have hh:=h2 c
  have d1:=NN (show 0<=vv cs (k+1)-h from ⋯) s0
  have e2:(vv cs (k+1)-h)/slp cs m k=tt cs (k+1)-tt cs k-(h-vv cs k)/slp cs m k:=by
   rw[e]
   generalize slp cs m k=S at s
   grind
  grind
 refine#[on,?_]
 rw[Bn r.o.up on]
 generalize slp cs m k=S at s
 grind
theorem XY {cs:Cs}{m x t:Rat}(r:Cg cs m){k:Nat}(on:On cs k t) (s:slp cs m k≠0) (x0:0<=x) (h:x<t) (hv:vv cs k<val cs m t):val cs m x<val cs m t:=by
 by_cases c:tt cs k<=x
 .have ox:On cs k x:=#[on.lt,c,fun z=>by have:=on.hi z;grind]
  rw[Bn r.o.up ox,Bn r.o.up on]
  have s0:0<slp cs m k:=qBB (JJ r k) (fun z=>s z.symm)
  have p:=qBj s0 (show 0<t-x from ⋯)
  grind
 .have:=QZ (m:=m) r on.lt x0 (show x<=tt cs k from ⋯)
  grind
theorem Yg {cs:Cs}{m x t:Rat}(r:Cg cs m){k:Nat}(on:On cs k t) (s:slp cs m k≠0) (h:t<x) (hv:k+1<cs.length->val cs m t<vv cs (k+1)):val cs m t<val cs m x:=by
 have s0:0<slp cs m k:=qBB (JJ r k) (fun z=>s z.symm)
 by_cases c:k+1<cs.length/\tt cs (k+1)<x
 .have:=OO (m:=m) (t:=x) r c.1 (qAk c.2)
  have:=hv c.1
  grind
 .have ox:On cs k x:=#[on.lt,by have:=on.lo;grind,fun z=>by
   by_cases y:tt cs (k+1)<x
   .exact absurd #[z,y] c
   .grind]
  rw[Bn r.o.up ox,Bn r.o.up on]
  have p:=qBj s0 (show 0<x-t from ⋯)
  grind
theorem GI {cs:Cs}{m x:Rat}(r:Cg cs m) (hm:m=0) (x0:0<=x):val cs m x<=vv cs (cs.length-1):=by
 have n:=r.o.ne
 by_cases c:tt cs (cs.length-1)<=x
 .rw[Cq n c,hm];grind
 .exact QZ r () x0 ⋯
theorem Wm {cs:Cs}{m h:Rat}(r:Cg cs m){n:Nat}(hn:n<=cs.length) (cut:∀i,i<cs.length->decide (vv cs i<h)=decide (i<n)) :
 (n=0->Rch cs m h (some 0))/\∀k,n=k+1->(slp cs m k=0->Rch cs m h none)/\(slp cs m k≠0->Rch cs m h (some (tt cs k+(h-vv cs k)/slp cs m k))):=by
 have c':∀i,i<cs.length->(vv cs i<h ↔ i<n):=fun i hi=>decide_eq_decide.mp (cut i hi)
 refine#[fun e=>?_,fun k e=>#[fun s=>?_,fun s=>?_]]
 .subst e
  have:=mt (c' 0 r.o.ne).mp ()
  exact#[qAd,.inr #[rfl,by rw[BZ r.o];exact qAz.mp this],fun x a b=>⋯]
 .have hk:k<cs.length:=()
  have v1:=(c' k hk).mpr ()
  have last:¬k+1<cs.length:=fun c=>by
   have v2:=mt (c' (k+1) c).mp ()
   have e2:=CW (m:=m) r.o.up c
   rw[s] at e2
   grind
  have m0:m=0:=by rw[Az last] at s;exact s
  intro x x0
  have:=GI r m0 x0
  rw[show cs.length-1=k from ()] at this
  grind
 .have hk:k<cs.length:=()
  have v1:=(c' k hk).mpr ()
  obtain⟨on,ev⟩:=met r hk s (qAk v1) (fun c=>qAz.mp (mt (c' (k+1) c).mp ()))
  have t0:0<=tt cs k:=by
   have:=AK r.o.up (i:=0) (j:=k) () hk
   rw[r.o.t0] at this
   exact this
  refine#[by have:=on.lo;grind,.inl ev,fun x x0 hx=>?_]
  have:=XY r on s x0 hx (by rw[ev];exact v1)
  rw[ev] at this
  exact this
theorem Vz {cs:Cs}{m h:Rat}(r:Cg cs m){n:Nat}(hn:n<=cs.length) (cut:∀i,i<cs.length->(!decide (h<vv cs i))=decide (i<n)) :
 (n=0->Psd cs m h none)/\∀k,n=k+1->(slp cs m k=0->Psd cs m h none)/\(slp cs m k≠0->Psd cs m h (some (tt cs k+(h-vv cs k)/slp cs m k))):=by
 have c':∀i,i<cs.length->(¬h<vv cs i ↔ i<n):=fun i hi=>by
  have:=cut i hi
  rw[<-decide_not] at this
  exact decide_eq_decide.mp this
 refine#[fun e=>?_,fun k e=>#[fun s=>?_,fun s=>?_]]
 .subst e
  have:=mt (c' 0 r.o.ne).mp ()
  exact .inl (by rw[BZ r.o];grind)
 .have hk:k<cs.length:=()
  have v1:=(c' k hk).mpr ()
  have last:¬k+1<cs.length:=fun c=>by
   have v2:=mt (c' (k+1) c).mp ()
   have e2:=CW (m:=m) r.o.up c
   rw[s] at e2
   grind
  have m0:m=0:=by rw[Az last] at s;exact s
  refine .inr fun x x0=>?_
  have:=GI r m0 x0
  rw[show cs.length-1=k from ()] at this
  grind
 .have hk:k<cs.length:=()
  have v1:=(c' k hk).mpr ()
  have v2:k+1<cs.length->h<vv cs (k+1):=fun c=>by
   have:=mt (c' (k+1) c).mp ()
   grind
  obtain⟨on,ev⟩:=met r hk s (qAz.mp v1) (fun c=>qAk (v2 c))
  have t0:0<=tt cs k:=by
   have:=AK r.o.up (i:=0) (j:=k) () hk
   rw[r.o.t0] at this
   exact this
  refine#[by have:=on.lo;grind,ev,fun x hx=>?_]
  have:=Yg r on s hx (fun c=>by rw[ev];exact v2 c)
  rw[ev] at this
  exact this
def T (ts:List Rat)(i:Nat):Rat:=ts.getD i 0
structure Tms (cs ds:Cs)(ts:List Rat):Prop where
 ne:0<ts.length
 t0:T ts 0=0
 up:∀i,i+1<ts.length->T ts i<T ts (i+1)
 a:∀k,k<cs.length->∃i,i<ts.length/\T ts i=tt cs k
 b:∀k,k<ds.length->∃i,i<ts.length/\T ts i=tt ds k
 of:∀i,i<ts.length->(∃k,k<cs.length/\T ts i=tt cs k)\/∃k,k<ds.length/\T ts i=tt ds k
theorem GR {ts:List Rat}(u:∀i,i+1<ts.length->T ts i<T ts (i+1)){i:Nat}:∀{j:Nat},i<=j->j<ts.length->T ts i<=T ts j
 |0,h,_=>by have:i=0:=()
            subst this;exact qAd
 |j+1,h,hj=>by
  by_cases e:i=j+1
  .subst e;exact qAd
  .have h1:=GR u (i:=i) (j:=j) () ()
   have h2:=u j hj
   grind
theorem OF {cs ds:Cs}{ts:List Rat}(t:Tms cs ds ts){i:Nat}(h:i<ts.length):0<=T ts i:=by
 have:=GR t.up (i:=0) (j:=i) () h
 rw[t.t0] at this
 exact this
theorem Tms.swap {cs ds:Cs}{ts:List Rat}(t:Tms cs ds ts):Tms ds cs ts:=#[t.ne,t.t0,t.up,t.b,t.a,fun i h=>(t.of i h).symm]
theorem Nb {cs ds:Cs}{ts:List Rat}(o:Ord cs) (t:Tms cs ds ts){i:Nat}(hi:i<ts.length){x:Rat}(h1:T ts i<=x) (h2:i+1<ts.length->x<=T ts (i+1)):On cs (plc cs (T ts i) cs.length) x:=by
 have on:=D6 o (OF t hi)
 obtain⟨_,p2,p3⟩:=DG (cs:=cs) (t:=T ts i) (by rw[o.t0];exact OF t hi) cs.length o.ne
 refine#[on.lt,by have:=on.lo;grind,fun c=>?_]
 have lt:=p3 _ (qBU _) c
 obtain⟨j,hj,ej⟩:=t.a _ c
 have ij:i<j:=by
  by_cases z:i<j
  .exact z
  .have:=GR t.up (i:=j) (j:=i) () hi
   rw[ej] at this
   grind
 have:=h2 ()
 have h3:=GR t.up (i:=i+1) (j:=j) () hj
 rw[ej] at h3
 grind
theorem HU {cs ds:Cs}{ts:List Rat}{m:Rat}(o:Ord cs) (t:Tms cs ds ts){i:Nat}(hi:i<ts.length){x:Rat}(h1:T ts i<=x) (h2:i+1<ts.length->x<=T ts (i+1)) :
 val cs m x=val cs m (T ts i)+slp cs m (plc cs (T ts i) cs.length)*(x-T ts i):=by
 rw[Bn o.up (Nb o t hi h1 h2),Bn o.up (Nb o t hi qAd (fun c=>qAk (t.up i c)))]
 grind
theorem H4 {cs ds:Cs}{ts:List Rat}{m:Rat}(o:Ord cs) (t:Tms cs ds ts):slp cs m (plc cs (T ts (ts.length-1)) cs.length)=m:=by
 have n:=o.ne
 obtain⟨j,hj,ej⟩:=t.a (cs.length-1) ()
 have:=GR t.up (i:=j) (j:=ts.length-1) () (by have:=t.ne;omega)
 rw[ej] at this
 rw[Mn n this]
 exact Az ()
theorem MW {ts:List Rat}(ne:0<ts.length) (t0:T ts 0=0){x:Rat}(x0:0<=x):∃i,i<ts.length/\T ts i<=x/\(i+1<ts.length->x<=T ts (i+1)):=by
 have all:∀n,n<ts.length->T ts n<=x\/∃i,i<ts.length/\T ts i<=x/\(i+1<ts.length->x<=T ts (i+1)):=by
  intro n
  induction n with
  |zero=>intro _;exact .inl (by rw[t0];exact x0)
  |succ n ih =>
   intro h
   rcases ih () with h1|h1
   .by_cases c:T ts (n+1)<=x
    .exact .inl c
    .exact .inr #[n,(),h1,fun _=>⋯]
   .exact .inr h1
 rcases all (ts.length-1) () with h|h
 .exact#[ts.length-1,(),h,fun c=>()]
 .exact h
def gap (cs:Cs)(m:Rat)(ds:Cs)(k:Rat)(x:Rat):Rat:=val cs m x-val ds k x
structure Mrg (cs ds:Cs)(i p:Nat)(ts:List Rat):Prop where
 inc:ts.Pairwise (· < ·)
 of:∀x∈ts,(∃a,a<i/\x=tt cs a)\/∃b,b<p/\x=tt ds b
 a:∀k,k<i->tt cs k∈ts
 b:∀k,k<p->tt ds k∈ts
 lt:∀x∈ts,∀k,p<=k->k<ds.length->x<tt ds k
 len:ts.length<=i+p
theorem JT {cs:Cs}(u:Up cs){i j:Nat}(h:i<j) (hj:j<cs.length):tt cs i<tt cs j:=by
 have h1:=u i ()
 have h2:=AK u (i:=i+1) (j:=j) () hj
 grind
theorem Mrg.nil (cs ds:Cs):Mrg cs ds 0 0 []:=#[List.Pairwise.nil,(fun x h=>by cases h),(fun k h=>()),(fun k h=>()),(fun x h=>by cases h),qA7 _]
theorem Mrg.other {cs ds:Cs}{i p:Nat}{ts:List Rat}(g:Mrg cs ds i p ts) (up:Up ds) (hp:p<ds.length) (hi:∀x∈ts,x<tt cs i) (h:tt ds p<tt cs i):Mrg cs ds i (p+1) (ts++[tt ds p])/\∀x∈ts++[tt ds p],x<tt cs i:=by
 refine#[#[?_,fun x hx=>?_,fun k hk=>qAQ _ (g.a k hk),fun k hk=>?_,fun x hx k k1 k2=>?_,by rw[qAw];have:=g.len;simp;omega],fun x hx=>?_]
 .rw[qCk]
  exact#[g.inc,qCJ _ _,fun x hx y hy=>by rw[qAI.mp hy];exact g.lt x hx p (qAf _) hp]
 .rcases qAr.mp hx with hx|hx
  .rcases g.of x hx with z|⟨b,hb,e⟩
   .exact .inl z
   .exact .inr #[b,(),e]
  .exact .inr #[p,(),qAI.mp hx]
 .by_cases e:k=p
  .subst e;exact qAy _ (qAI.mpr rfl)
  .exact qAQ _ (g.b k ())
 .rcases qAr.mp hx with hx|hx
  .exact g.lt x hx k () k2
  .rw[qAI.mp hx];exact JT up () k2
 .rcases qAr.mp hx with hx|hx
  .exact hi x hx
  .rw[qAI.mp hx];exact h
theorem Mrg.one {cs ds:Cs}{i p q:Nat}{ts:List Rat}(g:Mrg cs ds i p ts) (hpq:q=p\/(q=p+1/\p<ds.length/\tt ds p=tt cs i)) (hi:∀x∈ts,x<tt cs i) (hb:∀k,q<=k->k<ds.length->tt cs i<tt ds k):Mrg cs ds (i+1) q (ts++[tt cs i]):=by
 refine#[?_,fun x hx=>?_,fun k hk=>?_,fun k hk=>?_,fun x hx k k1 k2=>?_,?_]
 .rw[qCk]
  exact#[g.inc,qCJ _ _,fun x hx y hy=>by rw[qAI.mp hy];exact hi x hx]
 .rcases qAr.mp hx with hx|hx
  .rcases g.of x hx with⟨a,ha,e⟩|⟨b,hb,e⟩
   .exact .inl #[a,(),e]
   .exact .inr #[b,(),e]
  .exact .inl #[i,(),qAI.mp hx]
 .by_cases e:k=i
  .subst e;exact qAy _ (qAI.mpr rfl)
  .exact qAQ _ (g.a k ())
 .by_cases e:k<p
  .exact qAQ _ (g.b k e)
  .rcases hpq with z|⟨z,_,e2⟩
   .omega
   .have:k=p:=()
    subst this
    rw[e2]
    exact qAy _ (qAI.mpr rfl)
 .rcases qAr.mp hx with hx|hx
  .exact g.lt x hx k () k2
  .rw[qAI.mp hx];exact hb k k1 k2
 .rw[qAw]
  have:=g.len
  simp
  omega
theorem LR {ts:List Rat}{i:Nat}(h:i<ts.length):T ts i=ts[i]:=by
 unfold T
 rw[qAg,qAb h]
 rfl
theorem Su {ts:List Rat}{x:Rat}(h:x∈ts):∃i,i<ts.length/\T ts i=x:=by
 obtain⟨i,hi,e⟩:=qBF.mp h
 exact#[i,hi,by rw[LR hi];exact e]
def rst (ds:Cs)(p:Nat):List Rat:=(ds.drop p).map (·.1)
theorem Gw {ds:Cs}{p j:Nat}(h:p+j<ds.length):(rst ds p)[j]? = some (tt ds (p+j)):=by
 unfold rst
 rw[qAc,qBa,qAb h]
 unfold tt
 rw[qAg,qAb h]
 rfl
theorem Nk {ds:Cs}{p:Nat}{x:Rat}(h:x∈rst ds p):∃k,p<=k/\k<ds.length/\x=tt ds k:=by
 obtain⟨j,hj,e⟩:=qBF.mp h
 have hj':p+j<ds.length:=by unfold rst at hj;rw[qAa,qAL] at hj;omega
 have:=Gw hj'
 rw[qAb hj,e] at this
 exact#[p+j,(),hj',qAn this]
theorem R8 {ds:Cs}{p k:Nat}(h:p<=k) (hk:k<ds.length):tt ds k∈rst ds p:=by
 have:=Gw (ds:=ds) (p:=p) (j:=k-p) ()
 rw[show p+(k-p)=k from ()] at this
 exact qAK this
theorem WJ {cs ds:Cs}{p:Nat}{ts:List Rat}(o:Ord cs) (q:Ord ds) (g:Mrg cs ds cs.length p ts) (hp:p<=ds.length):Tms cs ds (ts++rst ds p):=by
 have inc:(ts++rst ds p).Pairwise (· < ·):=by
  rw[qCk]
  refine#[g.inc,?_,fun x hx y hy=>?_]
  .rw[qCz]
   intro i j hi hj hij
   have lr:(rst ds p).length=ds.length-p:=by unfold rst;rw[qAa,qAL]
   have e1:=Gw (ds:=ds) (p:=p) (j:=i) ()
   have e2:=Gw (ds:=ds) (p:=p) (j:=j) ()
   rw[qAb hi] at e1
   rw[qAb hj] at e2
   rw[qAn e1,qAn e2]
   exact JT q.up () ()
  .obtain⟨k,k1,k2,e⟩:=Nk hy
   rw[e]
   exact g.lt x hx k k1 k2
 have z:tt cs 0∈ts++rst ds p:=qAQ _ (g.a 0 o.ne)
 have ne:0<(ts++rst ds p).length:=qB9 z
 have of:∀x∈ts++rst ds p,(∃k,k<cs.length/\x=tt cs k)\/∃k,k<ds.length/\x=tt ds k:=fun x hx=>by
  rcases qAr.mp hx with hx|hx
  .rcases g.of x hx with h|⟨b,hb,e⟩
   .exact .inl h
   .exact .inr #[b,(),e]
  .obtain⟨k,_,k2,e⟩:=Nk hx
   exact .inr #[k,k2,e]
 have up:∀i,i+1<(ts++rst ds p).length->T (ts++rst ds p) i<T (ts++rst ds p) (i+1):=fun i hi=>by
  rw[LR (),LR hi]
  exact qCz.mp inc i (i+1) () hi ()
 refine#[ne,?_,up,fun k hk=>Su (qAQ _ (g.a k hk)),fun k hk=>?_,fun i hi=>?_]
 .obtain⟨i,hi,e⟩:=Su z
  rw[o.t0] at e
  have h1:=GR up (i:=0) (j:=i) () hi
  rw[e] at h1
  have nn:0<=T (ts++rst ds p) 0:=by
   rw[LR ne]
   rcases of _ (qA6 ne) with⟨k,hk,ek⟩|⟨k,hk,ek⟩
   .rw[ek];have:=AK o.up (i:=0) (j:=k) () hk;rw[o.t0] at this;exact this
   .rw[ek];have:=AK q.up (i:=0) (j:=k) () hk;rw[q.t0] at this;exact this
  grind
 .by_cases c:k<p
  .exact Su (qAQ _ (g.b k c))
  .exact Su (qAy _ (R8 () hk))
 .rw[LR hi]
  exact of _ (qA6 hi)
theorem J3 {ds:Cs}{p:Int}(k:Nat) (hp:p=(k:Int)) (h:k<ds.length):atI ((rst ds 0).map qd) p=some (qd (tt ds k)):=by
 subst hp
 have lr:(rst ds 0).length=ds.length:=by unfold rst;rw[qAa,qAL];omega
 rw[atI_nat (by rw[qAa,lr];exact h),qAc]
 have:=Gw (ds:=ds) (p:=0) (j:=k) ()
 rw[this,Nat.zero_add]
 rfl
theorem DH (ds:Cs)(p:Nat):(rst ds p).length=ds.length-p:=by unfold rst;rw[qAa,qAL]
theorem RY {ds:Cs}{p:Nat}(h:p<=ds.length):Eh ((rst ds 0).map qd) (some (p:Int)) none=(rst ds p).map qd:=by
 unfold Eh
 have lr:((rst ds 0).map qd).length=ds.length:=by rw[qAa,DH];omega
 rw[lr,HT.sIx_nat,HT.sIx_none,qBO h]
 rw[qAX (by rw[qAL,lr];omega),<-qBY]
 congr 1
 unfold rst
 rw[<-qBY,List.drop_drop,Nat.zero_add]
def rw3 (cs:Cs)(m:Rat)(ds:Cs)(k:Rat)(t:Rat):D:=.tup [qd t,qd (val cs m t),qd (val ds k t)]
def gcs (cs:Cs)(m:Rat)(ds:Cs)(k:Rat)(ts:List Rat):Cs:=ts.map fun t=>(t,gap cs m ds k t)
theorem FZ {cs:Cs}{m:Rat}{ds:Cs}{k:Rat}{ts:List Rat}:(gcs cs m ds k ts).length=ts.length:=by unfold gcs;rw[qAa]
theorem C0 {cs:Cs}{m:Rat}{ds:Cs}{k:Rat}{ts:List Rat}{i:Nat}(h:i<ts.length):tt (gcs cs m ds k ts) i=T ts i/\vv (gcs cs m ds k ts) i=gap cs m ds k (T ts i):=by
 have e:(gcs cs m ds k ts).getD i (0,0)=(T ts i,gap cs m ds k (T ts i)):=by
  unfold gcs
  rw[qAg,qAc,qAb h,LR h]
  rfl
 unfold tt vv
 rw[e]
 exact#[rfl,rfl]
theorem NG {ts:List Rat}{i:Nat}{t:Rat}(h:ts[i]? = some t):i<ts.length/\T ts i=t:=by
 obtain⟨h1,h2⟩:=qAe.mp h
 exact#[h1,by rw[LR h1];exact h2]
theorem BN {α:Type}{f:α->D}{xs:List α}{i:Nat}{x:D}(h:(xs.map f)[i]? = some x):∃a,xs[i]? = some a/\x=f a:=by
 rw[qAc] at h
 cases e:xs[i]? with
 |none=>rw[e] at h;cases h
 |some a=>rw[e] at h;exact#[a,rfl,(qAn h).symm]
theorem EE {α:Type}(xs:List α) (f:α->D):(xs.map fun a=>some (f a)).filterMap id=xs.map f:=by
 rw[qBy]
 exact congrFun (qCe (f:=f)) _
theorem VC {n:Nat}{a b:Int}(hb:0<b) (h1:a.natAbs<2^n) (h2:b.natAbs<2^n):Wq n a b (Rat.divInt a b):=by
 refine#[hb,?_,h1,h2]
 rw[qAG]
 have:(b:Rat)≠0:=by
  intro z
  have:b=0:=by exact_mod_cast z
  omega
 grind
def mx (a b:Rat):Rat:=if a<b then b else a
theorem VV (a b:Rat):a<=mx a b/\b<=mx a b/\(mx a b=a\/mx a b=b):=by
 unfold mx
 split<;>grind
theorem Mo {cs ds:Cs}{ts:List Rat}{m k:Rat}(o:Ord cs) (q:Ord ds) (t:Tms cs ds ts){i:Nat}(hi:i<ts.length) :
 (∀x,T ts i<=x->(i+1<ts.length->x<=T ts (i+1))->gap cs m ds k x=gap cs m ds k (T ts i)+slp (gcs cs m ds k ts) (m-k) i*(x-T ts i)) /\
  slp (gcs cs m ds k ts) (m-k) i=slp cs m (plc cs (T ts i) cs.length)-slp ds k (plc ds (T ts i) ds.length):=by
 have main:∀x,T ts i<=x->(i+1<ts.length->x<=T ts (i+1))->gap cs m ds k x=gap cs m ds k (T ts i)+(slp cs m (plc cs (T ts i) cs.length)-slp ds k (plc ds (T ts i) ds.length))*(x-T ts i):=fun x h1 h2=>by
  unfold gap
  rw[HU (m:=m) o t hi h1 h2,HU (m:=k) q t.swap hi h1 h2]
  grind
 have e:slp (gcs cs m ds k ts) (m-k) i=slp cs m (plc cs (T ts i) cs.length)-slp ds k (plc ds (T ts i) ds.length):=by
  by_cases c:i+1<ts.length
  .rw[B7 (by rw[FZ];exact c),(C0 hi).1,(C0 hi).2,(C0 c).1,(C0 c).2]
   have u:=t.up i c
   have g:=main (T ts (i+1)) (qAk u) (fun _=>qAd)
   exact Lz ⋯ ⋯
  .rw[Az (by rw[FZ];exact c)]
   have e:i=ts.length-1:=()
   rw[e,H4 o t,H4 q t.swap]
 exact#[fun x h1 h2=>by rw[e];exact main x h1 h2,e]
theorem Pl {f:Rat->Rat}{a b v p n s:Rat}(h:∀x,p<=x->x<=n->f x=a+b*x) (hp:f p<=v) (hn:f n<=v) (h1:p<=s) (h2:s<=n):f s<=v:=by
 have e1:=h p qAd (qAm h1 h2)
 have e2:=h n (qAm h1 h2) qAd
 have e3:=h s h1 h2
 by_cases b0:0<=b
 .have:=qAi b0 (show 0<=n-s from ⋯)
  grind
 .have:=qAi (show 0<=-b from ⋯) (show 0<=s-p from ⋯)
  grind
theorem Bm {cs:Cs}{k:Nat}(h:k<cs.length):tt cs k=cs[k].1/\vv cs k=cs[k].2:=by
 unfold tt vv
 rw[qAg,qAb h]
 exact#[rfl,rfl]
theorem UW {cs ds:Cs}{ts:List Rat}{m k v:Rat}(o:Ord cs) (q:Ord ds) (t:Tms cs ds ts) (h:∀i,i<ts.length->gap cs m ds k (T ts i)<=v) (hl:m-k<=0){x:Rat}(x0:0<=x):gap cs m ds k x<=v:=by
 obtain⟨i,hi,h1,h2⟩:=MW t.ne t.t0 x0
 have lin:=Mo (m:=m) (k:=k) o q t hi
 by_cases c:i+1<ts.length
 .refine Pl (p:=T ts i) (n:=T ts (i+1)) (a:=gap cs m ds k (T ts i)-slp (gcs cs m ds k ts) (m-k) i*T ts i) (b:=slp (gcs cs m ds k ts) (m-k) i) (fun x x1 x2=>?_) (h i hi) (h _ c) h1 (h2 c)
  rw[lin.1 x x1 (fun _=>x2)]
  grind
 .have s:slp (gcs cs m ds k ts) (m-k) i=m-k:=Az (by rw[FZ];exact c)
  rw[lin.1 x h1 h2,s]
  have a:=h i hi
  have b:=qAi (show 0<=-(m-k) from ⋯) (show 0<=x-T ts i from ⋯)
  grind
structure Tal (cs:Cs)(m:Rat)(ds:Cs)(k v:Rat):Prop where
 nn:0<=v
 le:∀t,0<=t->gap cs m ds k t<=v
 at_:v=0\/∃c∈cs++ds,gap cs m ds k c.1=v
theorem Ta {cs ds:Cs}{ts:List Rat}{m k v:Rat}(o:Ord cs) (q:Ord ds) (t:Tms cs ds ts) (h:∀i,i<ts.length->gap cs m ds k (T ts i)<=v) (hl:m-k<=0) (v0:0<=v) (ha:v=0\/∃i,i<ts.length/\gap cs m ds k (T ts i)=v):Tal cs m ds k v:=by
 refine#[v0,fun x x0=>UW o q t h hl x0,?_]
 rcases ha with e|⟨i,hi,e⟩
 .exact .inl e
 .refine .inr ?_
  rcases t.of i hi with⟨j,hj,ej⟩|⟨j,hj,ej⟩
  .exact#[cs[j],qAQ _ (qA6 hj),by rw[<-(Bm hj).1,<-ej];exact e]
  .exact#[ds[j],qAy _ (qA6 hj),by rw[<-(Bm hj).1,<-ej];exact e]
theorem Wq.le_iff {k n:Nat}{a b c d:Int}{p q:Rat}(h:Wq k a b p) (g:Wq n c d q):a*d<=c*b ↔ p<=q:=by
 have:=g.lt_iff h
 constructor
 .intro z
  exact qAz.mp (fun y=>absurd (this.mpr y) ())
 .intro z
  exact Int.not_lt.mp (fun y=>absurd (this.mp y) (qAz.mpr z))
theorem Sl {cs:Cs}(h:1<cs.length):Eh (cs.map cd) none (some (-1))=(cs.take (cs.length-1)).map cd/\¬(HT.sIx (cs.map cd).length 0 none=0/\HT.sIx (cs.map cd).length (cs.map cd).length (some (-1))=(cs.map cd).length):=by
 have e:HT.sIx (cs.map cd).length (cs.map cd).length (some (-1))=cs.length-1:=by
  unfold HT.sIx
  rw[qAa]
  simp
  omega
 refine#[?_,fun z=>?_]
 .unfold Eh
  rw[e]
  show((cs.map cd).drop 0).take (cs.length-1-0)=_
  rw[qCP,Nat.sub_zero,qCV]
 .rw[e] at z
  have:=z.2
  rw[qAa] at this
  omega
structure Chk (cs:Cs)(m:Rat)(ds:Cs)(k d:Rat):Prop where
 one:∀c∈cs,c.2<=val ds k (c.1+d)
 two:∀c∈ds,0<=c.1-d->val cs m (c.1-d)<=c.2
theorem FI {cs:Cs}{m:Rat}(o:Ord cs){c:Rat×Rat}(h:c∈cs):val cs m c.1=c.2/\0<=c.1/\c.2<=vv cs (cs.length-1):=by
 obtain⟨i,hi,rfl⟩:=qBF.mp h
 have e:=A7 (m:=m) o hi
 have t:=AK o.up (i:=0) (j:=i) () hi
 rw[o.t0] at t
 rw[(Bm hi).1,(Bm hi).2] at e
 rw[(Bm hi).1] at t
 refine#[e,t,?_]
 rw[<-(Bm hi).2]
 have mono:∀j,i<=j->j<cs.length->vv cs i<=vv cs j:=by
  intro j
  induction j with
  |zero=>intro h1 _;rw[show i=0 from ()];exact qAd
  |succ j ih =>
   intro h1 h2
   by_cases z:i<=j
   .exact qAm (ih z ()) (o.vu j h2)
   .rw[show i=j+1 from ()];exact qAd
 exact mono _ () ()
theorem Kh {cs ds:Cs}{m k d t:Rat}(o:Ord cs) (q:Ord ds) (mk:m<=k) (d0:0<=d) (h:Chk cs m ds k d) (t0:0<=t):val cs m t<=val ds k (t+d):=by
 have oi:=D6 o t0
 have oj:=D6 q (show 0<=t+d from ⋯)
 generalize plc cs t cs.length=i at oi
 generalize plc ds (t+d) ds.length=j at oj
 have c0:∀i,i<cs.length->0<=tt cs i/\vv cs i<=val ds k (tt cs i+d)/\val cs m (tt cs i)=vv cs i:=fun i hi=>by
  have:=AK o.up (i:=0) (j:=i) () hi
  rw[o.t0] at this
  have a:=h.one cs[i] (qA6 hi)
  rw[<-(Bm hi).1,<-(Bm hi).2] at a
  exact#[this,a,A7 o hi]
 have d1:∀j,j<ds.length->0<=tt ds j-d->val cs m (tt ds j-d)<=vv ds j/\val ds k (tt ds j-d+d)=vv ds j:=fun j hj z=>by
  have a:=h.two ds[j] (qA6 hj)
  rw[<-(Bm hj).1,<-(Bm hj).2] at a
  exact#[a z,by rw[show tt ds j-d+d=tt ds j from ⋯];exact A7 q hj]
 have P:∃p,tt cs i<=p/\tt ds j<=p+d/\p<=t/\val cs m p<=val ds k (p+d):=by
  have a:=c0 i oi.lt
  have lo:=oj.lo
  by_cases c:tt ds j<=tt cs i+d
  .exact#[tt cs i,qAd,c,oi.lo,by rw[a.2.2];exact a.2.1]
  .have b:=d1 j oj.lt ⋯
   exact#[tt ds j-d,⋯,⋯,⋯,by rw[b.2];exact b.1]
 obtain⟨p,p1,p2,p3,p4⟩:=P
 have lin:∀x,p<=x->(i+1<cs.length->x<=tt cs (i+1))->(j+1<ds.length->x+d<=tt ds (j+1))->val cs m x-val ds k (x+d)=(vv cs i-slp cs m i*tt cs i-(vv ds j+slp ds k j*(d-tt ds j)))+(slp cs m i-slp ds k j)*x:=fun x x1 x2 x3=>by
  rw[Bn o.up (k:=i) #[oi.lt,⋯,x2],Bn q.up (k:=j) #[oj.lt,⋯,x3]]
  grind
 have fin:∀n,t<=n->(i+1<cs.length->n<=tt cs (i+1))->(j+1<ds.length->n+d<=tt ds (j+1))->val cs m n<=val ds k (n+d)->val cs m t<=val ds k (t+d):=fun n n1 n2 n3 n4=>by
  have:=Pl (f:=fun x=>val cs m x-val ds k (x+d)) (v:=0) (p:=p) (n:=n) (s:=t) (fun x x1 x2=>lin x x1 (fun z=>qAm x2 (n2 z)) (fun z=>by have:=n3 z;grind)) (by show val cs m p-val ds k (p+d)<=0;grind) (by show val cs m n-val ds k (n+d)<=0;grind) p3 n1
  have:val cs m t-val ds k (t+d)<=0:=this
  grind
 by_cases ci:i+1<cs.length
 .have a:=c0 (i+1) ci
  by_cases cj:j+1<ds.length
  .by_cases c:tt cs (i+1)+d<=tt ds (j+1)
   .exact fin (tt cs (i+1)) (oi.hi ci) (fun _=>qAd) (fun _=>c) (by rw[a.2.2];exact a.2.1)
   .have hj:=oj.hi cj
    have b:=d1 (j+1) cj ⋯
    exact fin (tt ds (j+1)-d) ⋯ (fun _=>⋯) (fun _=>⋯) (by rw[b.2];exact b.1)
  .exact fin (tt cs (i+1)) (oi.hi ci) (fun _=>qAd) (fun z=>absurd z cj) (by rw[a.2.2];exact a.2.1)
 .by_cases cj:j+1<ds.length
  .have hj:=oj.hi cj
   have b:=d1 (j+1) cj ⋯
   exact fin (tt ds (j+1)-d) ⋯ (fun z=>absurd z ci) (fun _=>⋯) (by rw[b.2];exact b.1)
  .have e1:=lin t p3 (fun z=>absurd z ci) (fun z=>absurd z cj)
   have e2:=lin p qAd (fun z=>absurd z ci) (fun z=>absurd z cj)
   rw[Az ci,Az cj] at e1 e2
   have:=qAi (show 0<=k-m from ⋯) (show 0<=t-p from ⋯)
   grind
def btw:Option Rat->Option Rat->Rat
 |some x,some y=>y-x
 |_,_=>0
theorem UX {cs ds:Cs}{m k h t1 t2 d:Rat}(a:Rch cs m h (some t1)) (b:Rch ds k h (some t2)) (d0:0<=d) (lt:d<t2-t1):¬∀t,0<=t->val cs m t<=val ds k (t+d):=fun z=>by
 obtain⟨a0,a1,_⟩:=a
 have x:=b.2.2 (t1+d) ⋯ ⋯
 have y:=z t1 a0
 rcases a1 with e|⟨e,e'⟩
 .grind
 .subst e;grind
theorem TF {cs ds:Cs}{m k h t1 t2 d:Rat}(a:Psd cs m h (some t1)) (b:Psd ds k h (some t2)) (lt:d<t2-t1):¬∀t,0<=t->val cs m t<=val ds k (t+d):=fun z=>by
 obtain⟨a0,_,a2⟩:=a
 have x:=a2 (t2-d) ⋯
 have y:=z (t2-d) ⋯
 rw[show t2-d+d=t2 from ⋯,b.2.1] at y
 grind
theorem PQ {ds:Cs}{k h:Rat}(r:Cg ds k) (b:∀x,0<=x->val ds k x<=h):k=0:=by
 have n:=r.o.ne
 by_cases z:k=0
 .exact z
 .have k0:0<k:=qBB r.m0 (fun e=>z e.symm)
  have t0:=AK r.o.up (i:=0) (j:=ds.length-1) () ()
  rw[r.o.t0] at t0
  have e:=A7 (m:=k) r.o (show ds.length-1<ds.length from ())
  have b1:=b _ t0
  rw[e] at b1
  have dn:=NN (show 0<=h-vv ds (ds.length-1) from ⋯) k0
  have b2:=b (tt ds (ds.length-1)+(h-vv ds (ds.length-1))/k+1) ⋯
  rw[Cq n ⋯] at b2
  generalize tt ds (ds.length-1)=X at *
  generalize vv ds (ds.length-1)=Y at *
  have:k*(X+(h-Y)/k+1-X)=h-Y+k:=⋯
  grind
theorem MC {ds:Cs}{k h:Rat}(r:Cg ds k):(Rch ds k h none->k=0/\vv ds (ds.length-1)<h)/\∀t,Rch ds k h (some t)->¬(k=0/\vv ds (ds.length-1)<h):=by
 have n:=r.o.ne
 refine#[fun a=>#[PQ (h:=h) r (fun x x0=>qAk (a x x0)),?_],fun t a z=>?_]
 .have t0:=AK r.o.up (i:=0) (j:=ds.length-1) () ()
  rw[r.o.t0] at t0
  have:=a _ t0
  rw[A7 r.o (show ds.length-1<ds.length from ())] at this
  exact this
 .have f:=GI r z.1 a.1
  rcases a.2.1 with e|⟨e,e'⟩
  .grind
  .rw[e] at f;grind
def Hts (cs:Cs)(m:Rat)(ds:Cs)(k d:Rat):Prop:=∀c∈cs++ds,∃rf rg pf pg,Rch cs m c.2 rf/\Rch ds k c.2 rg/\Psd cs m c.2 pf/\Psd ds k c.2 pg/\btw rf rg<=d/\btw pf pg<=d
theorem WD {cs ds:Cs}{m k d:Rat}(r:Cg cs m) (s:Cg ds k) (mk:m<=k) (d0:0<=d) (ne:¬(k=0/\vv ds (ds.length-1)<vv cs (cs.length-1))) (H:Hts cs m ds k d):Chk cs m ds k d:=by
 have rg_some:∀{h:Rat}{rg:Option Rat},h<=vv cs (cs.length-1)->Rch ds k h rg->∃t,rg=some t:=fun {h rg} hl a=>by
  cases rg with
  |some t=>exact#[t,rfl]
  |none=>have:=(MC s).1 a;exact absurd #[this.1,⋯] ne
 have ge:∀{h t:Rat},Rch ds k h (some t)->h<=val ds k t:=fun {h t} a=>by
  rcases a.2.1 with e|⟨e,e'⟩
  .rw[e];exact qAd
  .rw[e];exact e'
 refine#[fun c hc=>?_,fun c hc z=>?_]
 .obtain⟨rf,rg,pf,pg,a,b,_,_,le,_⟩:=H c (qAQ _ hc)
  obtain⟨ev,c0,cl⟩:=FI (m:=m) r.o hc
  obtain⟨t2,rfl⟩:=rg_some cl b
  cases rf with
  |none=>have:=a c.1 c0;grind
  |some t1 =>
   have le:t2-t1<=d:=le
   have t1c:t1<=c.1:=qAz.mp (fun y=>by have:=a.2.2 c.1 c0 y;grind)
   exact qAm (ge b) (AQ s b.1 ⋯)
 .obtain⟨rf,rg,pf,pg,_,_,a,b,_,le⟩:=H c (qAy _ hc)
  obtain⟨ev,c0,cl⟩:=FI (m:=k) s.o hc
  cases pg with
  |none =>
   rcases b with b|b
   .have:=AQ s (x:=0) (y:=c.1) qAd c0
    grind
   .have k0:=PQ s b
    have m0:m=0:=by have:=r.m0;grind
    have f:=GI r m0 z
    have n:¬vv ds (ds.length-1)<vv cs (cs.length-1):=fun y=>ne #[k0,y]
    have t0:=AK s.o.up (i:=0) (j:=ds.length-1) () (by have:=s.o.ne;omega)
    rw[s.o.t0] at t0
    have e:=b _ t0
    rw[A7 s.o (show ds.length-1<ds.length by have:=s.o.ne;omega)] at e
    grind
  |some p2 =>
   have cp:c.1<=p2:=qAz.mp (fun y=>by have:=b.2.2 c.1 y;grind)
   cases pf with
   |some p1 =>
    have le:p2-p1<=d:=le
    have:=AQ r z (show c.1-d<=p1 from ⋯)
    rw[a.2.1] at this
    exact this
   |none =>
    rcases a with a|a
    .have hm:cs[0]'r.o.ne∈cs++ds:=qAQ _ (qA6 _)
     have e0:(cs[0]'r.o.ne).2=val cs m 0:=by rw[BZ r.o,(Bm r.o.ne).2]
     obtain⟨rf,rg,_,_,a',b',_,_,le',_⟩:=H _ hm
     rw[e0] at a' b'
     have l0:val cs m 0<=vv cs (cs.length-1):=by rw[<-e0];exact(FI (m:=m) r.o (qA6 _)).2.2
     obtain⟨t2,rfl⟩:=rg_some l0 b'
     cases rf with
     |none=>have:=a' 0 qAd;grind
     |some t1 =>
      have le':t2-t1<=d:=le'
      have t10:t1<=0:=qAz.mp (fun y=>by have:=a'.2.2 0 qAd y;grind)
      have g:=ge b'
      have:c.1<t2:=by
       by_cases y:c.1<t2
       .exact y
       .have:=AQ s b'.1 (show t2<=c.1 from ⋯)
        grind
      grind
    .exact a _ z
structure Wid (cs:Cs)(m:Rat)(ds:Cs)(k d:Rat):Prop where
 nn:0<=d
 ok:Chk cs m ds k d
 least:∀d',0<=d'->d'<d->¬Chk cs m ds k d'
theorem Wz {cs ds:Cs}{m k d:Rat}(r:Cg cs m) (s:Cg ds k) (mk:m<=k) (d0:0<=d) (ne:¬(k=0/\vv ds (ds.length-1)<vv cs (cs.length-1))) (H:Hts cs m ds k d)
 (at_:d=0\/∃h rf rg,d=btw rf rg/\((Rch cs m h rf/\Rch ds k h rg)\/(Psd cs m h rf/\Psd ds k h rg))):Wid cs m ds k d:=by
 refine#[d0,WD r s mk d0 ne H,fun d' d0' lt c=>?_]
 have all:=fun t t0=>Kh (t:=t) r.o s.o mk d0' c t0
 rcases at_ with e|⟨h,rf,rg,e,w⟩
 .grind
 .cases rf with
  |none=>rw[show btw none rg=0 by cases rg<;>rfl] at e;grind
  |some t1 =>
   cases rg with
   |none=>have e:d=0:=e;grind
   |some t2 =>
    have e:d=t2-t1:=e
    rcases w with⟨a,b⟩|⟨a,b⟩
    .exact UX a b d0' ⋯ all
    .exact TF a b ⋯ all
theorem Wl {cs:Cs}{m:Rat}:∀k,k<cs.length->∀i,i<(kp cs m k).length->∃j,j<cs.length/\tt (kp cs m k) i=tt cs j
 |0,hk=>fun i hi=>by
  have:i=0:=by simp[kp] at hi;omega
  subst this
  exact#[0,hk,rfl]
 |k+1,hk=>by
  have ih:=Wl (cs:=cs) (m:=m) k ()
  by_cases e:slp cs m k=slp cs m (k+1)
  .rw[Jc e];exact ih
  .rw[Qs e]
   intro i hi
   by_cases c:i<(kp cs m k).length
   .rw[Ot c];exact ih i c
   .rw[BM] at hi
    rw[show i=(kp cs m k).length from (),Q3]
    exact#[k+1,hk,rfl]
theorem Yh {α:Type}{f:α->D}{xs:List α}{h:Nat}(hh:h<=xs.length):Eh (xs.map f) none (some (h:Int))=(xs.take h).map f:=by
 unfold Eh
 rw[HT.sIx_nat,qAa,qBO hh]
 show((xs.map f).drop 0).take (h-0)=_
 rw[qCP,Nat.sub_zero,qCV]
theorem Qc {α:Type}{f:α->D}{xs:List α}{h:Nat}(hh:h<=xs.length):Eh (xs.map f) (some (h:Int)) none=(xs.drop h).map f:=by
 unfold Eh
 rw[HT.sIx_nat,qAa,qBO hh]
 show((xs.map f).drop h).take (xs.length-h)=_
 rw[<-qBY,qAX (by rw[qAa,qAL];exact qAf _)]
end CH
namespace L3
open PySem PySem.Spec PyProof.Rows L2
section
variable {X:Cx}
end
end L3
namespace CH
open PySem L2 L3
def Za (cs:Cs)(m:Rat)(ds:Cs)(k:Rat):Option Rat->Prop
 |none=>k<m
 |some v=>¬k<m/\Tal cs m ds k v
def YC (cs:Cs)(m:Rat)(ds:Cs)(k:Rat):Prop:=k<m\/(k=0/\vv ds (ds.length-1)<vv cs (cs.length-1))
def Zf (cs:Cs)(m:Rat)(ds:Cs)(k:Rat):Option Rat->Prop
 |none=>YC cs m ds k
 |some v=>¬YC cs m ds k/\Wid cs m ds k v
def mn (a b:Rat):Rat:=if b<a then b else a
structure LS (a b c:Nat)(cs:Cs)(m:Rat):Prop where
 tm:∀i,i<cs.length->Sz a (tt cs i)
 sl:∀t,0<=t->Sz b (sat cs m t)
 ic:∀t,0<=t->Sz c (val cs m t-sat cs m t*t)
theorem LS.va {a b c n:Nat}{cs:Cs}{m t:Rat}(z:LS a b c cs m) (t0:0<=t) (ht:Sz n t):Sz (b+n+c+1) (val cs m t):=by
 have h:=(z.ic t t0).add ((z.sl t t0).mul ht)
 rw[show val cs m t-sat cs m t*t+sat cs m t*t=val cs m t from ⋯] at h
 exact h.mono ()
theorem LS.m {a b c:Nat}{cs:Cs}{m:Rat}(z:LS a b c cs m) (o:Ord cs):Sz b m:=by
 have n:=o.ne
 have t0:=AK o.up (i:=0) (j:=cs.length-1) () ()
 rw[o.t0] at t0
 have:=z.sl _ t0
 rw[MS n qAd] at this
 exact this
theorem LS.szk {a b c n:Nat}{cs:Cs}{m:Rat}(z:LS a b c cs m) (o:Ord cs) (hl:cs.length<=100000) (h:a+b+c+1<=n):SzK n cs m:=by
 refine#[hl,fun i hi=>?_,(z.m o).mono ()]
 have t0:=AK o.up (i:=0) (j:=i) () hi
 rw[o.t0] at t0
 have:=z.va t0 (z.tm i hi)
 rw[A7 o hi] at this
 exact#[(z.tm i hi).mono (),this.mono ()]
theorem LS.mono {a b c a' b' c':Nat}{cs:Cs}{m:Rat}(z:LS a b c cs m) (h1:a<=a') (h2:b<=b') (h3:c<=c'):LS a' b' c' cs m :=
 #[fun i hi=>(z.tm i hi).mono h1,fun t t0=>(z.sl t t0).mono h2,fun t t0=>(z.ic t t0).mono h3]
theorem LS.kept {a b c:Nat}{cs:Cs}{m:Rat}(z:LS a b c cs m) (o:Ord cs):LS a b c (kp cs m (cs.length-1)) m:=by
 have n:=o.ne
 refine#[fun i hi=>?_,fun t t0=>by rw[(HF o t).2];exact z.sl t t0,fun t t0=>by rw[(HF o t).1,(HF o t).2];exact z.ic t t0]
 obtain⟨j,hj,e⟩:=Wl (cs:=cs) (m:=m) _ () i hi
 rw[e];exact z.tm j hj
def Til (nx:Option Rat)(x:Rat):Prop:=∀u,nx=some u->x<=u
structure Pc (cs:Cs)(m:Rat)(ds:Cs)(k:Rat)(a:Rat)(nx:Option Rat):Prop where
 f:∀x,a<=x->Til nx x->val cs m x=val cs m a+sat cs m a*(x-a)
 g:∀x,a<=x->Til nx x->val ds k x=val ds k a+sat ds k a*(x-a)
 s:(∀x,a<=x->Til nx x->val cs m x<=val ds k x)\/(∀x,a<=x->Til nx x->val ds k x<=val cs m x)
 e:nx=none->sat cs m a=m/\sat ds k a=k
def nxU (us:List Rat)(nx:Option Rat)(i:Nat):Option Rat:=if i+1<us.length then some (T us (i+1)) else nx
structure Cx (cs:Cs)(m:Rat)(ds:Cs)(k:Rat)(us:List Rat)(nx:Option Rat):Prop where
 ne:0<us.length
 t0:T us 0=0
 up:∀i,i+1<us.length->T us i<T us (i+1)
 pc:∀i,i<us.length->Pc cs m ds k (T us i) (nxU us nx i)
theorem T_l {us:List Rat}{a:Rat}{i:Nat}(h:i<us.length):T (us++[a]) i=T us i:=by
 unfold T
 rw[qAg,qAp h,qAg]
theorem T_r {us:List Rat}{a:Rat}:T (us++[a]) us.length=a:=by
 unfold T
 rw[qAg,qAu (qAf _),qCl]
 rfl
theorem Cx.one {cs ds:Cs}{m k:Rat}{nx:Option Rat}(h:Pc cs m ds k 0 nx):Cx cs m ds k [0] nx:=by
 refine#[Nat.one_pos,rfl,fun i hi=>?_,fun i hi=>?_]
 .have:i+1<1:=hi
  omega
 .have:i=0:=by have:i<1:=hi;omega
  subst this
  exact h
theorem Cx.snoc {cs ds:Cs}{m k a:Rat}{us:List Rat}{nx:Option Rat}(x:Cx cs m ds k us (some a)) (hl:T us (us.length-1)<a) (h:Pc cs m ds k a nx):Cx cs m ds k (us++[a]) nx:=by
 have n:=x.ne
 have ll:(us++[a]).length=us.length+1:=by simp
 refine#[(),by rw[T_l n];exact x.t0,fun i hi=>?_,fun i hi=>?_]
 .by_cases c:i+1<us.length
  .rw[T_l c,T_l ()];exact x.up i c
  .rw[show i+1=us.length from (),T_r,T_l (),show i=us.length-1 from ()]
   exact hl
 .by_cases c:i<us.length
  .have p:=x.pc i c
   rw[T_l c]
   have e:nxU (us++[a]) nx i=nxU us (some a) i:=by
    unfold nxU
    rw[if_pos ()]
    by_cases c2:i+1<us.length
    .rw[if_pos c2,T_l c2]
    .rw[if_neg c2,show i+1=us.length from (),T_r]
   rw[e]
   exact p
  .have e:i=us.length:=()
   subst e
   rw[T_r]
   unfold nxU
   rw[if_neg ()]
   exact h
def Opp (p q:Rat):Prop:=(p<0/\0<q)\/(0<p/\q<0)
instance (p q:Rat):Decidable (Opp p q):=inferInstanceAs (Decidable ((p<0/\0<q)\/(0<p/\q<0)))
theorem U4 {a u y s:Rat}(h:a<u) (n:¬Opp y (y+s*(u-a))):(∀x,a<=x->x<=u->y+s*(x-a)<=0)\/(∀x,a<=x->x<=u->0<=y+s*(x-a)):=by
 have lin:∀x,a<=x->x<=u->(y<=0->y+s*(u-a)<=0->y+s*(x-a)<=0)/\(0<=y->0<=y+s*(u-a)->0<=y+s*(x-a)):=fun x h1 h2=>by
  by_cases b0:0<=s
  .have A:=qAi b0 (show 0<=u-x from ⋯)
   have B:=qAi b0 (show 0<=x-a from ⋯)
   constructor
   .intro p q;grind
   .intro p q;grind
  .have A:=qAi (show 0<=-s from ⋯) (show 0<=u-x from ⋯)
   have B:=qAi (show 0<=-s from ⋯) (show 0<=x-a from ⋯)
   constructor
   .intro p q;grind
   .intro p q;grind
 unfold Opp at n
 by_cases c:y<=0/\y+s*(u-a)<=0
 .exact .inl fun x h1 h2=>(lin x h1 h2).1 c.1 c.2
 .exact .inr fun x h1 h2=>(lin x h1 h2).2 ⋯ ⋯
theorem Rp {a y s:Rat}(n:¬Opp y s):(∀x,a<=x->y+s*(x-a)<=0)\/(∀x,a<=x->0<=y+s*(x-a)):=by
 unfold Opp at n
 by_cases c:y<=0/\s<=0
 .refine .inl fun x h1=>?_
  have A:=qAi (show 0<=-s from ⋯) (show 0<=x-a from ⋯)
  grind
 .refine .inr fun x h1=>?_
  have A:=qAi (show 0<=s from ⋯) (show 0<=x-a from ⋯)
  grind
theorem KT {a y s t:Rat}(h:s≠0) (e:t=a+(0-y)/s) (x:Rat):y+s*(x-a)=s*(x-t):=by
 subst e
 grind
theorem RX {a u y s:Rat}(h:a<u) (o:Opp y (y+s*(u-a))):s≠0/\a<a+(0-y)/s/\a+(0-y)/s<u:=by
 have s0:s≠0:=fun z=>by
  unfold Opp at o
  rw[z] at o
  grind
 have E:=KT (a:=a) (y:=y) (t:=a+(0-y)/s) s0 rfl
 generalize a+(0-y)/s=t at E
 have e1:=E a
 have e2:=E u
 have e3:y=s*(a-t):=by rw[<-e1];grind
 rw[e2] at o
 rw[e3] at o
 clear E e1 e2 e3
 unfold Opp at o
 refine#[s0,?_,?_]
 .refine qA3.mp fun z=>?_
  rcases o with⟨p,q⟩|⟨p,q⟩
  .by_cases b0:0<=s
   .have A:=qAi b0 (show 0<=a-t from ⋯)
    grind
   .have A:=qAi (show 0<=-s from ⋯) (show 0<=u-t from ⋯)
    grind
  .by_cases b0:0<=s
   .have A:=qAi b0 (show 0<=u-t from ⋯)
    grind
   .have A:=qAi (show 0<=-s from ⋯) (show 0<=a-t from ⋯)
    grind
 .refine qA3.mp fun z=>?_
  rcases o with⟨p,q⟩|⟨p,q⟩
  .by_cases b0:0<=s
   .have A:=qAi b0 (show 0<=t-u from ⋯)
    grind
   .have A:=qAi (show 0<=-s from ⋯) (show 0<=t-a from ⋯)
    grind
  .by_cases b0:0<=s
   .have A:=qAi b0 (show 0<=t-a from ⋯)
    grind
   .have A:=qAi (show 0<=-s from ⋯) (show 0<=t-u from ⋯)
    grind
theorem Qv {a y s:Rat}(o:Opp y s):s≠0/\a<a+(0-y)/s:=by
 have s0:s≠0:=fun z=>by
  unfold Opp at o
  rw[z] at o
  grind
 have E:=KT (a:=a) (y:=y) (t:=a+(0-y)/s) s0 rfl
 generalize a+(0-y)/s=t at E
 have e1:=E a
 have e3:y=s*(a-t):=by rw[<-e1];grind
 rw[e3] at o
 clear E e1 e3
 unfold Opp at o
 refine#[s0,qA3.mp fun z=>?_]
 rcases o with⟨p,q⟩|⟨p,q⟩
 .have A:=qAi (show 0<=s from ⋯) (show 0<=a-t from ⋯)
  grind
 .have A:=qAi (show 0<=-s from ⋯) (show 0<=a-t from ⋯)
  grind
theorem Nh {cs ds:Cs}{ts:List Rat}{m:Rat}(o:Ord cs) (t:Tms cs ds ts){i:Nat}(hi:i<ts.length){x:Rat}(h1:T ts i<=x) (h2:i+1<ts.length->x<T ts (i+1)):sat cs m x=sat cs m (T ts i):=by
 have on:=D6 o (OF t hi)
 obtain⟨_,p2,p3⟩:=DG (cs:=cs) (t:=T ts i) (by rw[o.t0];exact OF t hi) cs.length o.ne
 unfold sat
 rw[Hu o.up (k:=plc cs (T ts i) cs.length) (qAm on.lo h1) (fun c=>?_) _ on.lt (qAf _)]
 have lt:=p3 _ (qBU _) c
 obtain⟨j,hj,ej⟩:=t.a _ c
 have ij:i<j:=by
  by_cases z:i<j
  .exact z
  .have:=GR t.up (i:=j) (j:=i) () hi
   rw[ej] at this
   grind
 have:=h2 ()
 have h3:=GR t.up (i:=i+1) (j:=j) () hj
 rw[ej] at h3
 grind
def nxT (ts:List Rat)(i:Nat):Option Rat:=if i+1<ts.length then some (T ts (i+1)) else none
theorem KU {ts:List Rat}{i:Nat}{x:Rat}(h:Til (nxT ts i) x):i+1<ts.length->x<=T ts (i+1):=fun c=>h _ (by unfold nxT;rw[if_pos c])
def G4 (cs:Cs)(m:Rat)(ds:Cs)(k:Rat)(ts:List Rat)(i:Nat):Rat:=if i+1<ts.length then gap cs m ds k (T ts (i+1)) else m-k
theorem Tf {cs ds:Cs}{ts:List Rat}{m k:Rat}(o:Ord cs) (q:Ord ds) (t:Tms cs ds ts){i:Nat}(hi:i<ts.length) :
 (∀x,T ts i<=x->Til (nxT ts i) x->val cs m x=val cs m (T ts i)+sat cs m (T ts i)*(x-T ts i)) /\
 (∀x,T ts i<=x->Til (nxT ts i) x->val ds k x=val ds k (T ts i)+sat ds k (T ts i)*(x-T ts i)) /\
 (nxT ts i=none->sat cs m (T ts i)=m/\sat ds k (T ts i)=k):=by
 refine#[fun x h1 h2=>HU o t hi h1 (KU h2),fun x h1 h2=>HU q t.swap hi h1 (KU h2),fun h=>?_]
 have c:¬i+1<ts.length:=fun c=>by unfold nxT at h;rw[if_pos c] at h;cases h
 have e:i=ts.length-1:=()
 subst e
 exact#[H4 o t,H4 q t.swap]
theorem T2 {cs ds:Cs}{ts:List Rat}{m k:Rat}(o:Ord cs) (q:Ord ds) (t:Tms cs ds ts){i:Nat}(hi:i<ts.length) (n:¬Opp (gap cs m ds k (T ts i)) (G4 cs m ds k ts i)):Pc cs m ds k (T ts i) (nxT ts i):=by
 obtain⟨F,G,E⟩:=Tf (m:=m) (k:=k) o q t hi
 refine#[F,G,?_,E]
 have g:∀x,T ts i<=x->Til (nxT ts i) x->val cs m x-val ds k x=gap cs m ds k (T ts i)+(sat cs m (T ts i)-sat ds k (T ts i))*(x-T ts i):=fun x h1 h2=>by
  rw[F x h1 h2,G x h1 h2]
  unfold gap
  grind
 by_cases c:i+1<ts.length
 .have u:=t.up i c
  have e:=g (T ts (i+1)) (qAk u) (fun v hv=>by unfold nxT at hv;rw[if_pos c] at hv;cases hv;exact qAd)
  unfold G4 at n
  rw[if_pos c] at n
  have e2:gap cs m ds k (T ts (i+1))=gap cs m ds k (T ts i)+(sat cs m (T ts i)-sat ds k (T ts i))*(T ts (i+1)-T ts i):=e
  rw[e2] at n
  rcases U4 u n with h|h
  .exact .inl fun x h1 h2=>by have:=h x h1 (KU h2 c);have:=g x h1 h2;grind
  .exact .inr fun x h1 h2=>by have:=h x h1 (KU h2 c);have:=g x h1 h2;grind
 .unfold G4 at n
  rw[if_neg c] at n
  obtain⟨e1,e2⟩:=E (by unfold nxT;rw[if_neg c])
  rw[e1,e2] at g
  rcases Rp (a:=T ts i) n with h|h
  .exact .inl fun x h1 h2=>by have:=h x h1;have:=g x h1 h2;grind
  .exact .inr fun x h1 h2=>by have:=h x h1;have:=g x h1 h2;grind
theorem Vq {cs ds:Cs}{ts:List Rat}{m k t':Rat}(o:Ord cs) (q:Ord ds) (t:Tms cs ds ts){i:Nat}(hi:i<ts.length) (n:Opp (gap cs m ds k (T ts i)) (G4 cs m ds k ts i)) (et:t'=T ts i+(0-gap cs m ds k (T ts i))/(sat cs m (T ts i)-sat ds k (T ts i))) :
 sat cs m (T ts i)-sat ds k (T ts i)≠0/\T ts i<t'/\(∀u,nxT ts i=some u->t'<u)/\Pc cs m ds k (T ts i) (some t')/\Pc cs m ds k t' (nxT ts i)/\val ds k t'=val cs m t'/\sat cs m t'=sat cs m (T ts i)/\sat ds k t'=sat ds k (T ts i):=by
 obtain⟨F,G,E⟩:=Tf (m:=m) (k:=k) o q t hi
 have g:∀x,T ts i<=x->Til (nxT ts i) x->val cs m x-val ds k x=gap cs m ds k (T ts i)+(sat cs m (T ts i)-sat ds k (T ts i))*(x-T ts i):=fun x h1 h2=>by
  rw[F x h1 h2,G x h1 h2]
  unfold gap
  grind
 have K:sat cs m (T ts i)-sat ds k (T ts i)≠0/\T ts i<t'/\(∀u,nxT ts i=some u->t'<u):=by
  subst et
  by_cases c:i+1<ts.length
  .have u:=t.up i c
   have e:=g (T ts (i+1)) (qAk u) (fun v hv=>by unfold nxT at hv;rw[if_pos c] at hv;cases hv;exact qAd)
   unfold G4 at n
   rw[if_pos c] at n
   have e2:gap cs m ds k (T ts (i+1))=gap cs m ds k (T ts i)+(sat cs m (T ts i)-sat ds k (T ts i))*(T ts (i+1)-T ts i):=e
   rw[e2] at n
   obtain⟨a1,a2,a3⟩:=RX u n
   exact#[a1,a2,fun v hv=>by unfold nxT at hv;rw[if_pos c] at hv;cases hv;exact a3]
  .unfold G4 at n
   rw[if_neg c] at n
   obtain⟨e1,e2⟩:=E (by unfold nxT;rw[if_neg c])
   rw[<-e1,<-e2] at n
   rw[e1,e2] at n ⊢
   obtain⟨a1,a2⟩:=Qv (a:=T ts i) n
   exact#[a1,a2,fun v hv=>by unfold nxT at hv;rw[if_neg c] at hv;cases hv]
 obtain⟨s0,lt,ltn⟩:=K
 have C:=KT s0 et
 have tl:Til (nxT ts i) t':=fun u hu=>qAk (ltn u hu)
 have ti:∀x,Til (some t') x->Til (nxT ts i) x:=fun x hx u hu=>qAm (hx t' rfl) (tl u hu)
 have s1:sat cs m t'=sat cs m (T ts i):=Nh o t hi (qAk lt) (fun c=>ltn _ (by unfold nxT;rw[if_pos c]))
 have s2:sat ds k t'=sat ds k (T ts i):=Nh q t.swap hi (qAk lt) (fun c=>ltn _ (by unfold nxT;rw[if_pos c]))
 have g2:∀x,T ts i<=x->Til (nxT ts i) x->val cs m x-val ds k x=(sat cs m (T ts i)-sat ds k (T ts i))*(x-t'):=fun x h1 h2=>by rw[g x h1 h2,C x]
 have ev:val ds k t'=val cs m t':=by have:=g2 t' (qAk lt) tl;grind
 refine#[s0,lt,ltn,#[fun x h1 h2=>F x h1 (ti x h2),fun x h1 h2=>G x h1 (ti x h2),?_,fun h=>by cases h],#[fun x h1 h2=>?_,fun x h1 h2=>?_,?_,fun h=>by rw[s1,s2];exact E h],ev,s1,s2]
 .by_cases b0:0<=sat cs m (T ts i)-sat ds k (T ts i)
  .refine .inl fun x h1 h2=>?_
   have A:=qAi b0 (show 0<=t'-x by have:=h2 t' rfl;grind)
   have:=g2 x h1 (ti x h2)
   grind
  .refine .inr fun x h1 h2=>?_
   have A:=qAi (show 0<=-(sat cs m (T ts i)-sat ds k (T ts i)) from ⋯) (show 0<=t'-x by have:=h2 t' rfl;grind)
   have:=g2 x h1 (ti x h2)
   grind
 .have a1:=F x (qAm (qAk lt) h1) h2
  have a2:=F t' (qAk lt) tl
  rw[s1]
  grind
 .have a1:=G x (qAm (qAk lt) h1) h2
  have a2:=G t' (qAk lt) tl
  rw[s2]
  grind
 .by_cases b0:0<=sat cs m (T ts i)-sat ds k (T ts i)
  .refine .inr fun x h1 h2=>?_
   have A:=qAi b0 (show 0<=x-t' from ⋯)
   have:=g2 x (qAm (qAk lt) h1) h2
   grind
  .refine .inl fun x h1 h2=>?_
   have A:=qAi (show 0<=-(sat cs m (T ts i)-sat ds k (T ts i)) from ⋯) (show 0<=x-t' from ⋯)
   have:=g2 x (qAm (qAk lt) h1) h2
   grind
structure Qu (op:Rat->Rat->Rat):Prop where
 w:((∀x y,x<=y->op x y=x)/\(∀x y,y<=x->op x y=y))\/((∀x y,x<=y->op x y=y)/\(∀x y,y<=x->op x y=x))
theorem Jh:Qu mn:=by
 refine#[.inl #[fun x y h=>?_,fun x y h=>?_]]
 .unfold mn;rw[if_neg (qAz.mpr h)]
 .unfold mn;split
  .rfl
  .grind
theorem Qu.or {op:Rat->Rat->Rat}(P:Qu op) (x y:Rat):op x y=x\/op x y=y:=by
 rcases P.w with⟨a,b⟩|⟨a,b⟩
 .by_cases c:x<=y
  .exact .inl (a x y c)
  .exact .inr (b x y ⋯)
 .by_cases c:x<=y
  .exact .inr (a x y c)
  .exact .inl (b x y ⋯)
theorem Qu.mono {op:Rat->Rat->Rat}(P:Qu op){x y x' y':Rat}(h1:x<=x') (h2:y<=y'):op x y<=op x' y':=by
 rcases P.w with⟨a,b⟩|⟨a,b⟩
 .by_cases c:x<=y
  .by_cases d:x'<=y'
   .rw[a x y c,a x' y' d];exact h1
   .rw[a x y c,b x' y' ⋯];grind
  .by_cases d:x'<=y'
   .rw[b x y ⋯,a x' y' d];grind
   .rw[b x y ⋯,b x' y' ⋯];exact h2
 .by_cases c:x<=y
  .by_cases d:x'<=y'
   .rw[a x y c,a x' y' d];exact h2
   .rw[a x y c,b x' y' ⋯];grind
  .by_cases d:x'<=y'
   .rw[b x y ⋯,a x' y' d];grind
   .rw[b x y ⋯,b x' y' ⋯];exact h1
theorem IS {f0 g0 m k a:Rat}(h:∀x,a<=x->f0+m*(x-a)<=g0+k*(x-a)):m<=k:=by
 refine qAz.mp fun c=>?_
 have h0:=h a qAd
 have d0:0<m-k:=⋯
 have q0:0<=(g0-f0)/(m-k):=by
  rw[Rat.div_def]
  exact qAi ⋯ (qAk (Rat.inv_pos.mpr d0))
 have:=h (a+(g0-f0)/(m-k)+1) ⋯
 have e:(m-k)*((g0-f0)/(m-k))=g0-f0:=by
  have:m-k≠0:=⋯
  grind
 generalize (g0-f0)/(m-k)=y at *
 grind
theorem Pc.pick {cs ds:Cs}{m k a:Rat}{nx:Option Rat}{op:Rat->Rat->Rat}(h:Pc cs m ds k a nx) (P:Qu op):∃(c:Cs)(n:Rat),((c=cs/\n=m)\/(c=ds/\n=k))/\(∀x,a<=x->Til nx x->op (val cs m x) (val ds k x)=val c n x)/\(∀x,a<=x->Til nx x->val c n x=val c n a+sat c n a*(x-a))/\(nx=none->op m k=n/\sat c n a=n):=by
 have le:nx=none->(∀x,a<=x->Til nx x->val cs m x<=val ds k x)->m<=k:=fun e H=>by
  have tl:∀x,Til nx x:=fun x u hu=>by rw[e] at hu;cases hu
  refine IS (f0:=val cs m a) (g0:=val ds k a) (a:=a) fun x hx=>?_
  have:=H x hx (tl x)
  have f:=h.f x hx (tl x)
  have g:=h.g x hx (tl x)
  rw[(h.e e).1] at f
  rw[(h.e e).2] at g
  grind
 have ge:nx=none->(∀x,a<=x->Til nx x->val ds k x<=val cs m x)->k<=m:=fun e H=>by
  have tl:∀x,Til nx x:=fun x u hu=>by rw[e] at hu;cases hu
  refine IS (f0:=val ds k a) (g0:=val cs m a) (a:=a) fun x hx=>?_
  have:=H x hx (tl x)
  have f:=h.f x hx (tl x)
  have g:=h.g x hx (tl x)
  rw[(h.e e).1] at f
  rw[(h.e e).2] at g
  grind
 rcases P.w with⟨p,q⟩|⟨p,q⟩
 .rcases h.s with s|s
  .exact#[cs,m,.inl #[rfl,rfl],fun x h1 h2=>p _ _ (s x h1 h2),h.f,fun e=>#[p _ _ (le e s),(h.e e).1]]
  .exact#[ds,k,.inr #[rfl,rfl],fun x h1 h2=>q _ _ (s x h1 h2),h.g,fun e=>#[q _ _ (ge e s),(h.e e).2]]
 .rcases h.s with s|s
  .exact#[ds,k,.inr #[rfl,rfl],fun x h1 h2=>p _ _ (s x h1 h2),h.g,fun e=>#[p _ _ (le e s),(h.e e).2]]
  .exact#[cs,m,.inl #[rfl,rfl],fun x h1 h2=>q _ _ (s x h1 h2),h.f,fun e=>#[q _ _ (ge e s),(h.e e).1]]
def ocs (op:Rat->Rat->Rat)(cs:Cs)(m:Rat)(ds:Cs)(k:Rat)(us:List Rat):Cs:=us.map fun t=>(t,op (val cs m t) (val ds k t))
section
variable {op:Rat->Rat->Rat}{cs ds:Cs}{m k:Rat}{us:List Rat}
theorem Cu:(ocs op cs m ds k us).length=us.length:=qAa _
theorem CT {i:Nat}(h:i<us.length):tt (ocs op cs m ds k us) i=T us i/\vv (ocs op cs m ds k us) i=op (val cs m (T us i)) (val ds k (T us i)):=by
 rw[(Bm (show i<(ocs op cs m ds k us).length by rw[Cu];exact h)).1,(Bm (show i<(ocs op cs m ds k us).length by rw[Cu];exact h)).2,LR h]
 unfold ocs
 rw[List.getElem_map]
 exact#[rfl,rfl]
theorem Cx.nn {nx:Option Rat}(x:Cx cs m ds k us nx){i:Nat}(h:i<us.length):0<=T us i:=by
 have:=GR x.up (i:=0) (j:=i) () h
 rw[x.t0] at this
 exact this
theorem Kj (P:Qu op)(r:Cg cs m)(s:Cg ds k)(x:Cx cs m ds k us none):Ord (ocs op cs m ds k us):=by
 have n:=x.ne
 refine#[by rw[Cu];exact n,by rw[(CT n).1];exact x.t0,?_,fun i hi=>?_,fun i hi=>?_]
 .rw[(CT n).2,x.t0,BZ r.o,BZ s.o]
  have:=r.o.v0
  have:=s.o.v0
  rcases P.or (vv cs 0) (vv ds 0) with e|e<;>rw[e]<;>assumption
 .rw[Cu] at hi
  rw[(CT (show i<us.length from ())).1,(CT hi).1];exact x.up i hi
 .rw[Cu] at hi
  have i0:i<us.length:=()
  rw[(CT i0).2,(CT hi).2]
  exact P.mono (AQ r (x.nn i0) (qAk (x.up i hi))) (AQ s (x.nn i0) (qAk (x.up i hi)))
theorem O6 (P:Qu op)(x:Cx cs m ds k us none){i:Nat}(hi:i<us.length):∃(c:Cs)(n:Rat),((c=cs/\n=m)\/(c=ds/\n=k))/\slp (ocs op cs m ds k us) (op m k) i=sat c n (T us i)/\(∀y,T us i<=y->(i+1<us.length->y<=T us (i+1))->op (val cs m y) (val ds k y)=val c n y/\val c n y=val c n (T us i)+sat c n (T us i)*(y-T us i)):=by
 obtain⟨c,n,w,h1,h2,h3⟩:=(x.pc i hi).pick P
 have tl:∀y,(i+1<us.length->y<=T us (i+1))->Til (nxU us none i) y:=fun y h u hu=>by
  unfold nxU at hu
  split at hu
  .next e=>cases hu;exact h e
  .cases hu
 refine#[c,n,w,?_,fun y y1 y2=>#[h1 y y1 (tl y y2),h2 y y1 (tl y y2)]]
 by_cases e:i+1<us.length
 .rw[B7 (by rw[Cu];exact e),(CT hi).1,(CT hi).2,(CT e).1,(CT e).2]
  have u:=x.up i e
  have a0:=h1 (T us i) qAd (tl _ fun _=>qAk u)
  have a1:=h1 (T us (i+1)) (qAk u) (tl _ fun _=>qAd)
  have b:=h2 (T us (i+1)) (qAk u) (tl _ fun _=>qAd)
  rw[a0,a1]
  exact Lz ⋯ ⋯
 .rw[Az (by rw[Cu];exact e)]
  obtain⟨q1,q2⟩:=h3 (by unfold nxU;rw[if_neg e])
  rw[q1,q2]
theorem UM (P:Qu op)(r:Cg cs m)(s:Cg ds k)(x:Cx cs m ds k us none){y:Rat}(y0:0<=y):val (ocs op cs m ds k us) (op m k) y=op (val cs m y) (val ds k y):=by
 obtain⟨i,hi,h1,h2⟩:=MW x.ne x.t0 y0
 obtain⟨c,n,_,sl,pc⟩:=O6 P x hi
 have O:=Kj P r s x
 have on:On (ocs op cs m ds k us) i y:=#[by rw[Cu];exact hi,by rw[(CT hi).1];exact h1,fun z=>by rw[Cu] at z;rw[(CT z).1];exact h2 z]
 rw[Bn O.up on,sl,(CT hi).1,(CT hi).2,(pc _ qAd (fun z=>qAk (x.up i z))).1,(pc y h1 h2).1,(pc y h1 h2).2]
theorem WM (P:Qu op)(r:Cg cs m)(s:Cg ds k)(x:Cx cs m ds k us none){a b c:Nat}(z1:LS a b c cs m) (z2:LS a b c ds k) (zt:∀i,i<us.length->Sz a (T us i)):LS a b c (ocs op cs m ds k us) (op m k):=by
 have O:=Kj P r s x
 have key:∀y,0<=y->Sz b (sat (ocs op cs m ds k us) (op m k) y)/\Sz c (val (ocs op cs m ds k us) (op m k) y-sat (ocs op cs m ds k us) (op m k) y*y):=fun y y0=>by
  have on:=D6 O y0
  have ev:val (ocs op cs m ds k us) (op m k) y=vv (ocs op cs m ds k us) (plc (ocs op cs m ds k us) y (ocs op cs m ds k us).length)+slp (ocs op cs m ds k us) (op m k) (plc (ocs op cs m ds k us) y (ocs op cs m ds k us).length)*(y-tt (ocs op cs m ds k us) (plc (ocs op cs m ds k us) y (ocs op cs m ds k us).length)):=rfl
  have es:sat (ocs op cs m ds k us) (op m k) y=slp (ocs op cs m ds k us) (op m k) (plc (ocs op cs m ds k us) y (ocs op cs m ds k us).length):=rfl
  generalize plc (ocs op cs m ds k us) y (ocs op cs m ds k us).length=i at on ev es
  have hi:i<us.length:=by have:=on.lt;rw[Cu] at this;exact this
  obtain⟨C,n,w,sl,pc⟩:=O6 P x hi
  rw[ev,es,sl,(CT hi).1,(CT hi).2,(pc _ qAd (fun z=>qAk (x.up i z))).1]
  have e:val C n (T us i)+sat C n (T us i)*(y-T us i)-sat C n (T us i)*y=val C n (T us i)-sat C n (T us i)*T us i:=⋯
  rw[e]
  have t0:=x.nn hi
  rcases w with⟨rfl,rfl⟩|⟨rfl,rfl⟩
  .exact#[z1.sl _ t0,z1.ic _ t0]
  .exact#[z2.sl _ t0,z2.ic _ t0]
 exact#[fun i hi=>by rw[Cu] at hi;rw[(CT hi).1];exact zt i hi,fun t t0=>(key t t0).1,fun t t0=>(key t t0).2]
end
theorem PD {a b c n:Nat}{cs ds:Cs}{m k t:Rat}(z1:LS a b c cs m) (z2:LS a b c ds k) (t0:0<=t) (s0:sat cs m t-sat ds k t≠0) (h:2*b+2*c+2<=n):Sz n (t+(0-gap cs m ds k t)/(sat cs m t-sat ds k t)):=by
 have q:=((z2.ic t t0).sub (z1.ic t t0)).div ((z1.sl t t0).sub (z2.sl t t0)) s0
 have e:t+(0-gap cs m ds k t)/(sat cs m t-sat ds k t)=((val ds k t-sat ds k t*t)-(val cs m t-sat cs m t*t))/(sat cs m t-sat ds k t):=by
  unfold gap
  generalize sat cs m t=p at *
  generalize sat ds k t=q at *
  grind
 rw[e]
 exact q.mono ()
theorem Uh (p q:Rat):p.num*q.num<0 ↔ Opp p q:=by
 unfold Opp
 have N:∀x:Rat,x.num<0 ↔ x<0:=fun x=>by rw[<-qA3,<-Int.not_le,Rat.num_nonneg]
 have N2:∀x:Rat,0<x.num ↔ 0<x:=fun x=>by
  have:=N (-x)
  rw[Rat.neg_num] at this
  constructor
  .intro h;have:=this.mp ();grind
  .intro h;have:=this.mpr ⋯;omega
 rw[<-N2 p,<-N2 q,<-N p,<-N q]
 constructor
 .intro h
  by_cases c:0<p.num
  .refine .inr #[c,Int.not_le.mp fun z=>?_]
   have:=qB4 (Int.le_of_lt c) z
   omega
  .by_cases d:p.num=0
   .rw[d] at h;omega
   .refine .inl #[(),Int.not_le.mp fun z=>?_]
    have:=qB4 (show 0<=- p.num from ()) (show 0<=- q.num from ())
    rw[Int.neg_mul_neg] at this
    omega
 .rintro (⟨a,b⟩|⟨a,b⟩)
  .exact Int.mul_neg_of_neg_of_pos a b
  .exact Int.mul_neg_of_pos_of_neg a b
def sdL (cs:Cs)(m:Rat)(ds:Cs)(k:Rat)(ts:List Rat):List Rat:=(List.range ts.length).map (G4 cs m ds k ts)
theorem U0 (cs:Cs)(m:Rat)(ds:Cs)(k:Rat)(ts:List Rat)(h:0<ts.length):(((gcs cs m ds k ts).drop 1).map fun c=>some (qd c.2)).filterMap id++[qd (m-k)]=(sdL cs m ds k ts).map qd:=by
 rw[EE ((gcs cs m ds k ts).drop 1) (fun c=>qd c.2)]
 have gl:=FZ (cs:=cs) (m:=m) (ds:=ds) (k:=k) (ts:=ts)
 refine List.ext_getElem (by simp[sdL,gl];omega) fun i h1 h2=>?_
 have hi:i<ts.length:=by simpa [sdL] using h2
 have e2:((sdL cs m ds k ts).map qd)[i]=qd (G4 cs m ds k ts i):=by simp[sdL]
 rw[e2]
 by_cases c:i+1<ts.length
 .have hg:i+1<(gcs cs m ds k ts).length:=by rw[gl];exact c
  rw[List.getElem_append_left (by simp[gl];omega)]
  have e:=(Bm hg).2
  rw[(C0 c).2] at e
  unfold G4
  rw[if_pos c,e]
  simp[qBS]
 .rw[List.getElem_append_right (by simp[gl];omega)]
  unfold G4
  rw[if_neg c]
  simp
theorem XE {cs:Cs}{m:Rat}{ds:Cs}{k:Rat}{ts:List Rat}{i:Int}(j:Nat) (e:i=(j:Int)) (h:j<ts.length):atI ((sdL cs m ds k ts).map qd) i=some (qd (G4 cs m ds k ts j)):=by
 subst e
 rw[CH.atI_nat (by simp[sdL];exact h)]
 simp[sdL,h]
theorem Cx.turn {cs ds:Cs}{m k:Rat}{ts us:List Rat}{i:Nat}{nx:Option Rat}(t:Tms cs ds ts) (hi:i<ts.length) (h0:i=0->us=[]) (hp:0<i->Cx cs m ds k us (nxT ts (i-1))/\∀u,nxT ts (i-1)=some u->T us (us.length-1)<u) (p:Pc cs m ds k (T ts i) nx):Cx cs m ds k (us++[T ts i]) nx:=by
 by_cases z:i=0
 .rw[h0 z]
  subst z
  rw[t.t0] at p ⊢
  exact Cx.one p
 .obtain⟨x,hl⟩:=hp ()
  have e:nxT ts (i-1)=some (T ts i):=by unfold nxT;rw[show i-1+1=i from (),if_pos hi]
  rw[e] at x
  exact x.snoc (hl _ e) p
theorem QH {us:List Rat}{a:Rat}:T (us++[a]) ((us++[a]).length-1)=a:=by
 rw[qAw]
 exact T_r
theorem Mw {us:List Rat}{a:Rat}{n:Nat}(h:∀i,i<us.length->Sz n (T us i)) (ha:Sz n a):∀i,i<(us++[a]).length->Sz n (T (us++[a]) i):=fun i hi=>by
 by_cases c:i<us.length
 .rw[T_l c];exact h i c
 .rw[qAw] at hi
  have:i=us.length:=by have:i<us.length+1:=hi;omega
  rw[this,T_r];exact ha
def Ln (p g:Nat)(C:Cs)(M:Rat):Prop:=∀i,i<C.length->Sz p (slp C M i)/\Sz g (vv C i-slp C M i*tt C i)
theorem Ln.one {p g:Nat}{c:Rat×Rat}{M:Rat}(h1:Sz p M) (h2:Sz g (c.2-M*c.1)):Ln p g [c] M:=fun i hi=>by
 have:i=0:=by have:i<1:=hi;omega
 subst this
 rw[Az (by show ¬0+1<1;decide)]
 exact#[h1,h2]
theorem Ln.snoc {p g:Nat}{C:Cs}{c:Rat×Rat}{M M':Rat}(a:Ln p g C M) (h:(c.2-vv C (C.length-1))/(c.1-tt C (C.length-1))=M) (h1:Sz p M') (h2:Sz g (c.2-M'*c.1)):Ln p g (C++[c]) M':=fun i hi=>by
 rw[BM] at hi
 by_cases e:i<C.length
 .rw[E8 e h,Ot e,OE e]
  exact a i e
 .have:i=C.length:=()
  subst this
  rw[HW,Q3,SW]
  exact#[h1,h2]
theorem Ln.ls {a p g:Nat}{C:Cs}{M:Rat}(n:Ln p g C M) (o:Ord C) (ht:∀i,i<C.length->Sz a (tt C i)):LS a p g C M:=by
 refine#[ht,fun t t0=>?_,fun t t0=>?_]
 .exact(n _ (D6 o t0).lt).1
 .have on:=D6 o t0
  have ev:val C M t=vv C (plc C t C.length)+slp C M (plc C t C.length)*(t-tt C (plc C t C.length)):=rfl
  have es:sat C M t=slp C M (plc C t C.length):=rfl
  generalize plc C t C.length=j at on ev es
  have z:=(n j on.lt).2
  rw[ev,es]
  rw[show vv C j+slp C M j*(t-tt C j)-slp C M j*t=vv C j-slp C M j*tt C j from ⋯]
  exact z
section
variable {a b c a2 b2 c2:Nat}{cs ds:Cs}{m k:Rat}
end
end CH
namespace L3
open PySem PySem.Spec PyProof.Rows L2
section
variable {X:L2.Cx}{e1 e2:Expr}{ti te:TE3}{pos:Pos}
end
end L3
namespace CH
open PySem L2 L3
section
variable {a b c a2 b2 c2:Nat}{cs ds:Cs}{m k:Rat}{ts:List Rat}
end
theorem LS.ln {a b c:Nat}{cs:Cs}{m:Rat}(z:LS a b c cs m) (o:Ord cs):Ln b c cs m:=fun i hi=>by
 have t0:0<=tt cs i:=by
  have:=AK o.up (i:=0) (j:=i) () hi
  rw[o.t0] at this
  exact this
 have e:sat cs m (tt cs i)=slp cs m i:=by
  unfold sat
  rw[Hu o.up (k:=i) qAd (fun h=>o.up i h) _ hi (qAf _)]
 have z1:=z.sl _ t0
 have z2:=z.ic _ t0
 rw[e] at z1 z2
 rw[A7 o hi] at z2
 exact#[z1,z2]
theorem Sr {a b c v g:Nat}{cs:Cs}{m l:Rat}(z:LS a b c cs m) (o:Ord cs) (hv:∀i,i<cs.length->Sz v (vv cs i)) (hl:Sz b l) (h1:c<=g) (h2:v+(b+a)+1<=g):LS a b g cs l:=by
 have n:=z.ln o
 refine Ln.ls (fun i hi=>?_) o z.tm
 by_cases e:i+1<cs.length
 .have:=n i hi
  rw[B7 e] at this ⊢
  exact#[this.1,this.2.mono h1]
 .rw[Az e]
  exact#[hl,((hv i hi).sub (hl.mul (z.tm i hi))).mono h2]
theorem GH {cs:Cs}{i:Nat}(h:i<cs.dropLast.length):tt cs.dropLast i=tt cs i/\vv cs.dropLast i=vv cs i:=by
 have h2:i<cs.length:=by rw[qBG] at h;omega
 rw[(Bm h).1,(Bm h).2,(Bm h2).1,(Bm h2).2,List.getElem_dropLast]
 exact#[rfl,rfl]
theorem S5 {cs:Cs}(o:Ord cs) (h:1<cs.length):Ord cs.dropLast:=by
 have ll:cs.dropLast.length=cs.length-1:=qBG
 have n:0<cs.dropLast.length:=()
 refine#[n,by rw[(GH n).1];exact o.t0,by rw[(GH n).2];exact o.v0,fun i hi=>?_,fun i hi=>?_]
 .rw[(GH hi).1,(GH (show i<cs.dropLast.length from ())).1];exact o.up i ()
 .rw[(GH hi).2,(GH (show i<cs.dropLast.length from ())).2];exact o.vu i ()
theorem X5 {a b c v g:Nat}{cs:Cs}{m l:Rat}(z:LS a b c cs m) (o:Ord cs) (h:1<cs.length) (hv:∀i,i<cs.length->Sz v (vv cs i)) (hl:Sz b l) (h1:c<=g) (h2:v+(b+a)+1<=g):LS a b g cs.dropLast l:=by
 have ll:cs.dropLast.length=cs.length-1:=qBG
 have n:=z.ln o
 refine Ln.ls (fun i hi=>?_) (S5 o h) (fun i hi=>by rw[(GH hi).1];exact z.tm i ())
 have i2:i<cs.length:=()
 by_cases e:i+1<cs.dropLast.length
 .have e2:i+1<cs.length:=()
  have:=n i i2
  rw[B7 e2] at this
  rw[B7 e,(GH e).1,(GH e).2,(GH hi).1,(GH hi).2]
  exact#[this.1,this.2.mono h1]
 .rw[Az e,(GH hi).1,(GH hi).2]
  exact#[hl,((hv i i2).sub (hl.mul (z.tm i i2))).mono h2]
section
variable {h:Rat->Rat}{ts:List Rat}{S:Nat->Rat}{a b c g X:Nat}
end
end CH
namespace L3
open PySem PySem.Spec PyProof.Rows L2
section
variable {X:L2.Cx}{x:Str}{px pos:Pos}{scope:Scope}{N:List Str}{idx:List Nat}{elt iter:Expr}{ifs:List Expr}{wi:TI}{ws:TX3}{tt:TT3}{te:TE3}
end
section
variable {X:L2.Cx}{pos:Pos}
end
abbrev SpM:=List D->List D->(List D->Prop)->Prop
noncomputable def N3 (a:Addr)(H:Hp):Hp:=fun b=>if b=a then none else H b
theorem T8 {a:Addr}{H:Hp}:Bw (N3 a H) H:=fun b o h=>by
 unfold N3 at h
 split at h
 .cases h
 .exact h
theorem IA {a b:Addr}{H:Hp}(h:b≠a):N3 a H b=H b:=if_neg h
theorem U2 {a:Addr}{H:Hp}:N3 a H a=none:=if_pos rfl
def Od (K:W.Frag)(sp:SpM):Sp:=fun vs H Q _=>∃(z:Hp)(a:Addr)(ws vs0:List V)(xs0 ds:List D)(R:List D->Prop),
 vs=.ref a::ws/\Bw z H/\z a=none/\K.lookup a=none/\H a=some (.lst vs0)/\Iss K z vs0 xs0/\Iss K z ws ds/\sp xs0 ds R /\
 ∀(q:HZ)(vs1:List V)(xs1:List D),Ext #[N3 a H,z] q->q.h a=some (.lst vs1)->q.z a=none->Iss K q.z vs1 xs1->R xs1->Q .non q.h
def NY (X:Cx)(a:Addr):Cx:={ X with lent:=some (0,a) }
section
variable {X:Cx}{pins:List (Addr×Obj)}{σ:St}{H H':Hp}{s s':Shared}{a:Addr}
theorem RM (I:Inv X pins σ H s):Inv (NY X a) pins σ H s :=
 #[#[I.ok.mod,I.ok.kind,I.ok.glob,I.ok.blt,I.ok.above,I.ok.inj,I.ok.has,I.ok.cab,I.ok.hd,I.ok.frames,I.ok.stk,I.ok.exf,I.ok.bs,I.ok.bsz,I.ok.noex,I.ok.exfs,I.ok.funs,I.ok.frf,I.ok.tb],I.os,I.bare,I.base,I.loc,I.cell,I.free,I.freeC,I.pin,I.hok,I.len]
theorem Fa (I:Inv (NY X a) pins σ H s):Inv X pins σ H s :=
 #[#[I.ok.mod,I.ok.kind,I.ok.glob,I.ok.blt,I.ok.above,I.ok.inj,I.ok.has,I.ok.cab,I.ok.hd,I.ok.frames,I.ok.stk,I.ok.exf,I.ok.bs,I.ok.bsz,I.ok.noex,I.ok.exfs,I.ok.funs,I.ok.frf,I.ok.tb],I.os,I.bare,I.base,I.loc,I.cell,I.free,I.freeC,I.pin,I.hok,I.len]
theorem OU {D2:Ou}{f:Flow}(h:SP (NY X a) pins D2 f s):SP X pins D2 f s:=by
 cases f with
 |next=>obtain⟨σ',H',I',q⟩:=h;exact#[σ',H',Fa I',q]
 |cont=>obtain⟨σ',H',I',q⟩:=h;exact#[σ',H',Fa I',q]
 |brk=>obtain⟨σ',H',I',q⟩:=h;exact#[σ',H',Fa I',q]
 |ret v=>obtain⟨x,σ',H',I',r,q⟩:=h;exact#[x,σ',H',Fa I',r,q]
theorem Rv {st:List Stmt}{t:TS}(h:PSs (NY X a) st t):PSs X st t:=fun pins s σ H D I q =>
 thn (h pins s σ H D (RM I) q) fun f s1 h1=>OU h1
theorem RN {N:List Str}{ws vs0:List V}{xs0 ds:List D}{z:Hp}(hz:Bw z H) (hza:z a=none) (hk:X.K.lookup a=none) (hv:H a=some (.lst vs0)) (iv:Iss X.K z vs0 xs0) (iw:Iss X.K z ws ds) :
 Rep (NY X a) #[N3 a H,z] (Ci N (.l xs0::ds.map S.d)) (L2.start N (.ref a::ws)) #[H,z]:=by
 have len:(V.ref a::ws).length=(S.l xs0::ds.map S.d).length:=by simp[iw.1]
 have st:∀(i:Nat)(s:S),(Ci N (.l xs0::ds.map S.d))[i]? = some (some s)->(S.l xs0::ds.map S.d)[i]? = some s:=fun i s h=>Ij h
 have sg:∀(i:Nat)(v:V),(V.ref a::ws)[i]? = some v->(L2.start N (.ref a::ws))[i]? = some (some v):=fun i v h=>by
  have hi:=(qAe.mp h).1
  unfold L2.start
  rw[qAp (by simpa using hi),qAc,h]
  rfl
 have onlyl:∀(i:Nat)(s:S),(S.l xs0::ds.map S.d)[i]? = some s->s.isL=true->i=0:=fun i s h hl=>by
  cases i with
  |zero=>rfl
  |succ i =>
   rw[qBK,qAc] at h
   cases e:ds[i]? with
   |none=>rw[e] at h;cases h
   |some d=>rw[e] at h;cases h;cases hl
 refine#[by unfold L2.start Ci;simp[iw.1],#[T8,Bw.refl _,hz,fun _ _ e=>.inl e],fun i s h=>?_,fun i xs c h1 h2=>?_,fun i j xs s c hij h1 h2 hs h3=>?_,(fun h=>by cases h),fun i c h=>?_]
 .have h':=st i s h
  cases i with
  |zero =>
   cases h'
   exact#[.ref a,sg 0 _ rfl,a,vs0,rfl,hv,iv]
  |succ i =>
   rw[qBK,qAc] at h'
   cases e:ds[i]? with
   |none=>rw[e] at h';cases h'
   |some d =>
    rw[e] at h'
    cases h'
    have hi:=(qAe.mp e).1
    have hw:ws[i]? = some (ws[i]'(by rw[iw.1];exact hi)):=qAb (by rw[iw.1];exact hi)
    exact#[_,sg (i+1) _ (by rw[qBK];exact hw),iw.2 i _ d hw e]
 .have e0:=onlyl i _ (st i _ h1) rfl
  subst e0
  have:=sg 0 (.ref a) rfl
  rw[h2] at this
  cases this
  exact#[U2,hk,hza]
 .have e1:=onlyl i _ (st i _ h1) rfl
  have e2:=onlyl j _ (st j _ h2) hs
  exact absurd (e1.trans e2.symm) hij
 .cases h
  exact sg 0 _ rfl
end
section
variable {P:Program}{w:World}{K:W.Frag}{mg:Str->Option Value}{base:Heap}
theorem fnM {x qual:Str}{st:Stmt}{f:Addr}{fd:FuncData}{N ps:List Str}{k:Nat}{sp:SpM}(F:Fun K x qual st f fd) (Sc:Ad N ps (Ab st)) (len:∀xs ds R,sp xs ds R->ds.length+1=ps.length)
 (hbody:∀(cdv:Value)(A:Around)(outer:List Env)(s:Shared)(H:Hp)(E:XK)(a:Addr)(xs ds:List D)(R:List D->Prop),E9 k (A.deeper (envOfC qual (Ab st) s.heap.objs.size f cdv))->sp xs ds R ->
  ∃t,Eg (NY (K9 CX0 P w K mg base N qual (Ab st) f cdv A outer s H E).nox a) (Ce st) t/\t { nx:=fun τ=>∃ys,τ[0]? = some (some (.l ys))/\R ys,rt:=fun _=>False } (Ci N (.l xs::ds.map S.d))):Aq P w K mg base CX0 (k+1) f fd ps (Od K sp):=by
 refine F.ok Sc (fun vs H Q E hh=>by obtain⟨z,a,ws,vs0,xs0,ds,R,rfl,_,_,_,_,_,iw,h3,_⟩:=hh;rw[qAW,iw.1];exact len _ _ _ h3) fun cdv A outer s H vs Q E hr hh=>?_
 obtain⟨z,a,ws,vs0,xs0,ds,R,rfl,hz,hza,hk,hv,iv,iw,h3,q⟩:=hh
 obtain⟨t,ht,hq⟩:=hbody cdv A outer s H E a xs0 ds R hr h3
 refine#[_,Rv ht.out,#[N3 a H,z],z,Ci N (.l xs0::ds.map S.d),_,RN hz hza hk hv iv iw,hq,#[fun τ σ p r h=>?_,fun _ _ _ _ z=>z.elim,fun _ _ _ _ z=>z.elim,fun s v p e i f h=>h.elim]]
 obtain⟨ys,hy,hR⟩:=h
 have pn:=r.pin 0 a rfl
 obtain⟨vs1,e1,e2⟩:=r.own_list hy pn
 exact q p vs1 ys r.ext e1 (r.own 0 ys a hy pn).2.2 e2 hR
end
structure Xd (P:Program)(w:World)(K:W.Frag)(mg:Str->Option Value)(base:Heap)(k:Nat)(x:Str)(ps:List Str)(sp:SpM):Prop where
 ex:∃f fd,Aq P w K mg base CX0 k f fd ps (Od K sp)/\mg x=some (.ref f)/\W.keepIn K (.ref f)=true/\L2.Binds K fd ps []
theorem mkM {P:Program}{w:World}{K:W.Frag}{mg:Str->Option Value}{base h:Heap}(X:K.In h) (G:h.Ns mainGlobals mg){n:Str}{st:Stmt}(r:Rw K n st){k:Nat}{ps:List Str}{sp:SpM}(ok:∀{f:Addr}{fd:FuncData},L2.Fun K n n st f fd->rA K n f->Aq P w K mg base CX0 k f fd ps (Od K sp))
 (hb:Bnd st n ps:=by(intro _ _ _ _ _ _ us hl;first|(obtain⟨x0,rfl⟩:=Uc hl;rfl)|(obtain⟨x0,x1,rfl⟩:=U7 hl;rfl)|(obtain⟨x0,x1,x2,rfl⟩:=T3 hl;rfl)|(obtain⟨x0,x1,x2,x3,rfl⟩:=Tq hl;rfl))):Xd P w K mg base k n ps sp:=by
 obtain⟨a,l,c,k⟩:=r
 have F:=M4 (st:=st) l c k
 exact#[#[_,_,ok F a,qBL X G a,k,F.binds hb]]
section
variable {X:Cx}{e:Expr}{es:List Expr}{tr:TA3}
theorem Vh {K:W.Frag}{H:Hp}{a c:Addr}{vs:List V}(h:SqL K H c vs) (n:c≠a):SqL K (N3 a H) c vs:=by
 rcases h with (h|⟨o,h⟩)|h
 .exact .inl (.inl (by rw[IA n];exact h))
 .exact .inl (.inr #[o,by rw[IA n];exact h])
 .exact .inr h
theorem Rep.grown {B p q:HZ}{τ:Tau}{σ:St}{j:Nat}{a:Addr}{xs xs1:List D}{vs1:List V}(r:Rep X B τ σ p) (hj:τ[j]? = some (some (.l xs))) (hσ:σ[j]? = some (some (.ref a))) (e:Ext #[N3 a p.h,p.z] q) (hq:q.h a=some (.lst vs1)) (hz:q.z a=none) (hi:Iss X.K q.z vs1 xs1) :
 Rep X B (τ.set j (some (.l xs1))) σ q:=by
 obtain⟨o1,o2,o3⟩:=r.own j xs a hj hσ
 have up:∀b o,B.h b=some o->N3 a p.h b=some o:=fun b o h=>by
  have:b≠a:=fun z=>by rw[z,o1] at h;cases h
  rw[IA this]
  exact r.ext.hh b o h
 have apart:∀(i:Nat)(s:S)(c:Addr),i≠j->τ[i]? = some (some s)->s.isL=true->σ[i]? = some (some (.ref c))->c≠a:=fun i s c hn h1 h2 h3 z=>by
  rw[z] at h3
  exact r.sep j i xs s a (fun z=>hn z.symm) hj h1 h2 hσ h3
 refine#[by simp[r.len],#[fun b o h=>e.hh b o (up b o h),r.ext.zz.trans e.zz,e.sub,fun b o h=>?_],fun i s h=>?_,fun i ys c h1 h2=>?_,fun i k ys s c hik h1 h2 hs h3=>?_,r.top,r.pin]
 .rcases e.new b o h with x|x
  .exact r.ext.new b o x
  .right
   cases y:B.h b with
   |none=>rfl
   |some o' =>
    have x':N3 a p.h b=none:=x
    rw[up b o' y] at x'
    cases x'
 .rcases AB h with⟨rfl,rfl⟩|⟨hn,h'⟩
  .exact#[.ref a,hσ,a,vs1,rfl,hq,hi]
  .obtain⟨v,h1,h2⟩:=r.val i s h'
   refine#[v,h1,?_]
   cases s with
   |d x=>exact Is.mono e.zz h2
   |l zs =>
    obtain⟨c,us,rfl,q1,q2⟩:=h2
    exact#[c,us,rfl,e.hh c _ (by show N3 a p.h c=_;rw[IA (apart i _ c hn h' rfl h1)];exact q1),q2.mono e.zz]
   |r zs =>
    obtain⟨c,us,rfl,q1,q2⟩:=h2
    exact#[c,us,rfl,e.hh.seq (Vh q1 (apart i _ c hn h' rfl h1)),q2.mono e.zz]
 .rcases AB h1 with⟨rfl,e1⟩|⟨hn,h1'⟩
  .rw[hσ] at h2
   cases h2
   exact#[o1,o2,hz]
  .obtain⟨w1,w2,w3⟩:=r.own i ys c h1' h2
   refine#[w1,w2,?_]
   obtain⟨us,y1,_⟩:=r.own_list h1' h2
   cases y:q.z c with
   |none=>rfl
   |some o =>
    rcases e.new c o y with x|x
    .have x':p.z c=some o:=x
     rw[w3] at x';cases x'
    .have x':N3 a p.h c=none:=x
     rw[IA (apart i _ c hn h1' rfl h2),y1] at x'
     cases x'
 .rcases AB h1 with⟨rfl,e1⟩|⟨hn,h1'⟩
  .rcases AB h2 with⟨e3,_⟩|⟨_,h2'⟩
   .exact absurd e3.symm hik
   .exact r.sep i k xs s c hik hj h2' hs h3
  .rcases AB h2 with⟨rfl,e4⟩|⟨_,h2'⟩
   .exact r.sep i k ys (.l xs) c hik h1' hj rfl h3
   .exact r.sep i k ys s c hik h1' h2' hs h3
def Te (j:Nat)(sp:SpM)(tr:TA3):TS3:=fun D3 τ=>match τ[j]? with
 |some (some (.l xs))=>tr τ fun ss=>match T4 ss with
  |some ds=>sp xs ds (fun ys=>D3.nx (τ.set j (some (.l ys))))
  |none=>False
 |_=>False
theorem Io {k j:Nat}{x y:Str}{ps:List Str}{sp:SpM}{p py pos pa:Pos}(c:Xd X.prog X.w X.K X.mg X.base k x ps sp) (hr:E9 k X.A) (hg:Gl X x) (hv:PE X (.Name y py) (OW j)) (ha:PA3 X (e::es) tr)
 (hdb:(x==("__debug__":Str))=false:=by decide) (he:starEach (.Name y py::e::es) X.env=(false,eval (.Name y py) X.env)::starEach (e::es) X.env:=by exact Dz rfl) (hpl:(backTo pos (starEach (e::es) X.env)).any (·.1)=false:=by exact Gy rfl)
 (hs:swapsWith (.Call (.Name x p) (.Name y py::e::es) [] pos) none pa.line X.env=pure false:=by rfl) :
 PS3 X (.Expr (.Call (.Name x p) (.Name y py::e::es) [] pos) pa) (Te j sp tr):=by
 refine#[?_]
 obtain⟨f,fd,F,hm,hk,hb⟩:=c.ex
 refine CS (BA (ON F hr hg hm hk hb .nil XZ (AL hv ha.out he) hdb he hpl) hs) fun D2 σ H hh=>?_
 obtain⟨B,z,τ,D3,r,ht,ct⟩:=hh
 unfold Te at ht
 split at ht
 .rename_i xs hx
  obtain⟨v,h1,a,vs,rfl,h3,h4⟩:=r.val j _ hx
  refine#[.ref a,h1,B,_,τ,_,r,ht,fun ss ws q1 e1 i1 h2=>?_]
  split at h2
  .rename_i ds hd
   rw[HV hd] at i1
   have iw:=Ky i1
   have r1:=r.mono e1
   obtain⟨o1,o2,o3⟩:=r1.own j xs a hx h1
   obtain⟨vs',hv',iv'⟩:=r1.own_list hx h1
   show Od X.K sp ((.ref a::ws)++[]) q1.h _ E0
   rw[qBq]
   exact#[q1.z,a,ws,vs',xs,ds,_,rfl,e1.sub,o3,o2,hv',iv',iw,h2,fun q vs1 xs1 e2 g1 g2 g3 hR=>ct.nx _ _ _ (r1.grown hx h1 e2 g1 g2 g3) hR]
  .exact h2.elim
 .exact ht.elim
end
section
variable {X:Cx}{e:Expr}
def YB (j:Nat):TT3:=fun τ R=>match τ[j]? with
 |some (some (.l xs))=>R (!xs.isEmpty)
 |some (some (.r xs))=>R (!xs.isEmpty)
 |_=>False
theorem Ik {K:W.Frag}{H:Hp}{vs:List V}{xs:List D}(h:Iss K H vs xs):(!vs.isEmpty)=!xs.isEmpty:=by
 have:=h.1
 cases vs<;>cases xs<;>first|rfl|(simp at this)
theorem Yc {j:Nat}(h:PE X e (OW j)) (he:∀whole,isTrue e X.env whole=(do let v <-whole;standAt e.pos;holding [v] (truthy v)):=by intro _;rfl):PT3 X e (YB j):=#[Lh (Nv h he) fun σ H Q hh=>by
 obtain⟨B,z,τ,R,r,ht,q⟩:=hh
 unfold YB at ht
 split at ht
 .rename_i xs hs
  obtain⟨v,h1,a,vs,rfl,h3,h4⟩:=r.val j _ hs
  exact#[.ref a,h1,!vs.isEmpty,.inl #[vs,SqL.of h3,rfl],q _ #[H,z] (Ext.refl r.ext.sub) (by rw[Ik h4];exact ht)]
 .rename_i xs hs
  obtain⟨v,h1,a,vs,rfl,h3,h4⟩:=r.val j _ hs
  exact#[.ref a,h1,!vs.isEmpty,.inl #[vs,h3,rfl],q _ #[H,z] (Ext.refl r.ext.sub) (by rw[Ik h4];exact ht)]
 .exact ht.elim]
end
open PySem PySem.Spec PyProof.Rows
structure K4 (P:Program)(w:World)(A:Around)(i l:Addr)(us:Array Value)(st:Nat->Heap->Prop):Prop where
 item:∀(t:Shared)(k:Nat)(u:Value)(Q:Value->Shared->Prop)(E:Value->Shared->Prop),st k t.heap->us[k]? = some u->(∀h1,st (k+1) h1->Heap.SameBut i t.heap h1->Q u { t with heap:=h1 })->wpAny (model P w) A (Builtin.SmallTypes.nextOf (.ref i)) Q E t
 done:∀(t:Shared)(k:Nat)(Q:Value->Shared->Prop)(E:Value->Shared->Prop),st k t.heap->us[k]? = none->(∀h1 x,Heap.ExtBut i t.heap h1->(∃o,h1.get? x=some o/\o.cls=.type "StopIteration")->E (.ref x) { t with heap:=h1 })->wpAny (model P w) A (Builtin.SmallTypes.nextOf (.ref i)) Q E t
 keep:∀(k:Nat)(h h1:Heap),st k h->(∀b o,b=i\/b=l->h.get? b=some o->h1.get? b=some o)->st k h1
def stL (i l:Addr)(us:Array Value)(k:Nat)(h:Heap):Prop:=h.IsListIter i l k/\h.IsList l us
def stT (i l:Addr)(us:Array Value)(k:Nat)(h:Heap):Prop:=h.IsTupleIter i l k/\h.IsTuple l us
section
variable {P:Program}{w:World}{A:Around}
theorem Sk (hd:A.handled=none){i l:Addr}(ne:l≠i) (us:Array Value):K4 P w A i l us (stL i l us) where
 item:=fun t k u Q E s1 hu q=>wpAny_nextOf_list_item s1.1 s1.2 hu fun h1 a b=>q h1 #[a,s1.2.extBut b.extBut ne] b
 done:=fun t k Q E s1 hu q=>wpAny_nextOf_list_end hd s1.1 s1.2 hu q
 keep:=fun k h h1 s1 e=>#[s1.1.at fun o z=>e i o (.inl rfl) z,s1.2.at fun o z=>e l o (.inr rfl) z]
theorem Pd (hd:A.handled=none){i l:Addr}(ne:l≠i) (us:Array Value):K4 P w A i l us (stT i l us) where
 item:=fun t k u Q E s1 hu q=>by
  obtain⟨⟨ob,g1,g2,g3⟩,oT,f1,f2,nT,f3⟩:=id s1
  have ty:=s1.1.typeIs (s:=t)
  refine wpAny_bind (wpAny_callSpecial?_slot (name:=Str.ofString "__next__") ty qBE (wpAny_call_entry qBE ty qCv ?_ (qCq _)))
  refine(wpAny_bind (wpAny_field g1 g3 (x:=Value.ref l) rfl ?_):wpAny _ _ (field (Value.ref i) 0 >>= _) _ _ t)
  refine(?_:wpAny _ _ (if (Value.ref l==Value.none)=true then _ else _) _ _ t)
  rw[if_neg (by intro z;cases z)]
  refine(wpAny_bind (wpAny_field g1 g3 (x:=Value.int k 0) rfl ?_):wpAny _ _ (field (Value.ref i) 1 >>= _) _ _ t)
  refine(wpAny_bind (wpAny_seqItems f1 f3 ?_):wpAny _ _ (seqItems? (Value.ref l) >>= _) _ _ t)
  simp only[qBR,hu]
  refine wpAny_bind (wpAny_setField g1 g3 (by simp) (wpAny_pure #[u,rfl,wpAny_pure (q _ #[?_,s1.2.extBut (Heap.SameBut.update ..).extBut ne] (Heap.SameBut.update ..))]))
  refine#[_,qCQ _ g1 (Obj.isFreed_of_fields (Obj.data_mapFields g3 _)),(Obj.cls_mapFields ..).trans g2,?_]
  rw[Obj.data_mapFields g3]
  simp[rawInt]
 done:=fun t k Q E s1 hu q=>by
  obtain⟨⟨ob,g1,g2,g3⟩,oT,f1,f2,nT,f3⟩:=id s1
  have ty:=s1.1.typeIs (s:=t)
  refine wpAny_bind (wpAny_callSpecial?_slot (name:=Str.ofString "__next__") ty qBE (wpAny_call_entry qBE ty qCv ?_ (qCq _)))
  refine(wpAny_bind (wpAny_field g1 g3 (x:=Value.ref l) rfl ?_):wpAny _ _ (field (Value.ref i) 0 >>= _) _ _ t)
  refine(?_:wpAny _ _ (if (Value.ref l==Value.none)=true then _ else _) _ _ t)
  rw[if_neg (by intro z;cases z)]
  refine(wpAny_bind (wpAny_field g1 g3 (x:=Value.int k 0) rfl ?_):wpAny _ _ (field (Value.ref i) 1 >>= _) _ _ t)
  refine(wpAny_bind (wpAny_seqItems f1 f3 ?_):wpAny _ _ (seqItems? (Value.ref l) >>= _) _ _ t)
  simp only[qBR,hu]
  refine wpAny_bind (wpAny_rule (wpAny_bind (wpAny_setField g1 g3 (by simp) ?_)))
  refine(wpAny_bind ?_:wpAny _ _ (newExc (.type "StopIteration") [] >>= _) _ _ _)
  simp only[newExc,newTuple]
  refine wpAny_bind (wpAny_newObj_type ?_ (by size_fits))
  refine wpAny_bind (m:=firstArgMember _ _) (wpAny_of_eq (a:=Value.none) (by first|rfl|(unfold firstArgMember;rfl)) ?_)
  refine wpAny_newObj_type ?_ (by size_fits)
  unfold raiseNew
  refine wpAny_bind (wpAny_handled ?_)
  have hd1:A.in1.handled=none:=hd
  rw[hd1]
  exact wpAny_bind (wpAny_pure (wpAny_throw (q _ _ (((Heap.SameBut.update ..).extBut.push _).push _) #[_,qAt _ rfl,rfl])))
 keep:=fun k h h1 s1 e=>by
  obtain⟨⟨ob,g1,g2⟩,oT,f1,f2⟩:=s1
  exact#[#[ob,e i ob (.inl rfl) g1,g2],oT,e l oT (.inr rfl) f1,f2]
structure ZAp (z TI TO i1 i2 l1 l2:Addr):Prop where
 a1:TI≠z/\TO≠z/\i1≠z/\i2≠z/\l1≠z/\l2≠z
 a2:TI≠TO/\i1≠TO/\i2≠TO/\l1≠TO/\l2≠TO
 a3:TI≠i1/\i2≠i1/\l2≠i1/\TI≠i2/\l1≠i2
 a4:l1≠i1/\l2≠i2
variable {z TI TO i1 i2 l1 l2:Addr}{us1 us2:Array Value}{st1 st2:Nat->Heap->Prop}{s:Shared}{E:Value->Shared->Prop}
theorem R7 (D:ZAp z TI TO i1 i2 l1 l2)(S1:K4 P w A i1 l1 us1 st1)(S2:K4 P w A i2 l2 us2 st2){k:Nat}{x y a b:Value}{Q:Value->Shared->Prop}(Hz:IsZip s.heap z TI TO .none) (Ht:IsPair s.heap TI (.ref i1) (.ref i2)) (Ho:IsPair s.heap TO a b)
 (c1:st1 k s.heap) (c2:st2 k s.heap) (hx:us1[k]? = some x) (hy:us2[k]? = some y)
 (fin:∀h',IsZip h' z TI TO (rawInt s.heap.objs.size)->IsPair h' TO x y->st1 (k+1) h'->st2 (k+1) h'->IsPair h' s.heap.objs.size x y->(∀c o,c≠z->c≠TO->c≠i1->c≠i2->s.heap.get? c=some o->h'.get? c=some o)->Q (.ref s.heap.objs.size) { s with heap:=h' }) :
 wpAny (model P w) A (Builtin.«zip.__next__» #[[.ref z],[]]) (fun f s'=>∃v,f=.done (.ret v)/\Q v s') E s:=by
 obtain⟨⟨d1,d2,d3,d4,d5,d6⟩,⟨e1,e2,e3,e4,e5⟩,⟨f1,f2,f3,f4,f5⟩,_⟩:=D
 refine(wpAny_bind (wpAny_field Hz rfl (x:=Value.bool false) rfl ?_):wpAny _ _ (field (Value.ref z) 2 >>= _) _ _ _)
 refine(wpAny_bind (wpAny_field Hz rfl (x:=Value.ref TI) rfl ?_):wpAny _ _ (field (Value.ref z) 3 >>= _) _ _ _)
 refine wpAny_bind (wpAny_seqItems Ht rfl ?_)
 refine(wpAny_bind ?_:wpAny _ _ (Builtin.SmallTypes.ownedTupleIsFree (Value.ref z) >>= _) _ _ _)
 refine wpAny_bind (wpAny_field Hz rfl (x:=Value.none) rfl (wpAny_pure ?_))
 simp only[if_true]
 refine wpAny_bind (wpAny_rule (wpAny_bind (wpAny_field Hz rfl (x:=Value.ref TO) rfl (wpAny_bind (wpAny_setField_rec Hz (by simp) fun g1 Hz1 m1=>?_)))))
 have Hz1:IsZip g1 z TI TO .ellipsis:=Hz1
 refine wpAny_bind ?_
 simp only[qCc,qCm,qBN,qCr]
 have c1a:st1 k g1:=S1.keep k _ _ c1 fun b o hb e=>by
  rcases hb with rfl|rfl
  .exact m1.extBut _ _ d3 e
  .exact m1.extBut _ _ d5 e
 refine wpAny_bind (wpAny_bind (wpAny_onRaise (?_:wpAny _ _ (Builtin.SmallTypes.nextOf (Value.ref i1) >>= _) _ _ _)))
 refine wpAny_bind (S1.item _ k x _ _ c1a hx fun g2 c1b m2=>wpAny_pure ?_)
 have Ho2:IsPair g2 TO a b:=m2.extBut _ _ (Ne.symm e2) (m1.extBut _ _ d2 Ho)
 refine wpAny_bind (wpAny_seqItems Ho2 rfl (wpAny_bind (wpAny_updateSeq_pair Ho2 fun g3 Ho3 m3=>wpAny_bind (wpAny_letGo (wpAny_pure ?_)))))
 have Ho3:IsPair g3 TO x b:=Ho3
 have c2a:st2 k g3:=S2.keep k _ _ c2 fun b o hb e=>by
  rcases hb with rfl|rfl
  .exact m3.extBut _ _ e3 (m2.extBut _ _ f2 (m1.extBut _ _ d4 e))
  .exact m3.extBut _ _ e5 (m2.extBut _ _ f3 (m1.extBut _ _ d6 e))
 refine wpAny_bind (wpAny_bind (wpAny_onRaise (?_:wpAny _ _ (Builtin.SmallTypes.nextOf (Value.ref i2) >>= _) _ _ _)))
 refine wpAny_bind (S2.item _ k y _ _ c2a hy fun g4 c2b m4=>wpAny_pure ?_)
 have Ho4:IsPair g4 TO x b:=m4.extBut _ _ (Ne.symm e3) Ho3
 refine wpAny_bind (wpAny_seqItems Ho4 rfl (wpAny_bind (wpAny_updateSeq_pair Ho4 fun g5 Ho5 m5=>wpAny_bind (wpAny_letGo (wpAny_pure (wpAny_pure ?_))))))
 have Ho5:IsPair g5 TO x y:=Ho5
 have sz:g5.objs.size=s.heap.objs.size:=by rw[m5.1,m4.1,m3.1,m2.1,m1.1]
 have Hz5:IsZip g5 z TI TO .ellipsis:=m5.extBut _ _ (Ne.symm d2) (m4.extBut _ _ (Ne.symm d4) (m3.extBut _ _ (Ne.symm d2) (m2.extBut _ _ (Ne.symm d3) Hz1)))
 have old:∀c o,c≠z->c≠TO->c≠i1->c≠i2->s.heap.get? c=some o->g5.get? c=some o:=fun c o n1 n2 n3 n4 e =>
  m5.extBut _ _ n2 (m4.extBut _ _ n4 (m3.extBut _ _ n2 (m2.extBut _ _ n3 (m1.extBut _ _ n1 e))))
 have at5:∀b o,b≠TO->b≠i2->g2.get? b=some o->g5.get? b=some o:=fun b o n1 n2 e=>m5.extBut _ _ n1 (m4.extBut _ _ n2 (m3.extBut _ _ n1 e))
 have lz:z<g5.objs.size:=qAj Hz5
 refine wpAny_bind (wpAny_seqItems Ho5 rfl (wpAny_bind (wpAny_newTuple ?_)))
 refine(wpAny_bind ?_:wpAny _ _ (Builtin.SmallTypes.ownedTupleHandOut (Value.ref z) (Value.ref g5.objs.size) >>= _) _ _ _)
 have Hz6:IsZip (g5.push { cls:=.type "tuple",data:=.seq (List.toArray [x,y]) }) z TI TO .ellipsis:=qAh _ Hz5
 refine wpAny_bind (wpAny_setField_rec Hz6 (by simp) fun g7 Hz7 m7=>?_)
 have Hz7:IsZip g7 z TI TO (rawInt g5.objs.size):=Hz7
 refine wpAny_setField_rec Hz7 (by simp) fun g8 Hz8 m8=>?_
 have Hz8:IsZip g8 z TI TO (rawInt g5.objs.size):=Hz8
 have up:∀c o,c≠z->g5.get? c=some o->g8.get? c=some o:=fun c o n e=>m8.extBut _ _ n (m7.extBut _ _ n (qAh _ e))
 have new8:IsPair g8 g5.objs.size x y:=m8.extBut _ _ (qA9 lz) (m7.extBut _ _ (qA9 lz) (qAt _ rfl))
 rw[sz] at Hz8 new8
 have k1:st1 (k+1) g8:=S1.keep _ _ _ c1b fun b o hb e=>by
  rcases hb with rfl|rfl
  .exact up _ _ d3 (at5 _ _ e2 (Ne.symm f2) e)
  .exact up _ _ d5 (at5 _ _ e4 f5 e)
 have k2:st2 (k+1) g8:=S2.keep _ _ _ c2b fun b o hb e=>by
  rcases hb with rfl|rfl
  .exact up _ _ d4 (m5.extBut _ _ e3 e)
  .exact up _ _ d6 (m5.extBut _ _ e5 e)
 refine wpAny_pure #[_,rfl,(?_:Q (.ref g5.objs.size) _)]
 rw[sz]
 exact fin g8 Hz8 (up _ _ d2 Ho5) k1 k2 new8 fun c o n1 n2 n3 n4 e=>up c o n1 (old c o n1 n2 n3 n4 e)
theorem RR (hd:A.handled=none)(D:ZAp z TI TO i1 i2 l1 l2)(S1:K4 P w A i1 l1 us1 st1)(S2:K4 P w A i2 l2 us2 st2){k:Nat}{a b:Value}{Q:Fin->Shared->Prop}(Hz:IsZip s.heap z TI TO .none) (Ht:IsPair s.heap TI (.ref i1) (.ref i2)) (Ho:IsPair s.heap TO a b)
 (c1:st1 k s.heap) (c2:st2 k s.heap) (he:us1[k]? = none\/us2[k]? = none)
 (fin:∀h' e,(∀c o,c≠z->c≠TO->c≠i1->c≠i2->s.heap.get? c=some o->h'.get? c=some o)->(∃o,h'.get? e=some o/\o.cls=.type "StopIteration")->E (.ref e) { s with heap:=h' }) :
 wpAny (model P w) A (Builtin.«zip.__next__» #[[.ref z],[]]) Q E s:=by
 obtain⟨⟨d1,d2,d3,d4,d5,d6⟩,⟨e1,e2,e3,e4,e5⟩,⟨f1,f2,f3,f4,f5⟩,_⟩:=D
 refine(wpAny_bind (wpAny_field Hz rfl (x:=Value.bool false) rfl ?_):wpAny _ _ (field (Value.ref z) 2 >>= _) _ _ _)
 refine(wpAny_bind (wpAny_field Hz rfl (x:=Value.ref TI) rfl ?_):wpAny _ _ (field (Value.ref z) 3 >>= _) _ _ _)
 refine wpAny_bind (wpAny_seqItems Ht rfl ?_)
 refine(wpAny_bind ?_:wpAny _ _ (Builtin.SmallTypes.ownedTupleIsFree (Value.ref z) >>= _) _ _ _)
 refine wpAny_bind (wpAny_field Hz rfl (x:=Value.none) rfl (wpAny_pure ?_))
 simp only[if_true]
 refine wpAny_bind (wpAny_rule (wpAny_bind (wpAny_field Hz rfl (x:=Value.ref TO) rfl (wpAny_bind (wpAny_setField_rec Hz (by simp) fun g1 Hz1 m1=>?_)))))
 have Hz1:IsZip g1 z TI TO .ellipsis:=Hz1
 refine wpAny_bind ?_
 simp only[qCc,qCm,qBN,qCr]
 have c1a:st1 k g1:=S1.keep k _ _ c1 fun b o hb e=>by
  rcases hb with rfl|rfl
  .exact m1.extBut _ _ d3 e
  .exact m1.extBut _ _ d5 e
 refine wpAny_bind (wpAny_bind (wpAny_onRaise (?_:wpAny _ _ (Builtin.SmallTypes.nextOf (Value.ref i1) >>= _) _ _ _)))
 have out:∀{g:Heap}{x:Addr}(n:IsZip g z TI TO .ellipsis) (g':Heap) (m:Heap.SameBut z g g'),(∃o,g.get? x=some o/\o.cls=.type "StopIteration")->∃o,g'.get? x=some o/\o.cls=.type "StopIteration":=fun {g x} n g' m #[o,h1,h2] =>
  #[o,m.extBut _ _ (fun y=>by subst y;rw[n] at h1;cases h1;simp at h2) h1,h2]
 cases hx:us1[k]? with
 |none =>
  refine wpAny_bind (S1.done _ k _ _ c1a hx fun g2 x m2 hs=>?_)
  have Hz2:IsZip g2 z TI TO .ellipsis:=m2 _ _ (Ne.symm d3) Hz1
  exact wpAny_setField_rec Hz2 (by simp) fun g3 _ m3=>fin g3 x (fun c o n1 _ n3 _ e=>m3.extBut _ _ n1 (m2 _ _ n3 (m1.extBut _ _ n1 e))) (out Hz2 g3 m3 hs)
 |some x =>
  have hy:us2[k]? = none:=he.resolve_left (by rw[hx];simp)
  refine wpAny_bind (S1.item _ k x _ _ c1a hx fun g2 c1b m2=>wpAny_pure ?_)
  have Ho2:IsPair g2 TO a b:=m2.extBut _ _ (Ne.symm e2) (m1.extBut _ _ d2 Ho)
  refine wpAny_bind (wpAny_seqItems Ho2 rfl (wpAny_bind (wpAny_updateSeq_pair Ho2 fun g3 Ho3 m3=>wpAny_bind (wpAny_letGo (wpAny_pure ?_)))))
  have c2a:st2 k g3:=S2.keep k _ _ c2 fun b o hb e=>by
   rcases hb with rfl|rfl
   .exact m3.extBut _ _ e3 (m2.extBut _ _ f2 (m1.extBut _ _ d4 e))
   .exact m3.extBut _ _ e5 (m2.extBut _ _ f3 (m1.extBut _ _ d6 e))
  refine wpAny_bind (wpAny_bind (wpAny_onRaise (?_:wpAny _ _ (Builtin.SmallTypes.nextOf (Value.ref i2) >>= _) _ _ _)))
  refine wpAny_bind (S2.done _ k _ _ c2a hy fun g4 x m4 hs=>?_)
  have Hz4:IsZip g4 z TI TO .ellipsis:=m4 _ _ (Ne.symm d4) (m3.extBut _ _ (Ne.symm d2) (m2.extBut _ _ (Ne.symm d3) Hz1))
  exact wpAny_setField_rec Hz4 (by simp) fun g5 _ m5=>fin g5 x (fun c o n1 n2 n3 n4 e=>m5.extBut _ _ n1 (m4 _ _ n4 (m3.extBut _ _ n2 (m2.extBut _ _ n3 (m1.extBut _ _ n1 e))))) (out Hz4 g5 m5 hs)
end
abbrev zpA (h:Heap)(l1:Addr):Heap:=h.push { cls:=.type "tuple_iterator",data:=.fields (List.toArray [.ref l1,.int 0 0]) }
abbrev zpB (h:Heap)(l1 l2:Addr):Heap:=(zpA h l1).push { cls:=.type "list_iterator",data:=.fields (List.toArray [.ref l2,.int 0 0]) }
abbrev zpC (h:Heap)(l1 l2:Addr):Heap:=(zpB h l1 l2).push { cls:=.type "tuple",data:=.seq (List.toArray [.ref h.objs.size,.ref (zpA h l1).objs.size]) }
abbrev zpD (h:Heap)(l1 l2:Addr):Heap:=(zpC h l1 l2).push { cls:=.type "tuple",data:=.seq (List.toArray [.none,.none]) }
abbrev zpE (h:Heap)(l1 l2:Addr):Heap:=(zpD h l1 l2).push { cls:=.type "zip",data:=.fields (List.toArray [.none,.bool false,.bool false,.ref (zpB h l1 l2).objs.size,.ref (zpC h l1 l2).objs.size]) }
theorem PM (l1 l2:Addr)(xs ys:Array Value) :
 Meets (Builtin.«zip.__new__» #[[.type "zip",.ref l1,.ref l2],[]]) (fun _ R s=>s.heap.IsTuple l1 xs/\s.heap.IsList l2 ys/\R (.ok (.ret (.ref (zpD s.heap l1 l2).objs.size))) { s with heap:=zpE s.heap l1 l2 }) :=
 .of_wp fun prog w A R s h=>by
  obtain⟨hp,g,d,tk,os⟩:=s;obtain⟨t1,t2,h⟩:=h
  have hsub:=sub_zip
  have q1:Heap.IsTuple (Shared.heap #[hp,g,d,tk,os]) l1 xs:=t1
  have q2:Heap.IsList (Shared.heap #[hp.push { cls:=.type "tuple_iterator",data:=.fields (List.toArray [.ref l1,.int 0 0]) },g,d,tk,os]) l2 ys:=Heap.IsList.push t2 _
  wp_walk using wpAny_pyIter_tuple q1,wpAny_pyIter_list q2
  exact#[_,rfl,h]
section
variable {P:Program}{w:World}{A:Around}{E:Value->Shared->Prop}{s:Shared}
theorem NV {l1 l2:Addr}{xs ys:Array Value}{Q:Value->Shared->Prop}(t1:s.heap.IsTuple l1 xs) (t2:s.heap.IsList l2 ys)
 (fin:∀h',IsZip h' (s.heap.objs.size+4) (s.heap.objs.size+2) (s.heap.objs.size+3) .none->IsPair h' (s.heap.objs.size+2) (.ref s.heap.objs.size) (.ref (s.heap.objs.size+1))->IsPair h' (s.heap.objs.size+3) .none .none ->
  h'.IsTupleIter s.heap.objs.size l1 0->h'.IsListIter (s.heap.objs.size+1) l2 0->(∀c o,s.heap.get? c=some o->h'.get? c=some o)->Q (.ref (s.heap.objs.size+4)) { s with heap:=h' }) :
 wpAny (model P w) A (call (.type "zip") [.ref l1,.ref l2]) Q E s:=by
 refine callType_new F.called_zip ∅ (F.typeCall_zip_2 _ _) (F.newCall_zip_2 _ _) (fun ob=>F.args_object_init_3 ob _ _) F.entry_zip_new (PM l1 l2 xs ys) #[t1,t2,?_]
 have n1:(zpA s.heap l1).objs.size=s.heap.objs.size+1:=qA8 ..
 have n2:(zpB s.heap l1 l2).objs.size=s.heap.objs.size+2:=by rw[qA8,n1]
 have n3:(zpC s.heap l1 l2).objs.size=s.heap.objs.size+3:=by rw[qA8,n2]
 have n4:(zpD s.heap l1 l2).objs.size=s.heap.objs.size+4:=by rw[qA8,n3]
 have o5:(zpE s.heap l1 l2).get? (zpD s.heap l1 l2).objs.size=some _:=qAt _ rfl
 have o4:(zpE s.heap l1 l2).get? (zpC s.heap l1 l2).objs.size=some _:=qAh _ (qAt _ rfl)
 have o3:(zpE s.heap l1 l2).get? (zpB s.heap l1 l2).objs.size=some _:=qAh _ (qAh _ (qAt _ rfl))
 have o2:(zpE s.heap l1 l2).get? (zpA s.heap l1).objs.size=some _:=qAh _ (qAh _ (qAh _ (qAt _ rfl)))
 have o1:(zpE s.heap l1 l2).get? s.heap.objs.size=some _:=qAh _ (qAh _ (qAh _ (qAh _ (qAt _ rfl))))
 refine(?_:_/\_)
 rw[n2,n3,n4] at o5
 rw[n1,n2] at o3
 rw[n3] at o4
 rw[n1] at o2
 rw[n4]
 exact#[#[_,o5,rfl],fin _ o5 o3 o4 #[_,o1,rfl,rfl] #[_,o2,rfl,rfl] fun c o x=>qAh _ (qAh _ (qAh _ (qAh _ (qAh _ x))))]
variable {z TI TO i1 i2 l1 l2:Addr}{us1 us2:Array Value}{st1 st2:Nat->Heap->Prop}
theorem Ro (D:ZAp z TI TO i1 i2 l1 l2)(S1:∀A':Around,A'.handled=A.handled->K4 P w A' i1 l1 us1 st1)(S2:∀A':Around,A'.handled=A.handled->K4 P w A' i2 l2 us2 st2){k:Nat}{x y a b:Value}{Q:Option Value->Shared->Prop}(Hz:IsZip s.heap z TI TO .none) (Ht:IsPair s.heap TI (.ref i1) (.ref i2)) (Ho:IsPair s.heap TO a b)
 (c1:st1 k s.heap) (c2:st2 k s.heap) (hx:us1[k]? = some x) (hy:us2[k]? = some y)
 (fin:∀h',IsZip h' z TI TO (rawInt s.heap.objs.size)->IsPair h' TO x y->st1 (k+1) h'->st2 (k+1) h'->IsPair h' s.heap.objs.size x y->(∀c o,c≠z->c≠TO->c≠i1->c≠i2->s.heap.get? c=some o->h'.get? c=some o)->Q (some (.ref s.heap.objs.size)) { s with heap:=h' }) :
 wpAny (model P w) A (pyNext (.ref z)) Q E s:=by
 have ty:s.TypeIs (.ref z) "zip":=#[_,Hz,rfl]
 refine wpAny_bind (wpAny_attempt (wpAny_callSpecial?_slot (name:=Str.ofString "__next__") ty qBu (wpAny_call_entry qBu ty qCd ?_ (qB5 _))))
 refine R7 (A:=A.in1) D (S1 A.in1 rfl) (S2 A.in1 rfl) Hz Ht Ho c1 c2 hx hy fun h' b1 b2 b3 b4 b5 b6=>?_
 exact wpAny_pure (fin h' b1 b2 b3 b4 b5 b6)
theorem RG (hd:A.handled=none)(D:ZAp z TI TO i1 i2 l1 l2)(S1:∀A':Around,A'.handled=A.handled->K4 P w A' i1 l1 us1 st1)(S2:∀A':Around,A'.handled=A.handled->K4 P w A' i2 l2 us2 st2){k:Nat}{a b:Value}{Q:Option Value->Shared->Prop}(Hz:IsZip s.heap z TI TO .none) (Ht:IsPair s.heap TI (.ref i1) (.ref i2)) (Ho:IsPair s.heap TO a b)
 (c1:st1 k s.heap) (c2:st2 k s.heap) (he:us1[k]? = none\/us2[k]? = none)
 (fin:∀h',(∀c o,c≠z->c≠TO->c≠i1->c≠i2->s.heap.get? c=some o->h'.get? c=some o)->Q none { s with heap:=h' }):wpAny (model P w) A (pyNext (.ref z)) Q E s:=by
 have ty:s.TypeIs (.ref z) "zip":=#[_,Hz,rfl]
 refine wpAny_bind (wpAny_attempt (wpAny_callSpecial?_slot (name:=Str.ofString "__next__") ty qBu (wpAny_call_entry qBu ty qCd ?_ (qB5 _))))
 refine RR (A:=A.in1) hd D (S1 A.in1 rfl) (S2 A.in1 rfl) Hz Ht Ho c1 c2 he fun h' e kp hs=>?_
 obtain⟨o,g1,g2⟩:=hs
 exact wpAny_bind (wpAny_isInstance (T:="StopIteration") (b:=true) #[o,g1,g2] isSubtype_stop (wpAny_pure (fin _ kp)))
end
def SqB (K:W.Frag)(b:Bool)(H:Hp)(a:Addr)(xs:List V):Prop:=if b=true then SqT K H a xs else SqL K H a xs
def ItB (b:Bool)(h:Heap)(i l:Addr)(k:Nat):Prop:=if b=true then h.IsTupleIter i l k else h.IsListIter i l k
def Itz (K:W.Frag)(b1 b2:Bool)(l1 l2:Addr):It :=
 #[fun i H=>∃xs ys x y,SqB K b1 H l1 xs/\SqB K b2 H l2 ys/\xs[i]? = some x/\ys[i]? = some y,
  fun i H v H'=>∃p x y,H p=none/\v=.ref p/\(∀xs,SqB K b1 H l1 xs->xs[i]? = some x)/\(∀ys,SqB K b2 H l2 ys->ys[i]? = some y)/\H'=upd H p (.tup [x,y]),
  fun i H=>∃xs ys,SqB K b1 H l1 xs/\SqB K b2 H l2 ys/\(xs.length<=i\/ys.length<=i)]
theorem Cy {b:Bool}{h h':Heap}{i l:Addr}{k:Nat}(a:ItB b h i l k) (e:∀o,h.get? i=some o->h'.get? i=some o):ItB b h' i l k:=by
 unfold ItB at *
 split at a
 .rename_i c;rw[if_pos c];obtain⟨o,g1,g2⟩:=a;exact#[o,e o g1,g2]
 .rename_i c;rw[if_neg c];exact a.at fun o z=>e o z
theorem FQ {b:Bool}{h:Heap}{i l:Addr}{k:Nat}(a:ItB b h i l k):∃o,h.get? i=some o/\∀v,o.data≠.cell v:=by
 unfold ItB at a
 split at a
 .obtain⟨o,g1,g2,g3⟩:=a;exact#[o,g1,fun v z=>by rw[g3] at z;cases z]
 .obtain⟨o,g1,g2,g3⟩:=a;exact#[o,g1,fun v z=>by rw[g3] at z;cases z]
def stB (b:Bool)(i l:Addr)(us:Array Value)(k:Nat)(h:Heap):Prop:=if b=true then stT i l us k h else stL i l us k h
theorem Jr {P:Program}{w:World}{A:Around}(hd:A.handled=none) (b:Bool){i l:Addr}(ne:l≠i) (us:Array Value):K4 P w A i l us (stB b i l us):=by
 cases b with
 |true=>exact Pd hd ne us
 |false=>exact Sk hd ne us
section
variable {X:Cx}{pins:List (Addr×Obj)}{σ:St}{H:Hp}{s:Shared}
theorem DV {b:Bool}{l:Addr}{xs:List V}(I:Inv X pins σ H s) (q:SqB X.K b H l xs):∃its:List Value,B8 xs its/\∀i k,ItB b s.heap i l k->stB b i l its.toArray k s.heap:=by
 unfold SqB at q
 cases b with
 |true =>
  obtain⟨its,rv,p,hz⟩:=I.tuple q
  exact#[its,rv,fun i k a=>#[a,p]]
 |false =>
  obtain⟨its,rv,p,hz⟩:=I.list q
  exact#[its,rv,fun i k a=>#[a,p.isList]]
theorem Ja {b:Bool}{l:Addr}{xs ys:List V}(I:Inv X pins σ H s) (q:SqB X.K b H l xs) (r:SqB X.K b H l ys):ys=xs:=by
 unfold SqB at q r
 cases b with
 |true=>exact I.tuple_inj r q
 |false=>exact I.list_inj r q
end
def tnZ (b1 b2:Bool)(z TI TO i1 i2 l1 l2:Addr)(i:Nat)(h:Heap):Prop:=IsZip h z TI TO .none/\IsPair h TI (.ref i1) (.ref i2)/\(∃a b,IsPair h TO a b)/\ItB b1 h i1 l1 i/\ItB b2 h i2 l2 i
theorem Ld {b:Bool}{i l:Addr}{us:Array Value}{k:Nat}{h:Heap}(a:stB b i l us k h):ItB b h i l k:=by
 unfold stB at a
 unfold ItB
 split at a
 .rename_i c;rw[if_pos c];exact a.1
 .rename_i c;rw[if_neg c];exact a.1
theorem Sq {P:Program}{w:World}{K:W.Frag}{elts:List Expr}{x1:Nat}{tpos:Pos}(b1 b2:Bool){z TI TO i1 i2 l1 l2:Addr}(D:ZAp z TI TO i1 i2 l1 l2):RE P w K (.Tuple elts x1 tpos) (Itz K b1 b2 l1 l2) [z,TI,TO,i1,i2] z (tnZ b1 b2 z TI TO i1 i2 l1 l2) where
 mem:=by simp
 obj:=fun i h st b hb=>by
  obtain⟨g1,g2,⟨a,c,g3⟩,g4,g5⟩:=st
  simp only[qAl,qBl,or_false] at hb
  rcases hb with rfl|rfl|rfl|rfl|rfl
  .exact#[_,g1,fun v y=>by cases y]
  .exact#[_,g2,fun v y=>by cases y]
  .exact#[_,g3,fun v y=>by cases y]
  .exact FQ g4
  .exact FQ g5
 keep:=fun i h h' st k=>by
  obtain⟨g1,g2,⟨a,c,g3⟩,g4,g5⟩:=st
  exact#[k z (by simp) _ g1,k TI (by simp) _ g2,#[a,c,k TO (by simp) _ g3],Cy g4 fun o e=>k i1 (by simp) o e,Cy g5 fun o e=>k i2 (by simp) o e]
 item:=by
  intro X hP hw hK hc i pins s σ H E I hf st hg
  subst hP hw hK
  obtain⟨xs,ys,x,y,q1,q2,hx,hy⟩:=hg
  obtain⟨its1,rv1,src1⟩:=DV I q1
  obtain⟨its2,rv2,src2⟩:=DV I q2
  obtain⟨u,hu,ru⟩:=rv1.get hx
  obtain⟨v,hv,rv⟩:=rv2.get hy
  obtain⟨g1,g2,⟨a,c,g3⟩,g4,g5⟩:=st
  have hd:=I.ok.hd hc
  have fz:=hf z (by simp)
  have fI:=hf TI (by simp)
  have fO:=hf TO (by simp)
  have f1:=hf i1 (by simp)
  have f2:=hf i2 (by simp)
  refine Ro D (fun A' e=>Jr (e.trans hd) b1 D.a4.1 its1.toArray) (fun A' e=>Jr (e.trans hd) b2 D.a4.2 its2.toArray) g1 g2 g3 (src1 i1 i g4) (src2 i2 i g5) (x:=u) (y:=v) (by simpa using hu) (by simpa using hv) fun h1 k1 k2 k3 k4 k5 k6=>#[_,rfl,wpAny_letOwnedTupleGo_zip (s:={ s with heap:=h1 }) k1 fun h2 m1 m2=>?_]
  have m2':Heap.SameBut z h1 h2:=m2
  have lt:∀{b:Addr}{o:Obj},s.heap.get? b=some o->s.heap.objs.size≠b:=fun e=>qA9 (qAj e)
  have hn:H s.heap.objs.size=none:=I.hok.fresh (qAf _)
  have old2:∀b o,b≠z->b≠TO->b≠i1->b≠i2->s.heap.get? b=some o->h2.get? b=some o:=fun b o n1 n2 n3 n4 y=>(m2'.2 b n1).trans (k6 b o n1 n2 n3 n4 y)
  have tup2:h2.get? s.heap.objs.size=some { cls:=.type "tuple",data:=.seq (List.toArray [u,v]) }:=(m2'.2 _ (lt g1)).trans k5
  have trk:∀{b:Addr}{o:HO},H b=some o->b≠z/\b≠TO/\b≠i1/\b≠i2:=fun {b o} q=>#[(fun y=>by rw[y,fz.1] at q;cases q),(fun y=>by rw[y,fO.1] at q;cases q),(fun y=>by rw[y,f1.1] at q;cases q),(fun y=>by rw[y,f2.1] at q;cases q)]
  have hok2:HOk X.prog X.w (upd H s.heap.objs.size (.tup [x,y])) h2:=fun b o q=>by
   by_cases hb:b=s.heap.objs.size
   .subst hb
    rw[Ap] at q
    cases q
    exact#[by show 2<=sizeLine;decide,[u,v],.cons ru (.cons rv .nil),#[_,tup2,rfl,_,rfl]]
   .rw[Ag hb] at q
    refine(I.hok b o q).stay (hf:=fun c w1 w2 y=>by rw[Ag (Ao y hn)];exact y) (fun c o hc' y=>?_) (fun c y=>by rw[Ag (Ao y hn)];exact y) fun c ys y=>by rw[Ag (Ao y hn)];exact y
    have t:c≠z/\c≠TO/\c≠i1/\c≠i2:=by
     rcases hc' with rfl|hc'
     .exact trk q
     .exact trk hc'
    exact old2 c o t.1 t.2.1 t.2.2.1 t.2.2.2 y
  have nin:∀{b:Addr},b∉[z,TO,i1,i2]->b≠z/\b≠TO/\b≠i1/\b≠i2:=fun {b} h=>#[(fun y=>h (by simp[y])),(fun y=>h (by simp[y])),(fun y=>h (by simp[y])),(fun y=>h (by simp[y]))]
  have I2:Inv X pins σ (upd H s.heap.objs.size (.tup [x,y])) { s with heap:=h2,toks:=s.toks }:=by
   refine I.step (g':=s.gens) (d':=s.drawn) (ch:=[z,TO,i1,i2]) (fun b hb=>?_) (fun b o _ _ hb q _=>old2 b o (nin hb).1 (nin hb).2.1 (nin hb).2.2.1 (nin hb).2.2.2 q) (fun b o _ _ hb q _=>#[o.slots,old2 b o (nin hb).1 (nin hb).2.1 (nin hb).2.2.1 (nin hb).2.2.2 q])
    (fun b o _ q n=>by rw[Ag (qAx (qAj q))];exact n) (fun b o hb q=>#[o,old2 b o (nin hb).1 (nin hb).2.1 (nin hb).2.2.1 (nin hb).2.2.2 q])
    (fun b ys y=>by rw[Ag (Ao y hn)];exact y) (fun b o ys y=>by rw[Ag (Ao y hn)];exact y) (fun b ps y=>#[(List.toArray []),by rw[Ag (Ao y hn),y];simp]) (fun m hm=>?_) hok2 I.bare
   .simp only[qAl,qBl,or_false] at hb
    rcases hb with rfl|rfl|rfl|rfl
    .exact#[fz.2.2.2.1,fz.2.1,fz.2.2.2.2.1,fz.2.2.2.2.2]
    .exact#[fO.2.2.2.1,fO.2.1,fO.2.2.2.2.1,fO.2.2.2.2.2]
    .exact#[f1.2.2.2.1,f1.2.1,f1.2.2.2.2.1,f1.2.2.2.2.2]
    .exact#[f2.2.2.2.1,f2.2.1,f2.2.2.2.2.1,f2.2.2.2.2.2]
   .obtain⟨o,es,ep,ho,r⟩:=hm
    exact#[o,es,ep,old2 _ o (Ne.symm fz.2.1) (Ne.symm fO.2.1) (Ne.symm f1.2.1) (Ne.symm f2.2.1) ho,r]
  have ob1:=FQ g4
  have ob2:=FQ g5
  refine#[.ref s.heap.objs.size,_,I2,rfl,#[_,x,y,hn,rfl,fun zs hz=>by rw[Ja I q1 hz];exact hx,fun zs hz=>by rw[Ja I q2 hz];exact hy,rfl],#[m1,?_,#[u,v,?_],?_,?_],fun b hb=>?_]
  .exact(m2'.2 _ D.a1.1).trans (k6 _ _ D.a1.1 D.a2.1 D.a3.1 D.a3.2.2.2.1 g2)
  .exact(m2'.2 _ D.a1.2.1).trans k2
  .exact Cy (Ld k3) fun o e=>(m2'.2 _ D.a1.2.2.1).trans e
  .exact Cy (Ld k4) fun o e=>(m2'.2 _ D.a1.2.2.2.1).trans e
  .have ne:∀{b:Addr}{o:Obj},s.heap.get? b=some o->b≠s.heap.objs.size:=fun e=>qAx (qAj e)
   simp only[qAl,qBl,or_false] at hb
   rcases hb with rfl|rfl|rfl|rfl|rfl
   .rw[Ag (ne g1)];exact fz.1
   .rw[Ag (ne g2)];exact fI.1
   .rw[Ag (ne g3)];exact fO.1
   .obtain⟨o,e,_⟩:=ob1;rw[Ag (ne e)];exact f1.1
   .obtain⟨o,e,_⟩:=ob2;rw[Ag (ne e)];exact f2.1
 done:=by
  intro X hP hw hK hc i pins s σ H E I hf st hg
  subst hP hw hK
  obtain⟨xs,ys,q1,q2,he⟩:=hg
  obtain⟨its1,rv1,src1⟩:=DV I q1
  obtain⟨its2,rv2,src2⟩:=DV I q2
  obtain⟨g1,g2,⟨a,c,g3⟩,g4,g5⟩:=st
  have hd:=I.ok.hd hc
  have fz:=hf z (by simp)
  have fO:=hf TO (by simp)
  have f1:=hf i1 (by simp)
  have f2:=hf i2 (by simp)
  refine RG hd D (fun A' e=>Jr (e.trans hd) b1 D.a4.1 its1.toArray) (fun A' e=>Jr (e.trans hd) b2 D.a4.2 its2.toArray) g1 g2 g3 (src1 i1 i g4) (src2 i2 i g5) ?_ fun h' kp=>#[rfl,?_]
  .have e1:=rv1.length
   have e2:=rv2.length
   rcases he with he|he
   .left;rw[qBC,qAO];omega
   .right;rw[qBC,qAO];omega
  .have nin:∀{b:Addr},b∉[z,TO,i1,i2]->b≠z/\b≠TO/\b≠i1/\b≠i2:=fun {b} h=>#[(fun y=>h (by simp[y])),(fun y=>h (by simp[y])),(fun y=>h (by simp[y])),(fun y=>h (by simp[y]))]
   have old2:∀b o,b∉[z,TO,i1,i2]->s.heap.get? b=some o->h'.get? b=some o:=fun b o hb q=>kp b o (nin hb).1 (nin hb).2.1 (nin hb).2.2.1 (nin hb).2.2.2 q
   have trk:∀{b:Addr}{o:HO},H b=some o->b∉[z,TO,i1,i2]:=fun {b o} q hb=>by
    simp only[qAl,qBl,or_false] at hb
    rcases hb with rfl|rfl|rfl|rfl
    .rw[fz.1] at q;cases q
    .rw[fO.1] at q;cases q
    .rw[f1.1] at q;cases q
    .rw[f2.1] at q;cases q
   have hok2:HOk X.prog X.w H h':=fun b o q=>by
    refine(I.hok b o q).stay (fun c o hc' y=>old2 c o ?_ y) (fun _ y=>y) fun _ _ y=>y
    rcases hc' with rfl|hc'
    .exact trk q
    .exact trk hc'
   refine I.step (t':=s.toks) (g':=s.gens) (d':=s.drawn) (ch:=[z,TO,i1,i2]) (fun b hb=>?_) (fun b o _ _ hb q _=>old2 b o hb q) (fun b o _ _ hb q _=>#[o.slots,old2 b o hb q]) (fun b o _ q n=>n) (fun b o hb q=>#[o,old2 b o hb q])
    (fun b ys y=>y) (fun b o ys y=>y) (fun b ps y=>#[(List.toArray []),by rw[y];simp]) (fun m hm=>?_) hok2 I.bare
   .simp only[qAl,qBl,or_false] at hb
    rcases hb with rfl|rfl|rfl|rfl
    .exact#[fz.2.2.2.1,fz.2.1,fz.2.2.2.2.1,fz.2.2.2.2.2]
    .exact#[fO.2.2.2.1,fO.2.1,fO.2.2.2.2.1,fO.2.2.2.2.2]
    .exact#[f1.2.2.2.1,f1.2.1,f1.2.2.2.2.1,f1.2.2.2.2.2]
    .exact#[f2.2.2.2.1,f2.2.1,f2.2.2.2.2.1,f2.2.2.2.2.2]
   .obtain⟨o,es,ep,ho,r⟩:=hm
    refine#[o,es,ep,kp _ o (Ne.symm fz.2.1) (Ne.symm fO.2.1) (Ne.symm f1.2.1) (Ne.symm f2.2.1) ho,r]
 self:=fun A i s Q E st h=>wpAny_pyIter_zip st.1 h
section
variable {X:Cx}{pos:Pos}
def Xe (K:W.Frag)(ta:TA):TI:=fun σ H R=>ta σ H fun vs H1=>∃a1 a2,vs=[.ref a1,.ref a2]/\∃b:Bool,(∃xs,SqB K b H1 a1 xs)/\(∃ys,SqL K H1 a2 ys)/\R (Itz K b false a1 a2) H1
theorem U6 {n l1 l2:Addr}(h1:l1<n) (h2:l2<n):ZAp (n+4) (n+2) (n+3) n (n+1) l1 l2:=by
 have up:∀{a:Addr}(j:Nat),a<n->a≠n+j:=fun {a} j h=>qAx (qAv h (qBV n j))
 have lt:∀{i j:Nat},i<j->n+i≠n+j:=fun h=>qAx (Nat.add_lt_add_left h n)
 have gt:∀{i j:Nat},j<i->n+i≠n+j:=fun h=>qA9 (Nat.add_lt_add_left h n)
 exact#[#[lt ∅,lt ∅,lt (i:=0) ∅,lt ∅,up 4 h1,up 4 h2],#[lt ∅,lt (i:=0) ∅,lt ∅,up 3 h1,up 3 h2],#[gt (j:=0) ∅,gt (j:=0) ∅,up 0 h2,gt ∅,up 1 h1],#[up 0 h1,up 1 h2]]
theorem SN {e1 e2:Expr}{elts:List Expr}{x1:Nat}{tpos p:Pos}{ta:TA}(hg:Gl X "zip") (hm:X.mg "zip"=none) (ha:PA X [e1,e2] ta) (hs:starEach [e1,e2] X.env=[(false,eval e1 X.env),(false,eval e2 X.env)]:=by rfl) (hs2:starEach [e2] X.env=[(false,eval e2 X.env)]:=by rfl) :
 PI X (.Tuple elts x1 tpos) (.Call (.Name "zip" p) [e1,e2] [] pos) (Xe X.K ta):=by
 intro pins s σ H R I h
 refine Call_ (HE I hg hm qCR (qBe (thn (ha pos pins s σ H _ I h) fun us s1 #[vs,H1,I1,r1,q1]=>?_) (by rw[hs,hs2]) (by rw[hs2];rfl)))
 obtain⟨a1,a2,e,b,⟨xs,h1⟩,⟨ys,h2⟩,q⟩:=q1
 subst e
 cases r1 with
 |cons r rr =>
  cases rr with
  |cons r' rr =>
   cases rr
   cases r
   cases r'
   obtain⟨its2,rv2,p2,hz2⟩:=I1.list h2
   have fin:∀h',IsZip h' (s1.heap.objs.size+4) (s1.heap.objs.size+2) (s1.heap.objs.size+3) .none->IsPair h' (s1.heap.objs.size+2) (.ref s1.heap.objs.size) (.ref (s1.heap.objs.size+1))->IsPair h' (s1.heap.objs.size+3) .none .none ->
    ItB b h' s1.heap.objs.size a1 0->ItB false h' (s1.heap.objs.size+1) a2 0->(∀c o,s1.heap.get? c=some o->h'.get? c=some o)->a1<s1.heap.objs.size->a2<s1.heap.objs.size ->
    wpAny (model X.prog X.w) X.A (pyIter (.ref (s1.heap.objs.size+4))) (PIE X pins σ (.Tuple elts x1 tpos) R) X.xe { s1 with heap:=h' }:=fun h' g1 g2 g3 g4 g5 old n1 n2=>by
    have I2:Inv X pins σ H1 { s1 with heap:=h' }:=I1.kept (t':=s1.toks) old
    refine wpAny_pyIter_zip (s:={ s1 with heap:=h' }) g1 ?_
    refine#[s1.heap.objs.size+4,_,_,_,H1,rfl,I2,Sq b false (U6 n1 n2),#[g1,g2,#[_,_,g3],g4,g5],fun c hc=>?_,q]
    have ge:s1.heap.objs.size<=c:=by
     simp only[qAl,qBl,or_false] at hc
     rcases hc with rfl|rfl|rfl|rfl|rfl
     .exact qBV _ 4
     .exact qBV _ 2
     .exact qBV _ 3
     .exact qAf _
     .exact qBV _ 1
    exact I1.fpOk ge (I1.hok.fresh ge)
   have n2:a2<s1.heap.objs.size:=by obtain⟨o,e,_⟩:=p2.isList;exact qAj e
   cases b with
   |true =>
    obtain⟨its1,rv1,p1,hz1⟩:=I1.tuple h1
    have t1:s1.heap.IsTuple a1 its1.toArray:=p1
    have n1:a1<s1.heap.objs.size:=by obtain⟨o,e,_⟩:=t1;exact qAj e
    exact NV t1 p2.isList fun h' g1 g2 g3 g4 g5 old=>fin h' g1 g2 g3 g4 g5 old n1 n2
   |false =>
    obtain⟨its1,rv1,p1,hz1⟩:=I1.list h1
    have n1:a1<s1.heap.objs.size:=by obtain⟨o,e,_⟩:=p1.isList;exact qAj e
    exact call_zip_2 p1.isList p2.isList fun h' g1 g2 g3 g4 g5 _ old=>fin h' g1 g2 g3 g4 g5 old n1 n2
end
structure D1 (X:Cx)(x y':Str)(scope:Scope)(N:List Str)(idx:List Nat):Prop where
 kind:scope.kind=.function
 cell:∀y∈scope.names,y.2≠.cell
 names:∀y∈scope.names,y.2=.local->scope.names.lookup y.1=some .local
 own:scope.names.lookup x=some .local
 own2:scope.names.lookup y'=some .local
 free:∀y∈scope.names,y.2=.free->X.env.kindOf y.1=some .cell
 nd:N.Nodup
 fst:N[0]? = some x
 snd:N[1]? = some y'
 len:N.length=idx.length+2
 cap:∀(k j:Nat),idx[k]? = some j->∃y,N[k+2]? = some y/\X.N[j]? = some y/\scope.names.lookup y=some .free
section
variable {X:Cx}{pins:List (Addr×Obj)}{σ:St}{H2:Hp}{s2:Shared}{x y':Str}{px py' pt:Pos}{kt:Nat}{tg:Expr}{scope:Scope}{N:List Str}{idx:List Nat}{J:It}{fp:List Addr}{it:Addr}{tn:Nat->Heap->Prop}{cl:List (Str×Addr)}
theorem Mz (O:D1 X x y' scope N idx)(I2:Inv X pins σ H2 s2)(T:RE X.prog X.w X.K tg J fp it tn)(st2:tn 0 s2.heap)(f2:∀b∈fp,N7 X pins H2 b)
 (hcl:∀y c,cl.lookup y=some c->X.env.cells.lookup y=some c)(hcl2:∀y,(y,NameKind.free)∈scope.names->∃c,cl.lookup y=some c)
 {h1:Heap}{C:Addr}{m:Str->Option Value}{tk:Nat}(hC:s2.heap.objs.size<C) (hns:h1.Ns C m) (old:∀b o,s2.heap.get? b=some o->h1.get? b=some o)
 (hD:h1.get? s2.heap.objs.size=some { cls:=.type "list",data:=.seq ([]:List Value).toArray }) :
 Inv (Av X N scope cl C s2 H2 fp) [] (none::none::DO σ idx) (upd H2 s2.heap.objs.size (.lst [])) { s2 with heap:=h1,toks:=tk }:=by
 have inHeap:∀b∈fp,b<s2.heap.objs.size:=fun b hb=>by
  obtain⟨o,e,_⟩:=T.obj 0 _ st2 b hb
  exact qAj e
 have hDn:H2 s2.heap.objs.size=none:=I2.hok.fresh (qAf _)
 refine#[#[I2.ok.mod,O.kind,I2.ok.glob,I2.ok.blt,?_,?_,?_,(fun _ _ z=>by cases z),I2.ok.hd,I2.ok.frames,.inl rfl,?_,fun b o e=>I2.bs b o e,qAD I2.ok.bsz I2.sz,?_,?_,I2.stack,I2.stkFree,I2.tb],rfl,I2.bare,?_,#[m,hns,?_],?_,?_,?_,?_,?_,?_]
 .exact qBr hC
 .intro y z c h1 h2
  exact I2.ok.inj y z c (hcl y c h1) (hcl z c h2)
 .intro y hy
  have key:∀k,(relabel scope X.env).names.lookup y=some k->(k=.cell\/k=.free)->∃c,cl.lookup y=some c:=fun k e hk=>by
   obtain⟨k0,h1,h2⟩:=CB e
   have hf:k0=.free:=by
    rcases h2 with rfl|h2
    .rcases hk with rfl|rfl
     .exact absurd rfl (O.cell _ h1)
     .rfl
    .exact h2
   subst hf
   exact hcl2 y h1
  rcases hy with e|e
  .exact key _ e (.inl rfl)
  .exact key _ e (.inr rfl)
 .intro b hb
  have:=inHeap b hb
  exact#[qAx (qBi this hC),fun y c e=>(f2 b hb).2.2.2.2.1 y c (hcl y c e)]
 .intro b o e hb
  rcases(f2 b hb).2.2.2.1 with z|z
  .exact I2.ok.noex b o e z
  .exact absurd (qAv (qAj e) (qAD I2.ok.bsz z)) (qAZ _)
 .intro b hb hf
  rcases qAl.mp (I2.stkSub b hf) with e|e
  .exact(f2 b hb).2.1 e
  .exact(f2 b hb).2.2.1 e
 .exact Un.laid old (qAf _) hDn
 .intro i y v e1 e2 e3
  cases i with
  |zero=>cases e2
  |succ k =>
   cases k with
   |zero=>cases e2
   |succ k =>
    obtain⟨j,ej,es⟩:=HY (k:=k) e2
    obtain⟨y',n1,n2,n3⟩:=O.cap k j ej
    have ey:y'=y:=qAn (n1.symm.trans e1)
    subst ey
    have kc:=O.free _ (Bz n3) rfl
    obtain⟨m0,hn0,hl0⟩:=I2.loc
    obtain⟨u,ru,lk⟩:=hl0 j y' v n2 es (.inr (.inl kc))
    refine#[u,ru,?_]
    rcases lk with⟨k1,_⟩|⟨_,c,hc,ic⟩
    .rw[kc] at k1;cases k1
    .obtain⟨c',hc'⟩:=hcl2 y' (Bz n3)
     have:c'=c:=qAn ((hcl y' c' hc').symm.trans hc)
     subst this
     exact .inr #[.inl (B2 I2.ok.kind kc n3),c',hc',ic.keeps old]
 .intro y c e
  obtain⟨v,ic⟩:=I2.cell y c (hcl y c e)
  exact#[v,ic.keeps old]
 .show upd H2 _ _ C=none
  rw[Ag (qA9 hC)]
  exact I2.hok.fresh (qBr hC)
 .intro y c e
  obtain⟨v,ic⟩:=I2.cell y c (hcl y c e)
  rw[Ag (qAx ic.lt)]
  exact I2.freeC y c (hcl y c e)
 .intro p hp;cases hp
 .exact I2.hok.laid old (qAf _) #[qA7 _,[],_,.nil,hD]
 .show(none::none::DO σ idx).length=N.length
  rw[O.len,qAW,qAW]
  unfold DO
  rw[qAa]
def M6 (K:W.Frag)(idx:List Nat)(wi:TI)(te:Hp->TE):TE:=fun σ H Q=>wi σ H fun J H1=>∀D,H1 D=none->K.lookup D=none->∃W:Nat->Nat->List V->Hp->Prop,(∃m,W 0 m [] (upd H1 D (.lst []))) /\
 ∀i m ys H,H D=some (.lst ys)->W i m ys H->(J.stop i H/\Q (.ref D) H)\/(J.go i H/\∀x H',J.yld i H x H'->∃p v1 v2,x=.ref p/\SqT K H' p [v1,v2] /\
  te H1 (some v1::some v2::DO σ idx) H' (fun v H3=>H3 D=some (.lst ys)/\ys.length<sizeLine/\∃m',m'<m/\W (i+1) m' (ys++[v]) (upd H3 D (.lst (ys++[v])))))
theorem Lm {elt iter:Expr}{wi:TI}{te:Hp->TE}{pos:Pos}{s:Shared}{H:Hp}{Q:VK}{use:Option (Value->Sem Unit)}{QQ:Value->Shared->Prop}(O:D1 X x y' scope N idx) (hc:X.calm=true) (hi:PI X (.Tuple [.Name x px,.Name y' py'] kt pt) iter wi)
 (helt:∀cl C s₀ H₀ fp,PE (Av X N scope cl C s₀ H₀ fp) elt (te H₀))
 (hs:∀x,foldedSetIterable iter X.env x=pure x) (I:Inv X pins σ H s) (h:M6 X.K idx wi te σ H Q)
 (fin:∀(s2:Shared)(H2:Hp)(fp:List Addr)(cl:List (Str×Addr))(C D:Addr)(σ':St)(H':Hp)(s':Shared),Inv X pins σ H2 s2->(∀b∈fp,N7 X pins H2 b)->s2.heap.objs.size<C->Inv (Av X N scope cl C s2 H2 fp) [] σ' H' s'->Q (.ref D) H' ->
  compPost (model X.prog X.w) X.A X.xe use QQ (.ref D) C (.ok .next) s') :
 wpAny (model X.prog X.w) X.A (comprehension (.ListComp elt [#[.Tuple [.Name x px,.Name y' py'] kt pt,iter,[],0]] scope pos) scope X.env (firstIterPos [#[.Tuple [.Name x px,.Name y' py'] kt pt,iter,[],0]] pos) (newList []) false (eval iter X.env) use) QQ X.xe s:=by
 obtain⟨cl,ecl,hcl,hcl2⟩:=Fc (scope:=scope) (env:=X.env) fun y hy hf=>I.ok.has y.1 (.inl (O.free y hy hf))
 refine wpAny_comprehension_free (use:=use) (cl:=cl) rfl hs ecl O.kind O.names ?_
 refine thn (hi pins s σ H _ I h) fun v s1 h1=>thn h1 fun itv s2 h2=>?_
 obtain⟨it,fp,tn,J,H2,rfl,I2,T,st2,f2,hD⟩:=h2
 refine wpAny_newObj_type (wpAny_newFunctionEnv O.cell (by intro y hy;simp at hy) (fun h1 hns hsb=>?_) O.kind)
 dsimp only at hns hsb ⊢
 generalize hG:s2.heap.push { cls:=.type "list",dict:=none,data:=.seq ([]:List Value).toArray }=G at hns hsb ⊢
 have hCs:s2.heap.objs.size<G.objs.size:=by rw[<-hG,qA8];exact qBU _
 have old:∀b o,s2.heap.get? b=some o->h1.get? b=some o:=fun b o e=>hsb.extBut b o (qAx (qBi (qAj e) hCs)) (qAh _ (hG ▸ qAh _ e))
 have hDl:h1.get? s2.heap.objs.size=some { cls:=.type "list",data:=.seq ([]:List Value).toArray }:=hsb.extBut _ _ (qAx hCs) (qAh _ (hG ▸ qAt _ rfl))
 have hDn:H2 s2.heap.objs.size=none:=I2.hok.fresh (qAf _)
 have hDk:X.K.lookup s2.heap.objs.size=none:=by
  cases e:X.K.lookup s2.heap.objs.size with
  |none=>rfl
  |some o=>exact absurd (qAj (I2.kIn _ _ e)) (qAZ _)
 obtain⟨W,⟨m0,w0⟩,step⟩:=hD _ hDn hDk
 have I4:Inv (Av X N scope cl G.objs.size s2 H2 fp) [] (none::none::DO σ idx) (upd H2 s2.heap.objs.size (.lst [])) { s2 with heap:=h1,toks:=s2.toks+([]:List (Str×Value)).length } :=
  Mz O I2 T st2 f2 hcl hcl2 hCs hns old hDl
 generalize hCC:G.objs.size=C at I4 hCs ⊢
 clear hsb hns hG hCC
 generalize hDD:s2.heap.objs.size=D at hDn hDk step w0 I4 hDl ⊢
 have st4:tn 0 h1:=T.keep 0 _ _ st2 fun b _ o e=>old b o e
 have frD:∀b∈fp,(upd H2 D (.lst [])) b=none:=fun b hb=>by
  obtain⟨o,e,_⟩:=T.obj 0 _ st2 b hb
  rw[Ag (by rw[<-hDD];exact qAx (qAj e))]
  exact(f2 b hb).1
 have stat:∀{H':Hp},(∀b∈fp,H' b=none)->∀b∈fp,N7 (Av X N scope cl C s2 H2 fp) [] H' b:=fun hn b hb =>
  #[hn b hb,(I4.ok.exf b hb).1,I4.ok.exfs b hb,.inl hb,(I4.ok.exf b hb).2,fun p hp=>by cases hp]
 have hloc:(Av X N scope cl C s2 H2 fp).env.scope.names.lookup x=some .local:=lookup_relabel_local O.own
 have hloc2:(Av X N scope cl C s2 H2 fp).env.scope.names.lookup y'=some .local:=lookup_relabel_local O.own2
 have pg:PG (Av X N scope cl C s2 H2 fp) (.Tuple [.Name x px,.Name y' py'] kt pt) (W7 X.K 2 (Lx (Ey 0) (Lx (Ey 1) Xf))) :=
  Nl (X:=Av X N scope cl C s2 H2 fp) hc (Dd (A3 O.nd O.fst (.inl hloc) (.inr hloc)) (Dd (A3 O.nd O.snd (.inl hloc2) (.inr hloc2)) KQ))
 have loop:∀s3:Shared,s3={ s2 with heap:=h1,toks:=s2.toks+([]:List (Str×Value)).length } ->
  codeAny (model X.prog X.w) X.A (.compLoop (.ListComp elt [#[.Tuple [.Name x px,.Name y' py'] kt pt,iter,[],0]] scope pos) 0 (.ref it) (.ref D) (compEnvC scope cl C X.env)) (compPost (model X.prog X.w) X.A X.xe use QQ (.ref D) C) s3:=by
  rintro s3 rfl
  refine LCp.codeAny_compLoop_pair (fun n s'=>∃i z1 z2 H' ys,Inv (Av X N scope cl C s2 H2 fp) [] (z1::z2::DO σ idx) H' s'/\tn i s'.heap/\(∀b∈fp,H' b=none)/\H' D=some (.lst ys)/\W i n ys H') ?_ m0 #[0,none,none,_,[],I4,st4,frD,Ap,w0]
  rintro n s5 ⟨i,z1,z2,H5,ys,I5,st5,fr5,hD5,w5⟩
  rcases step i n ys H5 hD5 w5 with⟨stop,q⟩|⟨go,next⟩
  .refine wpAny_mono (T.done (Av X N scope cl C s2 H2 fp) rfl rfl rfl hc i [] s5 _ H5 (fun _ _=>False) I5 (stat fr5) st5 stop) (fun r s6 hh=>?_) fun _ _ z=>z.elim
   obtain⟨hr,I6⟩:=hh
   subst hr
   exact fin s2 H2 fp cl C D _ H5 s6 I2 f2 hCs I6 q
  .refine wpAny_mono (T.item (Av X N scope cl C s2 H2 fp) rfl rfl rfl hc i [] s5 _ H5 (fun _ _=>False) I5 (stat fr5) st5 go) (fun r s6 hh=>?_) fun _ _ z=>z.elim
   obtain⟨u,hr,h6⟩:=hh
   subst hr
   dsimp only
   refine wpAny_mono h6 (fun _ s7 h7=>?_) fun _ _ z=>z.elim
   obtain⟨xv,H7,I7,r7,y7,st7,fr7⟩:=h7
   have I7':=I7.pinned (stat fr7) (T.obj _ _ st7)
   obtain⟨p,v1,v2,e7,sq7,nx7⟩:=next xv H7 y7
   subst e7
   refine wpAny_mono (pg _ s7 _ H7 (.ref p) u (fun σ' H'=>σ'=some v1::some v2::DO σ idx/\H'=H7) I7' r7 #[p,[v1,v2],rfl,sq7,rfl,v1,[v2],rfl,v2,[],rfl,rfl,rfl,rfl]) (fun _ s8 h8=>?_) fun _ _ z=>z.elim
   obtain⟨σ8,H8,I8,e8,e8'⟩:=h8
   subst e8 e8'
   have again:∀{H9:Hp}{s9:Shared}{ys':List V}{m':Nat},Inv (Av X N scope cl C s2 H2 fp) ([]++JW fp s7.heap) (some v1::some v2::DO σ idx) H9 s9->H9 D=some (.lst ys')->m'<n->W (i+1) m' ys' H9 ->
    ∃m,m<n/\∃i z1 z2 H' ys,Inv (Av X N scope cl C s2 H2 fp) [] (z1::z2::DO σ idx) H' s9/\tn i s9.heap/\(∀b∈fp,H' b=none)/\H' D=some (.lst ys)/\W i m ys H':=fun {H9 s9 ys' m'} I9 hD9 hm w9=>by
    refine#[m',hm,i+1,some v1,some v2,H9,ys',I9.unpinned,T.keep _ _ _ st7 fun b hb o e=>(I9.pin (b,o) (qAy _ (qAy _ (Di hb e)))).1,fun b hb=>?_,hD9,w9]
    obtain⟨o,e,d⟩:=T.obj _ _ st7 b hb
    exact(I9.pin (b,o) (qAy _ (qAy _ (Di hb e)))).2.1
   refine wpAny_mono (helt cl C s2 H2 fp _ s8 _ H8 _ I8 nx7) (fun y s10 hh=>?_) fun _ _ z=>z.elim
   obtain⟨v,H10,I10,r10,hD10,hl,m',hm,w'⟩:=hh
   refine wpAny_mono (AN (X:=Av X N scope cl C s2 H2 fp) _ s10 _ H10 (.ref D) [v] (.ref D) [y] (fun _ H'=>H'=upd H10 D (.lst (ys++[v]))) I10 rfl (.cons r10 .nil) #[D,ys,v,rfl,rfl,hD10,hl,rfl]) (fun _ s11 hh=>?_) fun _ _ z=>z.elim
   obtain⟨_,H11,I11,_,e11⟩:=hh
   subst e11
   exact again I11 Ap hm w'
 exact codeAny_compStart_list (loop _ rfl) (T.self X.A 0 _ _ _ st4 (loop _ rfl))
theorem Rn {elt iter:Expr}{wi:TI}{te:Hp->TE}{pos:Pos}(O:D1 X x y' scope N idx) (hc:X.calm=true) (hi:PI X (.Tuple [.Name x px,.Name y' py'] kt pt) iter wi)
 (helt:∀cl C s₀ H₀ fp,PE (Av X N scope cl C s₀ H₀ fp) elt (te H₀))
 (hs:∀x,foldedSetIterable iter X.env x=pure x:=by intro _;rfl):PE X (.ListComp elt [#[.Tuple [.Name x px,.Name y' py'] kt pt,iter,[],0]] scope pos) (M6 X.K idx wi te):=by
 intro pins s σ H Q I h
 rw[eval_ListComp]
 refine Lm (use:=none) O hc hi helt hs I h fun s2 H2 fp cl C D σ' H' s' I2 f2 hC I' q=>?_
 obtain⟨m,hn,_⟩:=I'.loc
 exact#[m,hn,fun h' hs'=>#[.ref D,H',Gd I2 f2 hC I' hs',rfl,q]]
theorem L9 {i:Nat}{y:Str}{py spos:Pos}{elt iter:Expr}{wi:TI}{te:Hp->TE}{pos:Pos}(O:D1 X x y' scope N idx) (hc:X.calm=true) (hi:PI X (.Tuple [.Name x px,.Name y' py'] kt pt) iter wi)
 (helt:∀cl C s₀ H₀ fp,PE (Av X N scope cl C s₀ H₀ fp) elt (te H₀)) (hN:X.N.Nodup) (hy:X.N[i]? = some y) (hly:Loc X.env.scope y)
 (hsw:swapsWith (.ListComp elt [#[.Tuple [.Name x px,.Name y' py'] kt pt,iter,[],0]] scope pos) (some (.Name y py)) spos.line X.env=pure true:=by rfl) (hs:∀x,foldedSetIterable iter X.env x=pure x:=by intro _;rfl)
 (hfn:X.fn y=true\/X.env.scope.names.lookup y=some .local:=by first|exact .inl rfl|exact .inr rfl|assumption) :
 PS X (.Assign [.Name y py] (.ListComp elt [#[.Tuple [.Name x px,.Name y' py'] kt pt,iter,[],0]] scope pos) spos) (Vo i (M6 X.K idx wi te)):=by
 intro pins s σ H D I h
 rw[exec_Assign_Name_used _ _ _ _ hsw]
 refine wpAny_bind (wpAny_standAt (wpAny_bind ?_))
 show wpAny _ X.A (do let _ <-comprehension (.ListComp elt [#[.Tuple [.Name x px,.Name y' py'] kt pt,iter,[],0]] scope pos) scope X.env _ (newList []) false (eval iter X.env) (some (assign (.Name y py) X.env))) _ _ s
 refine wpAny_bind (wpAny_mono (Lm (use:=some (assign (.Name y py) X.env)) (QQ:=fun _ s'=>SP X pins D .next s') O hc hi helt hs I h fun s2 H2 fp cl C E σ' H' s' I2 f2 hC I' q=>?_) (fun _ s' hq=>wpAny_pure (wpAny_pure hq)) fun _ _ e=>e)
 have I3:Inv X pins σ H' s':=Gd (h':=s'.heap) I2 f2 hC I' #[rfl,fun _ _=>rfl]
 obtain⟨mC,hnC,_⟩:=I'.loc
 have h0:X.s₀.heap.objs.size<=C:=qAD I2.sz (qBr hC)
 have hCL:C≠X.env.locals:=qA9 (qBi I2.lt hC)
 have hCc:∀y c,X.env.cells.lookup y=some c->c≠C:=fun y c e=>by
  obtain⟨v,ic⟩:=I2.cell y c e
  exact qAx (qBi ic.lt hC)
 have hCp:∀p∈X.pn++pins,p.1≠C:=fun p hp=>qAx (qBi (qAj (I2.pin p hp).1) hC)
 show wpAny _ X.A (assign (.Name y py) X.env (.ref E)) _ _ _
 refine wpAny_assign_Name (IX (v:=.ref E) I3 hN hy hly rfl (fun s4 I4 hb=>?_) hfn)
 obtain⟨a,hsa,ha⟩:=hb
 have hCa:C≠a:=by
  rcases ha with rfl|ha
  .exact hCL
  .exact fun z=>hCc y a ha z.symm
 exact#[mC,hnC.sameBut hsa hCa,fun h' hs'=>#[_,H',QU I4 hs' h0 I'.free hCL hCc hCp,q]]
end
def Ry (τ:Tau)(idx:List Nat)(x y:D):Tau:=some (.d x)::some (.d y)::(DO τ idx).map (Option.map S.share)
section
variable {X:Cx}{x y':Str}{px py' pt pos:Pos}{kt:Nat}{scope:Scope}{N:List Str}{idx:List Nat}{σ:St}{τ:Tau}{elt:Expr}{ta:TA3}{te:TE3}
theorem OJ {B p p0 q:HZ}{d e:D}{v u:V}(r:Rep X B τ σ p) (e0:Ext p p0) (e':Ext p0 q) (iv:Is X.K q.z v d) (iu:Is X.K q.z u e):Rep (cxC X N scope p0.h) p0 (Ry τ idx d e) (some v::some u::DO σ idx) q:=by
 have base:=NH (N:=N) (scope:=scope) (idx:=idx) r e0 e' iu
 have no:∀(i:Nat)(xs:List D),¬(Ry τ idx d e)[i]? = some (some (.l xs)):=fun i xs z=>by
  cases i with
  |zero=>cases z
  |succ k =>
   have z':(S6 τ idx e)[k]? = some (some (.l xs)):=z
   cases k with
   |zero=>cases z'
   |succ k =>
    have z2:((DO τ idx).map (Option.map S.share))[k]? = some (some (.l xs)):=z'
    rw[qAc] at z2
    cases q:(DO τ idx)[k]? with
    |none=>rw[q] at z2;cases z2
    |some o =>
     rw[q] at z2
     cases o with
     |none=>cases z2
     |some s0 =>
      have z3:s0.share=.l xs:=qAn (qAn z2)
      cases s0<;>cases z3
 refine#[?_,e',fun i s hs=>?_,fun i xs a z _=>absurd z (no i xs),fun i j xs s a _ z _ _ _=>absurd z (no i xs),fun _=>Bw.refl _,fun k a h=>by cases h]
 .have:=base.len
  show(some u::DO σ idx).length+1=(S6 τ idx e).length+1
  rw[this]
 .cases i with
  |zero=>cases hs;exact#[v,rfl,iv]
  |succ k=>exact base.val k s hs
def OM (idx:List Nat)(ta:TA3)(te:TE3):TE3:=fun τ R=>ta τ fun ss=>∃(s1 s2:S)(xs ys:List D),ss=[s1,s2]/\items s1=some xs/\(s2=.r ys\/s2=.d (.lst ys))/\∃os:List D,os.length=min xs.length ys.length /\
 (∀(n:Nat)(x y:D),xs[n]? = some x->ys[n]? = some y->te (Ry τ idx x y) (fun s=>dd s.arg fun d=>os[n]? = some d))/\os.length<=100000/\R (.l os)
theorem Xr {K:W.Frag}{p:HZ}{v:V}{s:S}{xs:List D}(h:IsS K p v s) (hz:Bw p.z p.h) (hs:items s=some xs):∃a vs b,v=.ref a/\SqB K b p.h a vs/\Iss K p.z vs xs:=by
 cases s with
 |d z =>
  cases z with
  |tup zs=>cases hs;obtain⟨a,vs,rfl,h3,h4⟩:=Is.tup_inv h;exact#[a,vs,true,rfl,SqT.same hz h3,h4]
  |lst zs=>cases hs;obtain⟨a,vs,rfl,h3,h4⟩:=Is.lst_inv h;exact#[a,vs,false,rfl,hz.seq h3,h4]
  |_=>cases hs
 |l zs=>cases hs;obtain⟨a,vs,rfl,h3,h4⟩:=h;exact#[a,vs,false,rfl,SqL.of h3,h4]
 |r zs=>cases hs;obtain⟨a,vs,rfl,h3,h4⟩:=h;exact#[a,vs,false,rfl,h3,h4]
theorem SqB.same {K:W.Frag}{b:Bool}{H H':Hp}{a:Addr}{vs:List V}(e:Bw H H') (h:SqB K b H a vs):SqB K b H' a vs:=by
 unfold SqB at *
 cases b with
 |true=>exact SqT.same e h
 |false=>exact e.seq h
theorem LO {Q:VK}{H:Hp}(h:FE X (OM idx ta te) σ H Q):M6 X.K idx (Xe X.K (FA X ta)) (fun H₀=>FE (cxC X N scope H₀) te) σ H Q:=by
 obtain⟨B,z,τ,R,r,ht,q⟩:=h
 refine#[B,z,τ,_,r,ht,fun ss vs p1 e1 i1 h1=>?_]
 obtain⟨s1,s2,xs,ys,rfl,hx,hy,os,hlen,hel,hsz,hR⟩:=h1
 obtain⟨w1,w2,rfl,is1,is2⟩:∃w1 w2,vs=[w1,w2]/\IsS X.K p1 w1 s1/\IsS X.K p1 w2 s2:=by
  have hl:=i1.1
  match vs,hl with
  |[w1,w2],_=>exact#[w1,w2,rfl,(i1.2 0 w1 s1 rfl rfl).1,(i1.2 1 w2 s2 rfl rfl).1]
 obtain⟨a1,vs1,b,rfl,q1,j1⟩:=Xr is1 e1.sub hx
 have hy':items s2=some ys:=by rcases hy with rfl|rfl<;>rfl
 obtain⟨a2,vs2,q2,j2,rfl⟩:∃a2 vs2,SqL X.K p1.h a2 vs2/\Iss X.K p1.z vs2 ys/\w2=.ref a2:=by
  rcases hy with rfl|rfl
  .obtain⟨p,us,e,h3,h4⟩:=is2;exact#[p,us,h3,h4,e]
  .obtain⟨p,us,e,h3,h4⟩:=Is.lst_inv is2;exact#[p,us,e1.sub.seq h3,h4,e]
 refine#[a1,a2,rfl,b,#[vs1,q1],#[vs2,q2],fun D' hD hK=>?_]
 have sz:(100000:Nat)<sizeLine:=∅
 have q2':SqB X.K false p1.h a2 vs2:=q2
 refine#[fun i m us H'=>m=os.length-i/\i<=os.length/\∃z',Ext p1 #[H',z']/\z' D'=none/\Iss X.K z' us (os.take i),#[os.length,rfl,qA7 _,p1.z,Ext.own e1.sub hD _,e1.sub.free hD,Iss.nil],?_]
 rintro i m us H' hD' ⟨rfl,hi,z',hs,hzD,hiss⟩
 have q1h:SqB X.K b H' a1 vs1:=q1.same hs.hh
 have q2h:SqB X.K false H' a2 vs2:=q2'.same hs.hh
 have l1:=j1.1
 have l2:=j2.1
 by_cases hlt:i<os.length
 .have n1:i<vs1.length:=()
  have n2:i<vs2.length:=()
  refine .inr #[#[vs1,vs2,_,_,q1h,q2h,qAb n1,qAb n2],fun v H'' hy2=>?_]
  obtain⟨p,v1,v2,hp,rfl,g1,g2,rfl⟩:=hy2
  obtain⟨d1,hd1,id1⟩:=CN j1 (g1 vs1 q1h)
  obtain⟨d2,hd2,id2⟩:=CN j2 (g2 vs2 q2h)
  have eo:Ext #[H',z'] #[upd H' p (.tup [v1,v2]),z']:=Ext.own hs.sub hp _
  have hs2:=hs.trans eo
  refine#[p,v1,v2,rfl,.inl (.inl Ap),?_]
  have rr:Rep (cxC X N scope p1.h) p1 (Ry τ idx d1 d2) (some v1::some v2::DO σ idx) #[upd H' p (.tup [v1,v2]),z']:=OJ r e1 hs2 (id1.mono hs.zz) (id2.mono hs.zz)
  have hDp:D'≠p:=by rintro rfl;rw[hD'] at hp;cases hp
  have hD2:upd H' p (.tup [v1,v2]) D'=some (.lst us):=by rw[Ag hDp];exact hD'
  have hys:us.length<=i:=by rw[hiss.1,qAU];omega
  have keep:∀q:HZ,Ext #[upd H' p (.tup [v1,v2]),z'] q->q.z D'=none:=fun q e=>by
   cases y:q.z D' with
   |none=>rfl
   |some o =>
    rcases e.new D' o y with y|y
    .exact nomatch (hzD.symm.trans y)
    .exact nomatch (hD2.symm.trans y)
  refine#[_,_,_,_,rr,hel i d1 d2 hd1 hd2,fun s v3 q4 e4 i4 f4 h4=>?_]
  obtain⟨y,hy',h4⟩:=Fz h4
  obtain⟨z5,e5,i5⟩:=FN e4 i4 f4
  rw[hy'] at i5
  have hD4:q4.h D'=some (.lst us):=e5.hh _ _ hD2
  have hz5:z5 D'=none:=keep _ e5
  refine#[hD4,(),os.length-(i+1),(),rfl,hlt,z5,?_,hz5,?_]
  .have e15:=hs2.trans e5
   refine#[fun b o hb'=>?_,e15.zz,fun b o hb'=>?_,e15.new]
   .have hne:b≠D':=by rintro rfl;rw[hD] at hb';cases hb'
    show upd q4.h D' _ b=some o
    rw[Ag hne]
    exact e15.hh b o hb'
   .have hne:b≠D':=by
     rintro rfl
     have hb2:z5 b=some o:=hb'
     rw[hz5] at hb2;cases hb2
    show upd q4.h D' _ b=some o
    rw[Ag hne]
    exact e15.sub b o hb'
  .rw[qA2,h4]
   exact(hiss.mono e5.zz).snoc i5
 .have ei:i=os.length:=()
  subst ei
  rw[List.take_length] at hiss
  refine .inl #[#[vs1,vs2,q1h,q2h,()],q (.l os) _ #[H',z'] (e1.trans hs) #[D',us,rfl,hD',hiss] (fun xs a _ h2=>?_) hR]
  cases h2
  exact#[e1.hh.free hD,hK,hzD]
variable {e1 e2:Expr}{np pn:Pos}
theorem Tz (O:D1 X x y' scope N idx)(hc:X.calm=true)(hi:PI X (.Tuple [.Name x px,.Name y' py'] kt pt) (.Call (.Name "zip" np) [e1,e2] [] pn) (Xe X.K (FA X ta)))(helt:∀cl C s₀ H₀ fp,PE3 (Av X N scope cl C s₀ H₀ fp) elt te)
 (hs:∀x,foldedSetIterable (.Call (.Name "zip" np) [e1,e2] [] pn) X.env x=pure x:=by intro _;rfl):PE3 X (.ListComp elt [#[.Tuple [.Name x px,.Name y' py'] kt pt,.Call (.Name "zip" np) [e1,e2] [] pn,[],0]] scope pos) (OM idx ta te) :=
 #[BJ (Rn O hc hi (Ko helt) hs) fun σ H Q h=>LO h]
theorem Wa {i:Nat}{y:Str}{py spos:Pos}(O:D1 X x y' scope N idx) (hc:X.calm=true) (hi:PI X (.Tuple [.Name x px,.Name y' py'] kt pt) (.Call (.Name "zip" np) [e1,e2] [] pn) (Xe X.K (FA X ta))) (helt:∀cl C s₀ H₀ fp,PE3 (Av X N scope cl C s₀ H₀ fp) elt te)
 (hN:X.N.Nodup) (hy:X.N[i]? = some y) (hly:Loc X.env.scope y)
 (hsw:swapsWith (.ListComp elt [#[.Tuple [.Name x px,.Name y' py'] kt pt,.Call (.Name "zip" np) [e1,e2] [] pn,[],0]] scope pos) (some (.Name y py)) spos.line X.env=pure true:=by rfl) (hs:∀x,foldedSetIterable (.Call (.Name "zip" np) [e1,e2] [] pn) X.env x=pure x:=by intro _;rfl)
 (hfn:X.fn y=true\/X.env.scope.names.lookup y=some .local:=by first|exact .inl rfl|exact .inr rfl|assumption) (hp:Em X i:=by first|exact Ed rfl|exact Ea rfl ∅|assumption) :
 PS3 X (.Assign [.Name y py] (.ListComp elt [#[.Tuple [.Name x px,.Name y' py'] kt pt,.Call (.Name "zip" np) [e1,e2] [] pn,[],0]] scope pos) spos) (Xk i (OM idx ta te)) :=
 #[CS (L9 O hc hi (Ko helt) hN hy hly hsw hs hfn) fun D2 σ H hh=>by obtain⟨B,z,τ,D3,r,ht,c⟩:=hh;exact LO #[B,z,τ,_,r,ht,fun s v H' e i f h=>by
  cases s with
  |r _=>exact h.elim
  |d y=>exact c.nx _ _ _ (r.set e i f rfl hp) h
  |l ys=>exact c.nx _ _ _ (r.set e i f rfl hp) h]]
end
def Kp (fN:List Str)(scope:Scope)(N:List Str):Nat->List Nat->Bool
 |_,[]=>true
 |k,j::r=>(match N[k+2]?,fN[j]? with
  |some y,some y'=>y==y'&&(scope.names.lookup y==some NameKind.free)
  |_,_=>false)&&Kp fN scope N (k+1) r
def NA (fsc:Scope)(fN:List Str)(x z:Str)(scope:Scope)(N:List Str)(idx:List Nat):Bool :=
 (scope.kind == .function)&&scope.names.all (fun y=>!(y.2 == .cell))&&scope.names.all (fun y=>!(y.2 == .local)||scope.names.lookup y.1==some .local)&&(scope.names.lookup x==some NameKind.local)&&(scope.names.lookup z==some NameKind.local) &&
 scope.names.all (fun y=>!(y.2 == .free)||fsc.names.lookup y.1==some .cell)&&decide N.Nodup&&(N[0]? == some x)&&(N[1]? == some z)&&(N.length==idx.length+2)&&Kp fN scope N 0 idx
theorem Qm {fN:List Str}{scope:Scope}{N:List Str}:∀{idx:List Nat}{k0:Nat},Kp fN scope N k0 idx=true->∀(k j:Nat),idx[k]? = some j->∃y,N[k0+k+2]? = some y/\fN[j]? = some y/\scope.names.lookup y=some .free
 |[],_,_,_,_,h=>by simp at h
 |i::r,k0,h,k,j,hk=>by
  unfold Kp at h
  rw[qAV] at h
  cases k with
  |zero =>
   have e:i=j:=by simpa using hk
   subst e
   obtain⟨h1,_⟩:=h
   split at h1
   .rename_i y y' e1 e2
    rw[qAV] at h1
    have ey:y=y':=by simpa using h1.1
    subst ey
    exact#[y,e1,e2,by simpa using h1.2]
   .cases h1
  |succ k =>
   obtain⟨y,a,b,c⟩:=Qm h.2 k j (by simpa using hk)
   exact#[y,by rw[<-a];congr 1;omega,b,c]
theorem D1.mk' {X:Cx}{x z:Str}{scope:Scope}{N:List Str}{idx:List Nat}(fsc:Scope) (fN:List Str) (h1:X.env.scope=fsc) (h2:X.N=fN) (h:NA fsc fN x z scope N idx=true):D1 X x z scope N idx:=by
 subst h1 h2
 unfold NA at h
 simp only[qAV] at h
 obtain⟨⟨⟨⟨⟨⟨⟨⟨⟨⟨a1,a2⟩,a3⟩,a4⟩,b4⟩,a5⟩,a6⟩,a7⟩,b7⟩,a8⟩,a9⟩:=h
 refine#[by simpa using a1,fun y hy=>?_,fun y hy hl=>?_,by simpa using a4,by simpa using b4,fun y hy hf=>?_,by simpa using a6,by simpa using a7,by simpa using b7,by simpa using a8,fun k j hk=>?_]
 .have:=qAH.mp a2 y hy
  simpa using this
 .have:=qAH.mp a3 y hy
  rw[hl] at this
  simpa using this
 .have:=qAH.mp a5 y hy
  rw[hf] at this
  show X.env.scope.names.lookup y.1=some .cell
  simpa using this
 .have:=Qm a9 k j hk
  simpa using this
theorem KM {α β:Type}{f g:α->Option β}:∀{l:List α},(∀a∈l,f a=g a)->l.filterMap f=l.filterMap g
 |[],_=>rfl
 |a::l,h=>by
  rw[qBh,qBh,h a (qAl.mpr (.inl rfl)),KM fun b hb=>h b (qAl.mpr (.inr hb))]
theorem RU (items:List Value):slicePick items.toArray none none (some (-1))=items.reverse.toArray:=by
 unfold slicePick
 congr 1
 have e:sliceBounds none none (some (-1)) items.toArray.size=((items.length:Int)-1,-1,-1):=by
  unfold sliceBounds
  simp
 rw[e]
 unfold sliceRange
 have c:(if (-1:Int)>0 then (if ((items.length:Int)-1) < -1 then ((-1:Int)-((items.length:Int)-1) + -1-1) / -1 else 0) else (if ((items.length:Int)-1) > -1 then (((items.length:Int)-1) - -1 - -1-1)/(- -1) else 0))=(items.length:Int):=by
  rw[if_neg ∅]
  split
  .rw[show(- -1:Int)=1 from ∅,Int.ediv_one];omega
  .omega
 show((List.range (if (-1:Int)>0 then (if ((items.length:Int)-1) < -1 then ((-1:Int)-((items.length:Int)-1) + -1-1) / -1 else 0) else (if ((items.length:Int)-1) > -1 then (((items.length:Int)-1) - -1 - -1-1)/(- -1) else 0)).toNat).map fun(k:Nat)=>(((items.length:Int)-1) + -1*(k:Int)).toNat).filterMap (items.toArray[·]?)=_
 rw[c,qBR]
 have q:((List.range items.length).map fun(k:Nat)=>(((items.length:Int)-1) + -1*(k:Int)).toNat).filterMap (items.toArray[·]?)=(List.range items.length).filterMap fun k=>items[items.length-1-k]? := by
  rw[qBy]
  refine KM fun k hk=>?_
  have hk:=qAJ.mp hk
  show items.toArray[(((items.length:Int)-1) + -1*(k:Int)).toNat]? = _
  rw[show(((items.length:Int)-1) + -1*(k:Int)).toNat=items.length-1-k from (),qBC]
 rw[q]
 have g:(List.range items.length).filterMap (fun k=>items[items.length-1-k]?)=(List.range items.length).filterMap (fun k=>items.reverse[k]?):=by
  refine KM fun k hk=>?_
  have hk:=qAJ.mp hk
  rw[qBD hk]
 rw[g]
 have all:∀(l:List Value),(List.range l.length).filterMap (fun k=>l[k]?)=l:=fun l=>by
  induction l with
  |nil=>rfl
  |cons a l ih =>
   rw[qAW,List.range_succ_eq_map,qBh,qBy]
   show a::_=_
   congr 1
 have:=all items.reverse
 rw[qBw] at this
 exact this
section
variable {X:Cx}{e st:Expr}{te ts:TE3}{pos p2:Pos}
def ZI (K:W.Frag)(t:TE)(ts:TE):TE:=fun σ H Q=>t σ H fun x H1=>ts σ H1 fun u H2=>u=.int (-1)/\∃a xs,x=.ref a/\SqL K H2 a xs/\∀p,H2 p=none->K.lookup p=none->Q (.ref p) (upd H2 p (.lst xs.reverse))
theorem W0 {t t2:TE}(he:PE X e t) (hs:PE X st t2):PE X (.Subscript e (.Slice none none (some st) p2) pos) (ZI X.K t t2):=by
 intro pins s σ H Q I h
 refine Subscript_ (thn (he pins s σ H _ I h) fun v s1 hh=>?_)
 obtain⟨x,H1,I1,r1,q1⟩:=hh
 refine wpAny_Slice ?_
 rw[evalPart_none]
 refine wpAny_pure (wpAny_pure ?_)
 rw[evalPart_some]
 refine thn (hs pins s1 σ H1 _ I1 q1) fun vs s3 hh=>?_
 obtain⟨u,H3,I3,r3,e3,a,xs,e4,hx,q⟩:=hh
 subst e3 e4
 obtain⟨tk,rfl⟩:=r3
 cases r1
 have I4:Inv X pins σ H3 { s3 with heap:=s3.heap.push { cls:=.type "slice",data:=.fields (List.toArray [.none,.none,.int (-1) tk]) } }:=I3.kept (t':=s3.toks) fun b ob q=>qAh _ q
 obtain⟨its,r,ht,hz⟩:=I4.list hx
 have hlen:=r.length
 have go:wpAny (model X.prog X.w) X.A (getItem (.ref a) (.ref s3.heap.objs.size)) (EP X pins σ Q) X.xe { s3 with heap:=s3.heap.push { cls:=.type "slice",data:=.fields (List.toArray [.none,.none,.int (-1) tk]) } }:=by
  refine wpAny_getItem_list_slice ht.isList (Heap.IsSliceOf.new ..) .none .none (.int (-1) tk) ∅ ?_ (by rw[qAF]<;>omega)
  rw[RU]
  refine#[.ref _,_,I4.laid (t':=s3.toks) (o:=.lst xs.reverse) (fun b ob q=>qAh _ q) (qAf _) ?_,rfl,q _ (I4.hok.fresh (qAf _)) ?_]
  .exact#[by rw[qBw];exact hz,_,0,r.reverse,qAt _ rfl]
  .cases e:X.K.lookup _ with
   |none=>rfl
   |some o=>exact absurd (qAj (I4.kIn _ _ e)) (qAZ _)
 show wpAny (model X.prog X.w) X.A (subscriptTail e (.Slice none none (some st) p2) (.ref a) (.ref s3.heap.objs.size)) (EP X pins σ Q) X.xe _
 exact tail_any (ops:=[.ref a,.ref s3.heap.objs.size]) ht.isList.typeIs slot_list_getitem.lookup go (by with_unfolding_all rfl)
def YN (te ts:TE3):TE3:=fun τ R=>te τ fun s=>∃xs,(s=.r xs\/s=.l xs\/s=.d (.lst xs))/\ts τ fun u=>u=.d (.int (-1))/\R (.l xs.reverse)
theorem Ul {K:W.Frag}{H:Hp}{vs:List V}{xs:List D}(h:Iss K H vs xs):Iss K H vs.reverse xs.reverse:=by
 refine#[by rw[qBw,qBw];exact h.1,fun i v x h1 h2=>?_]
 have hi:i<vs.length:=by have:=(qAe.mp h1).1;rw[qBw] at this;exact this
 rw[qBD hi] at h1
 rw[qBD (by rw[<-h.1];exact hi),<-h.1] at h2
 exact h.2 _ v x h1 h2
theorem Yl (he:PE3 X e te)(hs:PE3 X st ts):PE3 X (.Subscript e (.Slice none none (some st) p2) pos) (YN te ts) :=
 #[BJ (W0 he.out hs.out) fun σ H Q hh=>by
  obtain⟨B,z,τ,R,r,ht,q⟩:=hh
  refine#[B,z,τ,_,r,ht,fun s v q1 e1 i1 f1 h1=>?_]
  obtain⟨xs,hx,h1⟩:=h1
  refine#[B,_,τ,_,r.mono e1,h1,fun u v2 q2 e2 i2 f2 h2=>?_]
  obtain⟨rfl,hR⟩:=h2
  have i1':=IsS.mono e2 i1
  refine#[Is.int_inv i2,?_]
  have fin:∀(a:Addr)(vs:List V),v=.ref a->SqL X.K q2.h a vs->Iss X.K q2.z vs xs->∃a xs,v=.ref a/\SqL X.K q2.h a xs/\∀p,q2.h p=none->X.K.lookup p=none->Q (.ref p) (upd q2.h p (.lst xs.reverse)):=fun a vs hv hq hi =>
   #[a,vs,hv,hq,fun p hp hk=>q (.l xs.reverse) _ #[_,q2.z] ((e1.trans e2).trans (Ext.own e2.sub hp _)) #[p,_,rfl,Ap,Ul hi] (fun ys a _ h2=>by
    cases h2
    exact#[(e1.trans e2).hh.free hp,hk,e2.sub.free hp]) hR]
  rcases hx with rfl|rfl|rfl
  .obtain⟨a,vs,rfl,h3,h4⟩:=i1';exact fin a vs rfl h3 h4
  .obtain⟨a,vs,rfl,h3,h4⟩:=i1';exact fin a vs rfl (SqL.of h3) h4
  .obtain⟨a,vs,rfl,h3,h4⟩:=Is.lst_inv i1';exact fin a vs rfl (e2.sub.seq h3) h4]
end
section
variable {X:Cx}{pos:Pos}{e:Expr}{te tb:TE3}
def Tu (sp:SpL)(U:Str->Prop)(idx:List Nat)(te tb:TE3):TE3:=fun τ R=>te τ fun s=>∃(dom:D->Prop)(p:D->Bool),(∀x,dom x->tb (some (.d x)::Js τ idx) fun s=>s=.d (.bl (p x)))/\∀a,sp a dom p [s.arg,.d (.ref a)] R U
theorem HM {k kb:Nat}{g x y:Str}{np lp:Pos}{ps:List Str}{sp:SpL}{c T:Addr}{params:Arguments}{body:Expr}{scope:Scope}{N:List Str}{idx:List Nat}(cal:Xc X.prog X.w X.K X.mg X.base k (kb+1) g ps sp) (hr:E9 k X.A) (hg:Gl X g)
 (ht:W.tabIn X.K y=some (c,T)) (hp:(recsOf X.prog).any (fun d=>d.name==y)=true) (hcode:X.env.code=.ref c) (O:AZ X x scope N idx) (he:PE3 X e te)
 (hb:∀cl nm a cdv A outer s H,E9 kb (A.deeper (W.envX nm scope s.heap.objs.size a cdv cl))->PE3 (Q9 X N scope cl nm a cdv A outer s H) body tb)
 (hfn:∀y,X.fn y=true:=by intro _;rfl) (hdef:defaultsOf params X.env=([],[]):=by rfl) (hco:scope.isCoroutine=false:=by rfl) (hgen:scope.isGenerator=false:=by rfl)
 (hbind:∀(q:Str)(cl:List (Str×Addr))(pm cv ct u:Value),bindArgs (qB3 "<lambda>" q params body scope cl pm cv ct) #[[u],[]]=pure [(x,u)]:=by intros;rfl)
 (hdb:(g==("__debug__":Str))=false:=by decide) (hs:starEach [e,.Lambda params body scope lp] X.env=(false,eval e X.env)::starEach [.Lambda params body scope lp] X.env:=by exact Dz rfl) :
 PE3 X (.Call (.Name g np) [e,.Lambda params body scope lp] [] pos) (Tu sp NoU idx te tb):=by
 refine#[fun pins s σ H Q I hh=>?_]
 obtain⟨B,z,τ,R,r,ht1,q⟩:=hh
 obtain⟨f,fd,F,hm,hk,hbi⟩:=cal.ex
 obtain⟨cl,ecl,hcl,hcl2⟩:=Fc (scope:=scope) (env:=X.env) fun y hy hf=>I.ok.has y.1 (.inl (O.free y hy hf))
 refine wpAny_Call_Name_kw (IW I hg hm ?_ hdb)
 refine qCt (h₀:=X.base) I.ok.mod.kin hk ?_ hs rfl
 rw[hs]
 refine Calls.spliced_cons (thn (he.out pins s σ H (fun v1 H1=>∃z1 d,Ext #[H,z] #[H1,z1]/\IsS X.K #[H1,z1] v1 d/\d.own=false/\∃(dom:D->Prop)(p:D->Bool),(∀x,dom x->tb (some (.d x)::Js τ idx) fun s=>s=.d (.bl (p x)))/\∀a,sp a dom p [d,.d (.ref a)] R NoU) I #[B,z,τ,_,r,ht1,fun s2 v2 q2 e2 i2 f2 h2=>?_]) fun u1 s1 #[v1,H1,I1,rv1,z1,d,e1,i1,ow,dom,p,hdom,hsp]=>?_)
 .obtain⟨dom,p,hdom,h3⟩:=h2
  obtain⟨z5,e5,i5⟩:=FN e2 i2 f2
  exact#[z5,s2.arg,e5,i5,Pb s2,dom,p,hdom,h3]
 have hs2:starEach [Expr.Lambda params body scope lp] X.env=(false,eval (.Lambda params body scope lp) X.env)::starEach [] X.env:=Dz rfl
 rw[hs2]
 refine Calls.spliced_cons (MU I1 ht hp hcode hdef ecl fun a c' H2 s2 fo oc fs nm qual tq pm ctv I2 sm ha hfo hc hoc hfs=>?_)
 refine Calls.spliced_nil #[I2.kIn,?_]
 have e12:Ext #[H,z] #[H2,z1]:=e1.trans (Ext.grow e1.sub sm)
 have r2:Rep X B τ σ #[H2,z1]:=r.mono e12
 have hL:=Tg O hfn I2 hcl hcl2 ha hfo hc hoc hfs hco hgen hbind hb r2 hdom
 have i1':IsS X.K #[H2,z1] v1 d:=IsS.mono (Ext.grow e1.sub sm) i1
 have hl:[u1,Value.ref a].length=ps.length:=F.len a dom p _ _ _ (hsp a)
 have rvs:B8 [v1,V.ref a] [u1,Value.ref a]:=.cons rv1 (.cons rfl .nil)
 refine wpAny_call (codeAny_mono (F.run X.A X.stack s2 H2 #[[u1,.ref a],[]] [u1,.ref a] [v1,.ref a] Q (fun _ _ _=>False) a dom p hr I2.env0 ?_ rvs hL #[z1,[d,.d (.ref a)],R,NoU,e12.sub,#[rfl,fun i v s h1 h2=>?_],hsp a,fun s v q3 e3 i3 f3 h3=>q s v q3 (e12.trans e3) i3 (Lv e12 f3) h3,fun _ _ _ _ _ z=>z.elim]) fun rr s3 hq=>?_)
 .have:=hbi s2 [u1,.ref a] I2.kIn (by simpa using hl)
  simpa using this
 .match i,h1,h2 with
  |0,h1,h2=>cases h1;cases h2;exact#[i1',ow]
  |1,h1,h2=>cases h1;cases h2;exact#[Is.ref a,rfl]
 cases rr with
 |error e=>exact(show False from hq).elim
 |ok fl =>
  cases fl with
  |ret u=>exact I2.after hq
  |next=>exact False.elim hq
  |brk=>exact False.elim hq
  |cont=>exact False.elim hq
end
section
variable {X:Cx}{e a b:Expr}{te ta tb:TE3}{pos:Pos}
end
end L3
namespace CH
abbrev Ln2:=Rat×Rat
def ev (l:Ln2)(t:Rat):Rat:=l.1*t+l.2
abbrev Ps:=List (Rat×Ln2)
def bg (P:Ps)(i:Nat):Rat:=(P.getD i (0,(0,0))).1
def ln (P:Ps)(i:Nat):Ln2:=(P.getD i (0,(0,0))).2
def LeO (t:Rat):Option Rat->Prop
 |none=>True
 |some u=>t<=u
def LtO (t:Rat):Option Rat->Prop
 |none=>True
 |some u=>t<u
theorem LtO.le {t:Rat}{T:Option Rat}(h:LtO t T):LeO t T:=by
 cases T with
 |none=>trivial
 |some u=>exact qAk h
structure PU (P:Ps)(h:Rat->Rat)(T:Option Rat):Prop where
 up:∀i,i+1<P.length->bg P i<bg P (i+1)
 lt:∀i,i<P.length->LtO (bg P i) T
 v:∀i,i<P.length->∀t,bg P i<=t->(i+1<P.length->t<=bg P (i+1))->LeO t T->h t=ev (ln P i) t
theorem Lk {P:Ps}{c:Rat×Ln2}{i:Nat}(h:i<P.length):bg (P++[c]) i=bg P i/\ln (P++[c]) i=ln P i:=by
 have e:(P++[c]).getD i (0,(0,0))=P.getD i (0,(0,0)):=by
  rw[qAg,qAg,qAp h]
 unfold bg ln
 rw[e]
 exact#[rfl,rfl]
theorem Xb {P:Ps}{c:Rat×Ln2}:bg (P++[c]) P.length=c.1/\ln (P++[c]) P.length=c.2:=by
 have e:(P++[c]).getD P.length (0,(0,0))=c:=by
  rw[qAg,qAu (qAf _),qCl]
  rfl
 unfold bg ln
 rw[e]
 exact#[rfl,rfl]
theorem PU.push {P:Ps}{h:Rat->Rat}{T:Option Rat}{b:Rat}{l:Ln2}(p:PU P h (some b)) (hb:LtO b T) (hv:∀t,b<=t->LeO t T->h t=ev l t):PU (P++[(b,l)]) h T:=by
 have hl:(P++[(b,l)]).length=P.length+1:=by simp
 have r:=Xb (P:=P) (c:=(b,l))
 refine#[fun i hi=>?_,fun i hi=>?_,fun i hi t h1 h2 h3=>?_]
 .rw[hl] at hi
  have hi':i<P.length:=()
  rw[(Lk hi').1]
  by_cases c:i+1<P.length
  .rw[(Lk c).1];exact p.up i c
  .rw[show i+1=P.length from (),r.1];exact p.lt i hi'
 .rw[hl] at hi
  by_cases c:i<P.length
  .rw[(Lk c).1]
   have:=p.lt i c
   cases T with
   |none=>trivial
   |some u =>
    have h1:bg P i<b:=this
    have h2:b<u:=hb
    show bg P i<u
    grind
  .rw[show i=P.length from (),r.1];exact hb
 .rw[hl] at hi h2
  by_cases c:i<P.length
  .rw[(Lk c).2]
   rw[(Lk c).1] at h1
   have h2':=h2 ()
   by_cases c2:i+1<P.length
   .rw[(Lk c2).1] at h2'
    exact p.v i c t h1 (fun _=>h2') (by
     have:=p.lt _ c2
     have h1:bg P (i+1)<b:=this
     show t<=b
     grind)
   .rw[show i+1=P.length from (),r.1] at h2'
    exact p.v i c t h1 (fun z=>absurd z c2) h2'
  .have e:i=P.length:=()
   subst e
   rw[r.1] at h1
   rw[r.2]
   exact hv t h1 h3
theorem PU.skip {P:Ps}{h:Rat->Rat}{T:Option Rat}{b:Rat}{l:Ln2}(p:PU P h (some b)) (hb:LtO b T) (ne:0<P.length) (e:ln P (P.length-1)=l) (hv:∀t,b<=t->LeO t T->h t=ev l t):PU P h T:=by
 refine#[p.up,fun i hi=>?_,fun i hi t h1 h2 h3=>?_]
 .have:=p.lt i hi
  cases T with
  |none=>trivial
  |some u =>
   have h1:bg P i<b:=this
   have h2:b<u:=hb
   show bg P i<u
   grind
 .by_cases c:t<=b
  .exact p.v i hi t h1 h2 c
  .have hn:¬i+1<P.length:=fun z=>by
    have h4:=h2 z
    have h5:bg P (i+1)<b:=p.lt _ z
    grind
   rw[show i=P.length-1 from (),e]
   exact hv t ⋯ h3
def mp (a b:Rat):Rat:=if a<b then a else b
theorem Xh {a b:Rat}(h:a<=b):mp a b=a:=by unfold mp;split<;>grind
theorem XQ {a b:Rat}(h:b<=a):mp a b=b:=by unfold mp;split<;>grind
def Yt (l1 l2:Ln2)(a:Rat):Option Rat->Prop
 |some u=>a<u/\ev l1 u<=ev l2 u
 |none=>l1.1<=l2.1
def XV (l1 l2:Ln2)(a:Rat):Option Rat->Prop
 |some u=>a<u/\ev l2 u<ev l1 u
 |none=>l2.1<l1.1
theorem Lp {l1 l2:Ln2}{a t:Rat}{T:Option Rat}(ha:a<=t) (ht:LeO t T) (n:ev l1 a<=ev l2 a) (th:Yt l1 l2 a T):ev l1 t<=ev l2 t:=by
 cases T with
 |none =>
  unfold ev at *
  have h1:l1.1<=l2.1:=th
  have h2:0<=(l2.1-l1.1)*(t-a):=qAi ⋯ ⋯
  grind
 |some u =>
  obtain⟨h0,h1⟩:=th
  unfold ev at *
  have h2:t<=u:=ht
  have h3:0<u-a:=⋯
  have k1:0<=(l2.1*a+l2.2-(l1.1*a+l1.2))*(u-t):=qAi ⋯ ⋯
  have k2:0<=(l2.1*u+l2.2-(l1.1*u+l1.2))*(t-a):=qAi ⋯ ⋯
  have k3:(l2.1*t+l2.2-(l1.1*t+l1.2))*(u-a)=(l2.1*a+l2.2-(l1.1*a+l1.2))*(u-t)+(l2.1*u+l2.2-(l1.1*u+l1.2))*(t-a):=⋯
  refine qAz.mp fun z=>?_
  have k4:(l2.1*t+l2.2-(l1.1*t+l1.2))*(u-a)<0:=by
   have:=qBj (a:=l1.1*t+l1.2-(l2.1*t+l2.2)) (b:=u-a) ⋯ h3
   grind
  grind
def xg (l1 l2:Ln2):Rat:=(l2.2-l1.2)/(l1.1-l2.1)
theorem N0 {l1 l2:Ln2}(h:l1.1≠l2.1):ev l1 (xg l1 l2)=ev l2 (xg l1 l2):=by
 unfold ev xg
 have:l1.1-l2.1≠0:=⋯
 have k:(l2.2-l1.2)/(l1.1-l2.1)*(l1.1-l2.1)=l2.2-l1.2:=qBb this
 grind
theorem Vb {l1 l2:Ln2}:xg l1 l2=xg l2 l1:=by
 unfold xg
 by_cases h:l1.1=l2.1
 .rw[h,show l2.1-l2.1=0 from ⋯];rw[Rat.div_def,Rat.div_def];simp
 .have x1:=N0 h
  have x2:=N0 (l1:=l2) (l2:=l1) (Ne.symm h)
  unfold xg at x1 x2
  unfold ev at x1 x2
  have k:(l1.1-l2.1)*((l2.2-l1.2)/(l1.1-l2.1)-(l1.2-l2.2)/(l2.1-l1.1))=0:=⋯
  rcases qBg.mp k with z|z
  .grind
  .grind
theorem IT {l1 l2:Ln2}{a:Rat}{T:Option Rat}(n:ev l1 a<ev l2 a) (th:XV l1 l2 a T):l1.1≠l2.1/\a<xg l1 l2/\LtO (xg l1 l2) T:=by
 have s:l2.1<l1.1:=by
  cases T with
  |none=>exact th
  |some u =>
   obtain⟨h0,h1⟩:=th
   unfold ev at n h1
   refine qA3.mp fun z=>?_
   have k:0<=(l2.1-l1.1)*(u-a):=qAi ⋯ ⋯
   grind
 have ne:l1.1≠l2.1:=⋯
 have x:=N0 ne
 have key:∀t,(l1.1-l2.1)*(xg l1 l2-t)=ev l2 t-ev l1 t:=fun t=>by
  unfold ev at x ⊢
  grind
 have pos:∀t,ev l1 t<ev l2 t->t<xg l1 l2:=fun t h=>by
  refine qA3.mp fun z=>?_
  have k1:=key t
  have k2:0<=(l1.1-l2.1)*(t-xg l1 l2):=qAi ⋯ ⋯
  grind
 have neg:∀t,ev l2 t<ev l1 t->xg l1 l2<t:=fun t h=>by
  refine qA3.mp fun z=>?_
  have k1:=key t
  have k2:0<=(l1.1-l2.1)*(xg l1 l2-t):=qAi ⋯ ⋯
  grind
 refine#[ne,pos a n,?_]
 cases T with
 |none=>trivial
 |some u=>exact neg u th.2
def sg (x:Rat):Int:=if x<0 then -1 else if 0<x then 1 else 0
theorem Qk {x:Rat}:sg x<0 ↔ x<0:=by unfold sg;split<;>(try split)<;>constructor<;>intro h<;>first|grind|omega
theorem QM {x:Rat}:0<sg x ↔ 0<x:=by unfold sg;split<;>(try split)<;>constructor<;>intro h<;>first|grind|omega
theorem Vf {x:Rat}:sg x=0 ↔ x=0:=by unfold sg;split<;>(try split)<;>constructor<;>intro h<;>first|grind|omega
def Ef (l1 l2:Ln2):Option Rat->Rat
 |some u=>ev l1 u-ev l2 u
 |none=>l1.1-l2.1
theorem Uw {l1 l2:Ln2}{a:Rat}{T:Option Rat}(ha:LtO a T) (h:Ef l1 l2 T<=0):Yt l1 l2 a T:=by
 cases T with
 |none=>exact(by have h':l1.1-l2.1<=0:=h;show l1.1<=l2.1;grind)
 |some u=>exact#[ha,by have h':ev l1 u-ev l2 u<=0:=h;grind]
theorem Oi {l1 l2:Ln2}{a:Rat}{T:Option Rat}(ha:LtO a T) (h:0<Ef l1 l2 T):XV l1 l2 a T:=by
 cases T with
 |none=>exact(by have h':0<l1.1-l2.1:=h;show l2.1<l1.1;grind)
 |some u=>exact#[ha,by have h':0<ev l1 u-ev l2 u:=h;grind]
theorem G6 {l1 l2:Ln2}{T:Option Rat}:Ef l2 l1 T=- Ef l1 l2 T:=by
 cases T with
 |none=>show l2.1-l1.1=-(l1.1-l2.1);grind
 |some u=>show ev l2 u-ev l1 u=-(ev l1 u-ev l2 u);grind
theorem K7 {l1 l2:Ln2}{a:Rat}{T:Option Rat}(n:ev l1 a<ev l2 a) (th:XV l1 l2 a T) :
 a<xg l1 l2/\LtO (xg l1 l2) T/\(∀t,a<=t->t<=xg l1 l2->ev l1 t<=ev l2 t)/\∀t,xg l1 l2<=t->LeO t T->ev l2 t<=ev l1 t:=by
 obtain⟨ne,x1,x2⟩:=IT n th
 have x:=N0 ne
 refine#[x1,x2,fun t h1 h2=>?_,fun t h1 h2=>?_]
 .exact Lp (T:=some (xg l1 l2)) h1 h2 (qAk n) #[x1,by rw[x];exact qAd]
 .refine Lp (T:=T) h1 h2 (by rw[x];exact qAd) ?_
  cases T with
  |none=>exact qAk th
  |some u=>exact#[x2,qAk th.2]
open PySem L2 L3
abbrev RL:=Int×Int×Int
abbrev RP:=(Int×Int)×RL
def lnD (l:RL):D:=.tup [.int l.1,.int l.2.1,.int l.2.2]
def rpD (p:RP):D:=.tup [.tup [.int p.1.1,.int p.1.2],lnD p.2]
structure LW (k:Nat)(l:RL)(q:Ln2):Prop where
 s:Wq k l.1 l.2.2 q.1
 c:Wq k l.2.1 l.2.2 q.2
structure PW1 (k m:Nat)(p:RP)(q:Rat×Ln2):Prop where
 t:Wq m p.1.1 p.1.2 q.1
 l:LW k p.2 q.2
structure PL (k m:Nat)(ps:List RP)(P:Ps):Prop where
 len:ps.length=P.length
 at_:∀(i:Nat)(p:RP)(q:Rat×Ln2),ps[i]? = some p->(P:List (Rat×Ln2))[i]? = some q->PW1 k m p q
theorem PL.snoc {k m:Nat}{ps:List RP}{P:Ps}{p:RP}{q:Rat×Ln2}(h:PL k m ps P) (w:PW1 k m p q):PL k m (ps++[p]) (P++[q]):=by
 refine#[by simp[h.len],fun i p' q' h1 h2=>?_]
 by_cases c:i<ps.length
 .rw[qAp c] at h1
  rw[qAp (by rw[<-h.len];exact c)] at h2
  exact h.at_ i p' q' h1 h2
 .rw[qAu ()] at h1
  rw[qAu (by rw[<-h.len];omega),<-h.len] at h2
  cases e:i-ps.length with
  |zero=>rw[e] at h1 h2;cases h1;cases h2;exact w
  |succ n=>rw[e] at h1;cases h1
theorem LW.at_ {k m:Nat}{l:RL}{q:Ln2}{tn td:Int}{t:Rat}(h:LW k l q) (w:Wq m tn td t):Wq (k+m+1) (l.1*tn+l.2.1*td) (l.2.2*td) (ev q t):=by
 have w1:=h.s.mul w
 refine#[qBd h.s.pos w.pos,?_,?_,AU w1.lb ()]
 .have e1:=h.s.eq
  have e2:=h.c.eq
  have e3:=w.eq
  unfold ev
  rw[qBs,qAo,qAo,qAo,e1,e2,e3]
  grind
 .have b1:=Ak h.s.la w.la
  have b2:=Ak h.c.la w.lb
  exact HB b1 b2
theorem LW.uniq {k k':Nat}{l:RL}{q q':Ln2}(h:LW k l q) (h':LW k' l q'):q=q':=by
 have hb:(l.2.2:Rat)≠0:=by
  have:=h.s.pos
  intro z
  have:l.2.2=0:=Rat.intCast_inj.mp z
  omega
 have cn:∀a b:Rat,a*(l.2.2:Rat)=b*(l.2.2:Rat)->a=b:=fun a b e=>by
  have:(a-b)*(l.2.2:Rat)=0:=⋯
  rcases qBg.mp this with z|z
  .grind
  .exact absurd z hb
 have e1:=cn _ _ (h.s.eq.symm.trans h'.s.eq)
 have e2:=cn _ _ (h.c.eq.symm.trans h'.c.eq)
 exact Prod.ext e1 e2
theorem Wx {a b:Int}{q:Rat}(hb:0<b) (e:(a:Rat)=q*(b:Rat)):sg q=a.sign:=by
 have hb:(0:Rat)<(b:Rat):=qAY.mpr hb
 unfold sg
 by_cases c1:q<0
 .rw[if_pos c1]
  have:(a:Rat)<0:=by
   have:=qBj (a:=-q) (b:=(b:Rat)) ⋯ hb
   rw[e];grind
  have:a<0:=Rat.intCast_neg_iff.mp this
  rw[qBW this]
 .rw[if_neg c1]
  by_cases c2:0<q
  .rw[if_pos c2]
   have:(0:Rat)<(a:Rat):=by rw[e];exact qBj c2 hb
   have:0<a:=qAY.mp this
   rw[qB7 this]
  .rw[if_neg c2]
   have z:q=0:=⋯
   rw[z] at e
   have:(a:Rat)=0:=by rw[e];grind
   have:a=0:=Rat.intCast_inj.mp this
   rw[this];rfl
theorem UP {k m:Nat}{l1 l2:RL}{q1 q2:Ln2}{tn td:Int}{t:Rat}(h1:LW k l1 q1) (h2:LW k l2 q2) (w:Wq m tn td t) :
 ((l1.1*tn+l1.2.1*td)*l2.2.2-(l2.1*tn+l2.2.1*td)*l1.2.2).sign=sg (ev q1 t-ev q2 t):=by
 refine(Wx (b:=l1.2.2*l2.2.2*td) (qBd (qBd h1.s.pos h2.s.pos) w.pos) ?_).symm
 have e1:=h1.s.eq
 have e2:=h1.c.eq
 have e3:=h2.s.eq
 have e4:=h2.c.eq
 have e5:=w.eq
 unfold ev
 simp only[qBt,qBs,qAo]
 rw[e1,e2,e3,e4,e5]
 grind
theorem Ts {k:Nat}{l1 l2:RL}{q1 q2:Ln2}(h1:LW k l1 q1) (h2:LW k l2 q2):(l1.1*l2.2.2-l2.1*l1.2.2).sign=sg (q1.1-q2.1):=by
 refine(Wx (b:=l1.2.2*l2.2.2) (qBd h1.s.pos h2.s.pos) ?_).symm
 have e1:=h1.s.eq
 have e3:=h2.s.eq
 simp only[qBt,qAo]
 rw[e1,e3]
 grind
theorem NF {k:Nat}{l1 l2:RL}{q1 q2:Ln2}(h1:LW k l1 q1) (h2:LW k l2 q2) (ne:q1.1≠q2.1) :
 l1.1*l2.2.2-l2.1*l1.2.2≠0/\Rat.divInt (l2.2.1*l1.2.2-l1.2.1*l2.2.2) (l1.1*l2.2.2-l2.1*l1.2.2)=xg q1 q2:=by
 have e1:=h1.s.eq
 have e2:=h1.c.eq
 have e3:=h2.s.eq
 have e4:=h2.c.eq
 have p1:(l1.2.2:Rat)≠0:=by have:=qAY.mpr h1.s.pos;grind
 have p2:(l2.2.2:Rat)≠0:=by have:=qAY.mpr h2.s.pos;grind
 have eb:((l1.1*l2.2.2-l2.1*l1.2.2:Int):Rat)=(q1.1-q2.1)*((l1.2.2:Rat)*(l2.2.2:Rat)):=by
  simp only[qBt,qAo];rw[e1,e3];grind
 have ea:((l2.2.1*l1.2.2-l1.2.1*l2.2.2:Int):Rat)=(q2.2-q1.2)*((l1.2.2:Rat)*(l2.2.2:Rat)):=by
  simp only[qBt,qAo];rw[e2,e4];grind
 have np:(l1.2.2:Rat)*(l2.2.2:Rat)≠0:=fun z=>by
  rcases qBg.mp z with z|z
  .exact p1 z
  .exact p2 z
 have nb:((l1.1*l2.2.2-l2.1*l1.2.2:Int):Rat)≠0:=fun z=>by
  rw[eb] at z
  rcases qBg.mp z with z|z
  .grind
  .exact np z
 refine#[fun z=>nb (by rw[z];rfl),?_]
 rw[qAG,ea,eb]
 unfold xg
 have n1:q1.1-q2.1≠0:=⋯
 generalize (l1.2.2:Rat)*(l2.2.2:Rat)=B at *
 have k1:(q2.2-q1.2)/(q1.1-q2.1)*(q1.1-q2.1)=q2.2-q1.2:=qBb n1
 have n2:(q1.1-q2.1)*B≠0:=fun z=>by
  rcases qBg.mp z with z|z
  .exact n1 z
  .exact np z
 have k2:(q2.2-q1.2)*B/((q1.1-q2.1)*B)*((q1.1-q2.1)*B)=(q2.2-q1.2)*B:=qBb n2
 have k3:((q2.2-q1.2)*B/((q1.1-q2.1)*B)-(q2.2-q1.2)/(q1.1-q2.1))*((q1.1-q2.1)*B)=0:=⋯
 rcases qBg.mp k3 with z|z
 .grind
 .exact absurd z n2
theorem Xz {k:Nat}{l1 l2:RL}{q1 q2:Ln2}(h1:LW k l1 q1) (h2:LW k l2 q2) (ne:q1.1≠q2.1):Sz (k+k+1) (xg q1 q2):=by
 obtain⟨n,e⟩:=NF h1 h2 ne
 rw[<-e]
 exact D9 n (GB (Ak h2.c.la h1.s.lb) (Ak h1.c.la h2.s.lb)) (GB (Ak h1.s.la h2.s.lb) (Ak h2.s.la h1.s.lb))
theorem Vy (a b:RL):eqN 1 (lnD a) (lnD b)=decide (a=b):=by
 have e:eqN 1 (lnD a) (lnD b)=((a.1==b.1&&(a.2.1==b.2.1&&(a.2.2==b.2.2&&true)))&&true):=rfl
 rw[e]
 by_cases h:a=b
 .subst h;simp
 .rw[decide_eq_false h]
  cases c:((a.1==b.1&&(a.2.1==b.2.1&&(a.2.2==b.2.2&&true)))&&true) with
  |false=>rfl
  |true =>
   exfalso
   apply h
   simp only[qCw,qAV,beq_iff_eq] at c
   exact Prod.ext c.1 (Prod.ext c.2.1 c.2.2)
theorem HQ {α:Type}{f:α->D}{xs:List α}{a:α}(h:xs[xs.length-1]? = some a):atI (xs.map f) (-1)=some (f a):=by
 have hl:0<xs.length:=by
  cases xs with
  |nil=>cases h
  |cons _ _=>simp
 unfold atI ixN
 rw[qAa,if_neg (),if_pos ()]
 have e:((-1:Int)+(xs.length:Int)).toNat=xs.length-1:=()
 show(xs.map f)[((-1:Int)+(xs.length:Int)).toNat]? = _
 rw[e,qAc,h]
 rfl
theorem ZC {a b:RL}{A B:Prop}(h1:¬a=b->A) (h2:a=b->B):if (!eqN 1 (lnD a) (lnD b))=true then A else B:=by
 rw[Vy]
 exact Ui h1 h2
theorem LW.moved {k m:Nat}{l:RL}{q:Ln2}{wn wd vn vd:Int}{w v:Rat}(h:LW k l q) (hw:Wq m wn wd w) (hv:Wq m vn vd v) :
 LW (k+m+m+2) (l.1*(wd*vd),l.2.1*(wd*vd)-l.1*wn*vd+l.2.2*vn*wd,l.2.2*(wd*vd)) (q.1,q.2-q.1*w+v):=by
 have e1:=h.s.eq
 have e2:=h.c.eq
 have e3:=hw.eq
 have e4:=hv.eq
 have pb:0<l.2.2*(wd*vd):=qBd h.s.pos (qBd hw.pos hv.pos)
 have sb:=Ak h.s.lb (Ak hw.lb hv.lb)
 refine#[#[pb,?_,AU (Ak h.s.la (Ak hw.lb hv.lb)) (),AU sb ()],#[pb,?_,?_,AU sb ()]]
 .show((l.1*(wd*vd):Int):Rat)=_
  simp only[qAo]
  rw[e1]
  grind
 .show((l.2.1*(wd*vd)-l.1*wn*vd+l.2.2*vn*wd:Int):Rat)=_
  simp only[qAo,qBs,qBt]
  rw[e1,e2,e3,e4]
  grind
 .have b1:=AU (Ak h.c.la (Ak hw.lb hv.lb)) (show k+(m+m)<=k+m+m from ())
  have b2:=Ak (Ak h.s.la hw.la) hv.lb
  have b3:=Ak (Ak h.s.lb hv.la) hw.lb
  have b4:=HB (GB b1 b2) (AU b3 (qBZ _))
  exact b4
theorem Wq.moved {m n:Nat}{a b wn wd:Int}{t w:Rat}(h:Wq m a b t) (hw:Wq n wn wd w):Wq (m+n+1) (a*wd+wn*b) (b*wd) (t+w):=by
 refine#[qBd h.pos hw.pos,?_,?_,AU (Ak h.lb hw.lb) ()]
 .have e1:=h.eq
  have e2:=hw.eq
  simp only[qAo,qBs]
  rw[e1,e2]
  grind
 .exact HB (Ak h.la hw.lb) (AU (Ak hw.la h.lb) ())
theorem Sa {q:Ln2}{w v t:Rat}:ev (q.1,q.2-q.1*w+v) t=ev q (t-w)+v:=by
 unfold ev
 grind
def mvP (w v:Rat)(p:Rat×Ln2):Rat×Ln2:=(p.1+w,(p.2.1,p.2.2-p.2.1*w+v))
def mvR (wn wd vn vd:Int)(p:RP):RP:=((p.1.1*wd+wn*p.1.2,p.1.2*wd),(p.2.1*(wd*vd),p.2.2.1*(wd*vd)-p.2.1*wn*vd+p.2.2.2*vn*wd,p.2.2.2*(wd*vd)))
theorem PL.get {k m:Nat}{ps:List RP}{P:Ps}(h:PL k m ps P){i:Nat}{p:RP}(hp:ps[i]? = some p):∃q:Rat×Ln2,(P:List (Rat×Ln2))[i]? = some q/\PW1 k m p q:=by
 have hi:=(qAe.mp hp).1
 rw[h.len] at hi
 exact#[_,qAb hi,h.at_ i p _ hp (qAb hi)]
theorem PL.moved {k m n:Nat}{ps:List RP}{P:Ps}{wn wd vn vd:Int}{w v:Rat}(h:PL k m ps P) (hw:Wq n wn wd w) (hv:Wq n vn vd v):PL (k+n+n+2) (m+n+1) (ps.map (mvR wn wd vn vd)) (P.map (mvP w v)):=by
 refine#[by simp[h.len],fun i p q h1 h2=>?_]
 rw[qAc] at h1 h2
 cases e1:ps[i]? with
 |none=>rw[e1] at h1;cases h1
 |some p0 =>
  obtain⟨q0,e2,w0⟩:=h.get e1
  rw[e1] at h1
  rw[e2] at h2
  cases h1
  cases h2
  exact#[w0.t.moved hw,w0.l.moved hw hv]
theorem Gb {α:Type}{f:α->D}{xs:List α}:(xs.map fun x=>some (f x)).filterMap id=xs.map f:=by
 induction xs with
 |nil=>rfl
 |cons x xs ih=>simp[ih]
def flP (p:Rat×Ln2):Rat×Ln2:=(p.1,(-p.2.1,-p.2.2))
def flR (p:RP):RP:=(p.1,(-p.2.1,-p.2.2.1,p.2.2.2))
theorem Wq.neg {k:Nat}{a b:Int}{q:Rat}(h:Wq k a b q):Wq k (-a) b (-q):=by
 refine#[h.pos,?_,?_,h.lb]
 .have e:=h.eq
  rw[Rat.intCast_neg,e]
  grind
 .have l:=h.la
  show(-a).natAbs<2^k
  rw[Int.natAbs_neg]
  exact l
theorem PL.flipped {k m:Nat}{ps:List RP}{P:Ps}(h:PL k m ps P):PL k m (ps.map flR) (P.map flP):=by
 refine#[by simp[h.len],fun i p q h1 h2=>?_]
 rw[qAc] at h1 h2
 cases e1:ps[i]? with
 |none=>rw[e1] at h1;cases h1
 |some p0 =>
  obtain⟨q0,e2,w0⟩:=h.get e1
  rw[e1] at h1
  rw[e2] at h2
  cases h1
  cases h2
  exact#[w0.t,#[w0.l.s.neg,w0.l.c.neg]]
theorem UO {p:Rat×Ln2}{t:Rat}:ev (flP p).2 t=- ev p.2 t:=by
 unfold flP ev
 grind
theorem Ii {k m:Nat}{p:RP}{q:Rat×Ln2}(w:PW1 k m p q):Rat.divInt p.1.1 p.1.2=q.1/\Rat.divInt (p.2.1*p.1.1+p.2.2.1*p.1.2) (p.2.2.2*p.1.2)=ev q.2 q.1:=by
 have wa:=w.l.at_ w.t
 have key:∀{j:Nat}{a b:Int}{x:Rat},Wq j a b x->Rat.divInt a b=x:=fun {j a b x} h=>by
  have hb:(b:Rat)≠0:=by have:=qAY.mpr h.pos;grind
  rw[qAG,h.eq]
  have k2:x*(b:Rat)/(b:Rat)*(b:Rat)=x*(b:Rat):=qBb hb
  have k3:(x*(b:Rat)/(b:Rat)-x)*(b:Rat)=0:=⋯
  rcases qBg.mp k3 with z|z
  .grind
  .exact absurd z hb
 exact#[key w.t,key wa]
theorem XW {k l:Nat}{a b c d:Int}{p q:Rat}(h1:Wq k a b p) (h2:Wq l c d q):decide (a*d<c*b)=decide (p<q):=by
 have pb:(0:Rat)<(b:Rat):=qAY.mpr h1.pos
 have pd:(0:Rat)<(d:Rat):=qAY.mpr h2.pos
 have pp:(0:Rat)<(b:Rat)*(d:Rat):=qBj pb pd
 have ea:((a*d:Int):Rat)=p*((b:Rat)*(d:Rat)):=by rw[qAo,h1.eq];grind
 have eb:((c*b:Int):Rat)=q*((b:Rat)*(d:Rat)):=by rw[qAo,h2.eq];grind
 refine decide_eq_decide.mpr #[fun h=>?_,fun h=>?_]
 .have h':((a*d:Int):Rat)<((c*b:Int):Rat):=qBP.mpr h
  rw[ea,eb] at h'
  refine qA3.mp fun z=>?_
  have:0<=(p-q)*((b:Rat)*(d:Rat)):=qAi ⋯ (qAk pp)
  grind
 .have h':=qBj (a:=q-p) (b:=(b:Rat)*(d:Rat)) ⋯ pp
  refine qBP.mp ?_
  rw[ea,eb]
  grind
theorem PR {n j:Nat}{m b:Rat}(hm:Sz n m) (hb:Sz j b):LW (n+j) (m.num*(b.den:Int),b.num*(m.den:Int),(m.den:Int)*(b.den:Int)) (m,b):=by
 have wm:=Wq.of hm
 have wb:=Wq.of hb
 refine#[#[qBd wm.pos wb.pos,?_,Ak wm.la wb.lb,Ak wm.lb wb.lb],#[qBd wm.pos wb.pos,?_,AU (Ak wb.la wm.lb) (),Ak wm.lb wb.lb]]
 .have e:=wm.eq
  simp only[qAo]
  rw[e]
  grind
 .have e:=wb.eq
  simp only[qAo]
  rw[e]
  grind
structure Cnt (B S:List Rat)(P:Ps):Prop where
 up:∀i,i+1<P.length->bg P i<bg P (i+1)
 sl:∀i,i<P.length->(ln P i).1∈S
 st:∀i,i+1<P.length->bg P (i+1)∈B\/(ln P (i+1)).1<(ln P i).1
def bel (S:List Rat)(x:Rat):Nat:=(S.filter fun s=>decide (s<x)).length
theorem Th {S:List Rat}{x y:Rat}(h:x∈S) (l:x<y):bel S x+1<=bel S y:=by
 unfold bel
 induction S with
 |nil=>cases h
 |cons a S ih =>
  have mono:∀T:List Rat,(T.filter fun s=>decide (s<x)).length<=(T.filter fun s=>decide (s<y)).length:=fun T=>by
   induction T with
   |nil=>exact qAf _
   |cons b T ih2 =>
    rw[qBm,qBm]
    by_cases c:b<x
    .have c2:b<y:=⋯
     rw[if_pos (by simp[c]),if_pos (by simp[c2])]
     simp;exact ih2
    .rw[if_neg (by simp[c])]
     split
     .simp;omega
     .exact ih2
  rw[qBm,qBm]
  rcases qAl.mp h with rfl|h'
  .rw[if_neg (by simp[qBc]),if_pos (by simp[l])]
   have:=mono S
   simp;omega
  .have:=ih h'
   by_cases c:a<x
   .have c2:a<y:=⋯
    rw[if_pos (by simp[c]),if_pos (by simp[c2])]
    simp;omega
   .rw[if_neg (by simp[c])]
    split
    .simp;omega
    .exact this
theorem Qn {S:List Rat}{x:Rat}(h:x∈S):bel S x+1<=S.length:=by
 unfold bel
 induction S with
 |nil=>cases h
 |cons a S ih =>
  rw[qBm]
  rcases qAl.mp h with rfl|h'
  .rw[if_neg (by simp[qBc])]
   have:=qBn (fun s=>decide (s<x)) S
   simp;omega
  .have:=ih h'
   split
   .simp;omega
   .simp;omega
theorem Cnt.count {B S:List Rat}{P:Ps}(h:Cnt B S P):∀i,i<P.length->i+1+bel S (ln P i).1<=(bel B (bg P i)+(if bg P i∈B then 1 else 0)+1)*S.length:=by
 intro i
 induction i with
 |zero =>
  intro hi
  have:=Qn (h.sl 0 hi)
  have k:1*S.length<=(bel B (bg P 0)+(if bg P 0∈B then 1 else 0)+1)*S.length:=qAR _ ()
  omega
 |succ i ih =>
  intro hi
  have ih:=ih ()
  have u:=h.up i hi
  have sm:=h.sl (i+1) hi
  have le1:bel B (bg P i)+(if bg P i∈B then 1 else 0)<=bel B (bg P (i+1)):=by
   split
   .exact Th (by assumption) u
   .unfold bel
    have:∀T:List Rat,(T.filter fun s=>decide (s<bg P i)).length<=(T.filter fun s=>decide (s<bg P (i+1))).length:=fun T=>by
     induction T with
     |nil=>exact qAf _
     |cons b T ih2 =>
      rw[qBm,qBm]
      by_cases c:b<bg P i
      .have c2:b<bg P (i+1):=⋯
       rw[if_pos (by simp[c]),if_pos (by simp[c2])]
       simp;exact ih2
      .rw[if_neg (by simp[c])]
       split
       .simp;omega
       .exact ih2
    exact this B
  by_cases c:bg P (i+1)∈B
  .rw[if_pos c]
   have b1:=Qn sm
   have k:(bel B (bg P i)+(if bg P i∈B then 1 else 0)+1)*S.length<=(bel B (bg P (i+1))+1)*S.length:=qAR _ ()
   have e:(bel B (bg P (i+1))+1+1)*S.length=(bel B (bg P (i+1))+1)*S.length+S.length:=qCD _ _
   omega
  .rw[if_neg c]
   rcases h.st i hi with z|z
   .exact absurd z c
   .have b1:=Th sm z
    have k:(bel B (bg P i)+(if bg P i∈B then 1 else 0)+1)*S.length<=(bel B (bg P (i+1))+0+1)*S.length:=qAR _ ()
    omega
theorem Cnt.len {B S:List Rat}{P:Ps}(h:Cnt B S P):P.length<=(B.length+1)*S.length:=by
 rcases qBo P.length with z|z
 .rw[z];exact qA7 _
 .have c:=h.count (P.length-1) ()
  have k:(bel B (bg P (P.length-1))+(if bg P (P.length-1)∈B then 1 else 0)+1)*S.length<=(B.length+1)*S.length:=by
   refine qAR _ ?_
   split
   .have:=Qn (S:=B) (by assumption)
    omega
   .have:bel B (bg P (P.length-1))<=B.length:=qBn _ _
    omega
  omega
def L8 (ps:List RP)(p:RP)(ps':List RP):Prop:=(ps'=ps++[p]/\∀q,ps[ps.length-1]? = some q->q.2≠p.2)\/(ps'=ps/\∃q,ps[ps.length-1]? = some q/\q.2=p.2)
theorem L8.len {ps ps':List RP}{p:RP}(h:L8 ps p ps'):ps'.length<=ps.length+1:=by
 rcases h with⟨rfl,_⟩|⟨rfl,_⟩
 .simp
 .omega
structure Dy (B S:List Rat)(G:Ln2->Prop)(U:Rat->Prop)(k m:Nat)(h:Rat->Rat)(T:Option Rat)(qs:List RP)(Q:Ps):Prop where
 pl:PL k m qs Q
 pu:PU Q h T
 cn:Cnt B S Q
 gd:∀i,i<Q.length->G (ln Q i)/\U (bg Q i)
theorem Cnt.snoc {B S:List Rat}{P:Ps}{b:Rat}{l:Ln2}(c:Cnt B S P) (hb:0<P.length->bg P (P.length-1)<b) (hs:l.1∈S) (st:0<P.length->b∈B\/l.1<(ln P (P.length-1)).1):Cnt B S (P++[(b,l)]):=by
 have hl:(P++[(b,l)]).length=P.length+1:=by simp
 have r:=Xb (P:=P) (c:=(b,l))
 refine#[fun i hi=>?_,fun i hi=>?_,fun i hi=>?_]
 .rw[hl] at hi
  by_cases z:i+1<P.length
  .rw[(Lk (show i<P.length from ())).1,(Lk z).1];exact c.up i z
  .have:i=P.length-1:=()
   rw[(Lk (show i<P.length from ())).1,show i+1=P.length from (),r.1,this]
   exact hb ()
 .rw[hl] at hi
  by_cases z:i<P.length
  .rw[(Lk z).2];exact c.sl i z
  .rw[show i=P.length from (),r.2];exact hs
 .rw[hl] at hi
  by_cases z:i+1<P.length
  .rw[(Lk (show i<P.length from ())).2,(Lk z).1,(Lk z).2];exact c.st i z
  .have:i=P.length-1:=()
   rw[(Lk (show i<P.length from ())).2,show i+1=P.length from (),r.1,r.2,this]
   exact st ()
theorem Gn {P:Ps}{i:Nat}{q:Rat×Ln2}(h:(P:List (Rat×Ln2))[i]? = some q):bg P i=q.1/\ln P i=q.2:=by
 unfold bg ln
 rw[qAg,h]
 exact#[rfl,rfl]
theorem PL.lnw {k m:Nat}{qs:List RP}{Q:Ps}(h:PL k m qs Q){i:Nat}{q:RP}(hq:qs[i]? = some q):LW k q.2 (ln Q i)/\Wq m q.1.1 q.1.2 (bg Q i)/\i<Q.length:=by
 obtain⟨r,h1,h2⟩:=h.get hq
 rw[(Gn h1).1,(Gn h1).2]
 exact#[h2.l,h2.t,(qAe.mp h1).1]
def Few (B:List Rat)(qs:List RP)(k:Nat)(b:Rat)(p:RL)(l:Ln2):Prop:=b∈B\/qs=[]\/∃q ql,qs[qs.length-1]? = some q/\LW k q.2 ql/\(q.2=p\/l.1<ql.1)
theorem Dy.add {B S:List Rat}{G:Ln2->Prop}{U:Rat->Prop}{k m:Nat}{h:Rat->Rat}{T:Option Rat}{qs qs':List RP}{Q:Ps}{b:Rat}{p:RP}{l:Ln2}(r:Dy B S G U k m h (some b) qs Q) (w:PW1 k m p (b,l)) (a:L8 qs p qs') (hb:LtO b T) (hv:∀t,b<=t->LeO t T->h t=ev l t) (hs:l.1∈S) (hG:G l) (hU:U b) (few:Few B qs k b p.2 l) :
 ∃Q',Dy B S G U k m h T qs' Q'/\(∃q,qs'[qs'.length-1]? = some q/\q.2=p.2)/\(qs=[]->bg Q' 0=b)/\(qs≠[]->bg Q' 0=bg Q 0)/\(∀i,i<qs.length->qs'[i]? = qs[i]?):=by
 have len:=r.pl.len
 rcases a with⟨rfl,hn⟩|⟨rfl,q,hq,e⟩
 .refine#[Q++[(b,l)],#[r.pl.snoc w,r.pu.push hb hv,r.cn.snoc (fun z=>r.pu.lt _ ()) hs fun z=>?_,fun i hi=>?_],#[p,by simp,rfl],fun z=>?_,fun z=>?_,fun i hi=>qAp hi]
  .rcases few with f|f|⟨q,ql,h1,h2,f⟩
   .exact .inl f
   .rw[f] at len;simp at len;omega
   .have u:=(r.pl.lnw h1).1
    rw[len] at u
    rcases f with f|f
    .exact absurd f (hn q h1)
    .right
     rw[u.uniq h2];exact f
  .rw[qAw] at hi
   by_cases z:i<Q.length
   .rw[(Lk z).1,(Lk z).2];exact r.gd i z
   .have hi':i<Q.length+1:=hi
    rw[show i=Q.length from (),Xb.1,Xb.2];exact#[hG,hU]
  .subst z
   simp at len
   have:Q=[]:=qAS len.symm
   subst this
   rfl
  .have:0<qs.length:=List.length_pos_iff.mpr z
   exact(Lk (show 0<Q.length from ())).1
 .have u:=r.pl.lnw hq
  have e2:ln Q (Q.length-1)=l:=by
   rw[<-len]
   have:=u.1
   rw[e] at this
   exact this.uniq w.l
  have q0:0<Q.length:=by have:=u.2.2;omega
  refine#[Q,#[r.pl,r.pu.skip hb q0 e2 hv,r.cn,r.gd],#[q,hq,e],fun z=>?_,fun _=>rfl,fun _ _=>rfl]
  rw[z] at hq;cases hq
def YE (qs:List RP)(r1 r2:RL)(now thn:Rat):Prop:=∃q,qs[qs.length-1]? = some q/\((q.2=r1/\(thn<0\/(now<0/\thn=0)))\/(q.2=r2/\(0<thn\/(thn=0/\0<=now))))
def Rf (ps:List RP)(tm:Int×Int)(l1 l2:RL)(now thn:Int)(x:Rat)(ps':List RP):Prop :=
 ∃ps1,(if now<0\/(now=0/\thn<0) then L8 ps (tm,l1) ps1 else L8 ps (tm,l2) ps1) /\
  (if now<0/\0<thn then L8 ps1 ((x.num,(x.den:Int)),l2) ps' else if 0<now/\thn<0 then L8 ps1 ((x.num,(x.den:Int)),l1) ps' else ps'=ps1)
theorem Dy.row {B S:List Rat}{G:Ln2->Prop}{U:Rat->Prop}{k m:Nat}{h f g:Rat->Rat}{T:Option Rat}{qs qs':List RP}{Q:Ps}{a:Rat}{tm:Int×Int}{r1 r2:RL}{l1 l2:Ln2}(r:Dy B S G U k m h (some a) qs Q) (ha:LtO a T) (wt:Wq m tm.1 tm.2 a) (w1:LW k r1 l1) (w2:LW k r2 l2) (hm:k+k+1<=m)
 (hf:∀t,a<=t->LeO t T->f t=ev l1 t) (hg:∀t,a<=t->LeO t T->g t=ev l2 t) (hh:∀t,a<=t->LeO t T->h t=mp (f t) (g t)) (s1:l1.1∈S) (s2:l2.1∈S) (g1:G l1) (g2:G l2) (ua:U a) (ux:∀l l',G l->G l'->l.1≠l'.1->U (xg l l'))
 (few:a∈B\/qs=[]\/∃q ql,qs[qs.length-1]? = some q/\LW k q.2 ql/\if ev l1 a-ev l2 a<0\/(ev l1 a-ev l2 a=0/\Ef l1 l2 T<0) then (q.2=r1\/l1.1<ql.1) else (q.2=r2\/l2.1<ql.1))
 (ad:Rf qs tm r1 r2 (sg (ev l1 a-ev l2 a)) (sg (Ef l1 l2 T)) (xg l1 l2) qs') :
 ∃Q',Dy B S G U k m h T qs' Q'/\YE qs' r1 r2 (ev l1 a-ev l2 a) (Ef l1 l2 T)/\(qs=[]->bg Q' 0=a)/\(qs≠[]->bg Q' 0=bg Q 0):=by
 obtain⟨ps1,a1,a2⟩:=ad
 have i1:∀x:Rat,(sg x<0)=(x<0):=fun x=>propext Qk
 have i2:∀x:Rat,(0<sg x)=(0<x):=fun x=>propext QM
 have i3:∀x:Rat,(sg x=0)=(x=0):=fun x=>propext Vf
 simp only[i1,i2,i3] at a1 a2
 have xw:l1.1≠l2.1->Wq m (xg l1 l2).num ((xg l1 l2).den:Int) (xg l1 l2):=fun ne=>(Wq.of (Xz w1 w2 ne)).mono hm
 have inT:∀{x:Rat},LtO x T->∀t,LeO t (some x)->LeO t T:=fun {x} hx t ht=>by
  cases T with
  |none=>trivial
  |some u =>
   have h1:t<=x:=ht
   have h2:x<u:=hx
   show t<=u
   grind
 have id':∀t,LeO t T->LeO t T:=fun _ h=>h
 have one:∀{V:Option Rat},(∀t,LeO t V->LeO t T)->(∀t,a<=t->LeO t V->ev l1 t<=ev l2 t)->∀t,a<=t->LeO t V->h t=ev l1 t:=fun hU le t h1 h2=>by
  rw[hh t h1 (hU t h2),hf t h1 (hU t h2),hg t h1 (hU t h2)];exact Xh (le t h1 h2)
 have two:∀{V:Option Rat},(∀t,LeO t V->LeO t T)->(∀t,a<=t->LeO t V->ev l2 t<=ev l1 t)->∀t,a<=t->LeO t V->h t=ev l2 t:=fun hU le t h1 h2=>by
  rw[hh t h1 (hU t h2),hf t h1 (hU t h2),hg t h1 (hU t h2)];exact XQ (le t h1 h2)
 have fewA:∀{c:RL}{l:Ln2},(∀q ql,(if ev l1 a-ev l2 a<0\/(ev l1 a-ev l2 a=0/\Ef l1 l2 T<0) then (q=r1\/l1.1<ql) else (q=r2\/l2.1<ql))->(q=c\/l.1<ql))->Few B qs k a c l:=fun {c l} F=>by
  rcases few with f|f|⟨q,ql,h1,h2,f⟩
  .exact .inl f
  .exact .inr (.inl f)
  .exact .inr (.inr #[q,ql,h1,h2,F q.2 ql.1 f])
 by_cases c1:ev l1 a-ev l2 a<0
 .rw[if_pos (.inl c1)] at a1
  have F1:Few B qs k a r1 l1:=fewA (fun q ql z=>by rw[if_pos (.inl c1)] at z;exact z)
  by_cases c2:0<Ef l1 l2 T
  .rw[if_pos #[c1,c2]] at a2
   have am:=IT (T:=T) (l1:=l1) (l2:=l2) (a:=a) ⋯ (Oi ha c2)
   obtain⟨x1,x2,y1,y2⟩:=K7 (T:=T) (l1:=l1) (l2:=l2) (a:=a) ⋯ (Oi ha c2)
   obtain⟨Q1,R1,⟨q,hq,eq⟩,b1,b2,_⟩:=r.add (T:=some (xg l1 l2)) #[wt,w1] a1 x1 (one (inT x2) (fun t h1 h2=>y1 t h1 h2)) s1 g1 ua F1
   have ne1:ps1≠[]:=fun z=>by rw[z] at hq;cases hq
   have sl:l2.1<l1.1:=by
    have e:=N0 am.1
    unfold ev at e c1
    refine qA3.mp fun z=>?_
    have:0<=(l2.1-l1.1)*(xg l1 l2-a):=qAi ⋯ ⋯
    grind
   obtain⟨Q2,R2,E2,b3,b4,_⟩:=R1.add (T:=T) (l:=l2) #[xw am.1,w2] a2 x2 (fun t h1 h2=>by
    have ht:a<=t:=⋯
    rw[hh t ht h2,hf t ht h2,hg t ht h2];exact XQ (y2 t h1 h2)) s2 g2 (ux _ _ g1 g2 am.1) (.inr (.inr #[q,l1,hq,by rw[eq];exact w1,.inr sl]))
   obtain⟨q2,hq2,eq2⟩:=E2
   exact#[Q2,R2,#[q2,hq2,.inr #[eq2,.inl c2]],fun z=>(b4 ne1).trans (b1 z),fun z=>(b4 ne1).trans (b2 z)]
  .rw[if_neg (fun z=>c2 z.2),if_neg (fun z=>⋯)] at a2
   subst a2
   obtain⟨Q1,R1,⟨q,hq,eq⟩,b1,b2,_⟩:=r.add (T:=T) #[wt,w1] a1 ha (one id' fun t h1 h2=>Lp h1 h2 ⋯ (Uw ha ⋯)) s1 g1 ua F1
   exact#[Q1,R1,#[q,hq,.inl #[eq,⋯]],b1,b2]
 .by_cases c3:ev l1 a-ev l2 a=0/\Ef l1 l2 T<0
  .rw[if_pos (.inr c3)] at a1
   have F1:Few B qs k a r1 l1:=fewA (fun q ql z=>by rw[if_pos (.inr c3)] at z;exact z)
   rw[if_neg (fun z=>c1 z.1),if_neg (fun z=>⋯)] at a2
   subst a2
   obtain⟨Q1,R1,⟨q,hq,eq⟩,b1,b2,_⟩:=r.add (T:=T) #[wt,w1] a1 ha (one id' fun t h1 h2=>Lp h1 h2 ⋯ (Uw ha ⋯)) s1 g1 ua F1
   exact#[Q1,R1,#[q,hq,.inl #[eq,.inl c3.2]],b1,b2]
  .have nc:¬(ev l1 a-ev l2 a<0\/(ev l1 a-ev l2 a=0/\Ef l1 l2 T<0)):=fun z=>z.elim c1 c3
   rw[if_neg nc] at a1
   have F2:Few B qs k a r2 l2:=fewA (fun q ql z=>by rw[if_neg nc] at z;exact z)
   rw[if_neg (fun z=>c1 z.1)] at a2
   by_cases c4:0<ev l1 a-ev l2 a/\Ef l1 l2 T<0
   .rw[if_pos c4] at a2
    have c5:0<Ef l2 l1 T:=by rw[G6];grind
    have am:=IT (T:=T) (l1:=l2) (l2:=l1) (a:=a) ⋯ (Oi ha c5)
    obtain⟨x1,x2,y1,y2⟩:=K7 (T:=T) (l1:=l2) (l2:=l1) (a:=a) ⋯ (Oi ha c5)
    have xc:xg l2 l1=xg l1 l2:=Vb
    rw[xc] at am x1 x2 y1 y2
    obtain⟨Q1,R1,⟨q,hq,eq⟩,b1,b2,_⟩:=r.add (T:=some (xg l1 l2)) #[wt,w2] a1 x1 (two (inT x2) (fun t h1 h2=>y1 t h1 h2)) s2 g2 ua F2
    have ne1:ps1≠[]:=fun z=>by rw[z] at hq;cases hq
    have sl:l1.1<l2.1:=by
     have e:=N0 (Ne.symm am.1)
     have c4':=c4.1
     unfold ev at e c4'
     refine qA3.mp fun z=>?_
     have:0<=(l1.1-l2.1)*(xg l1 l2-a):=qAi ⋯ ⋯
     grind
    obtain⟨Q2,R2,E2,b3,b4,_⟩:=R1.add (T:=T) (l:=l1) #[xw (Ne.symm am.1),w1] a2 x2 (fun t h1 h2=>by
     have ht:a<=t:=⋯
     rw[hh t ht h2,hf t ht h2,hg t ht h2];exact Xh (y2 t h1 h2)) s1 g1 (ux _ _ g1 g2 (Ne.symm am.1)) (.inr (.inr #[q,l2,hq,by rw[eq];exact w2,.inr sl]))
    obtain⟨q2,hq2,eq2⟩:=E2
    exact#[Q2,R2,#[q2,hq2,.inl #[eq2,.inl c4.2]],fun z=>(b4 ne1).trans (b1 z),fun z=>(b4 ne1).trans (b2 z)]
   .rw[if_neg c4] at a2
    subst a2
    obtain⟨Q1,R1,⟨q,hq,eq⟩,b1,b2,_⟩:=r.add (T:=T) #[wt,w2] a1 ha (two id' fun t h1 h2=>Lp h1 h2 ⋯ (Uw ha (by grind [G6]))) s2 g2 ua F2
    exact#[Q1,R1,#[q,hq,.inr #[eq,⋯]],b1,b2]
structure Sbs (P O:Ps)(N:Nat)(a:Nat->Rat)(i j:Nat->Nat):Prop where
 n0:0<N
 a0:a 0=bg O 0
 j0:j 0=0
 iP:∀n,n<N->i n<P.length
 jO:∀n,n<N->j n<O.length
 bi:∀n,n<N->bg P (i n)<=a n
 bj:∀n,n<N->bg O (j n)<=a n
 up:∀n,n+1<N->a n<a (n+1)
 ei:∀n,n<N->i n+1<P.length->n+1<N/\a (n+1)<=bg P (i n+1)
 ej:∀n,n<N->j n+1<O.length->n+1<N/\a (n+1)<=bg O (j n+1)
 si:∀n,n+1<N->i (n+1)=i n\/(i (n+1)=i n+1/\a (n+1)=bg P (i n+1))
 sj:∀n,n+1<N->j (n+1)=j n\/(j (n+1)=j n+1/\a (n+1)=bg O (j n+1))
 mv:∀n,n+1<N->i (n+1)=i n->j (n+1)≠j n
def TmN (N:Nat)(a:Nat->Rat)(n:Nat):Option Rat:=if n<N then some (a n) else none
section
variable {P O:Ps}{N:Nat}{a:Nat->Rat}{i j:Nat->Nat}{h g:Rat->Rat}
theorem Sbs.hP (s:Sbs P O N a i j)(p:PU P h none){n:Nat}(hn:n<N){t:Rat}(h1:a n<=t) (h2:LeO t (TmN N a (n+1))):h t=ev (ln P (i n)) t:=by
 refine p.v (i n) (s.iP n hn) t (qAm (s.bi n hn) h1) (fun z=>?_) trivial
 obtain⟨z1,z2⟩:=s.ei n hn z
 unfold TmN at h2
 rw[if_pos z1] at h2
 exact qAm h2 z2
theorem Sbs.hO (s:Sbs P O N a i j)(p:PU O g none){n:Nat}(hn:n<N){t:Rat}(h1:a n<=t) (h2:LeO t (TmN N a (n+1))):g t=ev (ln O (j n)) t:=by
 refine p.v (j n) (s.jO n hn) t (qAm (s.bj n hn) h1) (fun z=>?_) trivial
 obtain⟨z1,z2⟩:=s.ej n hn z
 unfold TmN at h2
 rw[if_pos z1] at h2
 exact qAm h2 z2
theorem Sbs.lt (s:Sbs P O N a i j){n:Nat}(hn:n<N):LtO (a n) (TmN N a (n+1)):=by
 unfold TmN
 split
 .exact s.up n (by assumption)
 .trivial
theorem Sbs.ge (s:Sbs P O N a i j){n:Nat}:n<N->a 0<=a n:=by
 induction n with
 |zero=>intro _;exact qAd
 |succ n ih =>
  intro hn
  have:=ih ()
  have:=s.up n hn
  grind
theorem Sbs.next (s:Sbs P O N a i j)(p:PU P h none)(q:PU O g none){n:Nat}(hn:n+1<N):ev (ln P (i n)) (a (n+1))=ev (ln P (i (n+1))) (a (n+1))/\ev (ln O (j n)) (a (n+1))=ev (ln O (j (n+1))) (a (n+1)):=by
 have e:TmN N a (n+1)=some (a (n+1)):=if_pos hn
 have l1:LeO (a (n+1)) (TmN N a (n+1)):=by rw[e];exact qAd
 have l2:=(s.lt (n:=n+1) hn).le
 have u:=qAk (s.up n hn)
 rw[<-s.hP p () u l1,<-s.hP p hn qAd l2,<-s.hO q () u l1,<-s.hO q hn qAd l2]
 exact#[rfl,rfl]
theorem Sbs.thn (s:Sbs P O N a i j)(p:PU P h none)(q:PU O g none){n:Nat}(hn:n+1<N):Ef (ln P (i n)) (ln O (j n)) (TmN N a (n+1))=ev (ln P (i (n+1))) (a (n+1))-ev (ln O (j (n+1))) (a (n+1)):=by
 have e:TmN N a (n+1)=some (a (n+1)):=if_pos hn
 rw[e]
 obtain⟨e1,e2⟩:=s.next p q hn
 show ev _ _-ev _ _=_
 rw[e1,e2]
end
def LH (a0:Rat)(h g:Rat->Rat)(t:Rat):Rat:=if t<a0 then h t else mp (h t) (g t)
def L7 (O:Ps):List Rat:=O.map (·.1)
theorem J7 {O:Ps}{j:Nat}(h:j<O.length):bg O j∈L7 O:=by
 refine qAM.mpr #[O[j],qA6 h,?_]
 exact(Gn (qAb h)).1.symm
structure T6 (B S:List Rat)(G:Ln2->Prop)(U:Rat->Prop)(k m:Nat)(ps os:List RP)(P O:Ps)(h g:Rat->Rat)(N:Nat)(a:Nat->Rat)(i j:Nat->Nat)(n:Nat)(qs:List RP)(Q:Ps):Prop where
 r:Dy (B++L7 O) S G U k m (LH (bg O 0) h g) (TmN N a n) qs Q
 e:∀n',n=n'+1->∀p1 p2,ps[i n']? = some p1->os[j n']? = some p2->YE qs p1.2 p2.2 (ev (ln P (i n')) (a n')-ev (ln O (j n')) (a n')) (Ef (ln P (i n')) (ln O (j n')) (TmN N a n))
 b:(n=0->qs≠[]->bg Q 0=bg P 0)/\(0<n->qs≠[]/\bg Q 0=bg P 0)
theorem RT {l1 l2:Ln2}{a u:Rat}(h:a<u) (h1:ev l1 a<ev l2 a) (h2:ev l1 u=ev l2 u):l2.1<l1.1:=by
 unfold ev at *
 refine qA3.mp fun z=>?_
 have:0<=(l2.1-l1.1)*(u-a):=qAi ⋯ ⋯
 grind
theorem TV {l1 l2:Ln2}{a:Rat}{T:Option Rat}(ha:LtO a T) (h1:ev l1 a=ev l2 a) (h2:Ef l1 l2 T<0):l1.1<l2.1:=by
 cases T with
 |none=>have h:l1.1-l2.1<0:=h2;grind
 |some u =>
  have h:ev l1 u-ev l2 u<0:=h2
  have hl:a<u:=ha
  unfold ev at *
  refine qA3.mp fun z=>?_
  have:0<=(l1.1-l2.1)*(u-a):=qAi ⋯ ⋯
  grind
section
variable {B S:List Rat}{G:Ln2->Prop}{U:Rat->Prop}{k m:Nat}{ps os:List RP}{P O:Ps}{h g:Rat->Rat}{N:Nat}{a:Nat->Rat}{i j:Nat->Nat}
theorem T6.step (rP:Dy B S G U k m h none ps P)(lo:PL k m os O)(pO:PU O g none)(sO:∀x,x<O.length->(ln O x).1∈S)(gO:∀x,x<O.length->G (ln O x)/\U (bg O x))(ux:∀l l',G l->G l'->l.1≠l'.1->U (xg l l'))(hm:k+k+1<=m)(s:Sbs P O N a i j)(hb:bg P 0<=bg O 0){n:Nat}{qs qs':List RP}{Q:Ps}(li:T6 B S G U k m ps os P O h g N a i j n qs Q) (hn:n<N){tm:Int×Int}(wt:Wq m tm.1 tm.2 (a n)){p1 p2:RP}(h1:ps[i n]? = some p1) (h2:os[j n]? = some p2)
 (ad:Rf qs tm p1.2 p2.2 (sg (ev (ln P (i n)) (a n)-ev (ln O (j n)) (a n))) (sg (Ef (ln P (i n)) (ln O (j n)) (TmN N a (n+1)))) (xg (ln P (i n)) (ln O (j n))) qs') (h0:n=0->qs=[]->bg P 0=bg O 0) :
 ∃Q',T6 B S G U k m ps os P O h g N a i j (n+1) qs' Q':=by
 have lp:=rP.pl
 have pP:=rP.pu
 have cP:=rP.cn
 have ua:U (a n):=by
  cases n with
  |zero=>rw[s.a0];exact(gO 0 (by have:=s.jO 0 hn;omega)).2
  |succ n =>
   rcases s.sj n hn with jj|⟨jj,ja⟩
   .rcases s.si n hn with ii|⟨ii,ia⟩
    .exact absurd jj (s.mv n hn ii)
    .rw[ia];exact(rP.gd _ (by rw[<-ii];exact s.iP _ hn)).2
   .rw[ja];exact(gO _ (by rw[<-jj];exact s.jO _ hn)).2
 have w1:=(lp.lnw h1).1
 have w2:=(lo.lnw h2).1
 have eT:TmN N a n=some (a n):=if_pos hn
 have r:=li.r
 rw[eT] at r
 have hg0:bg O 0<=a n:=by rw[<-s.a0];exact s.ge hn
 have few:a n∈B++L7 O\/qs=[]\/∃q ql,qs[qs.length-1]? = some q/\LW k q.2 ql/\if ev (ln P (i n)) (a n)-ev (ln O (j n)) (a n)<0\/(ev (ln P (i n)) (a n)-ev (ln O (j n)) (a n)=0/\Ef (ln P (i n)) (ln O (j n)) (TmN N a (n+1))<0) then (q.2=p1.2\/(ln P (i n)).1<ql.1) else (q.2=p2.2\/(ln O (j n)).1<ql.1):=by
  cases n with
  |zero =>
   left
   rw[s.a0]
   exact qAr.mpr (.inr (J7 (by have:=s.jO 0 hn;omega)))
  |succ n =>
   rcases s.sj n hn with jj|⟨jj,ja⟩
   .rcases s.si n hn with ii|⟨ii,ia⟩
    .exact absurd jj (s.mv n hn ii)
    .have il:=s.iP (n+1) hn
     rw[ii] at il
     rcases cP.st (i n) il with z|z
     .left
      rw[ia]
      exact qAr.mpr (.inl z)
     .right;right
      have i0:=s.iP n ()
      have hp:i n<ps.length:=by rw[lp.len];exact i0
      have h1':=qAb hp
      have h2':os[j n]? = some p2:=by rw[<-jj];exact h2
      obtain⟨q,hq,e⟩:=li.e n rfl _ _ h1' h2'
      have w1':=(lp.lnw h1').1
      have tn:=s.thn pP pO hn
      have u:=s.up n hn
      have hl:=s.lt (n:=n+1) hn
      rw[tn] at e
      have nx:=s.next pP pO hn
      rw[jj] at e ⊢
      rw[ii] at e nx ⊢
      rw[jj] at nx
      rcases e with⟨e1,e2⟩|⟨e1,e2⟩
      .refine#[q,ln P (i n),hq,by rw[e1];exact w1',?_]
       split
       .exact .inr z
       .right
        rename_i nc
        have:ev (ln P (i n)) (a n)-ev (ln O (j n)) (a n)<0/\ev (ln P (i n+1)) (a (n+1))-ev (ln O (j n)) (a (n+1))=0:=by
         rcases e2 with e2|e2
         .exact absurd (.inl e2) nc
         .exact e2
        exact RT u ⋯ ⋯
      .refine#[q,ln O (j n),hq,by rw[e1,<-jj];exact w2,?_]
       split
       .right
        rename_i c
        have:ev (ln P (i n+1)) (a (n+1))-ev (ln O (j n)) (a (n+1))=0/\Ef (ln P (i n+1)) (ln O (j n)) (TmN N a (n+1+1))<0:=by
         rcases c with c|c
         .rcases e2 with e2|e2<;>grind
         .exact c
        exact TV hl ⋯ this.2
       .exact .inl e1
   .left
    rw[ja]
    exact qAr.mpr (.inr (J7 (by have:=s.jO (n+1) hn;omega)))
 obtain⟨Q',R',E',b1,b2⟩:=r.row (T:=TmN N a (n+1)) (f:=h) (g:=g) (s.lt hn) wt w1 w2 hm (fun t t1 t2=>s.hP pP hn t1 t2) (fun t t1 t2=>s.hO pO hn t1 t2) (fun t t1 _=>by
  unfold LH
  rw[if_neg ⋯]) (cP.sl _ (s.iP n hn)) (sO _ (s.jO n hn)) (rP.gd _ (s.iP n hn)).1 (gO _ (s.jO n hn)).1 ua ux few ad
 have ne':qs'≠[]:=fun z=>by obtain⟨q,hq,_⟩:=E';rw[z] at hq;cases hq
 refine#[Q',R',fun n' e p1' p2' g1 g2=>?_,fun z=>absurd z (),fun _=>#[ne',?_]]
 .have:n'=n:=()
  subst this
  rw[h1] at g1
  rw[h2] at g2
  cases g1
  cases g2
  exact E'
 .rcases qBo n with z|z
  .by_cases c:qs=[]
   .rw[b1 c,z,s.a0]
    exact(h0 z c).symm
   .rw[b2 c];exact li.b.1 z c
  .have:=li.b.2 z
   rw[b2 this.1];exact this.2
theorem Bb {P:Ps}{c x:Nat}(h:x<c):bg (P.take c) x=bg P x/\ln (P.take c) x=ln P x:=by
 unfold bg ln
 rw[qAg,qAg,qBH h]
 exact#[rfl,rfl]
theorem T6.zero (rP:Dy B S G U k m h none ps P)(s:Sbs P O N a i j){c:Nat}(hc:c<=P.length) (c1:∀x,x<c->bg P x<bg O 0) (c2:c<P.length->bg O 0<=bg P c) (hj:0<c->h (bg O 0)<=g (bg O 0)):T6 B S G U k m ps os P O h g N a i j 0 (ps.take c) (P.take c):=by
 have lp:=rP.pl
 have pP:=rP.pu
 have cP:=rP.cn
 have tl:(P.take c).length=c:=by rw[qAU];omega
 have eT:TmN N a 0=some (bg O 0):=by unfold TmN;rw[if_pos s.n0,s.a0]
 refine#[#[#[by rw[qAU,qAU,lp.len],fun x p q h1 h2=>?_],?_,#[fun x hx=>?_,fun x hx=>?_,fun x hx=>?_],fun x hx=>by rw[tl] at hx;rw[(Bb hx).1,(Bb hx).2];exact rP.gd x ()],fun n' e=>absurd e (),fun _ z=>?_,fun z=>absurd z ()]
 .have hx:x<c:=by
   have:=(qAe.mp h2).1
   rw[tl] at this;exact this
  rw[qBH hx] at h1 h2
  exact lp.at_ x p q h1 h2
 .rw[eT]
  refine#[fun x hx=>?_,fun x hx=>?_,fun x hx t t1 t2 t3=>?_]
  .rw[tl] at hx
   rw[(Bb (show x<c from ())).1,(Bb hx).1];exact pP.up x ()
  .rw[tl] at hx
   rw[(Bb hx).1];exact c1 x hx
  .rw[tl] at hx t2
   rw[(Bb hx).1] at t1
   rw[(Bb hx).2]
   have t3:t<=bg O 0:=t3
   have ev1:h t=ev (ln P x) t:=by
    refine pP.v x () t t1 (fun z=>?_) trivial
    by_cases z2:x+1<c
    .have:=t2 z2
     rw[(Bb z2).1] at this
     exact this
    .have:x+1=c:=()
     rw[this]
     exact qAm t3 (c2 ())
   unfold LH
   split
   .exact ev1
   .have:t=bg O 0:=⋯
    rw[this] at ev1 ⊢
    rw[Xh (hj ())]
    exact ev1
 .rw[tl] at hx
  rw[(Bb (show x<c from ())).1,(Bb hx).1];exact pP.up x ()
 .rw[tl] at hx
  rw[(Bb hx).2];exact cP.sl x ()
 .rw[tl] at hx
  rw[(Bb (show x<c from ())).2,(Bb hx).1,(Bb hx).2]
  rcases cP.st x () with z|z
  .exact .inl (qAr.mpr (.inl z))
  .exact .inr z
 .have:0<c:=by
   rcases qBo c with y|y
   .subst y;exact absurd rfl z
   .exact y
  exact(Bb this).1
end
def Ck (cs:Cs)(m:Rat):Ps:=(List.range cs.length).map fun k=>(tt cs k,(slp cs m k,vv cs k-slp cs m k*tt cs k))
theorem AA {cs:Cs}{m:Rat}:(Ck cs m).length=cs.length:=by unfold Ck;simp
theorem AW {cs:Cs}{m:Rat}{k:Nat}(h:k<cs.length):bg (Ck cs m) k=tt cs k/\ln (Ck cs m) k=(slp cs m k,vv cs k-slp cs m k*tt cs k):=by
 refine Gn (q:=(tt cs k,(slp cs m k,vv cs k-slp cs m k*tt cs k))) ?_
 unfold Ck
 rw[qAc,qAC h]
 rfl
theorem FK {cs:Cs}{m:Rat}(o:Ord cs):PU (Ck cs m) (val cs m) none:=by
 refine#[fun i hi=>?_,fun i hi=>trivial,fun i hi t h1 h2 _=>?_]
 .rw[AA] at hi
  rw[(AW (show i<cs.length from ())).1,(AW hi).1];exact o.up i hi
 .rw[AA] at hi h2
  rw[(AW hi).1] at h1
  rw[(AW hi).2]
  have on:On cs i t:=#[hi,h1,fun z=>by have:=h2 z;rw[(AW z).1] at this;exact this]
  rw[Bn o.up on]
  unfold ev
  grind
theorem BG {P:Ps}{F:Rat×Ln2->Rat×Ln2}{i:Nat}(h:i<P.length):bg (P.map F) i=(F (bg P i,ln P i)).1/\ln (P.map F) i=(F (bg P i,ln P i)).2:=by
 have e:P[i]? = some (bg P i,ln P i):=by
  have g:=qAb h
  rw[g]
  have:=Gn g
  rw[this.1,this.2]
 refine Gn ?_
 rw[qAc,e]
 rfl
theorem PU.flip {P:Ps}{h:Rat->Rat}{T:Option Rat}(p:PU P h T):PU (P.map flP) (fun t=>-h t) T:=by
 refine#[fun i hi=>?_,fun i hi=>?_,fun i hi t h1 h2 h3=>?_]
 .rw[qAa] at hi
  rw[(BG (show i<P.length from ())).1,(BG hi).1];exact p.up i hi
 .rw[qAa] at hi
  rw[(BG hi).1];exact p.lt i hi
 .rw[qAa] at hi h2
  rw[(BG hi).1] at h1
  rw[(BG hi).2]
  show -h t=_
  rw[p.v i hi t h1 (fun z=>by have:=h2 z;rw[(BG z).1] at this;exact this) h3]
  exact UO.symm
theorem PU.move {P:Ps}{h:Rat->Rat}(w v:Rat) (p:PU P h none):PU (P.map (mvP w v)) (fun t=>h (t-w)+v) none:=by
 refine#[fun i hi=>?_,fun i hi=>trivial,fun i hi t h1 h2 _=>?_]
 .rw[qAa] at hi
  rw[(BG (show i<P.length from ())).1,(BG hi).1]
  have:=p.up i hi
  show bg P i+w<bg P (i+1)+w
  grind
 .rw[qAa] at hi h2
  rw[(BG hi).1] at h1
  rw[(BG hi).2]
  have h1:bg P i+w<=t:=h1
  show h (t-w)+v=_
  rw[p.v i hi (t-w) ⋯ (fun z=>by
   have:=h2 z
   rw[(BG z).1] at this
   have this:t<=bg P (i+1)+w:=this
   grind) trivial]
  exact Sa.symm
def frN (P:Ps)(c:Nat):Ps:=(0,ln P (c-1))::P.drop c
theorem FD {P:Ps}{c i:Nat}:bg (frN P c) (i+1)=bg P (c+i)/\ln (frN P c) (i+1)=ln P (c+i):=by
 unfold frN bg ln
 rw[qAg,qBK,qBa,qAg]
 exact#[rfl,rfl]
theorem ET {P:Ps}{c:Nat}:(frN P c).length=P.length-c+1:=by unfold frN;rw[qAW,qAL]
theorem PU.fromN {P:Ps}{h:Rat->Rat}{c:Nat}(p:PU P h none) (c0:0<c) (cl:c<=P.length) (h1:∀i,i<c->bg P i<=0) (h2:c<P.length->0<bg P c):PU (frN P c) h none:=by
 have e0:bg (frN P c) 0=0/\ln (frN P c) 0=ln P (c-1):=#[rfl,rfl]
 refine#[fun i hi=>?_,fun i hi=>trivial,fun i hi t t1 t2 _=>?_]
 .rw[ET] at hi
  cases i with
  |zero=>rw[e0.1,FD.1];exact h2 ()
  |succ i=>rw[FD.1,FD.1];exact p.up (c+i) ()
 .rw[ET] at hi t2
  cases i with
  |zero =>
   rw[e0.1] at t1
   rw[e0.2]
   refine p.v (c-1) () t (qAm (h1 _ ()) t1) (fun z=>?_) trivial
   have:=t2 ()
   rw[FD.1] at this
   rw[show c-1+1=c+0 from ()]
   exact this
  |succ i =>
   rw[FD.1] at t1
   rw[FD.2]
   refine p.v (c+i) () t t1 (fun z=>?_) trivial
   have:=t2 ()
   rw[FD.1] at this
   exact this
def Hc (P:Ps)(far:Rat):Ps:=((List.range P.length).map fun k=>((if k+1<P.length then -bg P (k+1) else -far),((-(ln P k).1,(ln P k).2):Ln2))).reverse++[(0,((0,(ln P 0).2):Ln2))]
theorem FG {P:Ps}{far:Rat}:(Hc P far).length=P.length+1:=by unfold Hc;simp
theorem GF {P:Ps}{far:Rat}{i:Nat}(h:i<P.length):bg (Hc P far) i=(if 0<i then -bg P (P.length-i) else -far)/\ln (Hc P far) i=(-(ln P (P.length-1-i)).1,(ln P (P.length-1-i)).2):=by
 have e:(Hc P far:List (Rat×Ln2))[i]? = some ((if 0<i then -bg P (P.length-i) else -far),(-(ln P (P.length-1-i)).1,(ln P (P.length-1-i)).2)):=by
  unfold Hc
  rw[qAp (by simp;exact h),qBD (by simp;exact h)]
  rw[qAa,qAq,qAc,qAC ()]
  show some _=_
  congr 1
  refine Prod.ext ?_ rfl
  show(if P.length-1-i+1<P.length then _ else _)=_
  by_cases c:0<i
  .rw[if_pos c,if_pos (),show P.length-1-i+1=P.length-i from ()]
  .rw[if_neg c,if_neg ()]
 exact Gn e
theorem G9 {P:Ps}{far:Rat}:bg (Hc P far) P.length=0/\ln (Hc P far) P.length=(0,(ln P 0).2):=by
 have e:(Hc P far:List (Rat×Ln2))[P.length]? = some (0,(0,(ln P 0).2)):=by
  unfold Hc
  rw[qAu (by simp)]
  simp
 exact Gn e
theorem PU.turn {P:Ps}{g:Rat->Rat}{far:Rat}(p:PU P g none) (ne:0<P.length) (b0:bg P 0=0) (hf:bg P (P.length-1)<far):PU (Hc P far) (fun t=>g (if t<=0 then -t else 0)) none:=by
 have pos:∀i,i<P.length->0<=bg P i:=fun i=>by
  induction i with
  |zero=>intro _;rw[b0];exact qAd
  |succ i ih=>intro hi;have:=ih ();have:=p.up i hi;grind
 have neg:∀i,i<P.length->bg (Hc P far) i<0:=fun i hi=>by
  rw[(GF hi).1]
  by_cases c:0<i
  .rw[if_pos c]
   have h1:=p.up (P.length-i-1) ()
   rw[show P.length-i-1+1=P.length-i from ()] at h1
   have:=pos (P.length-i-1) ()
   grind
  .rw[if_neg c]
   have:=pos (P.length-1) ()
   grind
 refine#[fun i hi=>?_,fun i hi=>trivial,fun i hi t t1 t2 _=>?_]
 .rw[FG] at hi
  by_cases z:i+1<P.length
  .rw[(GF (show i<P.length from ())).1,(GF z).1,if_pos (show 0<i+1 from ())]
   by_cases c:0<i
   .rw[if_pos c]
    have:=p.up (P.length-(i+1)) ()
    rw[show P.length-(i+1)+1=P.length-i from ()] at this
    grind
   .rw[if_neg c,show P.length-(i+1)=P.length-1 from ()]
    grind
  .rw[show i+1=P.length from (),G9.1]
   exact neg i ()
 .rw[FG] at hi t2
  by_cases z:i<P.length
  .have t3:t<=0:=by
    have:=t2 ()
    by_cases y:i+1<P.length
    .have:=neg (i+1) y;grind
    .rw[show i+1=P.length from (),G9.1] at this;exact this
   show g (if t<=0 then -t else 0)=_
   rw[if_pos t3,(GF z).2]
   rw[p.v (P.length-1-i) () (-t) ?_ ?_ trivial]
   .unfold ev
    show _=-(ln P (P.length-1-i)).1*t+(ln P (P.length-1-i)).2
    grind
   .have:=t2 ()
    by_cases y:i+1<P.length
    .rw[(GF y).1,if_pos (),show P.length-(i+1)=P.length-1-i from ()] at this
     grind
    .rw[show P.length-1-i=0 from (),b0];grind
   .intro y
    rw[(GF z).1,if_pos ()] at t1
    rw[show P.length-1-i+1=P.length-i from ()]
    grind
  .have:i=P.length:=()
   subst this
   rw[G9.1] at t1
   rw[G9.2]
   have e:(if t<=0 then -t else 0)=0:=by split<;>grind
   show g (if t<=0 then -t else 0)=_
   rw[e]
   rw[p.v 0 ne 0 (by rw[b0];exact qAd) (fun y=>pos 1 y) trivial]
   unfold ev
   show _=0*t+(ln P 0).2
   grind
def Fp (Q:Ps):Cs:=Q.map fun p=>(p.1,ev p.2 p.1)
theorem A1 {Q:Ps}:(Fp Q).length=Q.length:=qAa _
theorem Bj {Q:Ps}{i:Nat}(h:i<Q.length):tt (Fp Q) i=bg Q i/\vv (Fp Q) i=ev (ln Q i) (bg Q i):=by
 have g:=qAb h
 have e:(Fp Q)[i]? = some (bg Q i,ev (ln Q i) (bg Q i)):=by
  unfold Fp
  rw[qAc,g,(Gn g).1,(Gn g).2]
  rfl
 unfold tt vv
 rw[qAg,e]
 exact#[rfl,rfl]
theorem F9 {Q:Ps}{H:Rat->Rat}(p:PU Q H none){i:Nat}(h:i<Q.length):slp (Fp Q) (ln Q (Q.length-1)).1 i=(ln Q i).1:=by
 by_cases c:i+1<Q.length
 .rw[B7 (by rw[A1];exact c),(Bj h).1,(Bj h).2,(Bj c).1,(Bj c).2]
  have u:=p.up i c
  have e1:=p.v i h (bg Q (i+1)) (qAk u) (fun _=>qAd) trivial
  have e2:=p.v (i+1) c (bg Q (i+1)) qAd (fun z=>qAk (p.up (i+1) z)) trivial
  rw[<-e2,e1]
  unfold ev
  have ne:bg Q (i+1)-bg Q i≠0:=⋯
  generalize bg Q (i+1)=y at *
  generalize bg Q i=x at *
  have k:((ln Q i).1*y+(ln Q i).2-((ln Q i).1*x+(ln Q i).2))=(ln Q i).1*(y-x):=⋯
  rw[k]
  have k2:(ln Q i).1*(y-x)/(y-x)*(y-x)=(ln Q i).1*(y-x):=qBb ne
  have k3:((ln Q i).1*(y-x)/(y-x)-(ln Q i).1)*(y-x)=0:=⋯
  rcases qBg.mp k3 with z|z
  .grind
  .exact absurd z ne
 .rw[Az (by rw[A1];exact c),show i=Q.length-1 from ()]
theorem Qp {Q:Ps}{H:Rat->Rat}(p:PU Q H none) (ne:0<Q.length) (b0:bg Q 0=0) (mono:∀x y,0<=x->x<=y->H x<=H y) (h0:0<=H 0):Ord (Fp Q)/\0<=(ln Q (Q.length-1)).1/\∀t,0<=t->val (Fp Q) (ln Q (Q.length-1)).1 t=H t:=by
 have at_:∀i,i<Q.length->H (bg Q i)=ev (ln Q i) (bg Q i):=fun i hi=>p.v i hi _ qAd (fun z=>qAk (p.up i z)) trivial
 have pos:∀i,i<Q.length->0<=bg Q i:=fun i=>by
  induction i with
  |zero=>intro _;rw[b0];exact qAd
  |succ i ih=>intro hi;have:=ih ();have:=p.up i hi;grind
 have o:Ord (Fp Q):=by
  refine#[by rw[A1];exact ne,by rw[(Bj ne).1];exact b0,by rw[(Bj ne).2,<-at_ 0 ne,b0];exact h0,fun i hi=>?_,fun i hi=>?_]
  .rw[A1] at hi
   rw[(Bj (show i<Q.length from ())).1,(Bj hi).1];exact p.up i hi
  .rw[A1] at hi
   rw[(Bj (show i<Q.length from ())).2,(Bj hi).2,<-at_ i (),<-at_ (i+1) hi]
   exact mono _ _ (pos i ()) (qAk (p.up i hi))
 refine#[o,?_,fun t t0=>?_]
 .have hl:Q.length-1<Q.length:=()
  have e1:=p.v (Q.length-1) hl (bg Q (Q.length-1)) qAd (fun z=>absurd z ()) trivial
  have e2:=p.v (Q.length-1) hl (bg Q (Q.length-1)+1) ⋯ (fun z=>absurd z ()) trivial
  have:=mono (bg Q (Q.length-1)) (bg Q (Q.length-1)+1) (pos _ hl) ⋯
  rw[e1,e2] at this
  unfold ev at this
  grind
 .have on:=D6 o t0
  rw[Bn (m:=(ln Q (Q.length-1)).1) o.up on]
  generalize plc (Fp Q) t (Fp Q).length=j at on
  have hj:j<Q.length:=by have:=on.lt;rw[A1] at this;exact this
  rw[F9 p hj,(Bj hj).1,(Bj hj).2]
  have lo:=on.lo
  rw[(Bj hj).1] at lo
  rw[p.v j hj t lo (fun z=>by have:=on.hi (by rw[A1];exact z);rw[(Bj z).1] at this;exact this) trivial]
  unfold ev
  grind
theorem Ji {α:Type}(key:α->Rat) (p:α->Prop):∀F:List α,(∃x∈F,p x)->∃y∈F,p y/\∀x∈F,p x->key x<=key y
 |[],#[_,h,_]=>by cases h
 |a::F,h=>by
  by_cases c:∃x∈F,p x
  .obtain⟨y,hy,py,my⟩:=Ji key p F c
   by_cases d:p a/\key y<key a
   .refine#[a,qAl.mpr (.inl rfl),d.1,fun x hx px=>?_]
    rcases qAl.mp hx with rfl|hx
    .exact qAd
    .have:=my x hx px
     have:=d.2
     grind
   .refine#[y,qAl.mpr (.inr hy),py,fun x hx px=>?_]
    rcases qAl.mp hx with rfl|hx
    .exact qAz.mp fun z=>d #[px,z]
    .exact my x hx px
  .obtain⟨x,hx,px⟩:=h
   rcases qAl.mp hx with rfl|hx
   .refine#[x,qAl.mpr (.inl rfl),px,fun z hz pz=>?_]
    rcases qAl.mp hz with rfl|hz
    .exact qAd
    .exact absurd #[z,hz,pz] c
   .exact absurd #[x,hx,px] c
section
variable {cs:Cs}{m:Rat}
theorem Eb (o:Ord cs){a:Rat}(a0:0<=a):plc cs a cs.length<cs.length/\tt cs (plc cs a cs.length)<=a/\(plc cs a cs.length+1<cs.length->a<tt cs (plc cs a cs.length+1)):=by
 have s:=DG (cs:=cs) (t:=a) (by rw[o.t0];exact a0) cs.length o.ne
 exact#[s.2.1,s.1,fun z=>s.2.2 _ (qBU _) z]
theorem LG (o:Ord cs){a b x:Rat}(a0:0<=a) (hk:∀k,k<cs.length->tt cs k<=a\/b<=tt cs k) (h1:a<=x) (h2:x<=b):val cs m x=val cs m a+sat cs m a*(x-a):=by
 obtain⟨jl,j1,j2⟩:=Eb o a0
 have ev:val cs m a=vv cs (plc cs a cs.length)+slp cs m (plc cs a cs.length)*(a-tt cs (plc cs a cs.length)):=rfl
 have es:sat cs m a=slp cs m (plc cs a cs.length):=rfl
 generalize plc cs a cs.length=j at *
 have on:On cs j x:=#[jl,qAm j1 h1,fun z=>by
  rcases hk (j+1) z with w|w
  .have:=j2 z;grind
  .exact qAm h2 w]
 rw[Bn o.up on,ev,es]
 grind
theorem QW (o:Ord cs){a x:Rat}(hk:∀k,k<cs.length->tt cs k<=a) (h1:a<=x):val cs m x=val cs m a+m*(x-a)/\sat cs m a=m:=by
 have n:=o.ne
 have l:=hk (cs.length-1) ()
 rw[Cq n (qAm l h1),Cq n l,MS n l]
 exact#[⋯,rfl]
theorem KP (o:Ord cs){a c:Rat}(a0:0<=a) (ac:a<c) (hk:∀k,k<cs.length->tt cs k<=a\/c<=tt cs k) (ne:sat cs m c≠sat cs m a):∃k,0<k/\k<cs.length/\tt cs k=c/\slp cs m k=sat cs m c/\slp cs m (k-1)=sat cs m a:=by
 obtain⟨jl,j1,j2⟩:=Eb o a0
 have es:sat cs m a=slp cs m (plc cs a cs.length):=rfl
 have ec:sat cs m c=slp cs m (plc cs c cs.length):=rfl
 generalize plc cs a cs.length=j at *
 by_cases z:j+1<cs.length/\tt cs (j+1)=c
 .obtain⟨z1,z2⟩:=z
  have e:plc cs c cs.length=j+1:=Hu o.up (by rw[z2];exact qAd) (fun w=>by rw[<-z2];exact o.up _ w) _ z1 (qAf _)
  exact#[j+1,(),z1,z2,by rw[ec,e],by rw[es];rfl]
 .have e:plc cs c cs.length=j:=Hu o.up (qAm j1 (qAk ac)) (fun w=>by
   rcases hk (j+1) w with y|y
   .have:=j2 w;grind
   .have:tt cs (j+1)≠c:=fun y=>z #[w,y]
    grind) _ jl (qAf _)
  rw[ec,es,e] at ne
  exact absurd rfl ne
end
def Zp (fc:Cs)(fm:Rat)(gc:Cs)(gm:Rat)(t u:Rat):Prop:=u=0\/(∃k,0<k/\k<gc.length/\tt gc k=u/\slp gc gm (k-1)<slp gc gm k)\/∃k,0<k/\k<fc.length/\tt fc k=t+u/\slp fc fm k<slp fc fm (k-1)
theorem RF {fc gc:Cs}{fm gm:Rat}(of:Ord fc) (og:Ord gc) (hm:fm<=gm){t:Rat}(t0:0<=t):∃u,0<=u/\Zp fc fm gc gm t u/\∀v,0<=v->val fc fm (t+v)-val gc gm v<=val fc fm (t+u)-val gc gm u:=by
 obtain⟨F,hF⟩:∃F:List Rat,F=(0:Rat)::((List.range gc.length).map (tt gc)++((List.range fc.length).map fun k=>tt fc k-t).filter fun x=>decide (0<=x)):=#[_,rfl]
 have f0:(0:Rat)∈F:=by rw[hF];exact qAl.mpr (.inl rfl)
 have fg:∀k,k<gc.length->tt gc k∈F:=fun k hk=>by
  rw[hF]
  exact qAl.mpr (.inr (qAr.mpr (.inl (qAM.mpr #[k,qAJ.mpr hk,rfl]))))
 have ff:∀k,k<fc.length->t<=tt fc k->tt fc k-t∈F:=fun k hk h=>by
  rw[hF]
  exact qAl.mpr (.inr (qAr.mpr (.inr (qA0.mpr #[qAM.mpr #[k,qAJ.mpr hk,rfl],decide_eq_true ⋯]))))
 have nn:∀x∈F,0<=x:=fun x hx=>by
  rw[hF] at hx
  rcases qAl.mp hx with rfl|hx
  .exact qAd
  .rcases qAr.mp hx with hx|hx
   .obtain⟨k,hk,rfl⟩:=qAM.mp hx
    have:=AK og.up (i:=0) (j:=k) () (qAJ.mp hk)
    rw[og.t0] at this
    exact this
   .exact of_decide_eq_true (qA0.mp hx).2
 clear hF
 obtain⟨w,hw⟩:∃w:Rat->Rat,w=fun u=>val fc fm (t+u)-val gc gm u:=#[_,rfl]
 have we:∀u,w u=val fc fm (t+u)-val gc gm u:=fun u=>by rw[hw]
 have amid:∀p n,p∈F->(∀x∈F,x<=p\/n<=x)->∀x,p<=x->x<=n->w x=w p+(sat fc fm (t+p)-sat gc gm p)*(x-p):=fun p n hp h x x1 x2=>by
  have p0:=nn p hp
  have e1:=LG (m:=fm) of (a:=t+p) (b:=t+n) (x:=t+x) ⋯ (fun k hk=>by
   by_cases c:t<=tt fc k
   .rcases h _ (ff k hk c) with y|y
    .left;grind
    .right;grind
   .left;grind) ⋯ ⋯
  have e2:=LG (m:=gm) og (a:=p) (b:=n) (x:=x) p0 (fun k hk=>h _ (fg k hk)) x1 x2
  rw[we,we,e1,e2]
  grind
 have behind:∀p,p∈F->(∀x∈F,x<=p)->∀x,p<=x->w x=w p+(fm-gm)*(x-p)/\sat fc fm (t+p)=fm/\sat gc gm p=gm:=fun p hp h x x1=>by
  have e1:=QW (m:=fm) of (a:=t+p) (x:=t+x) (fun k hk=>by
   by_cases c:t<=tt fc k
   .have:=h _ (ff k hk c);grind
   .have:=nn p hp;grind) ⋯
  have e2:=QW (m:=gm) og (a:=p) (x:=x) (fun k hk=>h _ (fg k hk)) x1
  refine#[?_,e1.2,e2.2]
  rw[we,we,e1.1,e2.1]
  grind
 obtain⟨y0,hy0,_,my0⟩:=Ji w (fun _=>True) F #[0,f0,trivial]
 obtain⟨y,hy,py,my⟩:=Ji (fun x=>-x) (fun x=>w x=w y0) F #[y0,hy0,rfl]
 have best:∀x∈F,w x<=w y:=fun x hx=>by rw[py];exact my0 x hx trivial
 have first:∀x∈F,x<y->w x<w y:=fun x hx lt=>by
  refine qA3.mp fun z=>?_
  have b:=best x hx
  have:=my x hx (by rw[<-py];grind)
  grind
 have next:∀v,(∀x∈F,x<=v)\/∃n∈F,v<n/\∀x∈F,x<=v\/n<=x:=fun v=>by
  by_cases c:∃x∈F,v<x
  .obtain⟨n,hn,pn,mn'⟩:=Ji (fun x=>-x) (fun x=>v<x) F c
   refine .inr #[n,hn,pn,fun x hx=>?_]
   by_cases d:v<x
   .right
    have:=mn' x hx d
    grind
   .left;grind
  .left
   intro x hx
   exact qAz.mp fun z=>c #[x,hx,z]
 refine#[y,nn y hy,?_,fun v v0=>?_]
 .by_cases c:y=0
  .exact .inl c
  right
  have y0':0<y:=by have:=nn y hy;grind
  obtain⟨p,hp,lp,mp'⟩:=Ji (fun x=>x) (fun x=>x<y) F #[0,f0,y0']
  have gapF:∀x∈F,x<=p\/y<=x:=fun x hx=>by
   by_cases d:x<y
   .left;exact mp' x hx d
   .right;grind
  have a:=amid p y hp gapF y (qAk lp) qAd
  have f1:=first p hp lp
  have s1:0<sat fc fm (t+p)-sat gc gm p:=by
   refine qA3.mp fun z=>?_
   have:0<=(-(sat fc fm (t+p)-sat gc gm p))*(y-p):=qAi ⋯ ⋯
   grind
  have s2:sat fc fm (t+y)-sat gc gm y<=0:=by
   rcases next y with h|⟨n,hn,ln,gn⟩
   .obtain⟨_,e1,e2⟩:=behind y hy h y qAd
    rw[e1,e2];grind
   .have a2:=amid y n hy gn n (qAk ln) qAd
    have b:=best n hn
    refine qAz.mp fun z=>?_
    have:=qBj z (show 0<n-y from ⋯)
    grind
  have p0:=nn p hp
  by_cases d:sat gc gm p<sat gc gm y
  .left
   obtain⟨k,k0,kl,e,e1,e2⟩:=KP (m:=gm) og p0 lp (fun k hk=>gapF _ (fg k hk)) ⋯
   exact#[k,k0,kl,e,by rw[e1,e2];exact d]
  .right
   obtain⟨k,k0,kl,e,e1,e2⟩:=KP (m:=fm) of (a:=t+p) (c:=t+y) ⋯ ⋯ (fun k hk=>by
    by_cases c:t<=tt fc k
    .rcases gapF _ (ff k hk c) with y|y
     .left;grind
     .right;grind
    .left;grind) ⋯
   exact#[k,k0,kl,e,by rw[e1,e2];grind]
 .rw[<-we,<-we]
  obtain⟨p,hp,lp,mp'⟩:=Ji (fun x=>x) (fun x=>x<=v) F #[0,f0,v0]
  rcases next v with h|⟨n,hn,ln,gn⟩
  .have e:=(behind p hp (fun x hx=>mp' x hx (h x hx)) v lp).1
   have b:=best p hp
   have:0<=(gm-fm)*(v-p):=qAi ⋯ ⋯
   grind
  .have g2:∀x∈F,x<=p\/n<=x:=fun x hx=>by
    rcases gn x hx with h|h
    .left;exact mp' x hx h
    .right;exact h
   have a1:=amid p n hp g2 v lp (qAk ln)
   have a2:=amid p n hp g2 n ⋯ qAd
   have b1:=best p hp
   have b2:=best n hn
   by_cases c:0<=sat fc fm (t+p)-sat gc gm p
   .have:0<=(sat fc fm (t+p)-sat gc gm p)*(n-v):=qAi c ⋯
    grind
   .have:0<=(-(sat fc fm (t+p)-sat gc gm p))*(v-p):=qAi ⋯ ⋯
    grind
def IsU (fc:Cs)(fm:Rat)(gc:Cs)(gm:Rat)(t v:Rat):Prop:=0<=v/\(v=0\/∃u,0<=u/\val fc fm (t+u)-val gc gm u=v)/\∀u,0<=u->val fc fm (t+u)-val gc gm u<=v
def Q8 (L:List (Rat->Rat))(h:Rat->Rat):Prop:=∀t,0<=t->h t<=0/\(∀c∈L,h t<=c t)/\(h t=0\/∃c∈L,h t=c t)
theorem Q8.nil:Q8 [] (fun _=>0):=fun t _=>#[qAd,(fun c hc=>nomatch hc),Or.inl rfl]
theorem Q8.add {L:List (Rat->Rat)}{h c:Rat->Rat}(a:Q8 L h):Q8 (L++[c]) (LH 0 h c):=fun t t0=>by
 obtain⟨a1,a2,a3⟩:=a t t0
 have e:LH 0 h c t=mp (h t) (c t):=by unfold LH;rw[if_neg ⋯]
 rw[e]
 by_cases z:h t<=c t
 .rw[Xh z]
  refine#[a1,fun d hd=>?_,?_]
  .rcases qAr.mp hd with hd|hd
   .exact a2 d hd
   .rw[qAI.mp hd];exact z
  .rcases a3 with y|⟨d,hd,y⟩
   .exact .inl y
   .exact .inr #[d,qAr.mpr (.inl hd),y]
 .rw[XQ ⋯]
  refine#[⋯,fun d hd=>?_,.inr #[c,qAr.mpr (.inr (qAI.mpr rfl)),rfl]]
  rcases qAr.mp hd with hd|hd
  .have:=a2 d hd;grind
  .rw[qAI.mp hd];exact qAd
def cA (fc:Cs)(fm:Rat)(gc:Cs)(k:Nat)(t:Rat):Rat:=-val fc fm (t-(0-tt gc k))+vv gc k
def cB (fc:Cs)(gc:Cs)(gm:Rat)(k:Nat)(t:Rat):Rat:=val gc gm (if t-tt fc k<=0 then -(t-tt fc k) else 0)+(0-vv fc k)
def stI (cs:Cs)(m:Rat):List Nat:=((List.range (cs.length-1)).filter fun n=>decide (slp cs m n<slp cs m (n+1))).map (· + 1)
def flI (cs:Cs)(m:Rat):List Nat:=((List.range (cs.length-1)).filter fun n=>decide (slp cs m (n+1)<slp cs m n)).map (· + 1)
theorem FX {cs:Cs}{m:Rat}{k:Nat}:k∈stI cs m ↔ k<cs.length/\0<k/\slp cs m (k-1)<slp cs m k:=by
 unfold stI
 rw[qAM]
 constructor
 .rintro⟨n,hn,rfl⟩
  have h:=qA0.mp hn
  have h1:=qAJ.mp h.1
  exact#[(),(),of_decide_eq_true h.2]
 .rintro⟨h1,h2,h3⟩
  refine#[k-1,qA0.mpr #[qAJ.mpr (),?_],()]
  rw[show k-1+1=k from ()]
  exact decide_eq_true h3
theorem Kq {cs:Cs}{m:Rat}{k:Nat}:k∈flI cs m ↔ k<cs.length/\0<k/\slp cs m k<slp cs m (k-1):=by
 unfold flI
 rw[qAM]
 constructor
 .rintro⟨n,hn,rfl⟩
  have h:=qA0.mp hn
  have h1:=qAJ.mp h.1
  exact#[(),(),of_decide_eq_true h.2]
 .rintro⟨h1,h2,h3⟩
  refine#[k-1,qA0.mpr #[qAJ.mpr (),?_],()]
  rw[show k-1+1=k from ()]
  exact decide_eq_true h3
theorem Mm {α:Type}{p:Nat->Bool}{f:Nat->α}:∀l:List Nat,(l.map fun n=>if p n=true then some (f (n+1)) else none).filterMap id=((l.filter p).map (· + 1)).map f
 |[]=>rfl
 |a::l=>by
  have ih:=Mm (p:=p) (f:=f) l
  rw[qCb,qBm]
  by_cases c:p a=true
  .rw[if_pos c,if_pos c,qCb,qCb,<-ih]
   rfl
  .rw[if_neg c,if_neg c,<-ih]
   rfl
def Xa (fc:Cs)(fm:Rat)(gc:Cs)(gm:Rat):List (Rat->Rat):=(0::stI gc gm).map (cA fc fm gc)++(flI fc fm).map (cB fc gc gm)
section
variable {fc gc:Cs}{fm gm:Rat}
theorem Bo {cs:Cs}(o:Ord cs){k:Nat}(h:k<cs.length):0<=tt cs k:=by
 have:=AK o.up (i:=0) (j:=k) () h
 rw[o.t0] at this
 exact this
theorem Ut (og:Ord gc){k:Nat}(h:k<gc.length) (t:Rat):cA fc fm gc k t=val gc gm (tt gc k)-val fc fm (t+tt gc k):=by
 unfold cA
 rw[A7 og h,show t-(0-tt gc k)=t+tt gc k from ⋯]
 grind
theorem VI (of:Ord fc){k:Nat}(h:k<fc.length){t:Rat}(ht:t<=tt fc k):cB fc gc gm k t=val gc gm (tt fc k-t)-val fc fm (t+(tt fc k-t)):=by
 unfold cB
 rw[if_pos ⋯,show t+(tt fc k-t)=tt fc k from ⋯,A7 of h,show -(t-tt fc k)=tt fc k-t from ⋯]
 grind
theorem VY (of:Ord fc)(t:Rat){k:Nat}(ht:¬t<=tt fc k):cB fc gc gm k t=val gc gm 0-vv fc k:=by
 unfold cB
 rw[if_neg ⋯]
 grind
theorem Vm (rf:Cg fc fm)(rg:Cg gc gm)(hm:fm<=gm){h:Rat->Rat}(a:Q8 (Xa fc fm gc gm) h){t:Rat}(t0:0<=t):IsU fc fm gc gm t (-h t):=by
 obtain⟨a1,a2,a3⟩:=a t t0
 have inA:∀k,k=0\/k∈stI gc gm->cA fc fm gc k∈Xa fc fm gc gm:=fun k hk=>qAr.mpr (.inl (qAM.mpr #[k,qAl.mpr hk,rfl]))
 have inB:∀k,k∈flI fc fm->cB fc gc gm k∈Xa fc fm gc gm:=fun k hk=>qAr.mpr (.inr (qAM.mpr #[k,hk,rfl]))
 have g0:=rg.o.ne
 have z0:cA fc fm gc 0 t=val gc gm 0-val fc fm (t+0):=by rw[Ut (gm:=gm) rg.o g0,rg.o.t0]
 have b0:=a2 _ (inA 0 (.inl rfl))
 rw[z0] at b0
 refine#[⋯,?_,fun u u0=>?_]
 .rcases a3 with e|⟨c,hc,e⟩
  .left;grind
  right
  rcases qAr.mp hc with hc|hc
  .obtain⟨k,hk,rfl⟩:=qAM.mp hc
   have kl:k<gc.length:=by
    rcases qAl.mp hk with rfl|hk
    .exact g0
    .exact(FX.mp hk).1
   refine#[tt gc k,Bo rg.o kl,?_]
   rw[e,Ut (gm:=gm) rg.o kl]
   grind
  .obtain⟨k,hk,rfl⟩:=qAM.mp hc
   have kl:=(Kq.mp hk).1
   by_cases z:t<=tt fc k
   .refine#[tt fc k-t,⋯,?_]
    rw[e,VI (fm:=fm) rf.o kl z]
    grind
   .refine#[0,qAd,?_]
    rw[VY rf.o t z] at e
    have:vv fc k<=val fc fm (t+0):=by
     rw[show t+0=t from ⋯]
     exact OO rf kl ⋯
    grind
 .obtain⟨w,w0,cw,best⟩:=RF rf.o rg.o hm t0
  refine qAm (best u u0) ?_
  rcases cw with rfl|⟨k,k0,kl,e,s⟩|⟨k,k0,kl,e,s⟩
  .grind
  .have:=a2 _ (inA k (.inr (FX.mpr #[kl,k0,s])))
   rw[Ut (gm:=gm) rg.o kl,e] at this
   grind
  .have:=a2 _ (inB k (Kq.mpr #[kl,k0,s]))
   rw[VI (fm:=fm) rf.o kl ⋯,e,show t+w-t=w from ⋯] at this
   grind
theorem Sn (rf:Cg fc fm){x y v w:Rat}(x0:0<=x) (xy:x<=y) (a:IsU fc fm gc gm x v) (b:IsU fc fm gc gm y w):v<=w:=by
 obtain⟨a0,a1,a2⟩:=a
 obtain⟨b0,b1,b2⟩:=b
 rcases a1 with e|⟨u,u0,e⟩
 .grind
 .have h1:=b2 u u0
  have h2:val fc fm (x+u)<=val fc fm (y+u):=AQ rf ⋯ ⋯
  grind
theorem Rb (rf:Cg fc fm)(rg:Cg gc gm)(hm:fm<=gm){C:Cs}{M:Rat}(o:Ord C) (a:∀t,0<=t->IsU fc fm gc gm t (val C M t)):M=fm:=by
 have fn:=rf.o.ne
 have cn:=o.ne
 have gn:=rg.o.ne
 have f0:=Bo rf.o (show fc.length-1<fc.length from ())
 have c0:=Bo o (show C.length-1<C.length from ())
 have g0:=Bo rg.o (show gc.length-1<gc.length from ())
 generalize eA:tt fc (fc.length-1)+tt C (C.length-1)=A
 have A0:0<=A:=⋯
 have vC:∀x,A<=x->val C M x=val C M A+M*(x-A):=fun x hx=>by
  rw[Cq cn ⋯,Cq cn (show tt C (C.length-1)<=A from ⋯)]
  grind
 have vF:∀x,A<=x->val fc fm x=val fc fm A+fm*(x-A):=fun x hx=>by
  rw[Cq fn ⋯,Cq fn (show tt fc (fc.length-1)<=A from ⋯)]
  grind
 have low:fm<=M:=by
  refine IS (f0:=val fc fm A-val gc gm 0) (g0:=val C M A) (a:=A) fun x hx=>?_
  rw[<-vC x hx]
  have:=(a x ⋯).2.2 0 qAd
  rw[show x+0=x from ⋯,vF x hx] at this
  grind
 have gb:∀u,0<=u->fm*u-val gc gm u<=fm*tt gc (gc.length-1):=fun u u0=>by
  have m0:=rf.m0
  by_cases c:u<=tt gc (gc.length-1)
  .have h1:0<=val gc gm u:=by
    have:=AQ rg qAd u0
    rw[BZ rg.o] at this
    exact qAm rg.o.v0 this
   have h2:0<=fm*(tt gc (gc.length-1)-u):=qAi m0 ⋯
   grind
  .have e:=Cq (M:=gm) gn (show tt gc (gc.length-1)<=u from ⋯)
   have h1:0<=vv gc (gc.length-1):=by
    have:=AQ rg qAd g0
    rw[BZ rg.o,A7 rg.o ()] at this
    exact qAm rg.o.v0 this
   have h2:0<=(gm-fm)*(u-tt gc (gc.length-1)):=qAi ⋯ ⋯
   grind
 have up:M<=fm:=by
  have fA:0<=val fc fm A:=by
   have:=AQ rf qAd A0
   rw[BZ rf.o] at this
   exact qAm rf.o.v0 this
  refine IS (f0:=val C M A) (g0:=val fc fm A+fm*tt gc (gc.length-1)) (a:=A) fun x hx=>?_
  rw[<-vC x hx]
  have m0:=rf.m0
  have k1:0<=fm*tt gc (gc.length-1):=qAi m0 g0
  have k2:0<=fm*(x-A):=qAi m0 ⋯
  rcases(a x ⋯).2.1 with e|⟨u,u0,e⟩
  .rw[e];grind
  .rw[<-e,vF (x+u) ⋯]
   have:=gb u u0
   grind
 grind
end
def Nc (m b:Rat):RL:=(m.num*(b.den:Int),b.num*(m.den:Int),(m.den:Int)*(b.den:Int))
def qr (q:Rat):Int×Int:=(q.num,(q.den:Int))
def BC (cs:Cs)(m:Rat):List RP:=(List.range cs.length).map fun k=>(qr (tt cs k),Nc (slp cs m k) (vv cs k-slp cs m k*tt cs k))
theorem Be {cs:Cs}{m:Rat}:(BC cs m).length=cs.length:=by unfold BC;simp
theorem EI {cs:Cs}{m:Rat}{k:Nat}(h:k<cs.length):(BC cs m)[k]? = some (qr (tt cs k),Nc (slp cs m k) (vv cs k-slp cs m k*tt cs k)):=by
 unfold BC
 rw[qAc,qAC h]
 rfl
theorem Ri {cs:Cs}{m:Rat}{k:Nat}(h:k<cs.length):(Ck cs m)[k]? = some (tt cs k,(slp cs m k,vv cs k-slp cs m k*tt cs k)):=by
 unfold Ck
 rw[qAc,qAC h]
 rfl
theorem Ep {a b c:Nat}{cs:Cs}{m:Rat}(o:Ord cs) (z:LS a b c cs m):PL (b+c) a (BC cs m) (Ck cs m):=by
 have l:=z.ln o
 refine#[by rw[Be,AA],fun i p q h1 h2=>?_]
 have hi:i<cs.length:=by have:=(qAe.mp h1).1;rw[Be] at this;exact this
 rw[EI hi] at h1
 rw[Ri hi] at h2
 cases h1
 cases h2
 exact#[Wq.of (z.tm i hi),PR (l i hi).1 (l i hi).2]
def frR (ps:List RP)(c:Nat):List RP:=((0,1),(ps.getD (c-1) ((0,1),(0,0,1))).2)::ps.drop c
theorem WX {k m:Nat}{ps:List RP}{P:Ps}(h:PL k m ps P){c:Nat}(c0:0<c) (cl:c<=P.length) (hm:1<=m):PL k m (frR ps c) (frN P c):=by
 have len:=h.len
 refine#[by rw[ET];unfold frR;rw[qAW,qAL,len],fun i p q h1 h2=>?_]
 cases i with
 |zero =>
  cases h1
  cases h2
  have hg:ps[c-1]? = some (ps.getD (c-1) ((0,1),(0,0,1))):=by
   rw[qAg,qAb (show c-1<ps.length from ())]
   rfl
  exact#[(show Wq 1 0 1 0 from Wq.of Sz.zero).mono hm,(h.lnw hg).1]
 |succ i =>
  have g1:(ps.drop c)[i]? = some p:=h1
  have g2:(P.drop c)[i]? = some q:=h2
  rw[qBa] at g1 g2
  exact h.at_ _ p q g1 g2
def trR (cs:Cs)(m far:Rat):List RP:=((List.range cs.length).map fun k=>((qr (if k+1<cs.length then 0-tt cs (k+1) else 0-far),(-(Nc (slp cs m k) (vv cs k-slp cs m k*tt cs k)).1,(Nc (slp cs m k) (vv cs k-slp cs m k*tt cs k)).2)):RP)).reverse++[((0,1),(0,(Nc (slp cs m 0) (vv cs 0-slp cs m 0*tt cs 0)).2))]
theorem V3 {a b c:Nat}{cs:Cs}{m far:Rat}(o:Ord cs) (z:LS a b c cs m){n:Nat}(hf:Sz n far) (ha:a+2<=n):PL (b+c) (n+2) (trR cs m far) (Hc (Ck cs m) far):=by
 have l:=z.ln o
 have lw:∀k,k<cs.length->LW (b+c) (Nc (slp cs m k) (vv cs k-slp cs m k*tt cs k)) (slp cs m k,vv cs k-slp cs m k*tt cs k):=fun k hk=>PR (l k hk).1 (l k hk).2
 have n0:=o.ne
 refine#[by rw[FG,AA];unfold trR;simp,fun i p q h1 h2=>?_]
 have hlen:(trR cs m far).length=cs.length+1:=by unfold trR;simp
 have hi:i<cs.length+1:=by have:=(qAe.mp h1).1;rw[hlen] at this;exact this
 by_cases c1:i<cs.length
 .unfold trR at h1
  rw[qAp (by simp;exact c1),qBD (by simp;exact c1),qAa,qAq,qAc,qAC ()] at h1
  cases h1
  obtain⟨e1,e2⟩:=Gn h2
  have ta:=GF (P:=Ck cs m) (far:=far) (i:=i) (by rw[AA];exact c1)
  rw[AA] at ta
  rw[ta.1] at e1
  rw[ta.2,(AW (show cs.length-1-i<cs.length from ())).2] at e2
  have hk:=lw (cs.length-1-i) ()
  refine#[?_,?_]
  .rw[<-e1]
   dsimp only
   by_cases z0:0<i
   .rw[if_pos (show cs.length-1-i+1<cs.length from ()),if_pos z0,(AW (show cs.length-i<cs.length from ())).1,show cs.length-1-i+1=cs.length-i from (),show(0:Rat)-tt cs (cs.length-i)=-tt cs (cs.length-i) from ⋯]
    have s0:=(Sz.zero.sub (z.tm (cs.length-i) ()))
    rw[show(0:Rat)-tt cs (cs.length-i)=-tt cs (cs.length-i) from ⋯] at s0
    exact(Wq.of s0).mono ()
   .rw[if_neg (show ¬cs.length-1-i+1<cs.length from ()),if_neg z0,show(0:Rat)-far=-far from ⋯]
    have s0:=Sz.zero.sub hf
    rw[show(0:Rat)-far=-far from ⋯] at s0
    exact(Wq.of s0).mono ()
  .rw[<-e2]
   exact#[hk.s.neg,hk.c]
 .have:i=cs.length:=()
  subst this
  unfold trR at h1
  rw[qAu (by simp)] at h1
  simp at h1
  subst h1
  obtain⟨e1,e2⟩:=Gn h2
  have te:=G9 (P:=Ck cs m) (far:=far)
  rw[AA] at te
  rw[te.1] at e1
  rw[te.2,(AW n0).2] at e2
  have hk:=lw 0 n0
  refine#[?_,?_]
  .rw[<-e1];exact(show Wq 1 0 1 0 from Wq.of Sz.zero).mono ()
  .rw[<-e2]
   exact#[#[hk.c.pos,by rw[show((0:Int):Rat)=0 from rfl];grind,by show(0:Int).natAbs<_;exact Nat.two_pow_pos _,hk.c.lb],hk.c]
abbrev R4:=(Int×Int)×Nat×Nat
def tmF (rw:List R4)(n:Nat):Int×Int:=(rw.getD n ((0,1),0,0)).1
def iF' (rw:List R4)(n:Nat):Nat:=(rw.getD n ((0,1),0,0)).2.1
def jF (rw:List R4)(n:Nat):Nat:=(rw.getD n ((0,1),0,0)).2.2
def aF (rw:List R4)(n:Nat):Rat:=Rat.divInt (tmF rw n).1 (tmF rw n).2
theorem Y3 {rw:List R4}{r:R4}{n:Nat}(h:n<rw.length):tmF (rw++[r]) n=tmF rw n/\iF' (rw++[r]) n=iF' rw n/\jF (rw++[r]) n=jF rw n/\aF (rw++[r]) n=aF rw n:=by
 have e:(rw++[r]).getD n ((0,1),0,0)=rw.getD n ((0,1),0,0):=by
  rw[qAg,qAg,qAp h]
 unfold aF tmF iF' jF
 rw[e]
 exact#[rfl,rfl,rfl,rfl]
theorem Yu {rw:List R4}{r:R4}:tmF (rw++[r]) rw.length=r.1/\iF' (rw++[r]) rw.length=r.2.1/\jF (rw++[r]) rw.length=r.2.2/\aF (rw++[r]) rw.length=Rat.divInt r.1.1 r.1.2:=by
 have e:(rw++[r]).getD rw.length ((0,1),0,0)=r:=by
  rw[qAg,qAu (qAf _),qCl]
  rfl
 unfold aF tmF iF' jF
 rw[e]
 exact#[rfl,rfl,rfl,rfl]
theorem UU {rw:List R4}{n:Nat}(h:n<rw.length):rw[n]? = some (tmF rw n,iF' rw n,jF rw n):=by
 unfold tmF iF' jF
 rw[qAg,qAb h]
 rfl
def dfR:RP:=((0,1),(0,0,1))
def Uj (ps os:List RP)(r:R4):D:=.tup [.tup [.int r.1.1,.int r.1.2],lnD (ps.getD r.2.1 dfR).2,lnD (os.getD r.2.2 dfR).2]
theorem L6 {k:Nat}{a b:Int}{x:Rat}(h:Wq k a b x):Rat.divInt a b=x:=by
 have hb:(b:Rat)≠0:=by have:=qAY.mpr h.pos;grind
 rw[qAG,h.eq]
 have k2:x*(b:Rat)/(b:Rat)*(b:Rat)=x*(b:Rat):=qBb hb
 have k3:(x*(b:Rat)/(b:Rat)-x)*(b:Rat)=0:=⋯
 rcases qBg.mp k3 with z|z
 .grind
 .exact absurd z hb
structure Qa (P O:Ps)(m:Nat)(rw:List R4):Prop where
 n0:0<rw.length
 w:∀n,n<rw.length->Wq m (tmF rw n).1 (tmF rw n).2 (aF rw n)
 a0:aF rw 0=bg O 0
 j0:jF rw 0=0
 iP:∀n,n<rw.length->iF' rw n<P.length
 jO:∀n,n<rw.length->jF rw n<O.length
 bi:∀n,n<rw.length->bg P (iF' rw n)<=aF rw n
 bj:∀n,n<rw.length->bg O (jF rw n)<=aF rw n
 up:∀n,n+1<rw.length->aF rw n<aF rw (n+1)
 ei:∀n,n+1<rw.length->iF' rw n+1<P.length->aF rw (n+1)<=bg P (iF' rw n+1)
 ej:∀n,n+1<rw.length->jF rw n+1<O.length->aF rw (n+1)<=bg O (jF rw n+1)
 li:iF' rw (rw.length-1)+1<P.length->aF rw (rw.length-1)<bg P (iF' rw (rw.length-1)+1)
 lj:jF rw (rw.length-1)+1<O.length->aF rw (rw.length-1)<bg O (jF rw (rw.length-1)+1)
 si:∀n,n+1<rw.length->iF' rw (n+1)=iF' rw n\/(iF' rw (n+1)=iF' rw n+1/\aF rw (n+1)=bg P (iF' rw n+1))
 sj:∀n,n+1<rw.length->jF rw (n+1)=jF rw n\/(jF rw (n+1)=jF rw n+1/\aF rw (n+1)=bg O (jF rw n+1))
 mv:∀n,n+1<rw.length->iF' rw (n+1)=iF' rw n->jF rw (n+1)≠jF rw n
 cnt:rw.length+iF' rw 0<=iF' rw (rw.length-1)+jF rw (rw.length-1)+1+iF' rw 0
theorem Qa.all {P O:Ps}{m:Nat}{rw:List R4}(s:Qa P O m rw) (h1:¬iF' rw (rw.length-1)+1<P.length) (h2:¬jF rw (rw.length-1)+1<O.length):Sbs P O rw.length (aF rw) (iF' rw) (jF rw):=by
 refine#[s.n0,s.a0,s.j0,s.iP,s.jO,s.bi,s.bj,s.up,fun n hn z=>?_,fun n hn z=>?_,s.si,s.sj,s.mv]
 .by_cases c:n+1<rw.length
  .exact#[c,s.ei n c z]
  .rw[show n=rw.length-1 from ()] at z;exact absurd z h1
 .by_cases c:n+1<rw.length
  .exact#[c,s.ej n c z]
  .rw[show n=rw.length-1 from ()] at z;exact absurd z h2
theorem Qa.one {P O:Ps}{m:Nat}{tm:Int×Int}{i:Nat}(w:Wq m tm.1 tm.2 (bg O 0)) (hi:i<P.length) (ho:0<O.length) (b:bg P i<=bg O 0) (l:i+1<P.length->bg O 0<bg P (i+1)) (u:1<O.length->bg O 0<bg O 1):Qa P O m [(tm,i,0)]:=by
 have e:=L6 w
 have ea:aF [(tm,i,0)] 0=bg O 0:=e
 have z:∀n,n < [(tm,i,(0:Nat))].length->n=0:=fun n hn=>by have:n<1:=hn;omega
 have nn:∀n,¬n+1 < [(tm,i,(0:Nat))].length:=fun n hn=>by have:n+1<1:=hn;omega
 refine#[by simp,fun n hn=>?_,ea,rfl,fun n hn=>?_,fun n hn=>?_,fun n hn=>?_,fun n hn=>?_,fun n hn=>absurd hn (nn n),fun n hn=>absurd hn (nn n),fun n hn=>absurd hn (nn n),fun h=>?_,fun h=>?_,fun n hn=>absurd hn (nn n),fun n hn=>absurd hn (nn n),fun n hn=>absurd hn (nn n),?_]
 .rw[z n hn,ea];exact w
 .rw[z n hn];exact hi
 .rw[z n hn];exact ho
 .rw[z n hn,ea];exact b
 .rw[z n hn,ea];exact qAd
 .show aF [(tm,i,0)] 0<_
  rw[ea];exact l h
 .show aF [(tm,i,0)] 0<_
  rw[ea];exact u h
 .show 1+i<=i+0+1+i
  omega
theorem Qa.step {P O:Ps}{m:Nat}{rw:List R4}(s:Qa P O m rw) (uP:∀i,i+1<P.length->bg P i<bg P (i+1)) (uO:∀i,i+1<O.length->bg O i<bg O (i+1)){tm:Int×Int}{x:Rat}{i' j':Nat}(w:Wq m tm.1 tm.2 x)
 (x1:iF' rw (rw.length-1)+1<P.length->x<=bg P (iF' rw (rw.length-1)+1)) (x2:jF rw (rw.length-1)+1<O.length->x<=bg O (jF rw (rw.length-1)+1))
 (x3:(iF' rw (rw.length-1)+1<P.length/\x=bg P (iF' rw (rw.length-1)+1))\/(jF rw (rw.length-1)+1<O.length/\x=bg O (jF rw (rw.length-1)+1)))
 (ei':i'=if iF' rw (rw.length-1)+1<P.length/\¬x<bg P (iF' rw (rw.length-1)+1) then iF' rw (rw.length-1)+1 else iF' rw (rw.length-1))
 (ej':j'=if jF rw (rw.length-1)+1<O.length/\¬x<bg O (jF rw (rw.length-1)+1) then jF rw (rw.length-1)+1 else jF rw (rw.length-1)):Qa P O m (rw++[(tm,i',j')]):=by
 have ln:(rw++[(tm,i',j')]).length=rw.length+1:=by simp
 have n0:=s.n0
 have ex:=L6 w
 have L:=fun n (hn:n<rw.length)=>Y3 (rw:=rw) (r:=(tm,i',j')) hn
 have Rr:=Yu (rw:=rw) (r:=(tm,i',j'))
 have rA:aF (rw++[(tm,i',j')]) rw.length=x:=by rw[Rr.2.2.2];exact ex
 have rI:iF' (rw++[(tm,i',j')]) rw.length=i':=Rr.2.1
 have rJ:jF (rw++[(tm,i',j')]) rw.length=j':=Rr.2.2.1
 have rT:tmF (rw++[(tm,i',j')]) rw.length=tm:=Rr.1
 have hL:rw.length-1<rw.length:=()
 have a1:=s.iP _ hL
 have a2:=s.jO _ hL
 have a3:=s.bi _ hL
 have a4:=s.bj _ hL
 have a5:=s.li
 have a6:=s.lj
 have cn:=s.cnt
 generalize eI:iF' rw (rw.length-1)=I0 at *
 generalize eJ:jF rw (rw.length-1)=J0 at *
 generalize eA:aF rw (rw.length-1)=A0 at *
 have lt:A0<x:=by
  rcases x3 with⟨h,e⟩|⟨h,e⟩
  .rw[e];exact a5 h
  .rw[e];exact a6 h
 have hi:(i'=I0/\(I0+1<P.length->x<bg P (I0+1)))\/(i'=I0+1/\I0+1<P.length/\x=bg P (I0+1)):=by
  by_cases c:I0+1<P.length/\¬x<bg P (I0+1)
  .rw[if_pos c] at ei'
   have:=x1 c.1
   exact .inr #[ei',c.1,⋯]
  .rw[if_neg c] at ei'
   exact .inl #[ei',fun h=>Decidable.byContradiction fun z=>c #[h,z]]
 have hj:(j'=J0/\(J0+1<O.length->x<bg O (J0+1)))\/(j'=J0+1/\J0+1<O.length/\x=bg O (J0+1)):=by
  by_cases c:J0+1<O.length/\¬x<bg O (J0+1)
  .rw[if_pos c] at ej'
   have:=x2 c.1
   exact .inr #[ej',c.1,⋯]
  .rw[if_neg c] at ej'
   exact .inl #[ej',fun h=>Decidable.byContradiction fun z=>c #[h,z]]
 have one:¬(i'=I0/\j'=J0):=fun z=>by
  rcases x3 with⟨h,e⟩|⟨h,e⟩
  .rcases hi with y|y
   .have:=y.2 h;grind
   .omega
  .rcases hj with y|y
   .have:=y.2 h;grind
   .omega
 have old:∀{q:Nat->Prop},(∀n,n<rw.length->q n)->q rw.length->∀n,n<(rw++[(tm,i',j')]).length->q n:=fun {q} h1 h2 n hn=>by
  rw[ln] at hn
  by_cases c:n<rw.length
  .exact h1 n c
  .rw[show n=rw.length from ()];exact h2
 have old2:∀{q:Nat->Prop},(∀n,n+1<rw.length->q n)->q (rw.length-1)->∀n,n+1<(rw++[(tm,i',j')]).length->q n:=fun {q} h1 h2 n hn=>by
  rw[ln] at hn
  by_cases c:n+1<rw.length
  .exact h1 n c
  .rw[show n=rw.length-1 from ()];exact h2
 have pre:rw.length-1+1=rw.length:=()
 have lI:iF' (rw++[(tm,i',j')]) (rw.length-1)=I0:=by rw[(L _ hL).2.1];exact eI
 have lJ:jF (rw++[(tm,i',j')]) (rw.length-1)=J0:=by rw[(L _ hL).2.2.1];exact eJ
 have lA:aF (rw++[(tm,i',j')]) (rw.length-1)=A0:=by rw[(L _ hL).2.2.2];exact eA
 have nl:(rw++[(tm,i',j')]).length-1=rw.length:=by rw[ln];omega
 refine#[(),old (fun n hn=>?_) ?_,?_,?_,old (fun n hn=>?_) ?_,old (fun n hn=>?_) ?_,old (fun n hn=>?_) ?_,old (fun n hn=>?_) ?_,old2 (fun n hn=>?_) ?_,old2 (fun n hn=>?_) ?_,old2 (fun n hn=>?_) ?_,?_,?_,old2 (fun n hn=>?_) ?_,old2 (fun n hn=>?_) ?_,old2 (fun n hn=>?_) ?_,?_]
 .rw[(L n hn).1,(L n hn).2.2.2];exact s.w n hn
 .rw[rT,rA];exact w
 .rw[(L 0 n0).2.2.2];exact s.a0
 .rw[(L 0 n0).2.2.1];exact s.j0
 .rw[(L n hn).2.1];exact s.iP n hn
 .rw[rI];rcases hi with y|y<;>omega
 .rw[(L n hn).2.2.1];exact s.jO n hn
 .rw[rJ];rcases hj with y|y<;>omega
 .rw[(L n hn).2.1,(L n hn).2.2.2];exact s.bi n hn
 .rw[rI,rA]
  rcases hi with y|y
  .rw[y.1];grind
  .rw[y.1,y.2.2];exact qAd
 .rw[(L n hn).2.2.1,(L n hn).2.2.2];exact s.bj n hn
 .rw[rJ,rA]
  rcases hj with y|y
  .rw[y.1];grind
  .rw[y.1,y.2.2];exact qAd
 .rw[(L n ()).2.2.2,(L (n+1) hn).2.2.2];exact s.up n hn
 .rw[pre,lA,rA];exact lt
 .rw[(L n ()).2.1,(L (n+1) hn).2.2.2];exact s.ei n hn
 .rw[pre,lI,rA];exact x1
 .rw[(L n ()).2.2.1,(L (n+1) hn).2.2.2];exact s.ej n hn
 .rw[pre,lJ,rA];exact x2
 .rw[nl,rI,rA]
  intro h
  rcases hi with y|y
  .rw[y.1] at h ⊢;exact y.2 h
  .rw[y.1] at h ⊢;rw[y.2.2];exact uP _ h
 .rw[nl,rJ,rA]
  intro h
  rcases hj with y|y
  .rw[y.1] at h ⊢;exact y.2 h
  .rw[y.1] at h ⊢;rw[y.2.2];exact uO _ h
 .rw[(L n ()).2.1,(L (n+1) hn).2.1,(L (n+1) hn).2.2.2];exact s.si n hn
 .rw[pre,lI,rI,rA]
  rcases hi with y|y
  .exact .inl y.1
  .exact .inr #[y.1,y.2.2]
 .rw[(L n ()).2.2.1,(L (n+1) hn).2.2.1,(L (n+1) hn).2.2.2];exact s.sj n hn
 .rw[pre,lJ,rJ,rA]
  rcases hj with y|y
  .exact .inl y.1
  .exact .inr #[y.1,y.2.2]
 .rw[(L n ()).2.1,(L (n+1) hn).2.1,(L n ()).2.2.1,(L (n+1) hn).2.2.1];exact s.mv n hn
 .rw[pre,lI,lJ,rI,rJ]
  exact fun z y=>one #[z,y]
 .rw[nl,rI,rJ,ln]
  rcases hi with y|y<;>rcases hj with z|z<;>omega
theorem J1 {α:Type}{f:α->D}{xs:List α}{j:Nat}{a b:Int}(e1:a=(j:Int)+1) (e2:b=(j:Int)+2):Eh (xs.map f) (some a) (some b)=((xs.drop (j+1)).take 1).map f:=by
 have e1:a=((j+1:Nat):Int):=()
 have e2:b=((j+2:Nat):Int):=()
 subst e1 e2
 unfold Eh
 rw[HT.sIx_nat,HT.sIx_nat,qAa]
 by_cases c:j+1<xs.length
 .rw[qBO (),qBO (),<-qBY,<-qCV,show j+2-(j+1)=1 from ()]
 .rw[Nat.min_eq_right (),Nat.min_eq_right (),qCl,qCS,qCa (show xs.length<=j+1 from ())]
  rfl
theorem KN {ps:List RP}{j:Nat}(h:j<ps.length):(ps.drop j).take 1=[ps.getD j dfR]:=by
 have g:ps[j]? = some (ps.getD j dfR):=by
  rw[qAg,qAb h]
  rfl
 rw[show(1:Nat)=0+1 from rfl,qA2,qBa,Nat.add_zero,g]
 rfl
theorem Nd {ps:List RP}{j:Nat}(h:¬j<ps.length):(ps.drop j).take 1=[]:=by
 rw[qCa ()]
 rfl
theorem Zr {k m:Nat}{ps os:List RP}{P O:Ps}(lp:PL k m ps P) (lo:PL k m os O){i j:Nat}(hc:i+1<P.length\/j+1<O.length) :
 ∃(p q:RP)(s t x:Rat)(tm:Int×Int),0<((ps.drop (i+1)).take 1++(os.drop (j+1)).take 1).length/\((ps.drop (i+1)).take 1++(os.drop (j+1)).take 1).getD 0 dfR=p/\((ps.drop (i+1)).take 1++(os.drop (j+1)).take 1).getD (((ps.drop (i+1)).take 1++(os.drop (j+1)).take 1).length-1) dfR=q/\Wq m p.1.1 p.1.2 s/\Wq m q.1.1 q.1.2 t/\(if t<s then tp q.1.1 q.1.2 else tp p.1.1 p.1.2)=tp tm.1 tm.2/\Wq m tm.1 tm.2 x /\
  (i+1<P.length->x<=bg P (i+1))/\(j+1<O.length->x<=bg O (j+1))/\((i+1<P.length/\x=bg P (i+1))\/(j+1<O.length/\x=bg O (j+1))):=by
 have l1:=lp.len
 have l2:=lo.len
 have g:∀{zs:List RP}{n:Nat},n<zs.length->zs[n]? = some (zs.getD n dfR):=fun {zs n} h=>by
  rw[qAg,qAb h]
  rfl
 by_cases c1:i+1<P.length
 .have w1:=(lp.lnw (g (show i+1<ps.length from ()))).2.1
  rw[KN (show i+1<ps.length from ())]
  by_cases c2:j+1<O.length
  .have w2:=(lo.lnw (g (show j+1<os.length from ()))).2.1
   rw[KN (show j+1<os.length from ())]
   refine#[_,_,_,_,if bg O (j+1)<bg P (i+1) then bg O (j+1) else bg P (i+1),if bg O (j+1)<bg P (i+1) then (os.getD (j+1) dfR).1 else (ps.getD (i+1) dfR).1,by simp,rfl,rfl,w1,w2,?_,?_,fun _=>?_,fun _=>?_,?_]
   .by_cases z:bg O (j+1)<bg P (i+1)
    .rw[if_pos z,if_pos z];rfl
    .rw[if_neg z,if_neg z];rfl
   .by_cases z:bg O (j+1)<bg P (i+1)
    .rw[if_pos z,if_pos z];exact w2
    .rw[if_neg z,if_neg z];exact w1
   .split<;>grind
   .split<;>grind
   .by_cases z:bg O (j+1)<bg P (i+1)
    .rw[if_pos z];exact .inr #[c2,rfl]
    .rw[if_neg z];exact .inl #[c1,rfl]
  .rw[Nd (show ¬j+1<os.length from ())]
   exact#[_,_,_,_,_,(ps.getD (i+1) dfR).1,by simp,rfl,rfl,w1,w1,by rw[if_neg qBc];rfl,w1,fun _=>qAd,fun z=>absurd z c2,.inl #[c1,rfl]]
 .have c2:j+1<O.length:=hc.resolve_left c1
  have w2:=(lo.lnw (g (show j+1<os.length from ()))).2.1
  rw[Nd (show ¬i+1<ps.length from ()),KN (show j+1<os.length from ())]
  exact#[_,_,_,_,_,(os.getD (j+1) dfR).1,by simp,rfl,rfl,w2,w2,by rw[if_neg qBc];rfl,w2,fun z=>absurd z c1,fun _=>qAd,.inr #[c2,rfl]]
theorem Ti {P:Ps}(u:∀i,i+1<P.length->bg P i<bg P (i+1)) (x:Rat):∃c,c<=P.length/\(∀i,i<c->bg P i<x)/\∀i,c<=i->i<P.length->x<=bg P i:=by
 have key:∀n,n<=P.length->∃c,c<=n/\(∀i,i<c->bg P i<x)/\∀i,c<=i->i<n->x<=bg P i:=fun n=>by
  induction n with
  |zero=>intro _;exact#[0,qAf _,fun i hi=>absurd hi (qBf i),fun i _ hi=>absurd hi (qBf i)]
  |succ n ih =>
   intro hn
   obtain⟨c,c1,c2,c3⟩:=ih ()
   by_cases e:c<n
   .refine#[c,(),c2,fun i h1 h2=>?_]
    by_cases z:i<n
    .exact c3 i h1 z
    .have:=c3 (n-1) () ()
     have u':=u (n-1) ()
     rw[show n-1+1=n from ()] at u'
     rw[show i=n from ()];grind
   .have ec:c=n:=()
    subst ec
    by_cases z:bg P c<x
    .exact#[c+1,qAf _,fun i hi=>by
      by_cases y:i<c
      .exact c2 i y
      .rw[show i=c from ()];exact z,fun i h1 h2=>()]
    .exact#[c,(),c2,fun i h1 h2=>by rw[show i=c from ()];grind]
 exact key P.length (qAf _)
theorem P9 {P:Ps}(u:∀i,i+1<P.length->bg P i<bg P (i+1)) (x:Rat):∃c,c<=P.length/\(∀i,i<c->bg P i<=x)/\∀i,c<=i->i<P.length->x<bg P i:=by
 obtain⟨c,c1,c2,c3⟩:=Ti u x
 by_cases z:c<P.length/\bg P c<=x
 .refine#[c+1,z.1,fun i hi=>?_,fun i h1 h2=>?_]
  .by_cases y:i<c
   .exact qAk (c2 i y)
   .rw[show i=c from ()];exact z.2
  .have m:∀d,c+1+d<P.length->bg P c<bg P (c+1+d):=fun d=>by
    induction d with
    |zero=>intro h;exact u c h
    |succ d ih=>intro h;have:=ih ();have:=u (c+1+d) h;rw[show c+1+(d+1)=c+1+d+1 from ()];grind
   have:=m (i-(c+1)) ()
   rw[show c+1+(i-(c+1))=i from ()] at this
   have:=c3 c (qAf _) z.1
   grind
 .refine#[c,c1,fun i hi=>qAk (c2 i hi),fun i h1 h2=>?_]
  by_cases e:i=c
  .subst e
   have:=c3 i h1 h2
   have:¬bg P i<=x:=fun y=>z #[h2,y]
   grind
  .have m:∀d,c+1+d<P.length->bg P c<bg P (c+1+d):=fun d=>by
    induction d with
    |zero=>intro h;exact u c h
    |succ d ih=>intro h;have:=ih ();have:=u (c+1+d) h;rw[show c+1+(d+1)=c+1+d+1 from ()];grind
   have:=m (i-(c+1)) ()
   rw[show c+1+(i-(c+1))=i from ()] at this
   have:=c3 c (qAf _) ()
   grind
theorem Sz.ngt {k:Nat}{q:Rat}(h:Sz k q):Sz k (-q):=h.neg
def Gz (b Z:Nat)(l:Ln2):Prop:=Sz b l.1/\Sz Z l.2
theorem Vp {b Z X:Nat}(hX:Z+Z+1+(b+b+1)<=X):∀l l',Gz b Z l->Gz b Z l'->l.1≠l'.1->Sz X (xg l l'):=fun l l' h1 h2 ne=>by
 unfold xg
 exact((h2.2.sub h1.2).div (h1.1.sub h2.1) ⋯).mono hX
def slS (fc:Cs)(fm:Rat)(gc:Cs)(gm:Rat):List Rat:=0::((List.range fc.length).map fun i=>-slp fc fm i)++((List.range gc.length).map fun i=>-slp gc gm i)
theorem Yo {fc gc:Cs}{fm gm:Rat}{i:Nat}(h:i<fc.length):-slp fc fm i∈slS fc fm gc gm:=by
 unfold slS
 exact qAr.mpr (.inl (qAl.mpr (.inr (qAM.mpr #[i,qAJ.mpr h,rfl]))))
theorem Xm {fc gc:Cs}{fm gm:Rat}{i:Nat}(h:i<gc.length):-slp gc gm i∈slS fc fm gc gm:=by
 unfold slS
 exact qAr.mpr (.inr (qAM.mpr #[i,qAJ.mpr h,rfl]))
theorem Ws {fc gc:Cs}{fm gm:Rat}:(0:Rat)∈slS fc fm gc gm:=by
 unfold slS
 exact qAr.mpr (.inl (qAl.mpr (.inl rfl)))
structure TK (S0:List Rat)(b Z X K m:Nat)(os:List RP)(O:Ps)(c:Rat->Rat):Prop where
 pl:PL K m os O
 pu:PU O c none
 ne:0<O.length
 b0:bg O 0=0
 sl:∀x,x<O.length->(ln O x).1∈S0
 gd:∀x,x<O.length->Gz b Z (ln O x)/\Sz X (bg O x)
theorem SS {S0:List Rat}{b Z X K m:Nat}{ps:List RP}{P:Ps}{c:Nat}{h:Rat->Rat}(pl:PL K m ps P) (pu:PU P h none) (hm:1<=m) (hX:1<=X) (c0:0<c) (cl:c<=P.length) (h1:∀i,i<c->bg P i<=0) (h2:∀i,c<=i->i<P.length->0<bg P i)
 (sl:∀x,x<P.length->(ln P x).1∈S0) (gd:∀x,x<P.length->Gz b Z (ln P x)/\Sz X (bg P x)):TK S0 b Z X K m (frR ps c) (frN P c) h:=by
 refine#[WX pl c0 cl hm,pu.fromN c0 cl h1 (fun z=>h2 c (qAf _) z),by rw[ET];omega,rfl,fun x hx=>?_,fun x hx=>?_]
 .rw[ET] at hx
  cases x with
  |zero=>exact sl (c-1) ()
  |succ x=>rw[FD.2];exact sl _ ()
 .rw[ET] at hx
  cases x with
  |zero=>exact#[(gd (c-1) ()).1,Sz.zero.mono hX]
  |succ x=>rw[FD.1,FD.2];exact gd _ ()
theorem PL.mono {k m k' m':Nat}{ps:List RP}{P:Ps}(h:PL k m ps P) (h1:k<=k') (h2:m<=m'):PL k' m' ps P :=
 #[h.len,fun i p q a b=>#[(h.at_ i p q a b).t.mono h2,#[(h.at_ i p q a b).l.s.mono h1,(h.at_ i p q a b).l.c.mono h1]]]
section
variable {fc gc:Cs}{fm gm:Rat}{a b c:Nat}
def pA (fc:Cs)(fm:Rat)(gc:Cs)(k:Nat):Ps:=((Ck fc fm).map flP).map (mvP (0-tt gc k) (vv gc k))
theorem Py {k:Nat}:(pA fc fm gc k).length=fc.length:=by unfold pA;rw[qAa,qAa,AA]
theorem RD {k i:Nat}(h:i<fc.length):bg (pA fc fm gc k) i=tt fc i+(0-tt gc k)/\ln (pA fc fm gc k) i=(-slp fc fm i,-(vv fc i-slp fc fm i*tt fc i) - -slp fc fm i*(0-tt gc k)+vv gc k):=by
 unfold pA
 rw[(BG (show i<((Ck fc fm).map flP).length by rw[qAa,AA];exact h)).1,(BG (show i<((Ck fc fm).map flP).length by rw[qAa,AA];exact h)).2,(BG (show i<(Ck fc fm).length by rw[AA];exact h)).1,(BG (show i<(Ck fc fm).length by rw[AA];exact h)).2,(AW h).1,(AW h).2]
 exact#[rfl,rfl]
theorem XX (of:Ord fc){k:Nat}:PU (pA fc fm gc k) (cA fc fm gc k) none:=((FK of).flip).move _ _
theorem Yn (of:Ord fc)(og:Ord gc)(zf:LS a b c fc fm)(zg:LS a b c gc gm){k:Nat}(hk:k<gc.length){Z X:Nat}(hZ:2*(a+b+c)+5<=Z) (hX:3*a+4<=X):(∀x,x<(pA fc fm gc k).length->(ln (pA fc fm gc k) x).1∈slS fc fm gc gm)/\∀x,x<(pA fc fm gc k).length->Gz b Z (ln (pA fc fm gc k) x)/\Sz X (bg (pA fc fm gc k) x):=by
 refine#[fun x hx=>?_,fun x hx=>?_]
 .rw[Py] at hx
  rw[(RD hx).2];exact Yo hx
 .rw[Py] at hx
  rw[(RD hx).1,(RD hx).2]
  have l:=zf.ln of x hx
  have tg:=zg.tm k hk
  have vg:Sz (b+a+c+1) (vv gc k):=by
   have:=zg.va (Bo og hk) tg
   rw[A7 og hk] at this
   exact this
  refine#[#[l.1.ngt,?_],?_]
  .exact(((l.2.ngt).sub ((l.1.ngt).mul (Sz.zero.sub tg))).add vg).mono ()
  .exact((zf.tm x hx).add (Sz.zero.sub tg)).mono ()
def pB (fc:Cs)(gc:Cs)(gm far:Rat)(k:Nat):Ps:=(Hc (Ck gc gm) far).map (mvP (tt fc k) (0-vv fc k))
theorem QC {k:Nat}{far:Rat}:(pB fc gc gm far k).length=gc.length+1:=by unfold pB;rw[qAa,FG,AA]
theorem Yp (og:Ord gc){k:Nat}{far:Rat}(hf:tt gc (gc.length-1)<far):PU (pB fc gc gm far k) (cB fc gc gm k) none:=by
 have n0:=og.ne
 refine((FK og).turn (by rw[AA];exact n0) (by rw[(AW n0).1];exact og.t0) (by rw[AA,(AW (show gc.length-1<gc.length from ())).1];exact hf)).move _ _
theorem Zj (og:Ord gc){k:Nat}{far:Rat}:bg (pB fc gc gm far k) 0=-far+tt fc k:=by
 unfold pB
 rw[(BG (show 0<(Hc (Ck gc gm) far).length by rw[FG];omega)).1]
 show bg (Hc (Ck gc gm) far) 0+tt fc k=_
 rw[(GF (show 0<(Ck gc gm).length by rw[AA];exact og.ne)).1,if_neg ∅]
theorem Xo (of:Ord fc)(og:Ord gc)(zf:LS a b c fc fm)(zg:LS a b c gc gm){k:Nat}(hk:k<fc.length){far:Rat}(zr:Sz (2*a+1) far){Z X:Nat}(hb:1<=b) (hZ:2*(a+b+c)+5<=Z) (hX:3*a+4<=X):(∀x,x<(pB fc gc gm far k).length->(ln (pB fc gc gm far k) x).1∈slS fc fm gc gm)/\∀x,x<(pB fc gc gm far k).length->Gz b Z (ln (pB fc gc gm far k) x)/\Sz X (bg (pB fc gc gm far k) x):=by
 have n0:=og.ne
 have tf:=zf.tm k hk
 have vf:Sz (b+a+c+1) (vv fc k):=by
  have:=zf.va (Bo of hk) tf
  rw[A7 of hk] at this
  exact this
 have key:∀x,x<gc.length+1->((ln (Hc (Ck gc gm) far) x).1∈slS fc fm gc gm/\Sz b (ln (Hc (Ck gc gm) far) x).1/\Sz c (ln (Hc (Ck gc gm) far) x).2/\Sz (2*a+2) (bg (Hc (Ck gc gm) far) x)):=fun x hx=>by
  by_cases z:x<gc.length
  .have ta:=GF (P:=Ck gc gm) (far:=far) (i:=x) (by rw[AA];exact z)
   rw[AA] at ta
   have hi:gc.length-1-x<gc.length:=()
   rw[ta.1,ta.2,(AW hi).2]
   have l:=zg.ln og _ hi
   refine#[Xm hi,l.1.ngt,l.2,?_]
   by_cases y:0<x
   .rw[if_pos y,(AW (show gc.length-x<gc.length from ())).1]
    exact(zg.tm _ ()).ngt.mono ()
   .rw[if_neg y];exact zr.ngt.mono ()
  .have te:=G9 (P:=Ck gc gm) (far:=far)
   rw[AA] at te
   rw[show x=gc.length from (),te.1,te.2,(AW n0).2]
   exact#[Ws,Sz.zero.mono hb,(zg.ln og 0 n0).2,Sz.zero.mono ()]
 have at_:∀x,x<gc.length+1->bg (pB fc gc gm far k) x=bg (Hc (Ck gc gm) far) x+tt fc k/\ln (pB fc gc gm far k) x=((ln (Hc (Ck gc gm) far) x).1,(ln (Hc (Ck gc gm) far) x).2-(ln (Hc (Ck gc gm) far) x).1*tt fc k+(0-vv fc k)):=fun x hx=>by
  unfold pB
  have hx':x<(Hc (Ck gc gm) far).length:=by rw[FG,AA];exact hx
  rw[(BG hx').1,(BG hx').2]
  exact#[rfl,rfl]
 refine#[fun x hx=>?_,fun x hx=>?_]
 .rw[QC] at hx
  rw[(at_ x hx).2];exact(key x hx).1
 .rw[QC] at hx
  obtain⟨k1,k2,k3,k4⟩:=key x hx
  rw[(at_ x hx).1,(at_ x hx).2]
  exact#[#[k2,((k3.sub (k2.mul tf)).add (Sz.zero.sub vf)).mono ()],(k4.add tf).mono ()]
theorem Uu (rf:Cg fc fm)(rg:Cg gc gm)(hm:fm<=gm){B S0:List Rat}{b Z X K m:Nat}{h:Rat->Rat}{qs:List RP}{Q:Ps}(r:Dy B S0 (Gz b Z) (Sz X) K m h none qs Q) (ne:0<Q.length) (b0:bg Q 0=0) (mi:Q8 (Xa fc fm gc gm) h) :
 Ord (Fp (Q.map flP))/\0<=(ln (Q.map flP) ((Q.map flP).length-1)).1/\(ln (Q.map flP) ((Q.map flP).length-1)).1=fm/\(∀t,0<=t->IsU fc fm gc gm t (val (Fp (Q.map flP)) (ln (Q.map flP) ((Q.map flP).length-1)).1 t))/\LS X b Z (Fp (Q.map flP)) (ln (Q.map flP) ((Q.map flP).length-1)).1:=by
 have iu:∀t,0<=t->IsU fc fm gc gm t (-h t):=fun t t0=>Vm rf rg hm mi t0
 have pu:=r.pu.flip
 have fl:(Q.map flP).length=Q.length:=qAa _
 have ne':0<(Q.map flP).length:=by rw[fl];exact ne
 have fa:∀i,i<Q.length->bg (Q.map flP) i=bg Q i/\ln (Q.map flP) i=(-(ln Q i).1,-(ln Q i).2):=fun i hi=>by
  rw[(BG hi).1,(BG hi).2]
  exact#[rfl,rfl]
 obtain⟨o,m0,v⟩:=Qp pu ne' (by rw[(fa 0 ne).1];exact b0) (fun x y x0 xy=>Sn rf x0 xy (iu x x0) (iu y ⋯)) ((iu 0 qAd).1)
 have iv:∀t,0<=t->IsU fc fm gc gm t (val (Fp (Q.map flP)) (ln (Q.map flP) ((Q.map flP).length-1)).1 t):=fun t t0=>by rw[v t t0];exact iu t t0
 refine#[o,m0,Rb rf rg hm o iv,iv,Ln.ls (fun i hi=>?_) o (fun i hi=>?_)]
 .rw[A1] at hi
  have hi':i<Q.length:=by rw[fl] at hi;exact hi
  rw[F9 pu hi,(Bj hi).1,(Bj hi).2,(fa i hi').2,(fa i hi').1]
  have g:=(r.gd i hi').1
  refine#[g.1.ngt,?_]
  have e:ev (-(ln Q i).1,-(ln Q i).2) (bg Q i) - -(ln Q i).1*bg Q i=-(ln Q i).2:=by unfold ev;grind
  rw[e]
  exact g.2.ngt
 .rw[A1,fl] at hi
  rw[(Bj (by rw[fl];exact hi)).1,(fa i hi).1]
  exact(r.gd i hi).2
theorem QG {S0:List Rat}{b Z X K m:Nat}(hs:(0:Rat)∈S0) (hb:1<=b) (hZ:1<=Z) (hX:1<=X) (hK:1<=K) (hm:1<=m):Dy [] S0 (Gz b Z) (Sz X) K m (fun _=>0) none [((0,1),(0,0,1))] [(0,(0,0))]:=by
 have z1:∀i,i < [((0:Rat),((0:Rat),(0:Rat)))].length->i=0:=fun i hi=>by have:i<1:=hi;omega
 have w0:Wq 1 0 1 0:=Wq.of Sz.zero
 refine#[#[rfl,fun i p q h1 h2=>?_],#[fun i hi=>by have:i+1<1:=hi;omega,fun i hi=>trivial,fun i hi t _ _ _=>?_],#[fun i hi=>by have:i+1<1:=hi;omega,fun i hi=>?_,fun i hi=>by have:i+1<1:=hi;omega],fun i hi=>?_]
 .have hi:=z1 i (by have:=(qAe.mp h2).1;exact this)
  subst hi
  cases h1
  cases h2
  exact#[w0.mono hm,#[w0.mono hK,w0.mono hK]]
 .rw[z1 i hi]
  show(0:Rat)=0*t+0
  grind
 .rw[z1 i hi];exact hs
 .rw[z1 i hi]
  exact#[#[Sz.zero.mono hb,Sz.zero.mono hZ],Sz.zero.mono hX]
end
end CH
namespace L3
open PySem PySem.Spec PyProof.Rows L2
abbrev BV (h:Heap)(T:Addr)(a b c:Value):Prop:=h.get? T=some { cls:=.type "tuple",data:=.seq (List.toArray [a,b,c]) }
def Li (n c:Nat):Prop:=c<n\/c=n+3\/n+5<c
section
variable {P:Program}{w:World}{A:Around}{E:Value->Shared->Prop}{s:Shared}
theorem Vv {T:Addr}{a b c x:Value}{k:Nat}{Q:Unit->Shared->Prop}(hT:BV s.heap T a b c)
 (h:∀h',h'.get? T=some { cls:=.type "tuple",data:=.seq (((List.toArray [a,b,c]):Array Value).setIfInBounds k x) }->Heap.SameBut T s.heap h'->Q Unit.unit { s with heap:=h' }) :
 wpAny (model P w) A (updateSeq T (·.setIfInBounds k x)) Q E s:=by
 refine wpAny_updateSeq hT rfl (h _ ?_ (Heap.SameBut.update ..))
 rw[qCQ _ hT rfl]
 simp[Obj.mapSeq]
variable {n l1 l2 l3:Nat}{us1 us2 us3:Array Value}{st1 st2 st3:Nat->Heap->Prop}
theorem Dc {i l:Nat}{us:Array Value}{st:Nat->Heap->Prop}(S:K4 P w A i l us st){k:Nat}{h h1:Heap}(c:st k h) (e:∀b o,b=i\/b=l->h.get? b=some o->h1.get? b=some o):st k h1:=S.keep k h h1 c e
theorem Ql (h1:l1<n)(h2:l2<n)(h3:l3<n)(S1:K4 P w A n l1 us1 st1)(S2:K4 P w A (n+1:Nat) l2 us2 st2)(S3:K4 P w A (n+2:Nat) l3 us3 st3){k:Nat}{x y v a b c:Value}{Q:Value->Shared->Prop}(Hz:IsZip s.heap (n+5:Nat) (n+3:Nat) (n+4:Nat) .none) (Ht:BV s.heap (n+3:Nat) (.ref n) (.ref (n+1:Nat)) (.ref (n+2:Nat))) (Ho:BV s.heap (n+4:Nat) a b c)
 (c1:st1 k s.heap) (c2:st2 k s.heap) (c3:st3 k s.heap) (hx:us1[k]? = some x) (hy:us2[k]? = some y) (hv:us3[k]? = some v)
 (fin:∀h',IsZip h' (n+5:Nat) (n+3:Nat) (n+4:Nat) (rawInt s.heap.objs.size)->BV h' (n+4:Nat) x y v->st1 (k+1) h'->st2 (k+1) h'->st3 (k+1) h'->BV h' s.heap.objs.size x y v->(∀(c:Nat) o,Li n c->s.heap.get? c=some o->h'.get? c=some o)->Q (.ref s.heap.objs.size) { s with heap:=h' }) :
 wpAny (model P w) A (Builtin.«zip.__next__» #[[.ref (n+5:Nat)],[]]) (fun f s'=>∃v,f=.done (.ret v)/\Q v s') E s:=by
 refine(wpAny_bind (wpAny_field Hz rfl (x:=Value.bool false) rfl ?_):wpAny _ _ (field (Value.ref (n+5:Nat)) 2 >>= _) _ _ _)
 refine(wpAny_bind (wpAny_field Hz rfl (x:=Value.ref (n+3:Nat)) rfl ?_):wpAny _ _ (field (Value.ref (n+5:Nat)) 3 >>= _) _ _ _)
 refine wpAny_bind (wpAny_seqItems Ht rfl ?_)
 refine(wpAny_bind ?_:wpAny _ _ (Builtin.SmallTypes.ownedTupleIsFree (Value.ref (n+5:Nat)) >>= _) _ _ _)
 refine wpAny_bind (wpAny_field Hz rfl (x:=Value.none) rfl (wpAny_pure ?_))
 simp only[if_true]
 refine wpAny_bind (wpAny_rule (wpAny_bind (wpAny_field Hz rfl (x:=Value.ref (n+4:Nat)) rfl (wpAny_bind (wpAny_setField_rec Hz (by simp) fun g1 Hz1 m1=>?_)))))
 have Hz1:IsZip g1 (n+5:Nat) (n+3:Nat) (n+4:Nat) .ellipsis:=Hz1
 have e1:∀(q:Nat) o,q≠n+5->s.heap.get? q=some o->g1.get? q=some o:=fun q o ne e=>m1.extBut _ _ ne e
 refine wpAny_bind ?_
 simp only[qCc,qCm,qBN,qCr]
 have c1a:st1 k g1:=Dc S1 c1 fun q o hq e=>e1 q o () e
 refine wpAny_bind (wpAny_bind (wpAny_onRaise (?_:wpAny _ _ (Builtin.SmallTypes.nextOf (Value.ref n) >>= _) _ _ _)))
 refine wpAny_bind (S1.item _ k x _ _ c1a hx fun g2 c1b m2=>wpAny_pure ?_)
 have e2:∀(q:Nat) o,q≠n->q≠n+5->s.heap.get? q=some o->g2.get? q=some o:=fun q o n1 n2 e=>m2.extBut _ _ n1 (e1 q o n2 e)
 have Ho2:BV g2 (n+4:Nat) a b c:=e2 _ _ () () Ho
 refine wpAny_bind (wpAny_seqItems Ho2 rfl (wpAny_bind (Vv Ho2 fun g3 Ho3 m3=>wpAny_bind (wpAny_letGo (wpAny_pure ?_)))))
 have Ho3:BV g3 (n+4:Nat) x b c:=Ho3
 have c2a:st2 k g3:=Dc S2 c2 fun q o hq e=>m3.extBut _ _ (show q≠n+4 from ()) (e2 q o () () e)
 refine wpAny_bind (wpAny_bind (wpAny_onRaise (?_:wpAny _ _ (Builtin.SmallTypes.nextOf (Value.ref (n+1:Nat)) >>= _) _ _ _)))
 refine wpAny_bind (S2.item _ k y _ _ c2a hy fun g4 c2b m4=>wpAny_pure ?_)
 have Ho4:BV g4 (n+4:Nat) x b c:=m4.extBut _ _ (show n+4≠n+1 from ()) Ho3
 refine wpAny_bind (wpAny_seqItems Ho4 rfl (wpAny_bind (Vv Ho4 fun g5 Ho5 m5=>wpAny_bind (wpAny_letGo (wpAny_pure ?_)))))
 have Ho5:BV g5 (n+4:Nat) x y c:=Ho5
 have e5:∀(q:Nat) o,q≠n+1->q≠n+4->g2.get? q=some o->g5.get? q=some o:=fun q o n1 n2 e=>m5.extBut _ _ n2 (m4.extBut _ _ n1 (m3.extBut _ _ n2 e))
 have c3a:st3 k g5:=Dc S3 c3 fun q o hq e=>e5 q o () () (e2 q o () () e)
 refine wpAny_bind (wpAny_bind (wpAny_onRaise (?_:wpAny _ _ (Builtin.SmallTypes.nextOf (Value.ref (n+2:Nat)) >>= _) _ _ _)))
 refine wpAny_bind (S3.item _ k v _ _ c3a hv fun g6 c3b m6=>wpAny_pure ?_)
 have Ho6:BV g6 (n+4:Nat) x y c:=m6.extBut _ _ (show n+4≠n+2 from ()) Ho5
 refine wpAny_bind (wpAny_seqItems Ho6 rfl (wpAny_bind (Vv Ho6 fun g7 Ho7 m7=>wpAny_bind (wpAny_letGo (wpAny_pure (wpAny_pure ?_))))))
 have Ho7:BV g7 (n+4:Nat) x y v:=Ho7
 have e7:∀(q:Nat) o,q≠n+2->q≠n+4->g5.get? q=some o->g7.get? q=some o:=fun q o n1 n2 e=>m7.extBut _ _ n2 (m6.extBut _ _ n1 e)
 have sz:g7.objs.size=s.heap.objs.size:=by rw[m7.1,m6.1,m5.1,m4.1,m3.1,m2.1,m1.1]
 have Hz2:IsZip g2 (n+5:Nat) (n+3:Nat) (n+4:Nat) .ellipsis:=m2.extBut _ _ (show n+5≠n from ()) Hz1
 have Hz7:IsZip g7 (n+5:Nat) (n+3:Nat) (n+4:Nat) .ellipsis:=e7 _ _ () () (e5 _ _ () () Hz2)
 have lz:n+5<g7.objs.size:=qAj Hz7
 refine wpAny_bind (wpAny_seqItems Ho7 rfl (wpAny_bind (wpAny_newTuple ?_)))
 refine(wpAny_bind ?_:wpAny _ _ (Builtin.SmallTypes.ownedTupleHandOut (Value.ref (n+5:Nat)) (Value.ref g7.objs.size) >>= _) _ _ _)
 have Hz8:IsZip (g7.push { cls:=.type "tuple",data:=.seq (List.toArray [x,y,v]) }) (n+5:Nat) (n+3:Nat) (n+4:Nat) .ellipsis:=qAh _ Hz7
 refine wpAny_bind (wpAny_setField_rec Hz8 (by simp) fun g9 Hz9 m9=>?_)
 have Hz9:IsZip g9 (n+5:Nat) (n+3:Nat) (n+4:Nat) (rawInt g7.objs.size):=Hz9
 refine wpAny_setField_rec Hz9 (by simp) fun g0 Hz0 m0=>?_
 have Hz0:IsZip g0 (n+5:Nat) (n+3:Nat) (n+4:Nat) (rawInt g7.objs.size):=Hz0
 have up:∀(q:Nat) o,q≠n+5->g7.get? q=some o->g0.get? q=some o:=fun q o ne e=>m0.extBut _ _ ne (m9.extBut _ _ ne (qAh _ e))
 have new0:BV g0 g7.objs.size x y v:=m0.extBut _ _ (qA9 lz) (m9.extBut _ _ (qA9 lz) (qAt _ rfl))
 rw[sz] at Hz0 new0
 have k1:st1 (k+1) g0:=Dc S1 c1b fun q o hq e=>up q o () (e7 q o () () (e5 q o () () e))
 have k2:st2 (k+1) g0:=Dc S2 c2b fun q o hq e=>up q o () (e7 q o () () (m5.extBut _ _ (show q≠n+4 from ()) e))
 have k3:st3 (k+1) g0:=Dc S3 c3b fun q o hq e=>up q o () (m7.extBut _ _ (show q≠n+4 from ()) e)
 refine wpAny_pure #[_,rfl,(?_:Q (.ref g7.objs.size) _)]
 rw[sz]
 exact fin g0 Hz0 (up _ _ () Ho7) k1 k2 k3 new0 fun q o hq e=>by
  unfold Li at hq
  exact up q o () (e7 q o () () (e5 q o () () (e2 q o () () e)))
end
section
variable {P:Program}{w:World}{A:Around}{E:Value->Shared->Prop}{s:Shared}
variable {n l1 l2 l3:Nat}{us1 us2 us3:Array Value}{st1 st2 st3:Nat->Heap->Prop}
theorem QF (hd:A.handled=none)(h1:l1<n)(h2:l2<n)(h3:l3<n)(S1:K4 P w A n l1 us1 st1)(S2:K4 P w A (n+1:Nat) l2 us2 st2)(S3:K4 P w A (n+2:Nat) l3 us3 st3){k:Nat}{a b c:Value}{Q:Fin->Shared->Prop}(Hz:IsZip s.heap (n+5:Nat) (n+3:Nat) (n+4:Nat) .none) (Ht:BV s.heap (n+3:Nat) (.ref n) (.ref (n+1:Nat)) (.ref (n+2:Nat))) (Ho:BV s.heap (n+4:Nat) a b c)
 (c1:st1 k s.heap) (c2:st2 k s.heap) (c3:st3 k s.heap) (he:us1[k]? = none\/us2[k]? = none\/us3[k]? = none)
 (fin:∀h' e,(∀(c:Nat) o,Li n c->s.heap.get? c=some o->h'.get? c=some o)->(∃o,h'.get? e=some o/\o.cls=.type "StopIteration")->E (.ref e) { s with heap:=h' }) :
 wpAny (model P w) A (Builtin.«zip.__next__» #[[.ref (n+5:Nat)],[]]) Q E s:=by
 refine(wpAny_bind (wpAny_field Hz rfl (x:=Value.bool false) rfl ?_):wpAny _ _ (field (Value.ref (n+5:Nat)) 2 >>= _) _ _ _)
 refine(wpAny_bind (wpAny_field Hz rfl (x:=Value.ref (n+3:Nat)) rfl ?_):wpAny _ _ (field (Value.ref (n+5:Nat)) 3 >>= _) _ _ _)
 refine wpAny_bind (wpAny_seqItems Ht rfl ?_)
 refine(wpAny_bind ?_:wpAny _ _ (Builtin.SmallTypes.ownedTupleIsFree (Value.ref (n+5:Nat)) >>= _) _ _ _)
 refine wpAny_bind (wpAny_field Hz rfl (x:=Value.none) rfl (wpAny_pure ?_))
 simp only[if_true]
 refine wpAny_bind (wpAny_rule (wpAny_bind (wpAny_field Hz rfl (x:=Value.ref (n+4:Nat)) rfl (wpAny_bind (wpAny_setField_rec Hz (by simp) fun g1 Hz1 m1=>?_)))))
 have Hz1:IsZip g1 (n+5:Nat) (n+3:Nat) (n+4:Nat) .ellipsis:=Hz1
 have e1:∀(q:Nat) o,q≠n+5->s.heap.get? q=some o->g1.get? q=some o:=fun q o ne e=>m1.extBut _ _ ne e
 refine wpAny_bind ?_
 simp only[qCc,qCm,qBN,qCr]
 have c1a:st1 k g1:=Dc S1 c1 fun q o hq e=>e1 q o () e
 have out:∀{g:Heap}{x:Addr}(n':IsZip g (n+5:Nat) (n+3:Nat) (n+4:Nat) .ellipsis) (g':Heap) (m:Heap.SameBut (n+5:Nat) g g'),(∃o,g.get? x=some o/\o.cls=.type "StopIteration")->∃o,g'.get? x=some o/\o.cls=.type "StopIteration":=fun {g x} n' g' m #[o,h1,h2] =>
  #[o,m.extBut _ _ (fun y=>by subst y;rw[n'] at h1;cases h1;simp at h2) h1,h2]
 refine wpAny_bind (wpAny_bind (wpAny_onRaise (?_:wpAny _ _ (Builtin.SmallTypes.nextOf (Value.ref n) >>= _) _ _ _)))
 cases hx:us1[k]? with
 |none =>
  refine wpAny_bind (S1.done _ k _ _ c1a hx fun g2 x m2 hs=>?_)
  have Hz2:IsZip g2 (n+5:Nat) (n+3:Nat) (n+4:Nat) .ellipsis:=m2 _ _ (show n+5≠n from ()) Hz1
  exact wpAny_setField_rec Hz2 (by simp) fun g3 _ m3=>fin g3 x (fun q o hq e=>by
   unfold Li at hq
   exact m3.extBut _ _ (show q≠n+5 from ()) (m2 _ _ (show q≠n from ()) (e1 q o () e))) (out Hz2 g3 m3 hs)
 |some x =>
 refine wpAny_bind (S1.item _ k x _ _ c1a hx fun g2 c1b m2=>wpAny_pure ?_)
 have e2:∀(q:Nat) o,q≠n->q≠n+5->s.heap.get? q=some o->g2.get? q=some o:=fun q o n1 n2 e=>m2.extBut _ _ n1 (e1 q o n2 e)
 have Ho2:BV g2 (n+4:Nat) a b c:=e2 _ _ () () Ho
 have Hz2:IsZip g2 (n+5:Nat) (n+3:Nat) (n+4:Nat) .ellipsis:=m2.extBut _ _ (show n+5≠n from ()) Hz1
 refine wpAny_bind (wpAny_seqItems Ho2 rfl (wpAny_bind (Vv Ho2 fun g3 Ho3 m3=>wpAny_bind (wpAny_letGo (wpAny_pure ?_)))))
 have Ho3:BV g3 (n+4:Nat) x b c:=Ho3
 have Hz3:IsZip g3 (n+5:Nat) (n+3:Nat) (n+4:Nat) .ellipsis:=m3.extBut _ _ (show n+5≠n+4 from ()) Hz2
 have c2a:st2 k g3:=Dc S2 c2 fun q o hq e=>m3.extBut _ _ (show q≠n+4 from ()) (e2 q o () () e)
 refine wpAny_bind (wpAny_bind (wpAny_onRaise (?_:wpAny _ _ (Builtin.SmallTypes.nextOf (Value.ref (n+1:Nat)) >>= _) _ _ _)))
 cases hy:us2[k]? with
 |none =>
  refine wpAny_bind (S2.done _ k _ _ c2a hy fun g4 x m4 hs=>?_)
  have Hz4:IsZip g4 (n+5:Nat) (n+3:Nat) (n+4:Nat) .ellipsis:=m4 _ _ (show n+5≠n+1 from ()) Hz3
  exact wpAny_setField_rec Hz4 (by simp) fun g5 _ m5=>fin g5 x (fun q o hq e=>by
   unfold Li at hq
   exact m5.extBut _ _ (show q≠n+5 from ()) (m4 _ _ (show q≠n+1 from ()) (m3.extBut _ _ (show q≠n+4 from ()) (e2 q o () () e)))) (out Hz4 g5 m5 hs)
 |some y =>
 have hv:us3[k]? = none:=(he.resolve_left (by rw[hx];simp)).resolve_left (by rw[hy];simp)
 refine wpAny_bind (S2.item _ k y _ _ c2a hy fun g4 c2b m4=>wpAny_pure ?_)
 have Ho4:BV g4 (n+4:Nat) x b c:=m4.extBut _ _ (show n+4≠n+1 from ()) Ho3
 have Hz4:IsZip g4 (n+5:Nat) (n+3:Nat) (n+4:Nat) .ellipsis:=m4.extBut _ _ (show n+5≠n+1 from ()) Hz3
 refine wpAny_bind (wpAny_seqItems Ho4 rfl (wpAny_bind (Vv Ho4 fun g5 Ho5 m5=>wpAny_bind (wpAny_letGo (wpAny_pure ?_)))))
 have e5:∀(q:Nat) o,q≠n+1->q≠n+4->g2.get? q=some o->g5.get? q=some o:=fun q o n1 n2 e=>m5.extBut _ _ n2 (m4.extBut _ _ n1 (m3.extBut _ _ n2 e))
 have c3a:st3 k g5:=Dc S3 c3 fun q o hq e=>e5 q o () () (e2 q o () () e)
 refine wpAny_bind (wpAny_bind (wpAny_onRaise (?_:wpAny _ _ (Builtin.SmallTypes.nextOf (Value.ref (n+2:Nat)) >>= _) _ _ _)))
 refine wpAny_bind (S3.done _ k _ _ c3a hv fun g6 x m6 hs=>?_)
 have Hz6:IsZip g6 (n+5:Nat) (n+3:Nat) (n+4:Nat) .ellipsis:=m6 _ _ (show n+5≠n+2 from ()) (m5.extBut _ _ (show n+5≠n+4 from ()) Hz4)
 exact wpAny_setField_rec Hz6 (by simp) fun g7 _ m7=>fin g7 x (fun q o hq e=>by
  unfold Li at hq
  exact m7.extBut _ _ (show q≠n+5 from ()) (m6 _ _ (show q≠n+2 from ()) (e5 q o () () (e2 q o () () e)))) (out Hz6 g7 m7 hs)
end
theorem Ur (a b c:Value):checkTypeCall "zip" #[[a,b,c],[]]=pure Unit.unit:=by kernel_rfl
theorem Tt (a b c:Value):checkBuiltinCall "zip.__new__" #[[.type "zip",a,b,c],[]]=pure Unit.unit:=by kernel_rfl
theorem RS (a b c d:Value):argsOk "object.__init__" #[[a,b,c,d],[]]:=by
 unfold argsOk;rw[signature?_of (id:="object.__init__") (n:=['_','_','t','i','n','i','_','_']) (o:=['t','c','e','j','b','o']) (by kernel_rfl) F.owner_object];kernel_rfl
abbrev zt1 (h:Heap)(l1:Addr):Heap:=h.push { cls:=.type "list_iterator",data:=.fields (List.toArray [.ref l1,.int 0 0]) }
abbrev zt2 (h:Heap)(l1 l2:Addr):Heap:=(zt1 h l1).push { cls:=.type "tuple_iterator",data:=.fields (List.toArray [.ref l2,.int 0 0]) }
abbrev zt3 (h:Heap)(l1 l2 l3:Addr):Heap:=(zt2 h l1 l2).push { cls:=.type "tuple_iterator",data:=.fields (List.toArray [.ref l3,.int 0 0]) }
abbrev zt4 (h:Heap)(l1 l2 l3:Addr):Heap:=(zt3 h l1 l2 l3).push { cls:=.type "tuple",data:=.seq (List.toArray [.ref h.objs.size,.ref (zt1 h l1).objs.size,.ref (zt2 h l1 l2).objs.size]) }
abbrev zt5 (h:Heap)(l1 l2 l3:Addr):Heap:=(zt4 h l1 l2 l3).push { cls:=.type "tuple",data:=.seq (List.toArray [.none,.none,.none]) }
abbrev zt6 (h:Heap)(l1 l2 l3:Addr):Heap:=(zt5 h l1 l2 l3).push { cls:=.type "zip",data:=.fields (List.toArray [.none,.bool false,.bool false,.ref (zt3 h l1 l2 l3).objs.size,.ref (zt4 h l1 l2 l3).objs.size]) }
theorem Rl (l1 l2 l3:Addr)(xs ys zs:Array Value) :
 Meets (Builtin.«zip.__new__» #[[.type "zip",.ref l1,.ref l2,.ref l3],[]]) (fun _ R s=>s.heap.IsList l1 xs/\s.heap.IsTuple l2 ys/\s.heap.IsTuple l3 zs/\R (.ok (.ret (.ref (zt5 s.heap l1 l2 l3).objs.size))) { s with heap:=zt6 s.heap l1 l2 l3 }) :=
 .of_wp fun prog w A R s h=>by
  obtain⟨hp,g,d,tk,os⟩:=s;obtain⟨t1,t2,t3,h⟩:=h
  have hsub:=sub_zip
  have q1:Heap.IsList (Shared.heap #[hp,g,d,tk,os]) l1 xs:=t1
  have t2':Heap.IsTuple (zt1 hp l1) l2 ys:=by obtain⟨o,e1,e2⟩:=t2;exact#[o,qAh _ e1,e2]
  have t3':Heap.IsTuple (zt2 hp l1 l2) l3 zs:=by obtain⟨o,e1,e2⟩:=t3;exact#[o,qAh _ (qAh _ e1),e2]
  have q2:Heap.IsTuple (Shared.heap #[zt1 hp l1,g,d,tk,os]) l2 ys:=t2'
  have q3:Heap.IsTuple (Shared.heap #[zt2 hp l1 l2,g,d,tk,os]) l3 zs:=t3'
  wp_walk using wpAny_pyIter_list q1,wpAny_pyIter_tuple q2,wpAny_pyIter_tuple q3
  exact#[_,rfl,h]
section
variable {P:Program}{w:World}{A:Around}{E:Value->Shared->Prop}{s:Shared}
theorem Pg {l1 l2 l3:Addr}{xs ys zs:Array Value}{Q:Value->Shared->Prop}(t1:s.heap.IsList l1 xs) (t2:s.heap.IsTuple l2 ys) (t3:s.heap.IsTuple l3 zs){n:Nat}(hn:s.heap.objs.size=n)
 (fin:∀h',IsZip h' (n+5:Nat) (n+3:Nat) (n+4:Nat) .none->BV h' (n+3:Nat) (.ref n) (.ref (n+1:Nat)) (.ref (n+2:Nat))->BV h' (n+4:Nat) .none .none .none ->
  h'.IsListIter n l1 0->h'.IsTupleIter (n+1:Nat) l2 0->h'.IsTupleIter (n+2:Nat) l3 0->(∀c o,s.heap.get? c=some o->h'.get? c=some o)->Q (.ref (n+5:Nat)) { s with heap:=h' }) :
 wpAny (model P w) A (call (.type "zip") [.ref l1,.ref l2,.ref l3]) Q E s:=by
 refine callType_new F.called_zip ∅ (Ur _ _ _) (Tt _ _ _) (fun ob=>RS ob _ _ _) F.entry_zip_new (Rl l1 l2 l3 xs ys zs) #[t1,t2,t3,?_]
 subst hn
 have n1:(zt1 s.heap l1).objs.size=s.heap.objs.size+1:=qA8 ..
 have n2:(zt2 s.heap l1 l2).objs.size=s.heap.objs.size+2:=by rw[qA8,n1]
 have n3:(zt3 s.heap l1 l2 l3).objs.size=s.heap.objs.size+3:=by rw[qA8,n2]
 have n4:(zt4 s.heap l1 l2 l3).objs.size=s.heap.objs.size+4:=by rw[qA8,n3]
 have n5:(zt5 s.heap l1 l2 l3).objs.size=s.heap.objs.size+5:=by rw[qA8,n4]
 have up:∀{h:Heap}{o:Obj}{c:Addr}{x:Obj},h.get? c=some x->(h.push o).get? c=some x:=fun e=>qAh _ e
 have o6:(zt6 s.heap l1 l2 l3).get? (zt5 s.heap l1 l2 l3).objs.size=some _:=qAt _ rfl
 have o5:(zt6 s.heap l1 l2 l3).get? (zt4 s.heap l1 l2 l3).objs.size=some _:=up (qAt _ rfl)
 have o4:(zt6 s.heap l1 l2 l3).get? (zt3 s.heap l1 l2 l3).objs.size=some _:=up (up (qAt _ rfl))
 have o3:(zt6 s.heap l1 l2 l3).get? (zt2 s.heap l1 l2).objs.size=some _:=up (up (up (qAt _ rfl)))
 have o2:(zt6 s.heap l1 l2 l3).get? (zt1 s.heap l1).objs.size=some _:=up (up (up (up (qAt _ rfl))))
 have o1:(zt6 s.heap l1 l2 l3).get? s.heap.objs.size=some _:=up (up (up (up (up (qAt _ rfl)))))
 refine(?_:_/\_)
 rw[n3,n4,n5] at o6
 rw[n4] at o5
 rw[n1,n2,n3] at o4
 rw[n2] at o3
 rw[n1] at o2
 rw[n5]
 exact#[#[_,o6,rfl],fin _ o6 o4 o5 #[_,o1,rfl,rfl] #[_,o2,rfl,rfl] #[_,o3,rfl,rfl] fun c o x=>up (up (up (up (up (up x)))))]
end
def YF (K:W.Frag)(l1 l2 l3:Addr):It :=
 #[fun i H=>∃xs ys zs x y z,SqB K false H l1 xs/\SqB K true H l2 ys/\SqB K true H l3 zs/\xs[i]? = some x/\ys[i]? = some y/\zs[i]? = some z,
  fun i H v H'=>∃p x y z,H p=none/\v=.ref p/\(∀xs,SqB K false H l1 xs->xs[i]? = some x)/\(∀ys,SqB K true H l2 ys->ys[i]? = some y)/\(∀zs,SqB K true H l3 zs->zs[i]? = some z)/\H'=upd H p (.tup [x,y,z]),
  fun i H=>∃xs ys zs,SqB K false H l1 xs/\SqB K true H l2 ys/\SqB K true H l3 zs/\(xs.length<=i\/ys.length<=i\/zs.length<=i)]
def ZD (n l1 l2 l3:Nat)(i:Nat)(h:Heap):Prop:=IsZip h (n+5:Nat) (n+3:Nat) (n+4:Nat) .none/\BV h (n+3:Nat) (.ref n) (.ref (n+1:Nat)) (.ref (n+2:Nat))/\(∃a b c,BV h (n+4:Nat) a b c)/\ItB false h n l1 i/\ItB true h (n+1:Nat) l2 i/\ItB true h (n+2:Nat) l3 i
def fp3 (n:Nat):List Addr:=[(n+5:Nat),(n+3:Nat),(n+4:Nat),n,(n+1:Nat),(n+2:Nat)]
theorem ER {n c:Nat}:c∈fp3 n ↔ n<=c/\c<=n+5:=by
 unfold fp3
 simp only[qAl,qBl,or_false]
 constructor
 .rintro (rfl|rfl|rfl|rfl|rfl|rfl)<;>exact#[(),()]
 .intro h
  have:c=n+5\/c=n+3\/c=n+4\/c=n\/c=n+1\/c=n+2:=()
  exact this
theorem O4 {P:Program}{w:World}{K:W.Frag}{elts:List Expr}{x1:Nat}{tpos:Pos}{n l1 l2 l3:Nat}(d1:l1<n) (d2:l2<n) (d3:l3<n):RE P w K (.Tuple elts x1 tpos) (YF K l1 l2 l3) (fp3 n) (n+5:Nat) (ZD n l1 l2 l3) where
 mem:=ER.mpr ()
 obj:=fun i h st b hb=>by
  obtain⟨g1,g2,⟨a,b',c,g3⟩,g4,g5,g6⟩:=st
  unfold fp3 at hb
  simp only[qAl,qBl,or_false] at hb
  rcases hb with rfl|rfl|rfl|rfl|rfl|rfl
  .exact#[_,g1,fun v y=>by cases y]
  .exact#[_,g2,fun v y=>by cases y]
  .exact#[_,g3,fun v y=>by cases y]
  .exact FQ g4
  .exact FQ g5
  .exact FQ g6
 keep:=fun i h h' st k=>by
  obtain⟨g1,g2,⟨a,b,c,g3⟩,g4,g5,g6⟩:=st
  have k:∀(b:Nat),n<=b/\b<=n+5->∀o,h.get? b=some o->h'.get? b=some o:=fun b hb o e=>k b (ER.mpr hb) o e
  exact#[k _ () _ g1,k _ () _ g2,#[a,b,c,k _ () _ g3],Cy g4 fun o e=>k _ () o e,Cy g5 fun o e=>k _ () o e,Cy g6 fun o e=>k _ () o e]
 item:=by
  intro X hP hw hK hc i pins s σ H E I hf st hg
  subst hP hw hK
  obtain⟨xs,ys,zs,x,y,t,q1,q2,q3,hx,hy,ht⟩:=hg
  obtain⟨its1,rv1,src1⟩:=DV I q1
  obtain⟨its2,rv2,src2⟩:=DV I q2
  obtain⟨its3,rv3,src3⟩:=DV I q3
  obtain⟨u,hu,ru⟩:=rv1.get hx
  obtain⟨v,hv,rv⟩:=rv2.get hy
  obtain⟨v',hv',rv'⟩:=rv3.get ht
  obtain⟨g1,g2,⟨a,b,c,g3⟩,g4,g5,g6⟩:=st
  have hd:=I.ok.hd hc
  have hf':∀b:Nat,n<=b/\b<=n+5->_:=fun b hb=>hf b (ER.mpr hb)
  have ty:s.TypeIs (.ref (n+5:Nat)) "zip":=#[_,g1,rfl]
  refine wpAny_bind (wpAny_attempt (wpAny_callSpecial?_slot (name:=Str.ofString "__next__") ty qBu (wpAny_call_entry qBu ty qCd ?_ (qB5 _))))
  have hd1:X.A.in1.handled=none:=hd
  refine Ql (A:=X.A.in1) d1 d2 d3 (Jr hd1 false (show l1≠n from ()) its1.toArray) (Jr hd1 true (show l2≠n+1 from ()) its2.toArray) (Jr hd1 true (show l3≠n+2 from ()) its3.toArray) g1 g2 g3 (src1 n i g4) (src2 _ i g5) (src3 _ i g6) (x:=u) (y:=v) (v:=v') (by simpa using hu) (by simpa using hv) (by simpa using hv') fun h1 k1 k2 k3 k4 k5 k6 k7=>?_
  refine wpAny_pure #[_,rfl,wpAny_letOwnedTupleGo_zip (s:={ s with heap:=h1 }) k1 fun h2 m1 m2=>?_]
  have m2':Heap.SameBut (n+5:Nat) h1 h2:=m2
  have lt:∀{b:Addr}{o:Obj},s.heap.get? b=some o->b<s.heap.objs.size:=fun e=>qAj e
  have big:n+5<s.heap.objs.size:=lt g1
  have hn:H s.heap.objs.size=none:=I.hok.fresh (qAf _)
  have old2:∀(b:Nat) o,Li n b->s.heap.get? b=some o->h2.get? b=some o:=fun b o hb y=>(m2'.2 b (show b≠n+5 by unfold Li at hb;omega)).trans (k7 b o hb y)
  have tup2:h2.get? s.heap.objs.size=some { cls:=.type "tuple",data:=.seq (List.toArray [u,v,v']) }:=(m2'.2 _ (show s.heap.objs.size≠n+5 from ())).trans k6
  have out:∀b:Nat,¬(n<=b/\b<=n+5)->Li n b:=fun b hb=>by unfold Li;omega
  have trk:∀{b:Nat}{o:HO},H b=some o->Li n b:=fun {b o} q=>out b fun z=>by
   have:=(hf' b z).1
   rw[this] at q
   cases q
  have hok2:HOk X.prog X.w (upd H s.heap.objs.size (.tup [x,y,t])) h2:=fun b o q=>by
   by_cases hb:b=s.heap.objs.size
   .subst hb
    rw[Ap] at q
    cases q
    exact#[by show 3<=sizeLine;decide,[u,v,v'],.cons ru (.cons rv (.cons rv' .nil)),#[_,tup2,rfl,_,rfl]]
   .rw[Ag hb] at q
    refine(I.hok b o q).stay (hf:=fun c w1 w2 y=>by rw[Ag (Ao y hn)];exact y) (fun c o hc' y=>?_) (fun c y=>by rw[Ag (Ao y hn)];exact y) fun c ys y=>by rw[Ag (Ao y hn)];exact y
    rcases hc' with rfl|hc'
    .exact old2 c o (trk q) y
    .exact old2 c o (trk hc') y
  have nin:∀{b:Nat},b∉fp3 n->Li n b:=fun {b} h=>out b fun z=>h (ER.mpr z)
  have I2:Inv X pins σ (upd H s.heap.objs.size (.tup [x,y,t])) { s with heap:=h2,toks:=s.toks }:=by
   refine I.step (g':=s.gens) (d':=s.drawn) (ch:=fp3 n) (fun b hb=>?_) (fun b o _ _ hb q _=>old2 b o (nin hb) q) (fun b o _ _ hb q _=>#[o.slots,old2 b o (nin hb) q])
    (fun b o _ q n=>by rw[Ag (qAx (qAj q))];exact n) (fun b o hb q=>#[o,old2 b o (nin hb) q])
    (fun b ys y=>by rw[Ag (Ao y hn)];exact y) (fun b o ys y=>by rw[Ag (Ao y hn)];exact y) (fun b ps y=>#[(List.toArray []),by rw[Ag (Ao y hn),y];simp]) (fun m hm=>?_) hok2 I.bare
   .have f:=hf b hb
    exact#[f.2.2.2.1,f.2.1,f.2.2.2.2.1,f.2.2.2.2.2]
   .obtain⟨o,es,ep,ho,r⟩:=hm
    exact#[o,es,ep,old2 _ o (out _ fun z=>(hf' _ z).2.1 rfl) ho,r]
  refine#[.ref s.heap.objs.size,_,I2,rfl,#[_,x,y,t,hn,rfl,fun zs hz=>by rw[Ja I q1 hz];exact hx,fun zs hz=>by rw[Ja I q2 hz];exact hy,fun zs hz=>by rw[Ja I q3 hz];exact ht,rfl],#[m1,?_,#[u,v,v',?_],?_,?_,?_],fun b hb=>?_]
  .exact old2 _ _ (by unfold Li;omega) g2
  .exact(m2'.2 _ (show n+4≠n+5 from ())).trans k2
  .exact Cy (Ld k3) fun o e=>(m2'.2 _ (show n≠n+5 from ())).trans e
  .exact Cy (Ld k4) fun o e=>(m2'.2 _ (show n+1≠n+5 from ())).trans e
  .exact Cy (Ld k5) fun o e=>(m2'.2 _ (show n+2≠n+5 from ())).trans e
  .have hb':=ER.mp hb
   rw[Ag (qAx (Nat.lt_of_le_of_lt hb'.2 big))]
   exact(hf b hb).1
 done:=by
  intro X hP hw hK hc i pins s σ H E I hf st hg
  subst hP hw hK
  obtain⟨xs,ys,zs,q1,q2,q3,he⟩:=hg
  obtain⟨its1,rv1,src1⟩:=DV I q1
  obtain⟨its2,rv2,src2⟩:=DV I q2
  obtain⟨its3,rv3,src3⟩:=DV I q3
  obtain⟨g1,g2,⟨a,b,c,g3⟩,g4,g5,g6⟩:=st
  have hd:=I.ok.hd hc
  have hf':∀b:Nat,n<=b/\b<=n+5->_:=fun b hb=>hf b (ER.mpr hb)
  have ty:s.TypeIs (.ref (n+5:Nat)) "zip":=#[_,g1,rfl]
  refine wpAny_bind (wpAny_attempt (wpAny_callSpecial?_slot (name:=Str.ofString "__next__") ty qBu (wpAny_call_entry qBu ty qCd ?_ (qB5 _))))
  have hd1:X.A.in1.handled=none:=hd
  refine QF (A:=X.A.in1) hd1 d1 d2 d3 (Jr hd1 false (show l1≠n from ()) its1.toArray) (Jr hd1 true (show l2≠n+1 from ()) its2.toArray) (Jr hd1 true (show l3≠n+2 from ()) its3.toArray) g1 g2 g3 (src1 n i g4) (src2 _ i g5) (src3 _ i g6) ?_ fun h' e kp hs=>?_
  .have e1:=rv1.length
   have e2:=rv2.length
   have e3:=rv3.length
   simp only[qBC,qAO]
   omega
  .obtain⟨o,z1,z2⟩:=hs
   refine wpAny_bind (wpAny_isInstance (T:="StopIteration") (b:=true) #[o,z1,z2] isSubtype_stop (wpAny_pure #[rfl,?_]))
   have out:∀b:Nat,¬(n<=b/\b<=n+5)->Li n b:=fun b hb=>by unfold Li;omega
   have nin:∀{b:Nat},b∉fp3 n->Li n b:=fun {b} h=>out b fun z=>h (ER.mpr z)
   have trk:∀{b:Nat}{o:HO},H b=some o->Li n b:=fun {b o} q=>out b fun z=>by
    have:=(hf' b z).1
    rw[this] at q
    cases q
   have hok2:HOk X.prog X.w H h':=fun b o q=>by
    refine(I.hok b o q).stay (fun c o hc' y=>kp c o ?_ y) (fun _ y=>y) fun _ _ y=>y
    rcases hc' with rfl|hc'
    .exact trk q
    .exact trk hc'
   refine I.step (t':=s.toks) (g':=s.gens) (d':=s.drawn) (ch:=fp3 n) (fun b hb=>?_) (fun b o _ _ hb q _=>kp b o (nin hb) q) (fun b o _ _ hb q _=>#[o.slots,kp b o (nin hb) q]) (fun b o _ q n=>n) (fun b o hb q=>#[o,kp b o (nin hb) q])
    (fun b ys y=>y) (fun b o ys y=>y) (fun b ps y=>#[(List.toArray []),by rw[y];simp]) (fun m hm=>?_) hok2 I.bare
   .have f:=hf b hb
    exact#[f.2.2.2.1,f.2.1,f.2.2.2.2.1,f.2.2.2.2.2]
   .obtain⟨o,es,ep,ho,r⟩:=hm
    exact#[o,es,ep,kp _ o (out _ fun z=>(hf' _ z).2.1 rfl) ho,r]
 self:=fun A i s Q E st h=>wpAny_pyIter_zip st.1 h
section
variable {X:Cx}{pos:Pos}
def Vx (K:W.Frag)(ta:TA):TI:=fun σ H R=>ta σ H fun vs H1=>∃a1 a2 a3,vs=[.ref a1,.ref a2,.ref a3]/\(∃xs,SqL K H1 a1 xs)/\(∃ys,SqT K H1 a2 ys)/\(∃zs,SqT K H1 a3 zs)/\R (YF K a1 a2 a3) H1
theorem Ub {e1 e2 e3:Expr}{elts:List Expr}{x1:Nat}{tpos p:Pos}{ta:TA}(hg:Gl X "zip") (hm:X.mg "zip"=none) (ha:PA X [e1,e2,e3] ta) (hs:starEach [e1,e2,e3] X.env=[(false,eval e1 X.env),(false,eval e2 X.env),(false,eval e3 X.env)]:=by rfl) (hs2:starEach [e2,e3] X.env=[(false,eval e2 X.env),(false,eval e3 X.env)]:=by rfl) :
 PI X (.Tuple elts x1 tpos) (.Call (.Name "zip" p) [e1,e2,e3] [] pos) (Vx X.K ta):=by
 intro pins s σ H R I h
 refine Call_ (HE I hg hm qCR (qBe (thn (ha pos pins s σ H _ I h) fun us s1 #[vs,H1,I1,r1,q1]=>?_) (by rw[hs,hs2]) (by rw[hs2];rfl)))
 obtain⟨a1,a2,a3,e,⟨xs,h1⟩,⟨ys,h2⟩,⟨zs,h3⟩,q⟩:=q1
 subst e
 cases r1 with
 |cons r rr =>
  cases rr with
  |cons r' rr =>
   cases rr with
   |cons r'' rr =>
    cases rr
    cases r
    cases r'
    cases r''
    obtain⟨its1,rv1,p1,hz1⟩:=I1.list h1
    obtain⟨its2,rv2,p2,hz2⟩:=I1.tuple h2
    obtain⟨its3,rv3,p3,hz3⟩:=I1.tuple h3
    have t2:s1.heap.IsTuple a2 its2.toArray:=p2
    have t3:s1.heap.IsTuple a3 its3.toArray:=p3
    have n1:a1<s1.heap.objs.size:=by obtain⟨o,e,_⟩:=p1.isList;exact qAj e
    have n2:a2<s1.heap.objs.size:=by obtain⟨o,e,_⟩:=id t2;exact qAj e
    have n3:a3<s1.heap.objs.size:=by obtain⟨o,e,_⟩:=id t3;exact qAj e
    refine Pg p1.isList t2 t3 rfl fun h' g1 g2 g3 g4 g5 g6 old=>?_
    have I2:Inv X pins σ H1 { s1 with heap:=h' }:=I1.kept (t':=s1.toks) old
    refine wpAny_pyIter_zip (s:={ s1 with heap:=h' }) g1 ?_
    refine#[(s1.heap.objs.size+5:Nat),_,_,_,H1,rfl,I2,O4 n1 n2 n3,#[g1,g2,#[_,_,_,g3],g4,g5,g6],fun c hc=>?_,q]
    have ge:s1.heap.objs.size<=c:=(ER.mp hc).1
    exact I1.fpOk ge (I1.hok.fresh ge)
def Wh (i1 i2 i3:Nat)(xs ys zs:List D)(tb:TS3)(D3:Ka)(τ0:Tau):Prop:=∃I:Nat->Tau->Prop,I 0 τ0 /\
 (∀n τ x y z,xs[n]? = some x->ys[n]? = some y->zs[n]? = some z->I n τ->tb { D3 with nx:=I (n+1),ct:=I (n+1),bk:=D3.nx } (((τ.set i1 (some (.d x))).set i2 (some (.d y))).set i3 (some (.d z))))/\∀τ,I (min xs.length (min ys.length zs.length)) τ->D3.nx τ
def Wd (i1 i2 i3:Nat)(t1 t2 t3:TE3)(tb:TS3):TS3:=fun D3 τ=>t1 τ fun s1=>∃xs,s1=.l xs/\t2 τ fun s2=>∃ys,s2=.d (.tup ys)/\t3 τ fun s3=>∃zs,s3=.d (.tup zs)/\Wh i1 i2 i3 xs ys zs tb D3 τ
theorem U5 {i1 i2 i3:Nat}{x1 x2 x3:Str}{p1 p2 p3 pt pn pc:Pos}{kt:Nat}{body:List Stmt}{tb:TS3}{e1 e2 e3:Expr}{t1 t2 t3:TE3}
 (h:PS X (.For (.Tuple [.Name x1 p1,.Name x2 p2,.Name x3 p3] kt pt) (.Call (.Name "zip" pn) [e1,e2,e3] [] pc) body [] pos) (TC (Vx X.K (Ob (FE X t1) (Ob (FE X t2) (Ob (FE X t3) Xj)))) (W7 X.K 3 (Lx (Ey i1) (Lx (Ey i2) (Lx (Ey i3) Xf)))) (FS X tb))) (hp1:Em X i1:=by first|exact Ed rfl|exact Ea rfl ∅|assumption) (hp2:Em X i2:=by first|exact Ed rfl|exact Ea rfl ∅|assumption) (hp3:Em X i3:=by first|exact Ed rfl|exact Ea rfl ∅|assumption) :
 PS3 X (.For (.Tuple [.Name x1 p1,.Name x2 p2,.Name x3 p3] kt pt) (.Call (.Name "zip" pn) [e1,e2,e3] [] pc) body [] pos) (Wd i1 i2 i3 t1 t2 t3 tb):=#[CS h fun D2 σ H hh=>by
 obtain⟨B,z,τ,D3,r,ht,c⟩:=hh
 refine#[B,z,τ,_,r,ht,fun s v q1 e1 j1 f1 h1=>?_]
 obtain⟨xs,rfl,h1⟩:=h1
 have r1:=r.mono e1
 refine#[B,q1.z,τ,_,r1,h1,fun s v2 q2 e2 j2 f2 h2=>?_]
 obtain⟨ys,rfl,h2⟩:=h2
 have r2:=r1.mono e2
 refine#[B,q2.z,τ,_,r2,h2,fun s v3 q3 e3 j3 f3 h3=>?_]
 obtain⟨zs,rfl,h3⟩:=h3
 have r3:=r2.mono e3
 obtain⟨a1,vs1,rfl,k1,iv1⟩:=j1
 obtain⟨a2,vs2,rfl,k2,iv2⟩:=Is.tup_inv j2
 obtain⟨a3,vs3,rfl,k3,iv3⟩:=Is.tup_inv j3
 obtain⟨I,i0,turn,out⟩:=h3
 have k1':q3.h a1=some (.lst vs1):=e3.hh _ _ (e2.hh _ _ k1)
 have k2':SqT X.K q3.z a2 vs2:=SqT.same e3.zz k2
 have iv1':Iss X.K q3.z vs1 xs:=(iv1.mono e2.zz).mono e3.zz
 have iv2':Iss X.K q3.z vs2 ys:=iv2.mono e3.zz
 have hno:∀(m:Nat)(ys:List D),τ[m]? = some (some (S.l ys))->σ[m]?≠some (some (V.ref a1)):=fun m ys hm hσ=>by
  obtain⟨ws,hw,_⟩:=r.own_list hm hσ
  have:=(f1 xs a1 rfl rfl).1
  rw[hw] at this
  cases this
 have hB:SqL X.K (K2 τ σ q3.h) a1 vs1:=.inl (.inl (by rw[Gp hno];exact k1'))
 have l1:=iv1'.1
 have l2:=iv2'.1
 have l3:=iv3.1
 refine#[a1,a2,a3,rfl,#[vs1,SqL.of k1'],#[vs2,SqT.same r3.ext.sub k2'],#[vs3,SqT.same r3.ext.sub k3],fun n m σ1 H1=>m=min vs1.length (min vs2.length vs3.length)-n/\n<=min vs1.length (min vs2.length vs3.length)/\∃z1 τ1,Rep X #[K2 τ σ q3.h,q3.z] τ1 σ1 #[H1,z1]/\I n τ1,#[_,rfl,qA7 _,q3.z,_,r3.inB,i0],?_]
 rintro n m σ1 H1 ⟨rfl,hn,z1,τ1,r4,ih1⟩
 have q1:SqB X.K false H1 a1 vs1:=r4.ext.hh.seq hB
 have q2:SqB X.K true H1 a2 vs2:=SqT.same (r4.ext.zz.trans r4.ext.sub) k2'
 have q3':SqB X.K true H1 a3 vs3:=SqT.same (r4.ext.zz.trans r4.ext.sub) k3
 by_cases hlt:n<min vs1.length (min vs2.length vs3.length)
 .have b1:n<vs1.length:=()
  have b2:n<vs2.length:=()
  have b3:n<vs3.length:=()
  refine .inr #[#[vs1,vs2,vs3,vs1[n],vs2[n],vs3[n],q1,q2,q3',by simp[b1],by simp[b2],by simp[b3]],fun σ' H'=>∃z' τ',Rep X #[K2 τ σ q3.h,q3.z] τ' σ' #[H',z']/\I (n+1) τ',fun σ' H' p'=>#[min vs1.length (min vs2.length vs3.length)-(n+1),(),rfl,hlt,p'],fun x H' y=>?_]
  obtain⟨p,w1,w2,w3,hp,rfl,y1,y2,y3,rfl⟩:=y
  obtain⟨d1,g1,id1⟩:=CN iv1' (y1 vs1 q1)
  obtain⟨d2,g2,id2⟩:=CN iv2' (y2 vs2 q2)
  obtain⟨d3,g3,id3⟩:=CN iv3 (y3 vs3 q3')
  have e1:Ext #[H1,z1] #[upd H1 p (.tup [w1,w2,w3]),z1]:=Ext.own r4.ext.sub hp _
  have r5:=r4.mono e1
  refine#[p,[w1,w2,w3],rfl,.inl (.inl Ap),rfl,w1,[w2,w3],rfl,w2,[w3],rfl,w3,[],rfl,rfl,?_]
  exact#[_,_,_,_,((r5.setd (i:=i1) (id1.mono r4.ext.zz) hp1).setd (i:=i2) (id2.mono r4.ext.zz) hp2).setd (i:=i3) (id3.mono r4.ext.zz) hp3,turn n τ1 d1 d2 d3 g1 g2 g3 ih1,c.inB r3.leB fun τ' σ' p' r' h'=>#[p'.z,τ',r',h']]
 .have e:n=min vs1.length (min vs2.length vs3.length):=()
  subst e
  refine .inl #[#[vs1,vs2,vs3,q1,q2,q3',()],c.nx _ _ _ (r4.outB r3.leB) (out τ1 ?_)]
  rw[<-l1,<-l2,<-l3]
  exact ih1]
end
def XA (te:TE3):TT3:=fun τ R=>te τ fun s=>∃xs,s=.l xs/\R (!xs.isEmpty)
theorem Tb {X:Cx}{e:Expr}{te:TE3}(h:PE3 X e te) (he:∀whole,isTrue e X.env whole=(do let v <-whole;standAt e.pos;holding [v] (truthy v)):=by intro _;rfl):PT3 X e (XA te):=#[Lh (Nv h.out he) fun σ H Q hh=>by
 obtain⟨B,z,τ,R,r,ht,q⟩:=hh
 refine#[B,z,τ,_,r,ht,fun s v q1 e1 i1 f1 h1=>?_]
 obtain⟨xs,rfl,h1⟩:=h1
 obtain⟨a,vs,rfl,h3,h4⟩:=i1
 exact#[!vs.isEmpty,.inl #[vs,SqL.of h3,rfl],q _ q1 e1 (by rw[Ik h4];exact h1)]]
end L3
namespace CH
open PySem L2 L3
def XG (fc:Cs)(fm:Rat)(gc:Cs)(gm:Rat)(t s:Rat):Prop:=s=0\/s=t\/(∃k,0<k/\k<fc.length/\tt fc k=s/\slp fc fm (k-1)<slp fc fm k)\/∃k,0<k/\k<gc.length/\tt gc k=t-s/\slp gc gm (k-1)<slp gc gm k
theorem Rh {fc gc:Cs}{fm gm:Rat}(of:Ord fc) (og:Ord gc){t:Rat}(t0:0<=t):∃s,(0<=s/\s<=t)/\XG fc fm gc gm t s/\∀r,0<=r->r<=t->val fc fm s+val gc gm (t-s)<=val fc fm r+val gc gm (t-r):=by
 obtain⟨F,hF⟩:∃F:List Rat,F=(0:Rat)::t::(((List.range fc.length).map (tt fc)).filter (fun x=>decide (x<=t))++((List.range gc.length).map fun k=>t-tt gc k).filter fun x=>decide (0<=x)):=#[_,rfl]
 have f0:(0:Rat)∈F:=by rw[hF];exact qAl.mpr (.inl rfl)
 have fT:t∈F:=by rw[hF];exact qAl.mpr (.inr (qAl.mpr (.inl rfl)))
 have ff:∀k,k<fc.length->tt fc k<=t->tt fc k∈F:=fun k hk h=>by
  rw[hF]
  exact qAl.mpr (.inr (qAl.mpr (.inr (qAr.mpr (.inl (qA0.mpr #[qAM.mpr #[k,qAJ.mpr hk,rfl],decide_eq_true h]))))))
 have fg:∀k,k<gc.length->tt gc k<=t->t-tt gc k∈F:=fun k hk h=>by
  rw[hF]
  exact qAl.mpr (.inr (qAl.mpr (.inr (qAr.mpr (.inr (qA0.mpr #[qAM.mpr #[k,qAJ.mpr hk,rfl],decide_eq_true ⋯]))))))
 have nn:∀x∈F,0<=x/\x<=t:=fun x hx=>by
  rw[hF] at hx
  rcases qAl.mp hx with rfl|hx
  .exact#[qAd,t0]
  rcases qAl.mp hx with rfl|hx
  .exact#[t0,qAd]
  rcases qAr.mp hx with hx|hx
  .obtain⟨h1,h2⟩:=qA0.mp hx
   obtain⟨k,hk,rfl⟩:=qAM.mp h1
   have:=AK of.up (i:=0) (j:=k) () (qAJ.mp hk)
   rw[of.t0] at this
   exact#[this,of_decide_eq_true h2]
  .obtain⟨h1,h2⟩:=qA0.mp hx
   obtain⟨k,hk,rfl⟩:=qAM.mp h1
   have:=AK og.up (i:=0) (j:=k) () (qAJ.mp hk)
   rw[og.t0] at this
   exact#[of_decide_eq_true h2,⋯]
 clear hF
 obtain⟨w,hw⟩:∃w:Rat->Rat,w=fun s=>val fc fm s+val gc gm (t-s):=#[_,rfl]
 have we:∀s,w s=val fc fm s+val gc gm (t-s):=fun s=>by rw[hw]
 have amid:∀p n,p∈F->n∈F->(∀x∈F,x<=p\/n<=x)->∀x,p<=x->x<=n->w x=w p+(sat fc fm p-sat gc gm (t-n))*(x-p):=fun p n hp hn h x x1 x2=>by
  have p0:=nn p hp
  have n0:=nn n hn
  have e1:=LG (m:=fm) of (a:=p) (b:=n) (x:=x) p0.1 (fun k hk=>by
   by_cases c:tt fc k<=t
   .exact h _ (ff k hk c)
   .right;grind) x1 x2
  have hg:∀k,k<gc.length->tt gc k<=t-n\/t-p<=tt gc k:=fun k hk=>by
   by_cases c:tt gc k<=t
   .rcases h _ (fg k hk c) with y|y
    .right;grind
    .left;grind
   .right;grind
  have e2:=LG (m:=gm) og (a:=t-n) (b:=t-p) (x:=t-x) ⋯ hg ⋯ ⋯
  have e3:=LG (m:=gm) og (a:=t-n) (b:=t-p) (x:=t-p) ⋯ hg ⋯ ⋯
  rw[we,we,e1,e2,e3]
  grind
 obtain⟨y0,hy0,_,my0⟩:=Ji (fun x=>-w x) (fun _=>True) F #[0,f0,trivial]
 obtain⟨y,hy,py,my⟩:=Ji (fun x=>-x) (fun x=>w x=w y0) F #[y0,hy0,rfl]
 have best:∀x∈F,w y<=w x:=fun x hx=>by
  have:=my0 x hx trivial
  rw[py]
  grind
 have first:∀x∈F,x<y->w y<w x:=fun x hx lt=>by
  refine qA3.mp fun z=>?_
  have b:=best x hx
  have:=my x hx (by rw[<-py];grind)
  grind
 have next:∀v,v<t->∃n∈F,v<n/\∀x∈F,x<=v\/n<=x:=fun v lv=>by
  obtain⟨n,hn,pn,mn'⟩:=Ji (fun x=>-x) (fun x=>v<x) F #[t,fT,lv]
  refine#[n,hn,pn,fun x hx=>?_]
  by_cases d:v<x
  .right
   have:=mn' x hx d
   grind
  .left;grind
 refine#[y,nn y hy,?_,fun v v0 vt=>?_]
 .by_cases c:y=0
  .exact .inl c
  right
  by_cases c2:y=t
  .exact .inl c2
  right
  have yy:=nn y hy
  have y0':0<y:=⋯
  have yt:y<t:=⋯
  obtain⟨p,hp,lp,mp'⟩:=Ji (fun x=>x) (fun x=>x<y) F #[0,f0,y0']
  have gapF:∀x∈F,x<=p\/y<=x:=fun x hx=>by
   by_cases d:x<y
   .left;exact mp' x hx d
   .right;grind
  have a:=amid p y hp hy gapF y (qAk lp) qAd
  have f1:=first p hp lp
  have s1:sat fc fm p-sat gc gm (t-y)<0:=by
   refine qA3.mp fun z=>?_
   have:0<=(sat fc fm p-sat gc gm (t-y))*(y-p):=qAi z ⋯
   grind
  obtain⟨n,hn,ln,gn⟩:=next y yt
  have s2:0<=sat fc fm y-sat gc gm (t-n):=by
   have a2:=amid y n hy hn gn n (qAk ln) qAd
   have b:=best n hn
   refine qAz.mp fun z=>?_
   have:=qBj (show 0 < -(sat fc fm y-sat gc gm (t-n)) from ⋯) (show 0<n-y from ⋯)
   grind
  have p0:=nn p hp
  have n0:=nn n hn
  by_cases d:sat fc fm p<sat fc fm y
  .left
   obtain⟨k,k0,kl,e,e1,e2⟩:=KP (m:=fm) of p0.1 lp (fun k hk=>by
    by_cases c:tt fc k<=t
    .exact gapF _ (ff k hk c)
    .right;grind) ⋯
   exact#[k,k0,kl,e,by rw[e1,e2];exact d]
  .right
   obtain⟨k,k0,kl,e,e1,e2⟩:=KP (m:=gm) og (a:=t-n) (c:=t-y) ⋯ ⋯ (fun k hk=>by
    by_cases c:tt gc k<=t
    .rcases gn _ (fg k hk c) with z|z
     .right;grind
     .left;grind
    .right;grind) ⋯
   exact#[k,k0,kl,e,by rw[e1,e2];grind]
 .rw[<-we,<-we]
  by_cases vt':v=t
  .rw[vt'];exact best t fT
  obtain⟨p,hp,lp,mp'⟩:=Ji (fun x=>x) (fun x=>x<=v) F #[0,f0,v0]
  obtain⟨n,hn,ln,gn⟩:=next v ⋯
  have gF:∀x∈F,x<=p\/n<=x:=fun x hx=>by
   rcases gn x hx with z|z
   .left;exact mp' x hx z
   .right;exact z
  have e1:=amid p n hp hn gF v lp (qAk ln)
  have e2:=amid p n hp hn gF n ⋯ qAd
  have b1:=best p hp
  have b2:=best n hn
  rcases Rat.le_total (a:=sat fc fm p-sat gc gm (t-n)) (b:=0) with z|z
  .have:0<=(-(sat fc fm p-sat gc gm (t-n)))*(n-v):=qAi ⋯ ⋯
   grind
  .have:0<=(sat fc fm p-sat gc gm (t-n))*(v-p):=qAi z ⋯
   grind
def IsJ (fc:Cs)(fm:Rat)(gc:Cs)(gm:Rat)(t v:Rat):Prop :=
 (v<=val fc fm t/\v<=val gc gm t/\∀s,0<=s->s<=t->v<=val fc fm s+val gc gm (t-s))/\(v=val fc fm t\/v=val gc gm t\/∃s,0<=s/\s<=t/\v=val fc fm s+val gc gm (t-s))
theorem IsJ.uniq {fc gc:Cs}{fm gm t v w:Rat}(a:IsJ fc fm gc gm t v) (b:IsJ fc fm gc gm t w):v=w:=by
 obtain⟨⟨a1,a2,a3⟩,a4⟩:=a
 obtain⟨⟨b1,b2,b3⟩,b4⟩:=b
 refine qCn ?_ ?_
 .rcases b4 with e|e|⟨s,s0,s1,e⟩
  .rw[e];exact a1
  .rw[e];exact a2
  .rw[e];exact a3 s s0 s1
 .rcases a4 with e|e|⟨s,s0,s1,e⟩
  .rw[e];exact b1
  .rw[e];exact b2
  .rw[e];exact b3 s s0 s1
theorem WH {fc gc:Cs}{fm gm:Rat}(of:Ord fc) (og:Ord gc){t v:Rat}(t0:0<=t) (hf:v<=val fc fm t) (hg:v<=val gc gm t)
 (h1:∀k,0<k->k<fc.length->slp fc fm (k-1)<slp fc fm k->tt fc k<=t->v<=vv fc k+val gc gm (t-tt fc k))
 (h2:∀k,0<k->k<gc.length->slp gc gm (k-1)<slp gc gm k->tt gc k<=t->v<=vv gc k+val fc fm (t-tt gc k))
 (at_:v=val fc fm t\/v=val gc gm t\/∃s,0<=s/\s<=t/\v=val fc fm s+val gc gm (t-s)):IsJ fc fm gc gm t v:=by
 refine#[#[hf,hg,fun r r0 r1=>?_],at_]
 obtain⟨s,⟨s0,s1⟩,cw,best⟩:=Rh (fm:=fm) (gm:=gm) of og t0
 refine qAm ?_ (best r r0 r1)
 rcases cw with rfl|rfl|⟨k,k0,kl,e,z⟩|⟨k,k0,kl,e,z⟩
 .have:=of.v0
  rw[<-BZ (m:=fm) of] at this
  rw[show t-0=t from ⋯]
  grind
 .have:=og.v0
  rw[<-BZ (m:=gm) og] at this
  rw[show s-s=0 from ⋯]
  grind
 .have:=h1 k k0 kl z (by rw[e];exact s1)
  rw[<-A7 (m:=fm) of kl,e] at this
  exact this
 .have:=h2 k k0 kl z (by rw[e];grind)
  rw[<-A7 (m:=gm) og kl,e,show t-(t-s)=s from ⋯] at this
  grind
def Cvx (cs:Cs)(m:Rat):Prop:=∀k,k+1<cs.length->slp cs m k<=slp cs m (k+1)
section
variable {cs:Cs}{m σ:Rat}
theorem Cvx.mono (h:Cvx cs m){i:Nat}:∀{j:Nat},i<=j->j<cs.length->slp cs m i<=slp cs m j
 |0,ij,_=>by
  have:i=0:=()
  subst this
  exact qAd
 |j+1,ij,hj=>by
  by_cases e:i=j+1
  .subst e;exact qAd
  .exact qAm (Cvx.mono h (show i<=j from ()) ()) (h j hj)
theorem SQ (h:flI cs m=[]):Cvx cs m:=fun k hk=>by
 refine qAz.mp fun z=>?_
 have:k+1∈flI cs m:=Kq.mpr #[hk,(),z]
 rw[h] at this
 cases this
structure Sub (cs:Cs)(m:Rat)(j:Nat)(σ:Rat):Prop where
 lt:j<cs.length
 be:∀k,k<j->slp cs m k<=σ
 ah:∀k,j<=k->k<cs.length->σ<=slp cs m k
theorem Sub.up_c (u:Up cs)(h:Sub cs m j σ):∀d,j+d<cs.length->vv cs j+σ*(tt cs (j+d)-tt cs j)<=vv cs (j+d)
 |0,_=>by
  show vv cs j+σ*(tt cs j-tt cs j)<=vv cs j
  grind
 |d+1,hd=>by
  have ih:=Sub.up_c u h d ()
  have e:=CW (m:=m) u (k:=j+d) hd
  have s:=h.ah (j+d) () ()
  have t:=u (j+d) hd
  have p:0<=(slp cs m (j+d)-σ)*(tt cs (j+d+1)-tt cs (j+d)):=qAi ⋯ ⋯
  show vv cs j+σ*(tt cs (j+d+1)-tt cs j)<=vv cs (j+d+1)
  rw[e]
  grind
theorem Sub.dn_c (u:Up cs)(h:Sub cs m j σ):∀d,d<=j->vv cs j+σ*(tt cs (j-d)-tt cs j)<=vv cs (j-d)
 |0,_=>by
  show vv cs j+σ*(tt cs j-tt cs j)<=vv cs j
  grind
 |d+1,hd=>by
  have ih:=Sub.dn_c u h d ()
  have jl:=h.lt
  have ej:j-(d+1)+1=j-d:=()
  have e:=CW (m:=m) u (k:=j-(d+1)) ()
  have s:=h.be (j-(d+1)) ()
  have t:=u (j-(d+1)) ()
  rw[ej] at e t
  have p:0<=(σ-slp cs m (j-(d+1)))*(tt cs (j-d)-tt cs (j-(d+1))):=qAi ⋯ ⋯
  grind
theorem Sub.at_c (u:Up cs)(h:Sub cs m j σ){k:Nat}(hk:k<cs.length):vv cs j+σ*(tt cs k-tt cs j)<=vv cs k:=by
 by_cases c:j<=k
 .have:=h.up_c u (k-j) ()
  rw[show j+(k-j)=k from ()] at this
  exact this
 .have:=h.dn_c u (j-k) ()
  rw[show j-(j-k)=k from ()] at this
  exact this
theorem Sub.val (o:Ord cs)(h:Sub cs m j σ){x:Rat}(x0:0<=x):vv cs j+σ*(x-tt cs j)<=val cs m x:=by
 obtain⟨kl,k1,k2⟩:=Eb o x0
 have e:CH.val cs m x=vv cs (plc cs x cs.length)+slp cs m (plc cs x cs.length)*(x-tt cs (plc cs x cs.length)):=rfl
 rw[e]
 clear e
 generalize plc cs x cs.length=k at *
 by_cases c:j<=k
 .have a:=h.at_c o.up kl
  have s:=h.ah k c kl
  have p:0<=(slp cs m k-σ)*(x-tt cs k):=qAi ⋯ ⋯
  grind
 .have jl:=h.lt
  have a:=h.at_c o.up (k:=k+1) ()
  have s:=h.be k ()
  have e:=CW (m:=m) o.up (k:=k) ()
  have t:=k2 ()
  have p:0<=(σ-slp cs m k)*(tt cs (k+1)-x):=qAi ⋯ ⋯
  grind
theorem LP (o:Ord cs){i:Nat}(il:i<cs.length) (h:∀k,i<=k->k<cs.length->slp cs m k=σ){x:Rat}(hx:tt cs i<=x):val cs m x=vv cs i+σ*(x-tt cs i):=by
 have c:∀d,i+d<cs.length->vv cs (i+d)=vv cs i+σ*(tt cs (i+d)-tt cs i):=fun d=>by
  induction d with
  |zero=>intro _;show vv cs i=vv cs i+σ*(tt cs i-tt cs i);grind
  |succ d ih =>
   intro hd
   have e:=CW (m:=m) o.up (k:=i+d) hd
   have ih:=ih ()
   rw[h (i+d) () ()] at e
   show vv cs (i+d+1)=_+σ*(tt cs (i+d+1)-_)
   grind
 have x0:0<=x:=qAm (Bo o il) hx
 obtain⟨kl,k1,k2⟩:=Eb o x0
 have ik:i<=plc cs x cs.length:=by
  refine qCB fun z=>?_
  have t:=k2 ()
  have:=AK o.up (i:=plc cs x cs.length+1) (j:=i) () il
  grind
 have e:CH.val cs m x=vv cs (plc cs x cs.length)+slp cs m (plc cs x cs.length)*(x-tt cs (plc cs x cs.length)):=rfl
 rw[e]
 clear e
 generalize plc cs x cs.length=k at *
 have ck:=c (k-i) ()
 rw[show i+(k-i)=k from ()] at ck
 rw[h k ik kl,ck]
 grind
end
def wI (W:List (Nat×Nat))(n:Nat):Nat:=(W.getD n (0,0)).1
def wJ (W:List (Nat×Nat))(n:Nat):Nat:=(W.getD n (0,0)).2
def mcs (fc gc:Cs)(W:List (Nat×Nat)):Cs:=W.map fun w=>(tt fc w.1+tt gc w.2,vv fc w.1+vv gc w.2)
theorem DS {fc gc:Cs}{W:List (Nat×Nat)}:(mcs fc gc W).length=W.length:=qAa _
theorem BE {fc gc:Cs}{W:List (Nat×Nat)}{n:Nat}(h:n<W.length):tt (mcs fc gc W) n=tt fc (wI W n)+tt gc (wJ W n)/\vv (mcs fc gc W) n=vv fc (wI W n)+vv gc (wJ W n):=by
 have hl:n<(mcs fc gc W).length:=by rw[DS];exact h
 have e:(mcs fc gc W)[n]? = some (tt fc (wI W n)+tt gc (wJ W n),vv fc (wI W n)+vv gc (wJ W n)):=by
  unfold mcs wI wJ
  rw[qAc,qAb h,qAg,qAb h]
  rfl
 rw[qAb hl] at e
 have e:=qAn e
 rw[(Bm hl).1,(Bm hl).2,e]
 exact#[rfl,rfl]
structure Q7 (fc:Cs)(fm:Rat)(gc:Cs)(gm last:Rat)(W:List (Nat×Nat)):Prop where
 ne:0<W.length
 z0:wI W 0=0/\wJ W 0=0
 st:∀n,n+1<W.length->∃σ,Sub fc fm (wI W n) σ/\Sub gc gm (wJ W n) σ/\((wI W (n+1)=wI W n+1/\wJ W (n+1)=wJ W n/\wI W n+1<fc.length/\σ=slp fc fm (wI W n))\/(wI W (n+1)=wI W n/\wJ W (n+1)=wJ W n+1/\wJ W n+1<gc.length/\σ=slp gc gm (wJ W n)))
 en:Sub fc fm (wI W (W.length-1)) last/\Sub gc gm (wJ W (W.length-1)) last
section
variable {fc gc:Cs}{fm gm last:Rat}{W:List (Nat×Nat)}
theorem Q7.ord (h:Q7 fc fm gc gm last W)(of:Ord fc)(og:Ord gc):Ord (mcs fc gc W):=by
 refine#[by rw[DS];exact h.ne,?_,?_,fun n hn=>?_,fun n hn=>?_]
 .rw[(BE h.ne).1,h.z0.1,h.z0.2,of.t0,og.t0];grind
 .rw[(BE h.ne).2,h.z0.1,h.z0.2]
  have:=of.v0
  have:=og.v0
  grind
 .rw[DS] at hn
  rw[(BE hn).1,(BE (show n<W.length from ())).1]
  obtain⟨σ,_,_,⟨e1,e2,l,_⟩|⟨e1,e2,l,_⟩⟩:=h.st n hn
  .rw[e1,e2];have:=of.up _ l;grind
  .rw[e1,e2];have:=og.up _ l;grind
 .rw[DS] at hn
  rw[(BE hn).2,(BE (show n<W.length from ())).2]
  obtain⟨σ,_,_,⟨e1,e2,l,_⟩|⟨e1,e2,l,_⟩⟩:=h.st n hn
  .rw[e1,e2];have:=of.vu _ l;grind
  .rw[e1,e2];have:=og.vu _ l;grind
theorem Q7.slp (h:Q7 fc fm gc gm last W)(of:Ord fc)(og:Ord gc){n:Nat}(hn:n+1<W.length):∃σ,CH.slp (mcs fc gc W) last n=σ/\Sub fc fm (wI W n) σ/\Sub gc gm (wJ W n) σ/\((wI W (n+1)=wI W n+1/\wJ W (n+1)=wJ W n/\wI W n+1<fc.length/\σ=CH.slp fc fm (wI W n))\/(wI W (n+1)=wI W n/\wJ W (n+1)=wJ W n+1/\wJ W n+1<gc.length/\σ=CH.slp gc gm (wJ W n))):=by
 obtain⟨σ,s1,s2,c⟩:=h.st n hn
 refine#[σ,?_,s1,s2,c]
 rw[B7 (by rw[DS];exact hn),(BE hn).1,(BE hn).2,(BE (show n<W.length from ())).1,(BE (show n<W.length from ())).2]
 rcases c with⟨e1,e2,l,e⟩|⟨e1,e2,l,e⟩
 .rw[e1,e2,e,B7 l]
  have:∀a b c d x y:Rat,(a+x-(b+x))/(c+y-(d+y))=(a-b)/(c-d):=fun a b c d x y=>by rw[show a+x-(b+x)=a-b from ⋯,show c+y-(d+y)=c-d from ⋯]
  exact this _ _ _ _ _ _
 .rw[e1,e2,e,B7 l]
  have:∀a b c d x y:Rat,(x+a-(x+b))/(y+c-(y+d))=(a-b)/(c-d):=fun a b c d x y=>by rw[show x+a-(x+b)=a-b from ⋯,show y+c-(y+d)=c-d from ⋯]
  exact this _ _ _ _ _ _
theorem Q7.val (h:Q7 fc fm gc gm last W)(of:Ord fc)(og:Ord gc)(cf:Cvx fc fm)(cg:Cvx gc gm)(hl:last=fm\/last=gm){t:Rat}(t0:0<=t):(∀r,0<=r->r<=t->CH.val (mcs fc gc W) last t<=CH.val fc fm r+CH.val gc gm (t-r))/\∃s,0<=s/\s<=t/\CH.val (mcs fc gc W) last t=CH.val fc fm s+CH.val gc gm (t-s):=by
 have o:=h.ord of og
 obtain⟨nl,n1,n2⟩:=Eb o t0
 have e:CH.val (mcs fc gc W) last t=vv (mcs fc gc W) (plc (mcs fc gc W) t (mcs fc gc W).length)+CH.slp (mcs fc gc W) last (plc (mcs fc gc W) t (mcs fc gc W).length)*(t-tt (mcs fc gc W) (plc (mcs fc gc W) t (mcs fc gc W).length)):=rfl
 rw[e]
 clear e
 generalize plc (mcs fc gc W) t (mcs fc gc W).length=n at *
 rw[DS] at nl n2
 have ea:=BE (fc:=fc) (gc:=gc) nl
 rw[ea.1] at n1
 rw[ea.1,ea.2]
 have low:∀σ,Sub fc fm (wI W n) σ->Sub gc gm (wJ W n) σ->∀r,0<=r->r<=t->vv fc (wI W n)+vv gc (wJ W n)+σ*(t-(tt fc (wI W n)+tt gc (wJ W n)))<=CH.val fc fm r+CH.val gc gm (t-r):=fun σ s1 s2 r r0 r1=>by
  have a:=s1.val of r0
  have b:=s2.val og (x:=t-r) ⋯
  grind
 by_cases c:n+1<W.length
 .obtain⟨σ,es,s1,s2,cs⟩:=h.slp of og c
  rw[es]
  refine#[low σ s1 s2,?_]
  have t2:=n2 c
  rw[(BE c).1] at t2
  have i0:=Bo of s1.lt
  have j0:=Bo og s2.lt
  rcases cs with⟨e1,e2,l,e⟩|⟨e1,e2,l,e⟩
  .rw[e1,e2] at t2
   refine#[t-tt gc (wJ W n),⋯,⋯,?_]
   rw[show t-(t-tt gc (wJ W n))=tt gc (wJ W n) from ⋯,A7 og s2.lt,Bn (m:=fm) of.up (k:=wI W n) #[s1.lt,⋯,fun _=>⋯],e]
   grind
  .rw[e1,e2] at t2
   refine#[tt fc (wI W n),i0,⋯,?_]
   rw[A7 of s1.lt,Bn (m:=gm) og.up (k:=wJ W n) (t:=t-tt fc (wI W n)) #[s2.lt,⋯,fun _=>⋯],e]
   grind
 .have en:n=W.length-1:=()
  rw[Az (by rw[DS];exact c)]
  obtain⟨s1,s2⟩:=h.en
  rw[<-en] at s1 s2
  refine#[low last s1 s2,?_]
  have i0:=Bo of s1.lt
  have j0:=Bo og s2.lt
  have nf:=of.ne
  have ng:=og.ne
  rcases hl with hl|hl
  .refine#[t-tt gc (wJ W n),⋯,⋯,?_]
   rw[show t-(t-tt gc (wJ W n))=tt gc (wJ W n) from ⋯,A7 og s2.lt,LP (σ:=last) of s1.lt (fun k k1 k2=>?_) ⋯]
   .grind
   .have a:=s1.ah k k1 k2
    have b:=cf.mono (i:=k) (j:=fc.length-1) () ()
    rw[Az (k:=fc.length-1) ()] at b
    exact qCn (by rw[hl];exact b) a
  .refine#[tt fc (wI W n),i0,⋯,?_]
   rw[A7 of s1.lt,LP (σ:=last) og s2.lt (x:=t-tt fc (wI W n)) (fun k k1 k2=>?_) ⋯]
   .grind
   .have a:=s2.ah k k1 k2
    have b:=cg.mono (i:=k) (j:=gc.length-1) () ()
    rw[Az (k:=gc.length-1) ()] at b
    exact qCn (by rw[hl];exact b) a
end
theorem K0 {W:List (Nat×Nat)}{w:Nat×Nat}{n:Nat}(h:n<W.length):wI (W++[w]) n=wI W n/\wJ (W++[w]) n=wJ W n:=by
 unfold wI wJ
 rw[qAg,qAg,qAp h]
 exact#[rfl,rfl]
theorem W8 {W:List (Nat×Nat)}{w:Nat×Nat}:wI (W++[w]) W.length=w.1/\wJ (W++[w]) W.length=w.2:=by
 unfold wI wJ
 rw[qAg,qAu (qAf _),qCl]
 exact#[rfl,rfl]
structure HR (fc:Cs)(fm:Rat)(gc:Cs)(gm:Rat)(i j:Nat)(W:List (Nat×Nat)):Prop where
 il:i<fc.length
 jl:j<gc.length
 ne:0<W.length
 z0:wI W 0=0/\wJ W 0=0
 st:∀n,n+1<W.length->∃σ,Sub fc fm (wI W n) σ/\Sub gc gm (wJ W n) σ/\((wI W (n+1)=wI W n+1/\wJ W (n+1)=wJ W n/\wI W n+1<fc.length/\σ=slp fc fm (wI W n))\/(wI W (n+1)=wI W n/\wJ W (n+1)=wJ W n+1/\wJ W n+1<gc.length/\σ=slp gc gm (wJ W n)))
 en:wI W (W.length-1)=i/\wJ W (W.length-1)=j
 fg:∀k l,k<i->j<=l->l<gc.length->slp fc fm k<=slp gc gm l
 gf:∀k l,k<j->i<=l->l<fc.length->slp gc gm k<=slp fc fm l
 wl:W.length=i+j+1
section
variable {fc gc:Cs}{fm gm last:Rat}{W:List (Nat×Nat)}{i j:Nat}
theorem HR.start (of:Ord fc)(og:Ord gc):HR fc fm gc gm 0 0 [(0,0)] :=
 #[of.ne,og.ne,∅,#[rfl,rfl],fun n hn=>absurd hn (by show ¬n+1<1;omega),#[rfl,rfl],fun k _ h=>absurd h (qBf k),fun k _ h=>absurd h (qBf k),rfl]
theorem HR.f (h:HR fc fm gc gm i j W)(cf:Cvx fc fm)(i1:i+1<fc.length)(hs:∀l,j<=l->l<gc.length->slp fc fm i<=slp gc gm l):HR fc fm gc gm (i+1) j (W++[(i+1,j)]):=by
 have n:=h.ne
 have lw:(W++[(i+1,j)]).length=W.length+1:=by simp
 have r:=W8 (W:=W) (w:=(i+1,j))
 refine#[i1,h.jl,(),by rw[(K0 n).1,(K0 n).2];exact h.z0,fun m hm=>?_,by rw[lw];exact r,fun k l hk hl ll=>?_,fun k l hk hl ll=>h.gf k l hk () ll,by rw[lw,h.wl];omega]
 .rw[lw] at hm
  by_cases c:m+1<W.length
  .rw[(K0 c).1,(K0 c).2,(K0 (show m<W.length from ())).1,(K0 (show m<W.length from ())).2]
   exact h.st m c
  .have em:m=W.length-1:=()
   have e2:m+1=W.length:=()
   rw[e2,r.1,r.2,(K0 (show m<W.length from ())).1,(K0 (show m<W.length from ())).2,em,h.en.1,h.en.2]
   refine#[slp fc fm i,#[h.il,fun k hk=>cf.mono () h.il,fun k hk kl=>cf.mono hk kl],#[h.jl,fun k hk=>h.gf k i hk (qAf _) h.il,hs],.inl #[rfl,rfl,i1,rfl]]
 .by_cases c:k<i
  .exact h.fg k l c hl ll
  .rw[show k=i from ()];exact hs l hl ll
theorem HR.g (h:HR fc fm gc gm i j W)(cg:Cvx gc gm)(j1:j+1<gc.length)(hs:∀l,i<=l->l<fc.length->slp gc gm j<=slp fc fm l):HR fc fm gc gm i (j+1) (W++[(i,j+1)]):=by
 have n:=h.ne
 have lw:(W++[(i,j+1)]).length=W.length+1:=by simp
 have r:=W8 (W:=W) (w:=(i,j+1))
 refine#[h.il,j1,(),by rw[(K0 n).1,(K0 n).2];exact h.z0,fun m hm=>?_,by rw[lw];exact r,fun k l hk hl ll=>h.fg k l hk () ll,fun k l hk hl ll=>?_,by rw[lw,h.wl];omega]
 .rw[lw] at hm
  by_cases c:m+1<W.length
  .rw[(K0 c).1,(K0 c).2,(K0 (show m<W.length from ())).1,(K0 (show m<W.length from ())).2]
   exact h.st m c
  .have em:m=W.length-1:=()
   have e2:m+1=W.length:=()
   rw[e2,r.1,r.2,(K0 (show m<W.length from ())).1,(K0 (show m<W.length from ())).2,em,h.en.1,h.en.2]
   refine#[slp gc gm j,#[h.il,fun k hk=>h.fg k j hk (qAf _) h.jl,hs],#[h.jl,fun k hk=>cg.mono () h.jl,fun k hk kl=>cg.mono hk kl],.inr #[rfl,rfl,j1,rfl]]
 .by_cases c:k<j
  .exact h.gf k l c hl ll
  .rw[show k=j from ()];exact hs l hl ll
theorem QR {cs:Cs}{m:Rat}(o:Ord cs) (c:Cvx cs m){last:Rat}(hl:last<=m):∃p,p<cs.length/\(∀k,k<p->slp cs m k<last)/\∀k,p<=k->k<cs.length->last<=slp cs m k:=by
 have n:=o.ne
 have main:∀d,d<cs.length->(∃p,p<=d/\(∀k,k<p->slp cs m k<last)/\last<=slp cs m p)\/∀k,k<=d->slp cs m k<last:=fun d=>by
  induction d with
  |zero =>
   intro _
   by_cases z:slp cs m 0<last
   .right;intro k hk;rw[show k=0 from ()];exact z
   .left;exact#[0,qAf _,fun k hk=>absurd hk (qBf k),qAz.mp z]
  |succ d ih =>
   intro hd
   rcases ih () with⟨p,p1,p2,p3⟩|h
   .exact .inl #[p,(),p2,p3]
   .by_cases z:slp cs m (d+1)<last
    .right
     intro k hk
     by_cases e:k=d+1
     .rw[e];exact z
     .exact h k ()
    .left;exact#[d+1,qAf _,fun k hk=>h k (),qAz.mp z]
 rcases main (cs.length-1) () with⟨p,p1,p2,p3⟩|h
 .exact#[p,(),p2,fun k hk kl=>qAm p3 (c.mono hk kl)]
 .have:=h (cs.length-1) (qAf _)
  rw[Az ()] at this
  grind
theorem HR.fin (h:HR fc fm gc gm i j W)(h1:∀k,k<i->slp fc fm k<last)(h2:∀k,i<=k->k<fc.length->last<=slp fc fm k)(h3:∀k,k<j->slp gc gm k<last)(h4:∀k,j<=k->k<gc.length->last<=slp gc gm k):Q7 fc fm gc gm last W:=by
 refine#[h.ne,h.z0,h.st,?_]
 rw[h.en.1,h.en.2]
 exact#[#[h.il,fun k hk=>qAk (h1 k hk),h2],#[h.jl,fun k hk=>qAk (h3 k hk),h4]]
end
section
variable {fc gc:Cs}{fm gm:Rat}{a b c:Nat}
def pJ (fc:Cs)(fm w v:Rat):Ps:=(Ck fc fm).map (mvP w v)
theorem PX {w v:Rat}:(pJ fc fm w v).length=fc.length:=by unfold pJ;rw[qAa,AA]
theorem N9 {w v:Rat}{i:Nat}(h:i<fc.length):bg (pJ fc fm w v) i=tt fc i+w/\ln (pJ fc fm w v) i=(slp fc fm i,vv fc i-slp fc fm i*tt fc i-slp fc fm i*w+v):=by
 unfold pJ
 have h':i<(Ck fc fm).length:=by rw[AA];exact h
 rw[(BG h').1,(BG h').2,(AW h).1,(AW h).2]
 exact#[rfl,rfl]
theorem W2 (of:Ord fc)(zf:LS a b c fc fm){w v:Rat}(zw:Sz a w) (zv:Sz (b+a+c+1) v){Z X:Nat}(hZ:2*(a+b+c)+5<=Z) (hX:2*a+1<=X):∀x,x<(pJ fc fm w v).length->Gz b Z (ln (pJ fc fm w v) x)/\Sz X (bg (pJ fc fm w v) x):=fun x hx=>by
 rw[PX] at hx
 rw[(N9 hx).1,(N9 hx).2]
 have l:=zf.ln of x hx
 exact#[#[l.1,((l.2.sub (l.1.mul zw)).add zv).mono ()],((zf.tm x hx).add zw).mono ()]
theorem Zi {S0:List Rat}{Z X K m:Nat}(of:Ord fc) (zf:LS a b c fc fm) (hs:∀i,i<fc.length->slp fc fm i∈S0) (h1:c<=Z) (h2:a<=X) (h3:b+c<=K) (h4:a<=m):Dy (L7 (Ck fc fm)) S0 (Gz b Z) (Sz X) K m (val fc fm) none (BC fc fm) (Ck fc fm):=by
 have l:=AA (cs:=fc) (m:=fm)
 refine#[(Ep of zf).mono h3 h4,FK of,#[(FK of).up,fun i hi=>?_,fun i hi=>.inl (J7 hi)],fun i hi=>?_]
 .rw[l] at hi;rw[(AW hi).2];exact hs i hi
 .rw[l] at hi
  rw[(AW hi).1,(AW hi).2]
  have z:=zf.ln of i hi
  exact#[#[z.1,z.2.mono h1],(zf.tm i hi).mono h2]
structure JI (fc:Cs)(fm:Rat)(gc:Cs)(gm:Rat)(L1 L2:List Nat)(h:Rat->Rat):Prop where
 f:∀t,0<=t->h t<=val fc fm t
 g:∀t,0<=t->h t<=val gc gm t
 a:∀k∈L1,∀t,tt fc k<=t->h t<=vv fc k+val gc gm (t-tt fc k)
 b:∀k∈L2,∀t,tt gc k<=t->h t<=vv gc k+val fc fm (t-tt gc k)
 at_:∀t,0<=t->h t=val fc fm t\/h t=val gc gm t\/∃s,0<=s/\s<=t/\h t=val fc fm s+val gc gm (t-s)
theorem En {a0:Rat}{h g:Rat->Rat}{t:Rat}:LH a0 h g t<=h t:=by
 unfold LH mp
 split
 .exact qAd
 .split<;>grind
theorem O3 {a0:Rat}{h g:Rat->Rat}{t:Rat}(z:a0<=t):LH a0 h g t<=g t:=by
 unfold LH mp
 split
 .grind
 .split<;>grind
theorem MD {a0:Rat}{h g:Rat->Rat}{t:Rat}:LH a0 h g t=h t\/(a0<=t/\LH a0 h g t=g t):=by
 unfold LH mp
 split
 .exact .inl rfl
 .split
  .exact .inl rfl
  .exact .inr #[⋯,rfl]
theorem JI.start:JI fc fm gc gm [] [] (LH 0 (val fc fm) (val gc gm)) :=
 #[fun t _=>En,fun t t0=>O3 t0,fun k hk=>absurd hk (by simp),fun k hk=>absurd hk (by simp),fun t t0=>by
  rcases MD (a0:=0) (h:=val fc fm) (g:=val gc gm) (t:=t) with e|⟨_,e⟩
  .exact .inl e
  .exact .inr (.inl e)]
theorem JI.stepA {L1 L2:List Nat}{h:Rat->Rat}(j:JI fc fm gc gm L1 L2 h) (of:Ord fc){k:Nat}(hk:k<fc.length):JI fc fm gc gm (L1++[k]) L2 (LH (tt fc k) h (fun t=>val gc gm (t-tt fc k)+vv fc k)):=by
 have k0:=Bo of hk
 refine#[fun t t0=>qAm En (j.f t t0),fun t t0=>qAm En (j.g t t0),fun i hi t h1=>?_,fun i hi t h1=>qAm En (j.b i hi t h1),fun t t0=>?_]
 .rcases qAr.mp hi with z|z
  .exact qAm En (j.a i z t h1)
  .rcases qAI.mp z with rfl
   refine qAm (O3 h1) ?_
   rw[qCo]
   exact qAd
 .rcases MD (a0:=tt fc k) (h:=h) (g:=fun t=>val gc gm (t-tt fc k)+vv fc k) (t:=t) with e|⟨z,e⟩
  .rw[e];exact j.at_ t t0
  .refine .inr (.inr #[tt fc k,k0,z,?_])
   rw[e,A7 of hk,qCo]
theorem JI.stepB {L1 L2:List Nat}{h:Rat->Rat}(j:JI fc fm gc gm L1 L2 h) (og:Ord gc){k:Nat}(hk:k<gc.length):JI fc fm gc gm L1 (L2++[k]) (LH (tt gc k) h (fun t=>val fc fm (t-tt gc k)+vv gc k)):=by
 have k0:=Bo og hk
 refine#[fun t t0=>qAm En (j.f t t0),fun t t0=>qAm En (j.g t t0),fun i hi t h1=>qAm En (j.a i hi t h1),fun i hi t h1=>?_,fun t t0=>?_]
 .rcases qAr.mp hi with z|z
  .exact qAm En (j.b i z t h1)
  .rcases qAI.mp z with rfl
   refine qAm (O3 h1) ?_
   rw[qCo]
   exact qAd
 .rcases MD (a0:=tt gc k) (h:=h) (g:=fun t=>val fc fm (t-tt gc k)+vv gc k) (t:=t) with e|⟨z,e⟩
  .rw[e];exact j.at_ t t0
  .refine .inr (.inr #[t-tt gc k,⋯,⋯,?_])
   rw[e,show t-(t-tt gc k)=tt gc k from ⋯,A7 og hk]
theorem JI.isJ {h:Rat->Rat}(j:JI fc fm gc gm (stI fc fm) (stI gc gm) h) (of:Ord fc) (og:Ord gc){t:Rat}(t0:0<=t):IsJ fc fm gc gm t (h t) :=
 WH of og t0 (j.f t t0) (j.g t t0) (fun k k0 kl z h1=>j.a k (FX.mpr #[kl,k0,z]) t h1) (fun k k0 kl z h1=>j.b k (FX.mpr #[kl,k0,z]) t h1) (j.at_ t t0)
theorem Ft {cs:Cs}{m t:Rat}(r:Cg cs m) (t0:0<=t):0<=val cs m t:=by
 have:=AQ r qAd t0
 rw[BZ r.o] at this
 exact qAm r.o.v0 this
theorem Se (rf:Cg fc fm)(rg:Cg gc gm){x y v w:Rat}(x0:0<=x) (xy:x<=y) (p:IsJ fc fm gc gm x v) (q:IsJ fc fm gc gm y w):v<=w:=by
 obtain⟨⟨p1,p2,p3⟩,_⟩:=p
 obtain⟨_,q4⟩:=q
 rcases q4 with e|e|⟨s,s0,s1,e⟩
 .rw[e];exact qAm p1 (AQ rf x0 xy)
 .rw[e];exact qAm p2 (AQ rg x0 xy)
 .rw[e]
  by_cases z:s<=x
  .have h1:=p3 s s0 z
   have h2:=AQ rg (show 0<=x-s from ⋯) (show x-s<=y-s from ⋯)
   grind
  .have h1:=AQ rf x0 (show x<=s from ⋯)
   have h2:=Ft rg (show 0<=y-s from ⋯)
   grind
theorem QE {cs:Cs}{m u:Rat}(r:Cg cs m) (t0:0<=u):m*(u-tt cs (cs.length-1))<=val cs m u:=by
 have n:=r.o.ne
 have m0:=r.m0
 by_cases z:u<=tt cs (cs.length-1)
 .have h1:=Ft r t0
  have h2:0<=m*(tt cs (cs.length-1)-u):=qAi m0 ⋯
  grind
 .rw[Cq n ⋯]
  have h1:=Ft r (Bo r.o (show cs.length-1<cs.length from ()))
  rw[A7 r.o ()] at h1
  grind
theorem RJ (rf:Cg fc fm)(rg:Cg gc gm){C:Cs}{M:Rat}(o:Ord C) (q:∀t,0<=t->IsJ fc fm gc gm t (val C M t)):M=if gm<fm then gm else fm:=by
 have fn:=rf.o.ne
 have cn:=o.ne
 have gn:=rg.o.ne
 have f0:=Bo rf.o (show fc.length-1<fc.length from ())
 have c0:=Bo o (show C.length-1<C.length from ())
 have g0:=Bo rg.o (show gc.length-1<gc.length from ())
 generalize eA:tt fc (fc.length-1)+tt C (C.length-1)+tt gc (gc.length-1)=A
 have A0:0<=A:=⋯
 have lin:∀(L:Cs)(m:Rat),0<L.length->tt L (L.length-1)<=A->∀x,A<=x->val L m x=val L m A+m*(x-A):=fun L m n h x hx=>by
  rw[Cq n ⋯,Cq n h]
  grind
 have vC:=lin C M cn ⋯
 have vF:=lin fc fm fn ⋯
 have vG:=lin gc gm gn ⋯
 have u1:M<=fm:=IS (f0:=val C M A) (g0:=val fc fm A) (a:=A) fun x hx=>by
  rw[<-vC x hx,<-vF x hx]
  exact(q x ⋯).1.1
 have u2:M<=gm:=IS (f0:=val C M A) (g0:=val gc gm A) (a:=A) fun x hx=>by
  rw[<-vC x hx,<-vG x hx]
  exact(q x ⋯).1.2.1
 have key:∀μ:Rat,0<=μ->μ<=fm->μ<=gm->μ<=M:=fun μ m0 h1 h2=>by
  refine IS (f0:=μ*A-fm*tt fc (fc.length-1)-gm*tt gc (gc.length-1)) (g0:=val C M A) (a:=A) fun x hx=>?_
  rw[<-vC x hx]
  have k1:0<=fm*tt fc (fc.length-1):=qAi rf.m0 f0
  have k2:0<=gm*tt gc (gc.length-1):=qAi rg.m0 g0
  have lf:∀u,0<=u->μ*u-fm*tt fc (fc.length-1)<=val fc fm u:=fun u u0=>by
   have:=QE rf u0
   have:0<=(fm-μ)*u:=qAi ⋯ u0
   grind
  have lg:∀u,0<=u->μ*u-gm*tt gc (gc.length-1)<=val gc gm u:=fun u u0=>by
   have:=QE rg u0
   have:0<=(gm-μ)*u:=qAi ⋯ u0
   grind
  rcases(q x ⋯).2 with e|e|⟨s,s0,s1,e⟩
  .rw[e];have:=lf x ⋯;grind
  .rw[e];have:=lg x ⋯;grind
  .rw[e];have:=lf s s0;have:=lg (x-s) ⋯;grind
 split
 .have:=key gm rg.m0 ⋯ qAd;grind
 .have:=key fm rf.m0 qAd ⋯;grind
theorem RV (rf:Cg fc fm)(rg:Cg gc gm){B S0:List Rat}{b Z X K m:Nat}{h:Rat->Rat}{qs:List RP}{Q:Ps}(r:Dy B S0 (Gz b Z) (Sz X) K m h none qs Q) (ne:0<Q.length) (b0:bg Q 0=0) (mi:JI fc fm gc gm (stI fc fm) (stI gc gm) h) :
 Ord (Fp Q)/\0<=(ln Q (Q.length-1)).1/\(ln Q (Q.length-1)).1=(if gm<fm then gm else fm)/\(∀t,0<=t->IsJ fc fm gc gm t (val (Fp Q) (ln Q (Q.length-1)).1 t))/\LS X b Z (Fp Q) (ln Q (Q.length-1)).1:=by
 have iu:∀t,0<=t->IsJ fc fm gc gm t (h t):=fun t t0=>mi.isJ rf.o rg.o t0
 have h0:0<=h 0:=by
  rcases(iu 0 qAd).2 with e|e|⟨s,s0,s1,e⟩
  .rw[e];exact Ft rf qAd
  .rw[e];exact Ft rg qAd
  .rw[e]
   have:=Ft rf s0
   have:=Ft rg (show 0<=0-s from ⋯)
   grind
 obtain⟨o,m0,v⟩:=Qp r.pu ne b0 (fun x y x0 xy=>Se rf rg x0 xy (iu x x0) (iu y ⋯)) h0
 have iv:∀t,0<=t->IsJ fc fm gc gm t (val (Fp Q) (ln Q (Q.length-1)).1 t):=fun t t0=>by rw[v t t0];exact iu t t0
 refine#[o,m0,RJ rf rg o iv,iv,Ln.ls (fun i hi=>?_) o (fun i hi=>?_)]
 .rw[A1] at hi
  rw[F9 r.pu hi,(Bj hi).1,(Bj hi).2]
  have g:=(r.gd i hi).1
  refine#[g.1,?_]
  have e:ev (ln Q i) (bg Q i)-(ln Q i).1*bg Q i=(ln Q i).2:=by unfold ev;grind
  rw[e]
  exact g.2
 .rw[A1] at hi
  rw[(Bj hi).1]
  exact(r.gd i hi).2
end
def stD (cs:Cs)(m:Rat)(k:Nat):D:=.tup [qd (slp cs m k),qd (tt cs (k+1)-tt cs k),qd (vv cs (k+1)-vv cs k)]
def FL (fc gc:Cs)(W:List (Nat×Nat))(L:List D):Prop:=L.length+1=W.length/\∀n,n+1<W.length->∃s:D,L[n]? = some (.tup [s,qd (tt (mcs fc gc W) (n+1)-tt (mcs fc gc W) n),qd (vv (mcs fc gc W) (n+1)-vv (mcs fc gc W) n)])
section
variable {fc gc:Cs}{fm gm last:Rat}{W:List (Nat×Nat)}{L:List D}{i j:Nat}
theorem FL.start:FL fc gc [(0,0)] []:=#[rfl,fun n hn=>absurd hn (by show ¬n+1<1;omega)]
theorem FL.snoc (h:FL fc gc W L){w:Nat×Nat}{s:D}{dt dv:Rat}(h1:dt=tt fc w.1+tt gc w.2-(tt fc (wI W (W.length-1))+tt gc (wJ W (W.length-1)))) (h2:dv=vv fc w.1+vv gc w.2-(vv fc (wI W (W.length-1))+vv gc (wJ W (W.length-1)))):FL fc gc (W++[w]) (L++[.tup [s,qd dt,qd dv]]):=by
 obtain⟨hl,hs⟩:=h
 have lw:(W++[w]).length=W.length+1:=by simp
 have at_:∀n,n<W.length->tt (mcs fc gc (W++[w])) n=tt (mcs fc gc W) n/\vv (mcs fc gc (W++[w])) n=vv (mcs fc gc W) n:=fun n hn=>by
  rw[(BE (W:=W++[w]) ()).1,(BE (W:=W++[w]) ()).2,(BE hn).1,(BE hn).2,(K0 hn).1,(K0 hn).2]
  exact#[rfl,rfl]
 refine#[by rw[lw,qAw];show L.length+1+1=_;omega,fun n hn=>?_]
 rw[lw] at hn
 by_cases c:n+1<W.length
 .obtain⟨s',e⟩:=hs n c
  refine#[s',?_]
  rw[qAp (),e,(at_ _ c).1,(at_ _ c).2,(at_ n ()).1,(at_ n ()).2]
 .have e1:n=W.length-1:=()
  have e2:n+1=W.length:=()
  refine#[s,?_]
  rw[qAu (),show n-L.length=0 from (),(at_ n ()).1,(at_ n ()).2,e2,(BE (W:=W++[w]) ()).1,(BE (W:=W++[w]) ()).2,W8.1,W8.2,(BE ()).1,(BE ()).2,e1,h1,h2]
  rfl
theorem HR.fS (h:HR fc fm gc gm i j W)(s:FL fc gc W L)(cf:Cvx fc fm)(i1:i+1<fc.length)(hs:∀l,j<=l->l<gc.length->slp fc fm i<=slp gc gm l):HR fc fm gc gm (i+1) j (W++[(i+1,j)])/\FL fc gc (W++[(i+1,j)]) (L++[stD fc fm i]):=by
 refine#[h.f cf i1 hs,s.snoc ?_ ?_]
 .rw[h.en.1,h.en.2];grind
 .rw[h.en.1,h.en.2];grind
theorem HR.gS (h:HR fc fm gc gm i j W)(s:FL fc gc W L)(cg:Cvx gc gm)(j1:j+1<gc.length)(hs:∀l,i<=l->l<fc.length->slp gc gm j<=slp fc fm l):HR fc fm gc gm i (j+1) (W++[(i,j+1)])/\FL fc gc (W++[(i,j+1)]) (L++[stD gc gm j]):=by
 refine#[h.g cg j1 hs,s.snoc ?_ ?_]
 .rw[h.en.1,h.en.2];grind
 .rw[h.en.1,h.en.2];grind
theorem NR (cg:Cvx gc gm){q:Nat}(ql:q<gc.length) (h3:∀k,k<q->slp gc gm k<last) (h2:∀k,i<=k->k<fc.length->last<=slp fc fm k):∀d j W L,j+d=q->HR fc fm gc gm i j W->FL fc gc W L->∃W',HR fc fm gc gm i q W'/\FL fc gc W' (L++((List.range q).drop j).map (stD gc gm))
 |0,j,W,L,e,h,s=>by
  have e':j=q:=()
  subst e'
  refine#[W,h,?_]
  rw[qCa (by simp),qCW,qBq]
  exact s
 |d+1,j,W,L,e,h,s=>by
  have jq:j<q:=()
  have:=h3 j jq
  obtain⟨h',s'⟩:=h.gS s cg () (fun l l1 l2=>by have:=h2 l l1 l2;grind)
  obtain⟨W',h'',s''⟩:=NR cg ql h3 h2 d (j+1) _ _ () h' s'
  refine#[W',h'',?_]
  rw[List.drop_eq_getElem_cons (by simp;exact jq),qCb,List.getElem_range]
  rw[List.append_assoc] at s''
  exact s''
theorem HR.wb (h:HR fc fm gc gm i j W):∀n,n<W.length->wI W n<fc.length/\wJ W n<gc.length:=fun n hn=>by
 by_cases c:n+1<W.length
 .obtain⟨σ,s1,s2,_⟩:=h.st n c
  exact#[s1.1,s2.1]
 .rw[show n=W.length-1 from (),h.en.1,h.en.2]
  exact#[h.il,h.jl]
end
section
variable {fc gc:Cs}{fm gm last:Rat}{W:List (Nat×Nat)}
theorem So (h:Q7 fc fm gc gm last W)(of:Ord fc)(og:Ord gc)(cf:Cvx fc fm)(cg:Cvx gc gm)(l3:last=fm\/last=gm){a b c:Nat}(zf:LS a b c fc fm) (zg:LS a b c gc gm) (wl:∀n,n<W.length->wI W n<fc.length/\wJ W n<gc.length):LS (2*a+1) b (2*(a+b+c)+3) (mcs fc gc W) last:=by
 have ml:=DS (fc:=fc) (gc:=gc) (W:=W)
 have one:∀{cs:Cs}{m:Rat},Ord cs->LS a b c cs m->∀{k σ},k<cs.length->Sz b σ->Sz (2*a+2*b+c+2) (vv cs k-σ*tt cs k):=fun {cs m} o z {k σ} hk zs=>by
  have v:=z.va (Bo o hk) (z.tm k hk)
  rw[A7 o hk] at v
  exact(v.sub (zs.mul (z.tm k hk))).mono ()
 have key:∀n σ,n<W.length->(σ=slp fc fm (wI W n)\/σ=slp gc gm (wJ W n))->Sz b σ/\Sz (2*(a+b+c)+3) (vv (mcs fc gc W) n-σ*tt (mcs fc gc W) n):=fun n σ hn z=>by
  rw[(BE hn).1,(BE hn).2]
  have e:vv fc (wI W n)+vv gc (wJ W n)-σ*(tt fc (wI W n)+tt gc (wJ W n))=(vv fc (wI W n)-σ*tt fc (wI W n))+(vv gc (wJ W n)-σ*tt gc (wJ W n)):=⋯
  rw[e]
  rcases z with rfl|rfl
  .have g:=zf.ln of _ (wl n hn).1
   exact#[g.1,(g.2.add (one og zg (wl n hn).2 g.1)).mono ()]
  .have g:=zg.ln og _ (wl n hn).2
   exact#[g.1,((one of zf (wl n hn).1 g.1).add g.2).mono ()]
 refine Ln.ls (fun n hn=>?_) (h.ord of og) (fun n hn=>?_)
 .rw[ml] at hn
  by_cases c:n+1<W.length
  .obtain⟨σ,e,_,_,z⟩:=h.slp of og c
   rw[e]
   refine key n σ hn ?_
   rcases z with⟨_,_,_,z⟩|⟨_,_,_,z⟩
   .exact .inl z
   .exact .inr z
  .rw[Az (by rw[ml];exact c)]
   refine key n last hn ?_
   obtain⟨s1,s2⟩:=h.en
   rw[show W.length-1=n from ()] at s1 s2
   have top:∀{cs:Cs}{m:Rat}{j:Nat},Cvx cs m->Sub cs m j m->m=slp cs m j:=fun {cs m j} cv s=>by
    have l:=s.lt
    have h1:=s.ah j (qAf _) l
    have h2:=cv.mono (i:=j) (j:=cs.length-1) () ()
    rw[Az (show ¬cs.length-1+1<cs.length from ())] at h2
    exact qCn h1 h2
   rcases l3 with rfl|rfl
   .exact .inl (top cf s1)
   .exact .inr (top cg s2)
 .rw[ml] at hn
  rw[(BE hn).1]
  exact((zf.tm _ (wl n hn).1).add (zg.tm _ (wl n hn).2)).mono ()
end
def Df (cs:Cs):Prop:=∀k,k+1<cs.length->∃e f,Sz e (tt cs (k+1)-tt cs k)/\Sz f (vv cs (k+1)-vv cs k)/\e+f<=13000
theorem Df.of {n:Nat}{cs:Cs}(h:SzC n cs) (hn:n<=3200):Df cs:=fun k hk =>
 #[_,_,(h _ hk).1.sub (h k ()).1,(h _ hk).2.sub (h k ()).2,()]
structure SzD (cs:Cs)(m:Rat):Prop where
 len:cs.length<=100000
 df:Df cs
 cs:SzC 6400 cs
 m:Sz 6400 m
theorem LS.df {a b c:Nat}{cs:Cs}{m:Rat}(z:LS a b c cs m) (o:Ord cs) (h:4*a+b+2<=13000):Df cs:=fun k hk=>by
 have t:=(z.tm _ hk).sub (z.tm k ())
 have s:=(z.ln o k ()).1
 have n:=ES (o.up k hk)
 refine#[_,b+(a+a+1),t,?_,()]
 have:=s.mul t
 rw[B7 hk,qBb n] at this
 exact this
theorem LS.szd {a b c:Nat}{cs:Cs}{m:Rat}(z:LS a b c cs m) (o:Ord cs) (hl:cs.length<=100000) (h:a+b+c+1<=6400) (h4:4*a+b+2<=13000):SzD cs m :=
 have k:=z.szk o hl h
 #[hl,z.df o h4,k.cs,k.m]
theorem Va {a b c n:Nat}{cs ds:Cs}{m k t:Rat}(z:LS a b c cs m) (y:LS a b c ds k) (t0:0<=t) (ht:Sz n t):Sz (n+2*b+2*c+3) (gap cs m ds k t):=by
 have e:gap cs m ds k t=(sat cs m t-sat ds k t)*t+((val cs m t-sat cs m t*t)-(val ds k t-sat ds k t*t)):=by unfold gap;grind
 rw[e]
 exact((((z.sl t t0).sub (y.sl t t0)).mul ht).add ((z.ic t t0).sub (y.ic t t0))).mono ()
theorem Vn {a b c:Nat}{cs ds:Cs}{m k:Rat}{ts:List Rat}(z:LS a b c cs m) (y:LS a b c ds k) (o:Ord cs) (q:Ord ds) (t:Tms cs ds ts) (tz:∀i,i<ts.length->Sz a (T ts i)) (h:4*a+2*b+3<=13000):Df (gcs cs m ds k ts):=fun i hi=>by
 rw[FZ] at hi
 have i0:i<ts.length:=()
 have l:=Mo (m:=m) (k:=k) o q t i0
 have d:=(tz _ hi).sub (tz i i0)
 have t0:=OF t i0
 have s:Sz (b+b+1) (slp (gcs cs m ds k ts) (m-k) i):=by
  rw[l.2]
  exact(z.sl _ t0).sub (y.sl _ t0)
 have u:=t.up i hi
 have e:=l.1 (T ts (i+1)) (qAk u) (fun _=>qAd)
 rw[(C0 hi).1,(C0 hi).2,(C0 i0).1,(C0 i0).2]
 refine#[_,_,d,?_,show a+a+1+(b+b+1+(a+a+1))<=_ from ()]
 have:=s.mul d
 rw[show gap cs m ds k (T ts (i+1))-gap cs m ds k (T ts i)=slp (gcs cs m ds k ts) (m-k) i*(T ts (i+1)-T ts i) by rw[e];grind]
 exact this
def SL (S0:List Rat)(cs:Cs)(m:Rat):Prop:=∀t,0<=t->sat cs m t∈S0
section
variable {S0:List Rat}{cs ds fc gc:Cs}{m k fm gm last:Rat}
theorem SL.of (o:Ord cs)(h:∀i,i<cs.length->slp cs m i∈S0):SL S0 cs m:=fun _ t0=>h _ (D6 o t0).lt
theorem SL.at (h:SL S0 cs m)(o:Ord cs){i:Nat}(hi:i<cs.length):slp cs m i∈S0:=by
 have:=h _ (Bo o hi)
 unfold sat at this
 rw[Hu o.up (k:=i) qAd (fun h=>o.up i h) _ hi (qAf _)] at this
 exact this
theorem SL.las (h:SL S0 cs m)(o:Ord cs):m∈S0:=by
 have n:=o.ne
 have:=h.at o (i:=cs.length-1) ()
 rw[Az ()] at this
 exact this
theorem SL.kept (h:SL S0 cs m)(o:Ord cs):SL S0 (kp cs m (cs.length-1)) m:=fun t t0=>by rw[(HF o t).2];exact h t t0
theorem Vu {op:Rat->Rat->Rat}{us:List Rat}(P:Qu op) (r:Cg cs m) (s:Cg ds k) (x:Cx cs m ds k us none) (h1:SL S0 cs m) (h2:SL S0 ds k):SL S0 (ocs op cs m ds k us) (op m k):=fun y y0=>by
 have on:=D6 (Kj P r s x) y0
 have es:sat (ocs op cs m ds k us) (op m k) y=slp (ocs op cs m ds k us) (op m k) (plc (ocs op cs m ds k us) y (ocs op cs m ds k us).length):=rfl
 generalize plc (ocs op cs m ds k us) y (ocs op cs m ds k us).length=i at on es
 have hi:i<us.length:=by have:=on.lt;rw[Cu] at this;exact this
 obtain⟨C,n,w,sl,_⟩:=O6 P x hi
 rw[es,sl]
 rcases w with⟨rfl,rfl⟩|⟨rfl,rfl⟩
 .exact h1 _ (x.nn hi)
 .exact h2 _ (x.nn hi)
theorem UN {W:List (Nat×Nat)}(h:Q7 fc fm gc gm last W) (of:Ord fc) (og:Ord gc) (l3:last=fm\/last=gm) (h1:SL S0 fc fm) (h2:SL S0 gc gm) (wl:∀n,n<W.length->wI W n<fc.length/\wJ W n<gc.length):SL S0 (mcs fc gc W) last:=by
 have ml:=DS (fc:=fc) (gc:=gc) (W:=W)
 refine SL.of (h.ord of og) fun n hn=>?_
 rw[ml] at hn
 by_cases c:n+1<W.length
 .obtain⟨σ,e,_,_,z⟩:=h.slp of og c
  rw[e]
  rcases z with⟨_,_,_,rfl⟩|⟨_,_,_,rfl⟩
  .exact h1.at of (wl n hn).1
  .exact h2.at og (wl n hn).2
 .rw[Az (by rw[ml];exact c)]
  rcases l3 with rfl|rfl
  .exact h1.las of
  .exact h2.las og
theorem Tp {B:List Rat}{b Z X K m:Nat}{h:Rat->Rat}{qs:List RP}{Q:Ps}(r:Dy B S0 (Gz b Z) (Sz X) K m h none qs Q) (o:Ord (Fp Q)):SL S0 (Fp Q) (ln Q (Q.length-1)).1:=SL.of o fun i hi=>by
 rw[A1] at hi
 rw[F9 r.pu hi]
 exact r.cn.sl i hi
def slL (cs:Cs)(m:Rat):List Rat:=(List.range cs.length).map fun i=>slp cs m i
theorem Pz (o:Ord cs):SL (slL cs m) cs m:=SL.of o fun i hi=>qAM.mpr #[i,qAJ.mpr hi,rfl]
theorem MB:(slL cs m).length=cs.length:=by unfold slL;rw[qAa,qAq]
theorem SL.mono {S1:List Rat}(h:SL S0 cs m) (e:∀x∈S0,x∈S1):SL S1 cs m:=fun t t0=>e _ (h t t0)
end
theorem Nj {fc gc:Cs}{fm gm t v:Rat}(h:IsJ fc fm gc gm t v):IsJ gc gm fc fm t v:=by
 obtain⟨⟨a1,a2,a3⟩,a4⟩:=h
 refine#[#[a2,a1,fun s s0 s1=>?_],?_]
 .have:=a3 (t-s) ⋯ ⋯
  rw[show t-(t-s)=s from ⋯,qCo] at this
  exact this
 .rcases a4 with e|e|⟨s,s0,s1,e⟩
  .exact .inr (.inl e)
  .exact .inl e
  .exact .inr (.inr #[t-s,⋯,⋯,by rw[show t-(t-s)=s from ⋯,e,qCo]])
section
variable {S0:List Rat}{fc gc hc jc oc:Cs}{fm gm hm jm om:Rat}
theorem Um (of:Ord fc)(og:Ord gc)(h1:SL S0 fc fm)(h2:SL S0 gc gm)(h0:(0:Rat)∈S0):∀x∈slS fc fm gc gm,x∈S0.map (fun y=>-y):=fun x hx=>by
 unfold slS at hx
 rcases qAr.mp hx with hx|hx
 .rcases qAl.mp hx with rfl|hx
  .exact qAM.mpr #[0,h0,⋯]
  .obtain⟨i,hi,rfl⟩:=qAM.mp hx
   exact qAM.mpr #[_,h1.at of (qAJ.mp hi),rfl]
 .obtain⟨i,hi,rfl⟩:=qAM.mp hx
  exact qAM.mpr #[_,h2.at og (qAJ.mp hi),rfl]
theorem WI {B:List Rat}{b Z X K m:Nat}{h:Rat->Rat}{qs:List RP}{Q:Ps}(r:Dy B (S0.map (fun y=>-y)) (Gz b Z) (Sz X) K m h none qs Q) (o:Ord (Fp (Q.map flP))):SL S0 (Fp (Q.map flP)) (ln (Q.map flP) ((Q.map flP).length-1)).1:=SL.of o fun i hi=>by
 rw[A1] at hi
 have hi':i<Q.length:=by rw[qAa] at hi;exact hi
 rw[F9 r.pu.flip hi,(BG hi').2]
 show -(ln Q i).1∈S0
 obtain⟨y,hy,e⟩:=qAM.mp (r.cn.sl i hi')
 rw[<-e,show - -y=y from ⋯]
 exact hy
end
theorem SR {cs ds:Cs}{m k d D:Rat}(o:Ord cs) (q:Ord ds) (w:Wid cs m ds k d) (D0:0<=D) (h:∀t,0<=t->val cs m t<=val ds k (t+D)):d<=D:=by
 refine qAz.mp fun lt=>w.least D D0 lt #[fun c hc=>?_,fun c hc z=>?_]
 .obtain⟨e,z,_⟩:=FI (m:=m) o hc
  rw[<-e];exact h _ z
 .obtain⟨e,_,_⟩:=FI (m:=k) q hc
  have:=h _ z
  rw[show c.1-D+D=c.1 from ⋯,e] at this
  exact this
theorem QS {cs ds:Cs}{m k D:Rat}(r:Cg cs m) (s:Cg ds k) (mk:m<=k) (D0:0<=D) (h:∀t,0<=t->val cs m t<=val ds k (t+D)):¬(k<m\/(k=0/\vv ds (ds.length-1)<vv cs (cs.length-1))):=by
 rintro (z|⟨k0,z⟩)
 .grind
 have n:=r.o.ne
 have t0:=Bo r.o (show cs.length-1<cs.length from ())
 have h1:=h _ t0
 rw[A7 r.o ()] at h1
 have h2:=GI s k0 (x:=tt cs (cs.length-1)+D) ⋯
 grind
theorem Wy {cs ds es:Cs}{m k l u v:Rat}(o:Ord cs) (q:Ord ds) (a:Tal cs m es l v) (b:Tal cs m ds k u) (le:∀t,0<=t->val es l t<=val ds k t):u<=v:=by
 rcases b.at_ with e|⟨c,hc,e⟩
 .rw[e];exact a.nn
 have c0:0<=c.1:=by
  rcases qAr.mp hc with h|h
  .exact(FI (m:=m) o h).2.1
  .exact(FI (m:=k) q h).2.1
 have h1:=a.le c.1 c0
 have h2:=le c.1 c0
 unfold gap at h1 e
 grind
section
variable {fc gc hc jc oc:Cs}{fm gm hm jm om d e:Rat}
theorem pay (rf:Cg fc fm)(rg:Cg gc gm)(rh:Cg hc hm)(g0:val gc gm 0=0)(d0:0<=d)(e0:0<=e)(ij:∀x,0<=x->IsJ gc gm hc hm x (val jc jm x))(iu:∀x,0<=x->IsU fc fm gc gm x (val oc om x))(a:∀t,0<=t->val fc fm t<=val gc gm (t+d))(b:∀t,0<=t->val oc om t<=val hc hm (t+e)):∀t,0<=t->val fc fm t<=val jc jm (t+(d+e)):=fun t t0=>by
 have a1:=a t t0
 have hn:∀x,0<=x->0<=val hc hm x:=fun x x0=>Ft rh x0
 rcases(ij (t+(d+e)) ⋯).2 with z|z|⟨s,s0,s1,z⟩
 .rw[z]
  exact qAm a1 (AQ rg ⋯ ⋯)
 .rw[z]
  have h1:=(iu t t0).2.2 0 qAd
  rw[g0,show t+0=t from ⋯] at h1
  have h2:=b t t0
  have h3:=AQ rh (x:=t+e) (y:=t+(d+e)) ⋯ ⋯
  grind
 rw[z]
 by_cases c1:t+d<=s
 .have h1:=AQ rg (x:=t+d) (y:=s) ⋯ c1
  have h2:=hn (t+(d+e)-s) ⋯
  grind
 by_cases c2:s<=t
 .have h1:=(iu (t-s) ⋯).2.2 s s0
  rw[show t-s+s=t from ⋯] at h1
  have h2:=b (t-s) ⋯
  have h3:=AQ rh (x:=t-s+e) (y:=t+(d+e)-s) ⋯ ⋯
  grind
 .have h1:=(iu 0 qAd).2.2 s s0
  rw[show 0+s=s from ⋯] at h1
  have h2:=b 0 qAd
  have h3:=AQ rh (x:=0+e) (y:=t+(d+e)-s) ⋯ ⋯
  have h4:=AQ rf (x:=t) (y:=s) t0 ⋯
  grind
end
end CH
namespace CL
open PySem L2 L3 CH
theorem YM {x y p q s z:Nat}(h1:x<=p) (h2:y<=q) (h3:s<=z):(2*(x*y)+2*x+y+3)*s<=(2*(p*q)+2*p+q+3)*z:=by
 have:=qCs h1 h2
 exact qCs () h3
theorem El {cs:Cs}{m:Rat}:(JO cs m).length=cs.length:=by unfold JO;simp
theorem QP {cs:Cs}{m:Rat}{n:Nat}{y:D}(h:((JO cs m).map qd)[n]? = some y):n<cs.length/\y=qd (slp cs m n):=by
 have hn:n<cs.length:=by
  have:=(qAe.mp h).1
  rw[qAa,El] at this
  exact this
 refine#[hn,?_]
 unfold JO at h
 rw[qAc,qAc,qAC hn] at h
 exact(qAn h).symm
theorem IC {ps:List RP}{i:Int}(j:Nat) (e:i=(j:Int)) (h:j<ps.length):atI (ps.map rpD) i=some (rpD (ps.getD j dfR)):=by
 subst e
 rw[CH.atI_nat (by rw[qAa];exact h),qAc,qAb h,qAg,qAb h]
 rfl
theorem SH {ps:List RP}(h:0<ps.length):atI (ps.map rpD) (-1)=some (rpD (ps.getD (ps.length-1) dfR)):=by
 refine HQ ?_
 rw[qAg,qAb (show ps.length-1<ps.length from ())]
 rfl
theorem BB {ps:List RP}{j:Nat}(h:j<ps.length):ps[j]? = some (ps.getD j dfR):=by
 rw[qAg,qAb h]
 rfl
def Q5 (x:D):Rat:=match x with
 |.tup [.tup [.int a,.int b],_]=>Rat.divInt a b
 |_=>0
theorem Hi {m:Nat}{p:RP}{t:Rat}(w:Wq m p.1.1 p.1.2 t):Q5 (rpD p)=t:=L6 w
theorem Px {cs:Cs}{m:Rat}(n0:0<cs.length):(stI cs m).length+1<=cs.length:=by
 unfold CH.stI
 rw[qAa]
 have:=qBn (fun n=>decide (slp cs m n<slp cs m (n+1))) (List.range (cs.length-1))
 rw[qAq] at this
 omega
theorem Mp (cs:Cs)(m:Rat):Dp 4 (crv cs m)=true:=by
 have h:(cs.map cd).all (Dp 2)=true:=by
  rw[qAH]
  intro x hx
  obtain⟨c,_,rfl⟩:=qAM.mp hx
  rfl
 show((cs.map cd).all (Dp 2)&&(Dp 3 (qd m)&&true))=true
 rw[h]
 rfl
theorem Sg {C E:Cs}{m k:Rat}(h:C=E/\m=k):eqN 4 (crv C m) (crv E k)=true:=by
 obtain⟨rfl,rfl⟩:=h
 exact GU 4 _ (Mp _ _)
theorem _root_.CH.Crv.rise {cs:Cs}{m:Rat}(h:Crv cs m):Cg cs m:=#[#[h.ne,h.t0,h.v0,h.up,h.vu],h.m0]
theorem WK {x y p q s z:Nat}(h1:x<=p) (h2:y<=q) (h3:s<=z):(2*(x*y)+2*x+2*y+3)*s<=(2*(p*q)+2*p+2*q+3)*z:=by
 have:=qCs h1 h2
 exact qCs () h3
theorem Wi {α:Type}{f:α->D}{xs:List α}(hh:0<xs.length):Eh (xs.map f) (some 1) none=(xs.drop 1).map f:=by
 have e:HT.sIx (xs.map f).length 0 (some 1)=1:=by
  have:=HT.sIx_nat (xs.map f).length 0 1
  rw[qAa] at this ⊢
  exact this.trans (qBO hh)
 unfold Eh
 rw[e]
 show((xs.map f).drop 1).take ((xs.map f).length-1)=_
 rw[<-qBY,qAX (by rw[qAa,qAa,qAL];exact qAf _)]
def cl (ns:List Int)(k:Int):Int:=if k<ns.length then cell ns k else 5*k+2
theorem Ph {va g x ti u p:Int}(u0:0<u) (p0:0<p):Rat.divInt (va+g*x) (u*p)=Rat.divInt va (u*p)+Rat.divInt x p*(Rat.divInt (ti+g) u-Rat.divInt ti u):=by
 rw[qAG,qAG,qAG,qAG,qAG,qBs,qBs,qAo,qAo]
 have n1:(u:Rat)≠0:=fun z=>absurd (qBv.mp z) (qBA u0)
 have n2:(p:Rat)≠0:=fun z=>absurd (qBv.mp z) (qBA p0)
 grind
theorem T5 {v y t u p:Int}(u0:0<u) (p0:0<p):Rat.divInt v (u*p)-Rat.divInt y p*Rat.divInt t u=Rat.divInt (v-y*t) (u*p):=by
 rw[qAG,qAG,qAG,qAG,qBt,qAo,qAo]
 have n1:(u:Rat)≠0:=fun z=>absurd (qBv.mp z) (qBA u0)
 have n2:(p:Rat)≠0:=fun z=>absurd (qBv.mp z) (qBA p0)
 grind
theorem K5 {ms:List Int}(h:0<ms.length):atI (ms.map D.int) (-1)=some (.int (cell ms ((ms.length-1:Nat):Int))):=by
 rw[<-GK (ms:=ms) (i:=((ms.length-1:Nat):Int)) (ms.length-1) rfl ()]
 unfold atI ixN
 rw[qAa,if_neg (),if_pos (),if_pos (),if_pos ()]
 congr 1
 congr 1
 omega
theorem Pe {h a b:Rat}(z:(!decide (h<b))=true) (v:a<=b):(!decide (h<a))=true:=by
 have z1:¬h<b:=by simpa using z
 have z2:¬h<a:=⋯
 simpa using z2
def GZ (cs:Cs)(m:Rat):Prop:=Cg cs m/\LS 1300 70 600 cs m/\cs.length<=1000
def KH (cs:Cs)(m:Rat):Prop:=Ord cs/\LS 41 66 176 cs m/\0<=m/\cs.length<=3/\vv cs 0=0
theorem Nw {l:Nat}{cs:Cs}{m h:Rat}(z:LS 1300 70 600 cs m) (o:Ord cs){k:Nat}(hk:k<cs.length) (s:slp cs m k≠0) (hh:Sz l h):Sz (l+671) (tt cs k+(h-vv cs k)/slp cs m k):=by
 obtain⟨z1,z2⟩:=z.ln o k hk
 rw[show tt cs k+(h-vv cs k)/slp cs m k=(h-(vv cs k-slp cs m k*tt cs k))/slp cs m k from ⋯]
 exact((hh.sub z2).div z1 s).mono ()
theorem S4 {cs ds:Cs}{m k:Rat}{ts:List Rat}(h:GZ cs m) (g:GZ ds k) (t:Tms cs ds ts){i:Nat}(hi:i<ts.length):Sz 1300 (T ts i):=by
 rcases t.of i hi with⟨j,hj,e⟩|⟨j,hj,e⟩
 .rw[e];exact h.2.1.tm j hj
 .rw[e];exact g.2.1.tm j hj
theorem KH.gz {cs:Cs}{m:Rat}(h:KH cs m):GZ cs m:=#[#[h.1,h.2.2.1],h.2.1.mono ∅ ∅ ∅,by have:=h.2.2.2.1;omega]
theorem GZ.v {cs:Cs}{m:Rat}(h:GZ cs m){i:Nat}(hi:i<cs.length):Sz 1971 (vv cs i):=by
 have:=h.2.2
 exact(h.2.1.szk h.1.o () (qAf _)).cs i hi |>.2
inductive IK (ss:List S)(R:S->Prop)(U_:Str->Prop):Prop
 |mk (a:Int)(_:ss=[.d (.int a)])(_:R (.d (.bl true)))
inductive JH (ss:List S)(R:S->Prop)(U_:Str->Prop):Prop
 |mk (a b:Int)(_:ss=[.d (.int a),.d (.int b)])(_:R (.d (.int (g a b))))
inductive NO (ss:List S)(R:S->Prop)(U_:Str->Prop):Prop
 |mk (a b:Int)(_:ss=[.d (.int a),.d (.int b)])(_:b≠0)(_:a.natAbs<2^13000)(_:b.natAbs<2^13000)(_:R (.d (qd (Rat.divInt a b))))
inductive PY (ss:List S)(R:S->Prop)(U_:Str->Prop):Prop
 |mk (p q:Rat)(k l:Nat)(_:ss=[.d (qd p),.d (qd q)])(_:Sz k p)(_:Sz l q)(_:k+l+1<=13000)(_:R (.d (qd (p+q))))
inductive NJ (ss:List S)(R:S->Prop)(U_:Str->Prop):Prop
 |mk (p q:Rat)(k l:Nat)(_:ss=[.d (qd p),.d (qd q)])(_:Sz k p)(_:Sz l q)(_:k+l+1<=13000)(_:R (.d (qd (p-q))))
inductive Nq (ss:List S)(R:S->Prop)(U_:Str->Prop):Prop
 |mk (p q:Rat)(k l:Nat)(_:ss=[.d (qd p),.d (qd q)])(_:Sz k p)(_:Sz l q)(_:k+l<=13000)(_:R (.d (qd (p*q))))
inductive Qz (ss:List S)(R:S->Prop)(U_:Str->Prop):Prop
 |mk (p q:Rat)(k l:Nat)(_:ss=[.d (qd p),.d (qd q)])(_:Sz k p)(_:Sz l q)(_:k+l<=13000)(_:q≠0)(_:R (.d (qd (p/q))))
inductive Nz (ss:List S)(R:S->Prop)(U_:Str->Prop):Prop
 |mk (p q:Rat)(k l:Nat)(_:ss=[.d (qd p),.d (qd q)])(_:Sz k p)(_:Sz l q)(_:k+l<=30000)(_:R (.d (.bl (decide (p<q)))))
inductive Ly (ss:List S)(R:S->Prop)(U_:Str->Prop):Prop
 |mk (p q:Rat)(k l:Nat)(_:ss=[.d (qd p),.d (qd q)])(_:Sz k p)(_:Sz l q)(_:k+l<=30000)(_:R (.d (qd (if q<p then q else p))))
inductive JR (ss:List S)(R:S->Prop)(U_:Str->Prop):Prop
 |mk (p q:Rat)(k l:Nat)(_:ss=[.d (qd p),.d (qd q)])(_:Sz k p)(_:Sz l q)(_:k+l<=30000)(_:R (.d (qd (if p<q then q else p))))
inductive NS (ss:List S)(R:S->Prop)(U:Str->Prop):Prop
 |mk (x:S)(cs:Cs)(m:Rat)(_:ss=[x,.d (qd m)])(_:(x=.r (cs.map cd)\/x=.d (.lst (cs.map cd))))(_:SzD cs m)(_:(Ord cs/\0<=m->R (.d (crv (kp cs m (cs.length-1)) m))))(_:(¬(Ord cs/\0<=m)->U "NoCurve"))
inductive Fw (ss:List S)(R:S->Prop)(U:Str->Prop):Prop
 |mk (x:S)(cs:Cs)(_:ss=[x])(_:(x=.r (cs.map cd)\/x=.d (.lst (cs.map cd))))(_:cs.length<=100000)(_:SzC 6400 cs)(_:(Bgn cs->R (.d .non)))(_:(¬Bgn cs->U "NoCurve"))
inductive GV (ss:List S)(R:S->Prop)(U:Str->Prop):Prop
 |mk (x:S)(cs:Cs)(_:ss=[x])(_:(x=.r (cs.map cd)\/x=.d (.lst (cs.map cd))))(_:0<cs.length)(_:cs.length<=100000)(_:SzC 6400 cs)(_:(Ris cs cs.length->R (.d .non)))(_:(¬Ris cs cs.length->U "NoCurve"))
inductive Jd (ss:List S)(R:S->Prop)(U:Str->Prop):Prop
 |mk (cs:Cs)(m t:Rat)(a b c n:Nat)(_:ss=[.d (crv cs m),.d (qd t)])(_:Ord cs)(_:LS a b c cs m)(_:cs.length<=100000)(_:a+b+c+1<=6000)(_:4*a+b+2<=13000)(_:n<=6000)(_:2*a+2*b+c+n+3<=13000)(_:Sz n t)(_:(0<=t->R (.d (qd (val cs m t)))))(_:(¬0<=t->U "NoTime"))
inductive IZ (ss:List S)(R:S->Prop)(U:Str->Prop):Prop
 |mk (cs:Cs)(m t:Rat)(n:Nat)(_:ss=[.d (crv cs m),.d (qd t)])(_:0<cs.length)(_:cs.length<=100000)(_:tt cs 0=0)(_:Up cs)(_:n<=6000)(_:SzC n cs)(_:Sz n t)(_:(0<=t->R (.d (.int (plc cs t cs.length)))))(_:(¬0<=t->U "NoTime"))
inductive GA (ss:List S)(R:S->Prop)(U:Str->Prop):Prop
 |mk (t:Rat)(n:Nat)(_:ss=[.d (qd t)])(_:n<=6000)(_:Sz n t)(_:(0<=t->R (.d .non)))(_:(¬0<=t->U "NoTime"))
inductive Ec (ss:List S)(R:S->Prop)(U_:Str->Prop):Prop
 |mk (cs:Cs)(m:Rat)(k:Nat)(_:ss=[.d (crv cs m),.d (.int k)])(_:k<cs.length)(_:cs.length<=100000)(_:Up cs)(_:SzC 6400 cs)(_:Df cs)(_:R (.d (qd (slp cs m k))))
inductive Eu (ss:List S)(R:S->Prop)(U_:Str->Prop):Prop
 |mk (a b c d:Rat)(n e f:Nat)(_:ss=[.d (.tup [qd a,qd b]),.d (.tup [qd c,qd d])])(_:n<=6400)(_:Sz n a)(_:Sz n b)(_:Sz n c)(_:Sz n d)(_:Sz e (c-a))(_:Sz f (d-b))(_:e+f<=13000)(_:c-a≠0)(_:R (.d (qd ((d-b)/(c-a)))))
inductive Ex (ss:List S)(R:S->Prop)(U_:Str->Prop):Prop
 |mk (x:S)(cs:Cs)(m:Rat)(_:ss=[x,.d (qd m)])(_:(x=.r (cs.map cd)\/x=.d (.lst (cs.map cd))))(_:0<cs.length)(_:cs.length<=100000)(_:SzC 6400 cs)(_:Df cs)(_:Up cs)(_:R (.l ((JO cs m).map qd)))
inductive DE (ss:List S)(R:S->Prop)(U_:Str->Prop):Prop
 |mk (cs:Cs)(m:Rat)(a b c:Nat)(_:ss=[.d (crv cs m)])(_:Ord cs)(_:LS a b c cs m)(_:a+b+c+1<=1800)(_:cs.length<=5000)(_:R (.l ((stI cs m).map fun k=>cd (tt cs k,vv cs k))))
inductive DC (ss:List S)(R:S->Prop)(U_:Str->Prop):Prop
 |mk (cs:Cs)(m:Rat)(a b c:Nat)(_:ss=[.d (crv cs m)])(_:Ord cs)(_:LS a b c cs m)(_:a+b+c+1<=1800)(_:cs.length<=5000)(_:R (.l ((flI cs m).map fun k=>cd (tt cs k,vv cs k))))
inductive Ic (ss:List S)(R:S->Prop)(U_:Str->Prop):Prop
 |mk (cs:Cs)(m:Rat)(ds:Cs)(k:Rat)(_:ss=[.d (crv cs m),.d (crv ds k)])(_:Sz 6000 m)(_:Sz 6000 k)(_:R (.d (.bl (decide (k<m)))))
inductive JQ (ss:List S)(R:S->Prop)(U_:Str->Prop):Prop
 |mk (a b s h:Rat)(n p l k:Nat)(_:ss=[.d (.tup [qd a,qd b]),.d (qd s),.d (qd h)])(_:Sz n a)(_:Sz p b)(_:Sz l h)(_:Sz k s)(_:s≠0)(_:n+p+l+k+2<=13000)(_:R (.d (qd (a+(h-b)/s))))
def Fs:SpL:=fun a dom p ss R _=>∃(x:S)(xs:List D)(n:Nat),ss=[x,.d (.ref a)]/\(x=.d (.tup xs)\/x=.r xs\/x=.d (.lst xs))/\xs.length<=100000/\n<=xs.length/\(∀i x,xs[i]? = some x->dom x/\p x=decide (i<n))/\R (.d (.int n))
inductive JV (ss:List S)(R:S->Prop)(U_:Str->Prop):Prop
 |mk (cs:Cs)(m h:Rat)(_:ss=[.d (crv cs m),.d (qd h)])(_:GZ cs m)(_:Sz 1971 h)(_:∀r:Option Rat,Rch cs m h r->(∀t,r=some t->Sz 2642 t)->R (.d (oD r)))
inductive LZ (ss:List S)(R:S->Prop)(U_:Str->Prop):Prop
 |mk (cs:Cs)(m h:Rat)(_:ss=[.d (crv cs m),.d (qd h)])(_:GZ cs m)(_:Sz 1971 h)(_:∀r:Option Rat,Psd cs m h r->(∀t,r=some t->Sz 2642 t)->R (.d (oD r)))
inductive JN (ss:List S)(R:S->Prop)(U_:Str->Prop):Prop
 |mk (cs:Cs)(m h:Rat)(k:Nat)(_:ss=[.d (crv cs m),.d (.int k),.d (qd h)])(_:k<cs.length)(_:GZ cs m)(_:Sz 1971 h)(_:(slp cs m k=0->R (.d .non)))(_:(slp cs m k≠0->R (.d (qd (tt cs k+(h-vv cs k)/slp cs m k)))))
inductive M3 (ss:List S)(R:S->Prop)(U_:Str->Prop):Prop
 |mk (cs:Cs)(m:Rat)(ds:Cs)(k:Rat)(a b c:Nat)(S0:List Rat)(_:ss=[.d (crv cs m),.d (crv ds k)])(_:Cg cs m)(_:Cg ds k)(_:LS a b c cs m)(_:LS a b c ds k)(_:2*b+2*c+2<=a)(_:4*a+2*b+3<=12800)(_:cs.length+ds.length<=900)(_:SL S0 cs m)(_:SL S0 ds k)(_:∀(C:Cs)(M:Rat),Crv C M->M=mn m k->LS a b c C M->SL S0 C M->C.length<=2*(cs.length+ds.length)->(∀t,0<=t->val C M t=mn (val cs m t) (val ds k t))->R (.d (crv C M)))
inductive Fx (ss:List S)(R:S->Prop)(U_:Str->Prop):Prop
 |mk (cs:Cs)(m:Rat)(ds:Cs)(k:Rat)(a b c:Nat)(_:ss=[.d (crv cs m),.d (crv ds k)])(_:Ord cs)(_:Ord ds)(_:cs.length<=1000)(_:ds.length<=1000)(_:LS a b c cs m)(_:LS a b c ds k)(_:a+b+c+1<=6000)(_:4*a+b+2<=13000)(_:3*a+2*b+c+3<=13000)(_:∀ts:List Rat,Tms cs ds ts->ts.length<=cs.length+ds.length->R (.l (ts.map (rw3 cs m ds k))))
inductive Ez (ss:List S)(R:S->Prop)(U_:Str->Prop):Prop
 |mk (cs:Cs)(m:Rat)(ds:Cs)(k:Rat)(n:Nat)(_:ss=[.d (crv cs m),.d (crv ds k)])(_:Ord cs)(_:Ord ds)(_:cs.length<=1000)(_:ds.length<=1000)(_:n<=6000)(_:SzC n cs)(_:SzC n ds)(_:∀ts:List Rat,Tms cs ds ts->ts.length<=cs.length+ds.length->R (.d (.lst (ts.map qd))))
inductive Ge (ss:List S)(R:S->Prop)(U_:Str->Prop):Prop
 |mk (x:S)(cs:Cs)(m:Rat)(ds:Cs)(k:Rat)(ts:List Rat)(v:Nat)(_:ss=[x])(_:(x=.r (ts.map (rw3 cs m ds k))\/x=.d (.lst (ts.map (rw3 cs m ds k)))))(_:ts.length<=2000)(_:v<=6400)(_:(∀i,i<ts.length->Sz v (val cs m (T ts i))/\Sz v (val ds k (T ts i))))(_:R (.l ((gcs cs m ds k ts).map cd)))
inductive EV (ss:List S)(R:S->Prop)(U_:Str->Prop):Prop
 |mk (cs:Cs)(m:Rat)(ds:Cs)(k:Rat)(a b c:Nat)(_:ss=[.d (crv cs m),.d (crv ds k)])(_:Ord cs)(_:Ord ds)(_:LS a b c cs m)(_:LS a b c ds k)(_:2*b+2*c+2<=a)(_:4*a+2*b+3<=12800)(_:cs.length+ds.length<=900)(_:∀us:List Rat,Cx cs m ds k us none->(∀i,i<us.length->Sz a (T us i))->us.length<=2*(cs.length+ds.length)->R (.l (us.map (rw3 cs m ds k))))
inductive Jf (ss:List S)(R:S->Prop)(U_:Str->Prop):Prop
 |mk (p q:Rat)(_:ss=[.d (qd p),.d (qd q)])(_:Sz 6400 p)(_:Sz 6400 q)(_:R (.d (.bl (decide (Opp p q)))))
inductive JG (ss:List S)(R:S->Prop)(U_:Str->Prop):Prop
 |mk (cs:Cs)(m:Rat)(ds:Cs)(k:Rat)(_:ss=[.d (crv cs m),.d (crv ds k)])(_:GZ cs m)(_:GZ ds k)(_:∀r:Option Rat,Za cs m ds k r->(∀v,r=some v->Sz 3943 v)->R (.d (oD r)))
inductive Ew (ss:List S)(R:S->Prop)(U_:Str->Prop):Prop
 |mk (cs:Cs)(m:Rat)(ds:Cs)(k:Rat)(_:ss=[.d (crv cs m),.d (crv ds k)])(_:GZ cs m)(_:GZ ds k)(_:(∀(ts:List Rat)(i:Nat),Tms cs ds ts->i<ts.length->(∀j,j<ts.length->gap cs m ds k (T ts j)<=gap cs m ds k (T ts i))->Sz 3943 (gap cs m ds k (T ts i))->R (.d (.tup [qd (T ts i),qd (gap cs m ds k (T ts i))]))))
inductive Le (ss:List S)(R:S->Prop)(U_:Str->Prop):Prop
 |mk (cs:Cs)(m:Rat)(ds:Cs)(k:Rat)(_:ss=[.d (crv cs m),.d (crv ds k)])(_:GZ cs m)(_:GZ ds k)(_:∀r:Option Rat,Zf cs m ds k r->(∀v,r=some v->Sz 5285 v)->R (.d (oD r)))
inductive JL (ss:List S)(R:S->Prop)(U_:Str->Prop):Prop
 |mk (cs:Cs)(m:Rat)(ds:Cs)(k h:Rat)(_:ss=[.d (crv cs m),.d (crv ds k),.d (qd h)])(_:GZ cs m)(_:GZ ds k)(_:Sz 1971 h)(_:∀rf rg pf pg,Rch cs m h rf->Rch ds k h rg->Psd cs m h pf->Psd ds k h pg->Sz 5285 (btw rf rg)->Sz 5285 (btw pf pg)->R (.d (qd (mx (btw rf rg) (btw pf pg)))))
inductive JB (ss:List S)(R:S->Prop)(U_:Str->Prop):Prop
 |mk (a b:Option Rat)(_:ss=[.d (oD a),.d (oD b)])(_:(∀t,a=some t->Sz 2642 t))(_:(∀t,b=some t->Sz 2642 t))(_:R (.d (qd (btw a b))))
inductive Hy (ss:List S)(R:S->Prop)(U_:Str->Prop):Prop
 |mk (cs:Cs)(m:Rat)(a b c:Nat)(_:ss=[.d (crv cs m)])(_:Ord cs)(_:LS a b c cs m)(_:a+b+c+1<=1800)(_:cs.length<=5000)(_:R (.l ((BC cs m).map rpD)))
inductive EX (ss:List S)(R:S->Prop)(U_:Str->Prop):Prop
 |mk (c:Rat×Rat)(m:Rat)(n:Nat)(_:ss=[.d (cd c),.d (qd m)])(_:Sz n c.1)(_:Sz n c.2)(_:Sz n m)(_:n<=4000)(_:R (.d (lnD (Nc m (c.2-m*c.1)))))
inductive Iv (ss:List S)(R:S->Prop)(U:Str->Prop):Prop
 |mk (x:S)(ps:List RP)(P:Ps)(k m:Nat)(_:ss=[x])(_:(x=.r (ps.map rpD)\/x=.d (.lst (ps.map rpD))))(_:PL k m ps P)(_:0<ps.length)(_:ps.length<=90000)(_:k+m+1<=13000)(_:SzD (Fp P) (ln P (P.length-1)).1)(_:Ord (Fp P))(_:0<=(ln P (P.length-1)).1)(_:R (.d (crv (kp (Fp P) (ln P (P.length-1)).1 (P.length-1)) (ln P (P.length-1)).1)))
inductive Hw (ss:List S)(R:S->Prop)(U_:Str->Prop):Prop
 |mk (p:RP)(q:Rat×Ln2)(k m:Nat)(_:ss=[.d (tp p.1.1 p.1.2),.d (lnD p.2)])(_:PW1 k m p q)(_:k+m+1<=13000)(_:R (.d (cd (q.1,ev q.2 q.1))))
inductive Pk (ss:List S)(R:S->Prop)(U_:Str->Prop):Prop
 |mk (x:S)(ps:List RP)(P:Ps)(wn wd vn vd:Int)(w v:Rat)(k m n:Nat)(_:ss=[x,.d (.tup [tp wn wd,tp vn vd])])(_:(x=.r (ps.map rpD)\/x=.d (.lst (ps.map rpD))))(_:PL k m ps P)(_:Wq n wn wd w)(_:Wq n vn vd v)(_:k<=30000)(_:m<=30000)(_:n<=30000)(_:ps.length<=100000)(_:R (.l ((ps.map (mvR wn wd vn vd)).map rpD)))
inductive Gx (ss:List S)(R:S->Prop)(U_:Str->Prop):Prop
 |mk (a b wn wd:Int)(t w:Rat)(m n:Nat)(_:ss=[.d (tp a b),.d (tp wn wd)])(_:Wq m a b t)(_:Wq n wn wd w)(_:m<=100000)(_:n<=100000)(_:R (.d (tp (a*wd+wn*b) (b*wd))))
inductive Gh (ss:List S)(R:S->Prop)(U_:Str->Prop):Prop
 |mk (l:RL)(q:Ln2)(wn wd vn vd:Int)(w v:Rat)(k m:Nat)(_:ss=[.d (lnD l),.d (.tup [tp wn wd,tp vn vd])])(_:LW k l q)(_:Wq m wn wd w)(_:Wq m vn vd v)(_:k<=100000)(_:m<=100000)(_:R (.d (lnD (l.1*(wd*vd),l.2.1*(wd*vd)-l.1*wn*vd+l.2.2*vn*wd,l.2.2*(wd*vd)))))
inductive JU (ss:List S)(R:S->Prop)(U_:Str->Prop):Prop
 |mk (x:S)(ps:List RP)(_:ss=[x])(_:(x=.r (ps.map rpD)\/x=.d (.lst (ps.map rpD))))(_:ps.length<=100000)(_:R (.l ((ps.map flR).map rpD)))
inductive Lc (ss:List S)(R:S->Prop)(U_:Str->Prop):Prop
 |mk (cs:Cs)(m far:Rat)(n:Nat)(_:ss=[.d (.lst ((BC cs m).map rpD)),.d (qd far)])(_:0<cs.length)(_:cs.length<=5000)(_:(∀i,i<cs.length->Sz n (tt cs i)))(_:Sz n far)(_:n<=6000)(_:R (.d (.lst ((trR cs m far).map rpD))))
inductive Fy (ss:List S)(R:S->Prop)(U_:Str->Prop):Prop
 |mk (ps:List RP)(P:Ps)(k m c:Nat)(_:ss=[.d (.lst (ps.map rpD))])(_:PL k m ps P)(_:ps.length<=50000)(_:m<=100000)(_:0<c)(_:c<=P.length)(_:(∀i,i<c->bg P i<=0))(_:(∀i,c<=i->i<P.length->0<bg P i))(_:R (.d (.lst ((frR ps c).map rpD))))
inductive JM (ss:List S)(R:S->Prop)(U_:Str->Prop):Prop
 |mk (y:S)(ps os:List RP)(P O:Ps)(B S0:List Rat)(G:Ln2->Prop)(V:Rat->Prop)(k m:Nat)(h g:Rat->Rat)(_:ss=[.r (ps.map rpD),y])(_:(y=.r (os.map rpD)\/y=.d (.lst (os.map rpD))))(_:(Dy B S0 G V k m h none ps P/\0<P.length/\PL k m os O/\PU O g none/\0<O.length/\(∀x,x<O.length->(ln O x).1∈S0)/\(∀x,x<O.length->G (ln O x)/\V (bg O x))/\(∀l l',G l->G l'->l.1≠l'.1->V (xg l l'))/\k+k+1<=m/\m<=12000/\bg P 0<=bg O 0/\(bg P 0<bg O 0->h (bg O 0)<=g (bg O 0))/\ps.length+os.length<=90000/\(B.length+O.length+1)*S0.length<=90000))(_:∀(qs:List RP)(Q:Ps),Dy (B++L7 O) S0 G V k m (LH (bg O 0) h g) none qs Q->0<Q.length->bg Q 0=bg P 0->R (.l (qs.map rpD)))
inductive EH (ss:List S)(R:S->Prop)(U_:Str->Prop):Prop
 |mk (y:S)(ps os:List RP)(P O:Ps)(k m c:Nat)(_:ss=[.r (ps.map rpD),y])(_:(y=.r (os.map rpD)\/y=.d (.lst (os.map rpD))))(_:PL k m ps P)(_:PL k m os O)(_:0<O.length)(_:(∀i,i+1<P.length->bg P i<bg P (i+1)))(_:(∀i,i+1<O.length->bg O i<bg O (i+1)))(_:m<=100000)(_:ps.length+os.length<=90000)(_:0<c)(_:c<=P.length)(_:(∀i,i<c->bg P i<=bg O 0))(_:(∀i,c<=i->i<P.length->bg O 0<bg P i))(_:∀rw:List R4,Qa P O m rw->¬iF' rw (rw.length-1)+1<P.length->¬jF rw (rw.length-1)+1<O.length->R (.l (rw.map (Uj ps os))))
inductive EC (ss:List S)(R:S->Prop)(U_:Str->Prop):Prop
 |mk (xs:List RP)(p q:RP)(s t:Rat)(m:Nat)(_:ss=[.d (.lst (xs.map rpD))])(_:0<xs.length)(_:xs.getD 0 dfR=p)(_:xs.getD (xs.length-1) dfR=q)(_:Wq m p.1.1 p.1.2 s)(_:Wq m q.1.1 q.1.2 t)(_:m<=100000)(_:R (.d (if t<s then tp q.1.1 q.1.2 else tp p.1.1 p.1.2)))
inductive Qb (ss:List S)(R:S->Prop)(U_:Str->Prop):Prop
 |mk (l1 l2:RL)(tn td:Int)(q1 q2:Ln2)(t:Rat)(k m:Nat)(_:ss=[.d (lnD l1),.d (lnD l2),.d (tp tn td)])(_:LW k l1 q1)(_:LW k l2 q2)(_:Wq m tn td t)(_:k<=100000)(_:m<=100000)(_:R (.d (.int (sg (ev q1 t-ev q2 t)))))
inductive Qy (ss:List S)(R:S->Prop)(U_:Str->Prop):Prop
 |mk (l1 l2:RL)(q1 q2:Ln2)(k:Nat)(_:ss=[.d (lnD l1),.d (lnD l2)])(_:LW k l1 q1)(_:LW k l2 q2)(_:k<=100000)(_:R (.d (.int (sg (q1.1-q2.1)))))
inductive Qg (ss:List S)(R:S->Prop)(U_:Str->Prop):Prop
 |mk (a:Int)(_:ss=[.d (.int a)])(_:R (.d (.int a.sign)))
def HC:SpM:=fun xs ds R=>∃(ps:List RP)(tm:Int×Int)(l1 l2:RL)(now thn:Int)(q1 q2:Ln2)(k:Nat),xs=ps.map rpD/\ds=[.tup [.tup [.int tm.1,.int tm.2],lnD l1,lnD l2],.int now,.int thn]/\LW k l1 q1/\LW k l2 q2/\k<=6000/\(now<0/\0<thn\/0<now/\thn<0->q1.1≠q2.1)/\ps.length<999980/\∀ps',Rf ps tm l1 l2 now thn (xg q1 q2) ps'->R (ps'.map rpD)
def DR:SpM:=fun xs ds R=>∃(ps:List RP)(p:RP),xs=ps.map rpD/\ds=[.tup [.int p.1.1,.int p.1.2],lnD p.2]/\ps.length<999990/\∀ps',L8 ps p ps'->R (ps'.map rpD)
inductive IF (ss:List S)(R:S->Prop)(U_:Str->Prop):Prop
 |mk (l1 l2:RL)(q1 q2:Ln2)(k:Nat)(_:ss=[.d (lnD l1),.d (lnD l2)])(_:LW k l1 q1)(_:LW k l2 q2)(_:k<=6000)(_:q1.1≠q2.1)(_:R (.d (qd (xg q1 q2))))
inductive LD (ss:List S)(R:S->Prop)(U_:Str->Prop):Prop
 |mk (fc:Cs)(fm:Rat)(gc:Cs)(gm:Rat)(a b c N:Nat)(S0:List Rat)(_:ss=[.d (crv fc fm),.d (crv gc gm)])(_:(Cg fc fm/\Cg gc gm/\LS a b c fc fm/\LS a b c gc gm/\6*a+9*b+6*c+24<=4400/\(2*(fc.length*gc.length)+2*fc.length+2*gc.length+3)*S0.length<=N/\6*(fc.length+gc.length)<=N/\N<=40000/\SL S0 fc fm/\SL S0 gc gm/\fc.length+gc.length<=300/\6*(a+b+c)+3*b+12<=4400))(_:∀(C:Cs)(M:Rat),Crv C M->M=(if gm<fm then gm else fm)->(∀t,0<=t->IsJ fc fm gc gm t (val C M t))->LS (4*(a+b+c)+2*b+16) b (2*(a+b+c)+5) C M->SL S0 C M->C.length<=N->R (.d (crv C M)))
inductive D8 (ss:List S)(R:S->Prop)(U_:Str->Prop):Prop
 |mk (fc:Cs)(fm:Rat)(gc:Cs)(gm:Rat)(a b c:Nat)(S0:List Rat)(_:ss=[.d (crv fc fm),.d (crv gc gm)])(_:(Cg fc fm/\Cg gc gm/\Cvx fc fm/\Cvx gc gm/\LS a b c fc fm/\LS a b c gc gm/\6*(a+b+c)+3*b+12<=4400/\fc.length+gc.length<=300/\SL S0 fc fm/\SL S0 gc gm))(_:∀(C:Cs)(M:Rat),Crv C M->M=(if gm<fm then gm else fm)->(∀t,0<=t->(∀r,0<=r->r<=t->val C M t<=val fc fm r+val gc gm (t-r))/\∃s,0<=s/\s<=t/\val C M t=val fc fm s+val gc gm (t-s))->LS (2*a+1) b (2*(a+b+c)+3) C M->SL S0 C M->C.length<=fc.length+gc.length->R (.d (crv C M)))
inductive DQ (ss:List S)(R:S->Prop)(U_:Str->Prop):Prop
 |mk (cs:Cs)(m last:Rat)(p n:Nat)(_:ss=[.d (crv cs m),.d (qd last)])(_:0<cs.length)(_:Up cs)(_:cs.length<=1000)(_:SzC n cs)(_:n<=3000)(_:(∀k,k<cs.length->Sz 3000 (slp cs m k)))(_:Sz 3000 last)(_:p<cs.length)(_:(∀k,k<p->slp cs m k<last))(_:(∀k,p<=k->k<cs.length->last<=slp cs m k))(_:R (.l ((List.range p).map (stD cs m))))
inductive Iz (ss:List S)(R:S->Prop)(U_:Str->Prop):Prop
 |mk (fc:Cs)(fm:Rat)(gc:Cs)(gm last:Rat)(p q:Nat)(_:ss=[.d (.lst ((List.range p).map (stD fc fm))),.d (.lst ((List.range q).map (stD gc gm)))])(_:(Ord fc/\Ord gc/\Cvx fc fm/\Cvx gc gm/\p<fc.length/\q<gc.length/\(∀k,k<p->slp fc fm k<last)/\(∀k,p<=k->k<fc.length->last<=slp fc fm k)/\(∀k,k<q->slp gc gm k<last)/\(∀k,q<=k->k<gc.length->last<=slp gc gm k)))(_:fc.length<=1000)(_:gc.length<=1000)(_:(∀k,k<fc.length->Sz 3000 (slp fc fm k)))(_:(∀k,k<gc.length->Sz 3000 (slp gc gm k)))(_:∀(W:List (Nat×Nat))(L:List D),HR fc fm gc gm p q W->FL fc gc W L->R (.d (.lst L)))
inductive C3 (ss:List S)(R:S->Prop)(U_:Str->Prop):Prop
 |mk (fc:Cs)(fm:Rat)(gc:Cs)(gm:Rat)(a b c N:Nat)(S0:List Rat)(_:ss=[.d (crv fc fm),.d (crv gc gm)])(_:(Cg fc fm/\Cg gc gm/\LS a b c fc fm/\LS a b c gc gm/\6*a+9*b+6*c+24<=4400/\(2*(fc.length*gc.length)+2*fc.length+2*gc.length+3)*S0.length<=N/\6*(fc.length+gc.length)<=N/\N<=40000/\SL S0 fc fm/\SL S0 gc gm/\fc.length+gc.length<=300))(_:∀(C:Cs)(M:Rat),Crv C M->M=(if gm<fm then gm else fm)->(∀t,0<=t->IsJ fc fm gc gm t (val C M t))->LS (4*(a+b+c)+2*b+16) b (2*(a+b+c)+5) C M->SL S0 C M->C.length<=N->R (.d (crv C M)))
inductive Lr (ss:List S)(R:S->Prop)(U_:Str->Prop):Prop
 |mk (fc:Cs)(fm:Rat)(gc:Cs)(gm:Rat)(a b c N:Nat)(S0:List Rat)(_:ss=[.d (crv fc fm),.d (crv gc gm)])(_:(Cg fc fm/\Cg gc gm/\LS a b c fc fm/\LS a b c gc gm/\1<=b/\6*a+9*b+6*c+24<=4400/\(2*(fc.length*gc.length)+2*fc.length+gc.length+3)*S0.length<=N/\N<=40000/\SL S0 fc fm/\SL S0 gc gm/\(0:Rat)∈S0/\fc.length<=4999/\gc.length<=4999))(_:(gm<fm->R (.d .non)))(_:(fm<=gm->∀C:Cs,Crv C fm->(∀t,0<=t->IsU fc fm gc gm t (val C fm t))->LS (4*(a+b+c)+2*b+16) b (2*(a+b+c)+5) C fm->SL S0 C fm->C.length<=N->R (.d (crv C fm))))
inductive C5 (ss:List S)(R:S->Prop)(U_:Str->Prop):Prop
 |mk (cs:Cs)(m:Rat)(a b c:Nat)(_:ss=[.d (crv cs m)])(_:Ord cs)(_:LS a b c cs m)(_:a+b+c+1<=1800)(_:cs.length<=5000)(_:R (.d (.lst ((0::stI cs m).map fun k=>cd (tt cs k,vv cs k)))))
inductive EN (ss:List S)(R:S->Prop)(U_:Str->Prop):Prop
 |mk (ns:List Int)(k:Int)(_:ss=[.r (ns.map D.int),.d (.int k)])(_:0<=k)(_:k<=1000)(_:R (.d (.int (cl ns k))))
inductive Jg (ss:List S)(R:S->Prop)(U_:Str->Prop):Prop
 |mk (a b:Int)(_:ss=[.d (.int a),.d (.int b)])(_:0<b)(_:a.natAbs<2^13000)(_:b.natAbs<2^13000)(_:R (.d (qd (Rat.divInt a b))))
inductive IV (ss:List S)(R:S->Prop)(U_:Str->Prop):Prop
 |mk (a b c d:Int)(_:ss=[.d (tp a b),.d (tp c d)])(_:L4 400000 a b c d)(_:R (.d (tp (a*d+c*b) (b*d))))
inductive Hv (ss:List S)(R:S->Prop)(U_:Str->Prop):Prop
 |mk (a b c d:Int)(_:ss=[.d (tp a b),.d (tp c d)])(_:L4 400000 a b c d)(_:R (.d (tp (a*d-c*b) (b*d))))
inductive GL (ss:List S)(R:S->Prop)(U_:Str->Prop):Prop
 |mk (a b c d:Int)(_:ss=[.d (tp a b),.d (tp c d)])(_:L4 400000 a b c d)(_:R (.d (.bl (decide (a*d<=c*b)))))
inductive GW (ss:List S)(R:S->Prop)(U_:Str->Prop):Prop
 |mk (cs:Cs)(m:Rat)(k:Int)(j n:Nat)(_:ss=[.d (crv cs m),.d (.int k)])(_:k=(j:Int))(_:j<cs.length)(_:Up cs)(_:n<=50000)(_:SzC n cs)(_:Sz n m)(_:∀A B:Int,Wq (4*n+2) A B (slp cs m j)->R (.d (tp A B)))
inductive Gr (ss:List S)(R:S->Prop)(U_:Str->Prop):Prop
 |mk (q:Rat)(_:ss=[.d (qd q)])(_:Sz 13000 q)(_:R (.d (.bl true)))
inductive Fu (ss:List S)(R:S->Prop)(U_:Str->Prop):Prop
 |mk (ms:List Int)(_:ss=[.d (.lst (ms.map D.int))])(_:ms.length<=58)(_:∀sl:List Int,sl.length=ms.length->(∀x∈sl,0<=x/\x<=2000000000000)->R (.l (sl.map D.int)))
inductive Gv (ss:List S)(R:S->Prop)(U_:Str->Prop):Prop
 |mk (c:Int)(ms:List Int)(st sh:Int)(_:ss=[.d (.int c),.d (.lst (ms.map D.int)),.d (.int st),.d (.int sh)])(_:0<ms.length)(_:ms.length<=58)(_:0<=st)(_:st<=4000000000000)(_:∀(cs:Cs)(m:Rat),Ord cs->LS 41 45 68 cs m->(∀i,i<cs.length->Sz 68 (vv cs i))->0<=m->cs.length<=ms.length->(st=0->vv cs 0=0)->R (.d (crv cs m)))
inductive F7 (ss:List S)(R:S->Prop)(U_:Str->Prop):Prop
 |mk (cs:Cs)(m l:Rat)(_:ss=[.d (crv cs m),.d (qd l)])(_:(Ord cs/\LS 41 45 68 cs m/\(∀i,i<cs.length->Sz 68 (vv cs i))/\cs.length<=3/\vv cs 0=0))(_:Sz 66 l)(_:0<=l)(_:∀ds:Cs,KH ds l->R (.d (crv ds l)))
inductive IL (ss:List S)(R:S->Prop)(U_:Str->Prop):Prop
 |mk (ns:List Int)(b z:Int)(_:ss=[.r (ns.map D.int),.d (.int b),.d (.int z)])(_:0<=b)(_:b<=100)(_:1<=z)(_:z<=8)(_:∀ms:List Int,(ms.length:Int)=z->R (.l (ms.map D.int)))
inductive EG (ss:List S)(R:S->Prop)(U_:Str->Prop):Prop
 |mk (a b:Option Rat)(_:ss=[.d (oD a),.d (oD b)])(_:(∀t,a=some t->Sz 5285 t))(_:(∀t,b=some t->Sz 5285 t))(_:(∀v,a=some v->∃u,b=some u/\u<=v))(_:R (.d (.bl true)))
inductive HA (ss:List S)(R:S->Prop)(U_:Str->Prop):Prop
 |mk (fc:Cs)(fm:Rat)(gc:Cs)(gm:Rat)(hc:Cs)(hm:Rat)(jc:Cs)(jm:Rat)(S0:List Rat)(_:ss=[.d (crv fc fm),.d (crv gc gm),.d (crv hc hm),.d (crv jc jm)])(_:(Cg fc fm/\LS 41 66 176 fc fm/\fc.length<=4/\KH gc gm/\KH hc hm/\GZ jc jm/\jm=(if hm<gm then hm else gm)/\(∀t,0<=t->IsJ gc gm hc hm t (val jc jm t))/\S0.length<=11/\SL S0 fc fm/\SL S0 gc gm/\(0:Rat)∈S0))(_:R (.d (.bl true)))
inductive Gi (ss:List S)(R:S->Prop)(U_:Str->Prop):Prop
 |mk (ns:List Int)(b:Int)(m:Rat)(_:ss=[.r (ns.map D.int),.d (.int b),.d (qd m)])(_:0<=b)(_:b<=50)(_:Sz 45 m)(_:0<=m)(_:∀(cs:Cs)(k:Rat),KH cs k->R (.d (crv cs k)))
abbrev Wt:Sp3:=Ny
inductive Iy (ss:List S)(R:S->Prop)(U_:Str->Prop):Prop
 |mk (a b c d:Int)(p q:Rat)(k l:Nat)(_:ss=[.d (tp a b),.d (tp c d)])(_:Wq k a b p)(_:Wq l c d q)(_:k<=200000)(_:l<=200000)(_:R (.d (.bl (decide (p<q)))))
inductive Dk (ss:List S)(R:S->Prop)(U_:Str->Prop):Prop
 |mk (cs:Cs)(m:Rat)(_:ss=[.d (.tup (cs.map cd)),.d (qd m)])(_:0<cs.length)(_:cs.length<=100000)(_:SzC 3200 cs)(_:Up cs)(_:R (.l ((JO cs m).map qd)))
section
variable {P:Program}{w:World}{K:W.Frag}{mg:Str->Option Value}{base:Heap}{f:Addr}{fd:FuncData}
variable {K_CurveError K_NoRatio K_NoCurve K_NoTime:Addr}
theorem Mh:Ad ["thing"] ["thing"] (Ab G2):=scN
variable (A4:mg "isinstance"=none)
variable (My:mg "int"=none)
variable (Iw:mg "bool"=none)
include A4 My Iw in
theorem Mk (F:Fun K "is_whole" "is_whole" G2 f fd):Aq P w K mg base CX0 1 f fd ["thing"] (Ae K mg IK):=by
 refine fn3 F Mh (fun ss R U h=>?_) (fun cdv A outer s H E ss R U hr h=>?_)
 .obtain⟨a,rfl,_⟩:=h;rfl
 obtain⟨a,rfl,q⟩:=h
 refine#[_,(Bg (RZ (OX .int (vN 0) rfl A4 rfl My qCT) (Sb (P2 (OX .bool (vN 0) rfl A4 rfl Iw qCM))))),?_]
 refine#[trivial,#[trivial,?_]]
 exact q
variable (Ee:Cal P w K mg base (CXU P w) 1 "is_whole" ["thing"] IK)
theorem Dj:Ad ["one","other","great","small","rest"] ["one","other"] (Ab II):=scN
variable (LY:mg "abs"=none)
include LY in
theorem NX (F:Fun K "divisor" "divisor" II f fd):Aq P w K mg base CX0 1 f fd ["one","other"] (Ae K mg JH):=by
 refine fn3 F Dj (fun ss R U h=>?_) (fun cdv A outer s H E ss R U hr h=>?_)
 .obtain⟨a,b,rfl,_⟩:=h;rfl
 obtain⟨a,b,rfl,q⟩:=h
 refine#[_,(Aa (AE 2 Dj (Kt Ua rfl LY qCf (a1 (vN 0))))
  (Aa (AE 3 Dj (Kt Ua rfl LY qCf (a1 (vN 1))))
  (Aa (G3 PassesOwn.never (Cm X8 (vN 3) Ac) (Aa (AE 4 Dj (Ar Dx (vN 2) (vN 3)))
  (Aa (AE 2 Dj (vN 3))
  (Af (AE 3 Dj (vN 4))))))
  (Af (Cj (pv 2)))))),?_]
 refine#[fun m τ=>∃x y z,τ=[I a,I b,I x,I y,z]/\0<=x/\0<=y/\g x y=g a b/\m=y.toNat,#[_,_,_,_,rfl,?_,?_,VP a b,rfl],?_]
 .exact QB a
 .exact QB b
 rintro m τ ⟨x,y,z,rfl,h1,h2,h3,rfl⟩
 refine Ui (fun c=>?_) (fun c=>?_)
 .refine#[c,(x.fmod y).toNat,?_,_,_,_,rfl,h2,?_,?_,rfl]
  .have:=qCu x (show 0<y from ())
   omega
  .exact qB8 x ()
  .rw[<-h3,qCx x h2]
   exact SY ()
 .subst c
  rw[W3 h1] at h3
  subst h3
  exact q
variable (Gm:Cal P w K mg base (CXU P w) 1 "divisor" ["one","other"] JH)
theorem KC:Ad ["top","bottom","common"] ["top","bottom"] (Ab MQ):=scN
include Ee Gm in
theorem Ru (F:Fun K "ratio" "ratio" MQ f fd):Aq P w K mg base CX0 2 f fd ["top","bottom"] (Ae K mg NO):=by
 refine fn3 F KC (fun ss R U h=>?_) (fun cdv A outer s H E ss R U hr h=>?_)
 .obtain⟨a,b,rfl,_⟩:=h;rfl
 obtain⟨a,b,rfl,hb,h1,h2,q⟩:=h
 refine#[_,(P0 (B1 (PW3.pt (OI (w_not (BQ (Al hr Ee (a1 (vN 0))))) (Jb (w_not (BQ (Al hr Ee (a1 (vN 1)))))))) (Af O2) An)
  (Aa (B1 (Cm K1 (vN 1) Ac) (Af O2) An)
  (Aa (AE 2 KC (Al hr Gm (a2 (vN 0) (vN 1))))
  (Cd (B1 (Cm K3 (vN 1) Ac) (Af (AE 2 KC (EO (vN 2)))) An)
  (Bg (Bl (a2 (Ar C4 (vN 0) (vN 2)) (Ar C4 (vN 1) (vN 2))))))))),?_]
 have hp:=IY (a:=a) hb
 have hc:=Oo (a:=a) hb
 refine#[#[a,rfl,#[b,rfl,rfl]],?_]
 refine B9 (fun e=>absurd e hb) (fun _=>?_)
 refine#[a,b,rfl,?_]
 refine#[fun τ=>τ=[I a,I b,I (cm a b)],?_,?_]
 .refine B9 (fun e=>?_) (fun e=>?_)
  .have e':cm a b=-(g a b):=if_pos e
   rw[e']
   rfl
  .have e':cm a b=g a b:=if_neg e
   rw[e']
   rfl
 rintro τ rfl
 refine#[#[hc,Xl h1],#[hc,Xl h2],(by show 2<=1000;decide),?_]
 show R (.d (.tup [.int (a.fdiv (cm a b)),.int (b.fdiv (cm a b))]))
 rw[hp.1,hp.2]
 exact q
variable (A9:Cal P w K mg base (CXU P w) 2 "ratio" ["top","bottom"] NO)
theorem UJ:Ad ["one","other"] ["one","other"] (Ab QK):=scN
include A9 in
theorem TH (F:Fun K "plus" "plus" QK f fd):Aq P w K mg base CX0 3 f fd ["one","other"] (Ae K mg PY):=by
 refine fn3 F UJ (fun ss R U h=>?_) (fun cdv A outer s H E ss R U hr h=>?_)
 .obtain⟨p,q,k,l,rfl,_⟩:=h;rfl
 obtain⟨q1,q2,k,l,rfl,h1,h2,hk,q⟩:=h
 refine#[_,(Bg (Al hr A9 (a2 (Ar Bd (Ar AF (vK 0) (vK 1)) (Ar AF (vK 1) (vK 0))) (Ar AF (vK 0) (vK 1))))),?_]
 have m1:=Ak h1.1 (Ay h2)
 have m2:=Ak h2.1 (Ay h1)
 have m3:=Ak (Ay h1) (Ay h2)
 rw[qBS l k] at m2
 refine#[AI h1.1 (Ay h2) (),AI h2.1 (Ay h1) (),AI (Ay h1) (Ay h2) (),_,_,rfl,NW q1 q2,AU (HB m1 m2) (),AU m3 (),?_]
 rw[QI q1 q2]
 exact q
variable (Dr:Cal P w K mg base (CXU P w) 3 "plus" ["one","other"] PY)
theorem RQ:Ad ["one","other"] ["one","other"] (Ab MO):=scN
include A9 in
theorem RB (F:Fun K "minus" "minus" MO f fd):Aq P w K mg base CX0 3 f fd ["one","other"] (Ae K mg NJ):=by
 refine fn3 F RQ (fun ss R U h=>?_) (fun cdv A outer s H E ss R U hr h=>?_)
 .obtain⟨p,q,k,l,rfl,_⟩:=h;rfl
 obtain⟨q1,q2,k,l,rfl,h1,h2,hk,q⟩:=h
 refine#[_,(Bg (Al hr A9 (a2 (Ar C6 (Ar AF (vK 0) (vK 1)) (Ar AF (vK 1) (vK 0))) (Ar AF (vK 0) (vK 1))))),?_]
 have m1:=Ak h1.1 (Ay h2)
 have m2:=Ak h2.1 (Ay h1)
 have m3:=Ak (Ay h1) (Ay h2)
 rw[qBS l k] at m2
 refine#[AI h1.1 (Ay h2) (),AI h2.1 (Ay h1) (),AI (Ay h1) (Ay h2) (),_,_,rfl,NW q1 q2,AU (GB m1 m2) (),AU m3 (),?_]
 rw[NC q1 q2]
 exact q
variable (Aw:Cal P w K mg base (CXU P w) 3 "minus" ["one","other"] NJ)
theorem Rj:Ad ["one","other"] ["one","other"] (Ab Ms):=scN
include A9 in
theorem Sf (F:Fun K "times" "times" Ms f fd):Aq P w K mg base CX0 3 f fd ["one","other"] (Ae K mg Nq):=by
 refine fn3 F Rj (fun ss R U h=>?_) (fun cdv A outer s H E ss R U hr h=>?_)
 .obtain⟨p,q,k,l,rfl,_⟩:=h;rfl
 obtain⟨q1,q2,k,l,rfl,h1,h2,hk,q⟩:=h
 refine#[_,(Bg (Al hr A9 (a2 (Ar AF (vK 0) (vK 1)) (Ar AF (vK 0) (vK 1))))),?_]
 refine#[AI h1.1 h2.1 (),AI (Ay h1) (Ay h2) (),_,_,rfl,NW q1 q2,AU (Ak h1.1 h2.1) (),AU (Ak (Ay h1) (Ay h2)) (),?_]
 rw[Na q1 q2]
 exact q
variable (FP:Cal P w K mg base (CXU P w) 3 "times" ["one","other"] Nq)
theorem Vg:Ad ["one","other"] ["one","other"] (Ab Qd):=scN
include A9 in
theorem Ve (F:Fun K "over" "over" Qd f fd):Aq P w K mg base CX0 3 f fd ["one","other"] (Ae K mg Qz):=by
 refine fn3 F Vg (fun ss R U h=>?_) (fun cdv A outer s H E ss R U hr h=>?_)
 .obtain⟨p,q,k,l,rfl,_⟩:=h;rfl
 obtain⟨q1,q2,k,l,rfl,h1,h2,hk,h0,q⟩:=h
 refine#[_,(Bg (Al hr A9 (a2 (Ar AF (vK 0) (vK 1)) (Ar AF (vK 0) (vK 1))))),?_]
 refine#[AI h1.1 (Ay h2) (),AI (Ay h1) h2.1 (),_,_,rfl,Sz.den_ne (k:=0) h0,AU (Ak h1.1 (Ay h2)) (),AU (Ak (Ay h1) h2.1) (),?_]
 rw[PC q1 q2 h0]
 exact q
variable (IM:Cal P w K mg base (CXU P w) 3 "over" ["one","other"] Qz)
theorem Np:Ad ["one","other"] ["one","other"] (Ab J4):=scN
theorem RI (F:Fun K "under" "under" J4 f fd):Aq P w K mg base CX0 1 f fd ["one","other"] (Ae K mg Nz):=by
 refine fn3 F Np (fun ss R U h=>?_) (fun cdv A outer s H E ss R U hr h=>?_)
 .obtain⟨p,q,k,l,rfl,_⟩:=h;rfl
 obtain⟨q1,q2,k,l,rfl,h1,h2,hk,q⟩:=h
 refine#[_,(Bg (MP K3 (Ar AF (vK 0) (vK 1)) (Ar AF (vK 1) (vK 0)) (Hx _))),?_]
 refine#[AI h1.1 (Ay h2) (),AI h2.1 (Ay h1) (),?_]
 have e:decide (q1.num*(q2.den:Int)<q2.num*(q1.den:Int))=decide (q1<q2):=decide_eq_decide.mpr (lt_iff q1 q2)
 show R (.d (.bl (decide (q1.num*(q2.den:Int)<q2.num*(q1.den:Int)))))
 rw[e]
 exact q
variable (Ai:Cal P w K mg base (CXU P w) 1 "under" ["one","other"] Nz)
theorem Mc (F:Fun K "under" "under" J4 f fd):Aq P w K mg base CX0 1 f fd ["one","other"] (Ae K mg Iy):=by
 refine fn3 F Np (fun ss R U h=>?_) (fun cdv A outer s H E ss R U hr h=>?_)
 .obtain⟨a,b,c,d,p,q,k,l,rfl,_⟩:=h;rfl
 obtain⟨a,b,c,d,p,q0,k,l,rfl,h1,h2,hk,hl,q⟩:=h
 refine#[_,(Bg (MP K3 (Ar AF (vK 0) (vK 1)) (Ar AF (vK 1) (vK 0)) (Hx _))),?_]
 refine#[AI h1.la h2.lb (),AI h2.la h1.lb (),?_]
 show R (.d (.bl (decide (a*d<c*b))))
 rw[XW h1 h2]
 exact q
variable (AO:Cal P w K mg base (CXU P w) 1 "under" ["one","other"] Iy)
theorem Pq:Ad ["one","other"] ["one","other"] (Ab Kb):=scN
include Ai in
theorem PV (F:Fun K "lesser" "lesser" Kb f fd):Aq P w K mg base CX0 2 f fd ["one","other"] (Ae K mg Ly):=by
 refine fn3 F Pq (fun ss R U h=>?_) (fun cdv A outer s H E ss R U hr h=>?_)
 .obtain⟨p,q,k,l,rfl,_⟩:=h;rfl
 obtain⟨q1,q2,k,l,rfl,h1,h2,hk,q⟩:=h
 refine#[_,(Aa (B1 (BQ (Al hr Ai (a2 (vN 1) (vN 0)))) (Af (Cj (pv 1))) An)
  (Af (Cj (pv 0)))),?_]
 refine#[q2,q1,l,k,rfl,h2,h1,(),?_]
 refine B9 (fun e=>?_) (fun e=>?_)
 .rw[if_pos e] at q
  exact q
 .rw[if_neg e] at q
  exact q
variable (DP:Cal P w K mg base (CXU P w) 2 "lesser" ["one","other"] Ly)
theorem Ox:Ad ["one","other"] ["one","other"] (Ab IG):=scN
include Ai in
theorem NZ (F:Fun K "greater" "greater" IG f fd):Aq P w K mg base CX0 2 f fd ["one","other"] (Ae K mg JR):=by
 refine fn3 F Ox (fun ss R U h=>?_) (fun cdv A outer s H E ss R U hr h=>?_)
 .obtain⟨p,q,k,l,rfl,_⟩:=h;rfl
 obtain⟨q1,q2,k,l,rfl,h1,h2,hk,q⟩:=h
 refine#[_,(Aa (B1 (BQ (Al hr Ai (a2 (vN 0) (vN 1)))) (Af (Cj (pv 1))) An)
  (Af (Cj (pv 0)))),?_]
 refine#[q1,q2,k,l,rfl,h1,h2,(),?_]
 refine B9 (fun e=>?_) (fun e=>?_)
 .rw[if_pos e] at q
  exact q
 .rw[if_neg e] at q
  exact q
variable (BU:Cal P w K mg base (CXU P w) 2 "greater" ["one","other"] JR)
theorem Jz:Ad ["corners"] ["corners"] (Ab Er):=scN
variable (AM:mg "len"=none)
variable (gc_NOUGHT:GC K mg "NOUGHT" (.tup [(.int 0),(.int 1)]))
variable (ec_NoCurve:ExC K "NoCurve" K_NoCurve)
variable (m_NoCurve:mg "NoCurve"=some (.ref K_NoCurve))
include Ai AM gc_NOUGHT ec_NoCurve m_NoCurve in
theorem Jn (F:Fun K "check_begin" "check_begin" Er f fd):Aq P w K mg base (CXU P w) 2 f fd ["corners"] (Ae K mg Fw):=by
 refine fnW (fun ss R U h=>?_) (fnU F Jz (fun ss R U h=>?_) (fun cdv A outer s H E ss R U hr h xo=>?_))
 .obtain⟨x,cs,rfl,hx,hl,hz,q,qu⟩:=h
  rcases hx with rfl|rfl<;>exact#[_,cs,rfl,(.inl rfl),hl,hz,q,qu]
 .obtain⟨x,cs,rfl,_⟩:=h.1;rfl
 obtain⟨h,nl_⟩:=h
 obtain⟨x,cs,rfl,hx,hl,hz,q,qu⟩:=h
 refine#[_,(Aa (B1 (Cm K1 (DA AM (vN 0)) Ac) (Af (FV xo rfl Ml rfl ec_NoCurve m_NoCurve)) An)
  (Aa (B1 (Cm (Sw 1 (hu_ hr ∅)) (A5 (vK 0) Ac) (KY rfl gc_NOUGHT)) (Af (FV xo rfl Ml rfl ec_NoCurve m_NoCurve)) An)
  (Af (B1 (BQ (NM xo hr Ai (a2 (A5 (vK 0) Ac) (KY rfl gc_NOUGHT)))) (Af (FV xo rfl Ml rfl ec_NoCurve m_NoCurve)) An)))),?_]
 obtain rfl:=Ju hx (nl_ _ (by simp))
 refine B9 (fun c=>?_) (fun c=>?_)
 .exact qu (fun z=>by have:=z.1;rw[qAa] at c;omega)
 have c0:0<cs.length:=by rw[qAa] at c;omega
 have a0:=Ca (cs:=cs) (i:=0) 0 rfl c0
 have z0:=hz 0 c0
 refine atR a0 ?_
 refine#[rfl,rfl,neT (tt cs 0) 0 (fun c=>qu (fun z=>c z.2.1)) (fun e0=>?_)]
 refine atR a0 ?_
 refine#[_,0,_,_,rfl,z0.2,Sz.zero,∅,?_]
 refine B9 (fun c=>qu (fun z=>absurd c (qAz.mpr z.2.2))) (fun c=>?_)
 exact q #[c0,e0,qAz.mp c]
variable (Dh:Cal P w K mg base (CXU P w) 2 "check_begin" ["corners"] Fw)
theorem C7:Ad ["corners","number","ahead","corner"] ["corners"] (Ab EF):=scN
variable (AY:mg "range"=none)
include Ai AM ec_NoCurve m_NoCurve AY in
theorem Kl (F:Fun K "check_rise" "check_rise" EF f fd):Aq P w K mg base (CXU P w) 2 f fd ["corners"] (Ae K mg GV):=by
 refine fnW (fun ss R U h=>?_) (fnU F C7 (fun ss R U h=>?_) (fun cdv A outer s H E ss R U hr h xo=>?_))
 .obtain⟨x,cs,rfl,hx,c0,hl,hz,q,qu⟩:=h
  rcases hx with rfl|rfl<;>exact#[_,cs,rfl,(.inl rfl),c0,hl,hz,q,qu]
 .obtain⟨x,cs,rfl,_⟩:=h.1;rfl
 obtain⟨h,nl_⟩:=h
 obtain⟨x,cs,rfl,hx,c0,hl,hz,q,qu⟩:=h
 refine#[_,(Af (P5 (Ch PassesOwn.leaving rfl (CO rfl AY (PA3.out (a2 Ac (DA AM (vN 0))))) (A3 (i:=1) C7.nd rfl (Or.inl rfl)) (Eg.out (Aa (AE 2 C7 (A5 (vN 0) (Ar C6 (vN 1) Ac)))
  (Aa (AE 3 C7 (A5 (vN 0) (vN 1)))
  (Aa (B1 (w_not (BQ (NM xo hr Ai (a2 (vK 2) (vK 3))))) (Af (FV xo rfl Ml rfl ec_NoCurve m_NoCurve)) An)
  (Af (B1 (BQ (NM xo hr Ai (a2 (vK 3) (vK 2)))) (Af (FV xo rfl Ml rfl ec_NoCurve m_NoCurve)) An))))))))),?_]
 obtain rfl:=Ju hx (nl_ _ (by simp))
 refine#[#[∅,∅,by rw[qAa];omega,by rw[qAa];omega],?_]
 refine#[fun n τ=>∃y0 y1 y2,τ=[some (.r (cs.map cd)),y0,y1,y2]/\Ris cs n,#[_,_,_,rfl,fun k hk=>absurd hk (qBf k)],?_,?_]
 .rintro n τ hn ⟨y0,y1,y2,rfl,hr⟩
  rw[qAa] at hn
  have n1:n+1<cs.length:=()
  have z0:=hz n ()
  have z1:=hz (n+1) n1
  refine atR (Ca (cs:=cs) n () ()) ?_
  refine atR (Ca (cs:=cs) (n+1) () n1) ?_
  refine#[_,_,_,_,rfl,z0.1,z1.1,∅,?_]
  refine Ui (fun c=>qu (fun z=>c (z n () n1).1)) (fun lt=>?_)
  refine#[_,_,_,_,rfl,z1.2,z0.2,∅,?_]
  refine B9 (fun c=>qu (fun z=>absurd c (qAz.mpr (z n () n1).2))) (fun c=>?_)
  refine#[_,_,_,rfl,fun k hk k1=>?_]
  by_cases e:k<n
  .exact hr k e k1
  .have e':k=n:=()
   subst e'
   exact#[lt,qAz.mp c]
 rintro τ ⟨y0,y1,y2,rfl,hr⟩
 rw[qAa,show((cs.length:Int)-1).toNat=cs.length-1 from ()] at hr
 exact q (fun k hk k1=>hr k () k1)
variable (DI:Cal P w K mg base (CXU P w) 2 "check_rise" ["corners"] GV)
theorem HG:Ad ["one","other"] ["one","other"] (Ab Ds):=scN
include Aw IM in
theorem HK (F:Fun K "slope_between" "slope_between" Ds f fd):Aq P w K mg base CX0 4 f fd ["one","other"] (Ae K mg Eu):=by
 refine fn3 F HG (fun ss R U h=>?_) (fun cdv A outer s H E ss R U hr h=>?_)
 .obtain⟨a,b,c,d,n,e,f,rfl,_⟩:=h;rfl
 obtain⟨a,b,c,d,n,e,f,rfl,hn,ha,hb,hc,hd,he,hf,hs,h0,q⟩:=h
 refine#[_,(Bg (Al hr IM (a2 (Al hr Aw (a2 (vK 1) (vK 0))) (Al hr Aw (a2 (vK 1) (vK 0)))))),?_]
 refine#[d,b,n,n,rfl,hd,hb,(),?_]
 refine#[c,a,n,n,rfl,hc,ha,(),?_]
 exact#[d-b,c-a,f,e,rfl,hf,he,(),h0,q]
variable (AD:Cal P w K mg base (CXU P w) 4 "slope_between" ["one","other"] Eu)
theorem BW:Ad ["points","last","slopes"] ["points","last"] (Ab Bh):=scN
include AM AY AD in
theorem HH (F:Fun K "slopes_behind" "slopes_behind" Bh f fd):Aq P w K mg base CX0 5 f fd ["points","last"] (Ae K mg Ex):=by
 refine fnW (fun ss R U h=>?_) (fn3 F BW (fun ss R U h=>?_) (fun cdv A outer s H E ss R U hr h=>?_))
 .obtain⟨x,cs,m,rfl,hx,c0,hl,hz,df,up,q⟩:=h
  rcases hx with rfl|rfl<;>exact#[_,cs,m,rfl,(.inl rfl),c0,hl,hz,df,up,q]
 .obtain⟨x,cs,m,rfl,_⟩:=h.1;rfl
 obtain⟨h,nl_⟩:=h
 obtain⟨x,cs,m,rfl,hx,c0,hl,hz,df,up,q⟩:=h
 refine#[_,(Aa (LN (i:=2) (N:=["number","points"]) (idx:=[0]) (AZ.mk' (Ab Bh) ["points","last","slopes"] rfl rfl (by decide +kernel)) rfl (CO rfl AY (PA3.out (a2 Ac (DA AM (vN 0))))) G0 (fun cl C s₀ H₀ fp=>Cn) (fun cl C s₀ H₀ fp=>(Al hr AD (a2 (A5 (vN 1) (Ar C6 (vN 0) Ac)) (A5 (vN 1) (vN 0))))) BW.nd rfl (Or.inl rfl))
  (Aa (Fo (BA (Fn qAE qAA qAB AN (pv 2) (AL (PE3.out (vN 1)) BD))))
  (Af (Cj (pv 2))))),?_]
 obtain rfl:=Ju hx (nl_ _ (by simp))
 refine#[#[∅,∅,by rw[qAa];omega,by rw[qAa];omega],?_]
 have eN:((((cs.map cd).length:Nat):Int)-1).toNat=cs.length-1:=by rw[qAa];omega
 refine#[(List.range (cs.length-1)).map fun i=>some (qd (slp cs m i)),by rw[BO,eN,qAa,qAq],?_,?_,?_]
 .intro n x hx
  obtain⟨hn,rfl⟩:=E1 hx
  rw[eN] at hn
  have n1:n+1<cs.length:=()
  have z0:=hz n ()
  have z1:=hz (n+1) n1
  refine atR (Ca (cs:=cs) n () ()) ?_
  refine atR (Ca (cs:=cs) (n+1) () n1) ?_
  obtain⟨e,f,he,hf,hs⟩:=df n n1
  refine#[tt cs n,vv cs n,tt cs (n+1),vv cs (n+1),6400,e,f,rfl,∅,z0.1,z0.2,z1.1,z1.2,he,hf,hs,ES (up n n1),?_]
  show((List.range (cs.length-1)).map _)[n]? = _
  rw[qAc,qAC ()]
  show some (some (qd (slp cs m n)))=_
  rw[B7 n1]
 .rw[BO,eN];omega
 refine#[?_,?_]
 .have:=qBI id ((List.range (cs.length-1)).map fun i=>some (qd (slp cs m i)))
  rw[qAa,qAq] at this
  omega
 show R (.l (_++[qd m]))
 rw[Nt cs m c0]
 exact q
variable (Ba:Cal P w K mg base (CXU P w) 5 "slopes_behind" ["points","last"] Ex)
include AM AY AD in
theorem FY (F:Fun K "slopes_behind" "slopes_behind" Bh f fd):Aq P w K mg base CX0 5 f fd ["points","last"] (Ae K mg Dk):=by
 refine fn3 F BW (fun ss R U h=>?_) (fun cdv A outer s H E ss R U hr h=>?_)
 .obtain⟨cs,m,rfl,_⟩:=h;rfl
 obtain⟨cs,m,rfl,c0,hl,hz,up,q⟩:=h
 refine#[_,(Aa (LN (i:=2) (N:=["number","points"]) (idx:=[0]) (AZ.mk' (Ab Bh) ["points","last","slopes"] rfl rfl (by decide +kernel)) rfl (CO rfl AY (PA3.out (a2 Ac (DA AM (vN 0))))) G0 (fun cl C s₀ H₀ fp=>Cn) (fun cl C s₀ H₀ fp=>(Al hr AD (a2 (A5 (vN 1) (Ar C6 (vN 0) Ac)) (A5 (vN 1) (vN 0))))) BW.nd rfl (Or.inl rfl))
  (Aa (Fo (BA (Fn qAE qAA qAB AN (pv 2) (AL (PE3.out (vN 1)) BD))))
  (Af (Cj (pv 2))))),?_]
 have df:=Df.of hz ∅
 refine#[#[∅,∅,by rw[qAa];omega,by rw[qAa];omega],?_]
 have eN:((((cs.map cd).length:Nat):Int)-1).toNat=cs.length-1:=by rw[qAa];omega
 refine#[(List.range (cs.length-1)).map fun i=>some (qd (slp cs m i)),by rw[BO,eN,qAa,qAq],?_,?_,?_]
 .intro n x hx
  obtain⟨hn,rfl⟩:=E1 hx
  rw[eN] at hn
  have n1:n+1<cs.length:=()
  have z0:=hz n ()
  have z1:=hz (n+1) n1
  refine atR (Ca (cs:=cs) n () ()) ?_
  refine atR (Ca (cs:=cs) (n+1) () n1) ?_
  obtain⟨e,f,he,hf,hs⟩:=df n n1
  refine#[tt cs n,vv cs n,tt cs (n+1),vv cs (n+1),3200,e,f,rfl,∅,z0.1,z0.2,z1.1,z1.2,he,hf,hs,ES (up n n1),?_]
  show((List.range (cs.length-1)).map _)[n]? = _
  rw[qAc,qAC ()]
  show some (some (qd (slp cs m n)))=_
  rw[B7 n1]
 .rw[BO,eN];omega
 refine#[?_,?_]
 .have:=qBI id ((List.range (cs.length-1)).map fun i=>some (qd (slp cs m i)))
  rw[qAa,qAq] at this
  omega
 show R (.l (_++[qd m]))
 rw[Nt cs m c0]
 exact q
variable (Ah:Cal P w K mg base (CXU P w) 5 "slopes_behind" ["points","last"] Dk)
theorem HP:Ad ["corners","last","slopes","kept","number"] ["corners","last"] (Ab MM):=scN
variable (DY:mg "tuple"=none)
include Ai AM gc_NOUGHT ec_NoCurve m_NoCurve Dh AY DI Ba DY in
theorem Sj (F:Fun K "curve" "curve" MM f fd):Aq P w K mg base (CXU P w) 6 f fd ["corners","last"] (Ae K mg NS):=by
 refine fnW (fun ss R U h=>?_) (fnU F HP (fun ss R U h=>?_) (fun cdv A outer s H E ss R U hr h xo=>?_))
 .obtain⟨x,cs,m,rfl,hx,hz,q,qu⟩:=h
  rcases hx with rfl|rfl<;>exact#[_,cs,m,rfl,(.inl rfl),hz,q,qu]
 .obtain⟨x,cs,m,rfl,_⟩:=h.1;rfl
 obtain⟨h,nl_⟩:=h
 obtain⟨x,cs,m,rfl,hx,hz,q,qu⟩:=h
 refine#[_,(Aa (O0 (NM xo hr Dh (a1 (vN 0))))
  (Aa (O0 (NM xo hr DI (a1 (vN 0))))
  (Aa (B1 (BQ (NM xo hr Ai (a2 (vN 1) (KY rfl gc_NOUGHT)))) (Af (FV xo rfl Ml rfl ec_NoCurve m_NoCurve)) An)
  (Aa (AE 2 HP (NM xo hr Ba (a2 (vN 0) (vN 1))))
  (Aa (AE 3 HP (Fm (a1 (vK 0))))
  (Aa (P5 (Ch PassesOwn.leaving rfl (CO rfl AY (PA3.out (a2 Ac (DA AM (vN 0))))) (A3 (i:=4) HP.nd rfl (Or.inl rfl)) (Eg.out (Af (B1 (Cm (Sw 1 (hu_ hr ∅)) (A5 (vN 2) (vN 4)) (A5 (vN 2) (Ar C6 (vN 4) Ac))) (Af (Fo (BA (Fn qAE qAA qAB AN (pv 3) (AL (PE3.out (A5 (vN 0) (vN 4))) BD))))) An)))))
  (Bg (Bl (a2 (Q0 (vN 3) rfl DY) (vN 1)))))))))),?_]
 obtain rfl:=Ju hx (nl_ _ (by simp))
 have hl:=hz.len
 refine#[_,cs,rfl,Or.inl rfl,hl,hz.cs,fun hb=>?_,fun nb=>qu (fun z=>nb #[z.1.ne,z.1.t0,z.1.v0])]
 refine#[_,cs,rfl,Or.inl rfl,hb.1,hl,hz.cs,fun hr=>?_,fun nr=>qu (fun z=>nr (fun k _ k1=>#[z.1.up k k1,z.1.vu k k1]))]
 refine#[m,0,_,_,rfl,hz.m,Sz.zero,∅,?_]
 refine B9 (fun c=>qu (fun z=>absurd c (qAz.mpr z.2))) (fun c=>?_)
 have hm:0<=m:=qAz.mp c
 have c0:=hb.1
 have ho:Ord cs:=#[hb.1,hb.2.1,hb.2.2,fun k k1=>(hr k () k1).1,fun k k1=>(hr k () k1).2]
 refine#[_,cs,m,rfl,Or.inl rfl,c0,hl,hz.cs,hz.df,ho.up,?_]
 refine atR (Ca (cs:=cs) (i:=0) 0 rfl c0) ?_
 refine#[(by show 1<=1000;decide),?_]
 refine#[#[∅,∅,by rw[qAa];omega,by rw[qAa];omega],?_]
 refine#[fun n τ=>∃y,τ=[some (.r (cs.map cd)),some (.d (qd m)),some (.l ((JO cs m).map qd)),some (.l ((kp cs m n).map cd)),y],#[_,rfl],?_,?_]
 .rintro n τ hn ⟨y,rfl⟩
  rw[qAa] at hn
  have n1:n+1<cs.length:=()
  refine atR (MG (n+1) () n1) ?_
  refine atR (MG n () ()) ?_
  refine#[rfl,rfl,neT (slp cs m (n+1)) (slp cs m n) (fun c=>?_) (fun c=>?_)]
  .refine atR (Ca (cs:=cs) (n+1) () n1) ?_
   refine#[?_,some (.d (.int (1+n*1))),?_]
   .rw[qAa]
    have:=JX cs m n
    omega
   .rw[Qs (fun z=>c z.symm),qAN]
    rfl
  .refine#[some (.d (.int (1+n*1))),?_]
   rw[Jc c.symm]
   rfl
 rintro τ ⟨y,rfl⟩
 rw[qAa,show((cs.length:Int)-1).toNat=cs.length-1 from ()]
 exact#[(by show 2<=1000;decide),q #[ho,hm]]
variable (DX:Cal P w K mg base (CXU P w) 6 "curve" ["corners","last"] NS)
theorem KG:Ad ["t"] ["t"] (Ab EA):=scN
variable (ec_NoTime:ExC K "NoTime" K_NoTime)
variable (m_NoTime:mg "NoTime"=some (.ref K_NoTime))
include Ai gc_NOUGHT ec_NoTime m_NoTime in
theorem KA (F:Fun K "check_time" "check_time" EA f fd):Aq P w K mg base (CXU P w) 2 f fd ["t"] (Ae K mg GA):=by
 refine fnU F KG (fun ss R U h=>?_) (fun cdv A outer s H E ss R U hr h xo=>?_)
 .obtain⟨t,n,rfl,_⟩:=h;rfl
 obtain⟨t,n,rfl,hn,ht,q,qu⟩:=h
 refine#[_,(Af (B1 (BQ (NM xo hr Ai (a2 (vN 0) (KY rfl gc_NOUGHT)))) (Af (FV xo rfl Ml rfl ec_NoTime m_NoTime)) An)),?_]
 refine#[t,0,_,_,rfl,ht,Sz.zero,(),?_]
 exact B9 (fun c=>qu (qA3.mpr c)) (fun c=>q (qAz.mp c))
variable (DK:Cal P w K mg base (CXU P w) 2 "check_time" ["t"] GA)
theorem Bv:Ad ["corners","holds","low","high","middle"] ["corners","holds"] (Ab Ek):=scN
include AM in
theorem Jp (F:Fun K "count_while" "count_while" Ek f fd):Oq P w K mg base 5 4 f fd ["corners","holds"] Fs:=by
 refine ZA (fun a dom p ss R U h=>?_) (fnL F Bv (fun a dom p ss R U h=>?_) (fun cdv A outer s H E a dom p ss R U hr hL h=>?_))
 .obtain⟨x,xs,n,rfl,hx,hl,hn,hp,q⟩:=h
  rcases hx with rfl|rfl|rfl
  .exact#[_,xs,n,rfl,(.inl rfl),hl,hn,hp,q]
  all_goals exact#[_,xs,n,rfl,(.inr (.inl rfl)),hl,hn,hp,q]
 .obtain⟨x,xs,n,rfl,_⟩:=h.1;rfl
 obtain⟨h,nl_⟩:=h
 obtain⟨x,xs,n,rfl,hx,hl,hn,hp,q⟩:=h
 refine#[_,(Aa (AE 2 Bv Ac)
  (Aa (AE 3 Bv (DA AM (vN 0)))
  (Aa (G3 PassesOwn.never (Cm K3 (vN 2) (vN 3)) (Aa (AE 4 Bv (Ar C4 (Ar Bd (vN 2) (vN 3)) Ac))
  (Af (B1 (BQ (TJ hL (hr.mono ∅) (pv 1) (A5 (vN 0) (vN 4)))) (Af (AE 2 Bv (Ar Bd (vN 4) Ac))) (Af (AE 3 Bv (vN 4)))))))
  (Af (Cj (pv 2)))))),?_]
 replace hx:=hx.imp_right fun z=>Ju z (nl_ _ (by simp))
 rcases hx with rfl|rfl
 all_goals
  first|refine#[fun m τ=>∃(lo hi:Int)(y:Option S),τ=[some (.d (.tup xs)),some (.d (.ref a)),I lo,I hi,y]/\0<=lo/\lo<=n/\(n:Int)<=hi/\hi<=xs.length/\m=(hi-lo).toNat,#[_,_,_,_,rfl,∅,(),(),(),rfl],?_]|refine#[fun m τ=>∃(lo hi:Int)(y:Option S),τ=[some (.r xs),some (.d (.ref a)),I lo,I hi,y]/\0<=lo/\lo<=n/\(n:Int)<=hi/\hi<=xs.length/\m=(hi-lo).toNat,#[_,_,_,_,rfl,∅,(),(),(),rfl],?_]
  rintro m τ ⟨lo,hi,y,rfl,h1,h2,h3,h4,rfl⟩
  refine B9 (fun c=>?_) (fun c=>?_)
  .have d1:lo<=(lo+hi).fdiv 2/\(lo+hi).fdiv 2<hi:=by
    rw[qBX _ ∅]
    exact VO c
   refine#[#[nz2,HJ ∅],?_]
   generalize (lo+hi).fdiv 2=mid at d1
   have m0:0<=mid:=Int.le_trans h1 d1.1
   have em:mid=((mid.toNat:Nat):Int):=(Int.toNat_of_nonneg m0).symm
   have ml:mid.toNat<xs.length:=Zs h1 d1.1 d1.2 h4
   have hx:xs[mid.toNat]? = some xs[mid.toNat]:=qAb ml
   have b:atI xs mid=some xs[mid.toNat]:=by
    have:=atI_nat ml
    rw[<-em] at this
    rw[this]
    exact hx
   obtain⟨dm,ep⟩:=hp _ _ hx
   refine#[rfl,?_]
   refine atR b ?_
   refine#[dm,?_]
   rw[ep]
   refine B9 (fun e=>?_) (fun e=>?_)
   .exact#[(hi-(mid+1)).toNat,(),_,_,_,rfl,Int.add_nonneg m0 ∅,(),h3,h4,rfl]
   .exact#[(mid-lo).toNat,Y4 d1.2 d1.1,_,_,_,rfl,h1,h2,(),(),rfl]
  .have e:lo=n:=()
   subst e
   exact q
variable (Aj:Xc P w K mg base 5 4 "count_while" ["corners","holds"] Fs)
theorem MH:Ad ["f","t"] ["f","t"] (Ab Fi):=scN
include Ai DK Aj in
theorem MR (F:Fun K "piece_at" "piece_at" Fi f fd){cA cT:Addr}(ht_:W.tabIn K "piece_at"=some (cA,cT)) (hn_:rA K "piece_at" f) (hp_:(PyProof.Rows.recsOf P).any (fun d=>d.name == "piece_at")=true):Aq P w K mg base (CXU P w) 6 f fd ["f","t"] (Ae K mg IZ):=by
 refine Zz ht_ hn_ F MH (fun ss R U h=>?_) (fun cdv A outer s H E ss R U ec hr h xo=>?_)
 .obtain⟨cs,m,t,n,rfl,_⟩:=h;rfl
 subst ec
 obtain⟨cs,m,t,n,rfl,c0,hl,t0,up,hn,hz,ht,q,qu⟩:=h
 refine#[_,(Aa (O0 (NM xo hr DK (a1 (vN 1))))
  (Bg (Ar C6 (HM (x:="corner") Aj (hr.mono ∅) rfl ht_ hp_ rfl (AZ.mk' (Ab Fi) ["f","t"] rfl rfl (by decide +kernel) (N:=["corner","t"]) (idx:=[1])) (vK 0) (fun cl nm a cdv A outer s H hr=>(P2 (Al hr Ai (a2 (vN 1) (vK 0)))))) Ac))),?_]
 refine#[t,n,rfl,hn,ht,fun c'=>?_,fun c=>qu c]
 have h0:tt cs 0<=t:=by rw[t0];exact c'
 refine#[fun x=>∃k,k<cs.length/\x=.tup [qd (tt cs k),qd (vv cs k)],fun x=>!decide (t<tOf x),?_,?_]
 .rintro x ⟨k,hk,rfl⟩
  refine#[t,tt cs k,_,_,rfl,ht,(hz k hk).1,(),?_]
  show S.d (.bl (!decide (t<tt cs k)))=.d (.bl (!decide (t<tOf (.tup [qd (tt cs k),qd (vv cs k)]))))
  rw[SX]
 intro a
 refine#[_,_,plc cs t cs.length+1,rfl,Or.inl rfl,by rw[qAa];exact hl,by rw[qAa];exact Lg c0 _ (qAf _),fun i x hx=>?_,?_]
 .obtain⟨hi,rfl⟩:=FJ hx
  refine#[#[i,hi,rfl],?_]
  show(!decide (t<tOf (.tup [qd (tt cs i),qd (vv cs i)])))=_
  rw[SX]
  exact Uk up h0 hi
 show R (.d (.int (((plc cs t cs.length+1:Nat):Int)-1)))
 rw[show(((plc cs t cs.length+1:Nat):Int)-1)=((plc cs t cs.length:Nat):Int) from ()]
 exact q c'
variable (Fh:Cal P w K mg base (CXU P w) 6 "piece_at" ["f","t"] IZ)
theorem D7:Ad ["f","number","corners"] ["f","number"] (Ab CZ):=scN
include AM AD in
theorem Hd (F:Fun K "slope_of_piece" "slope_of_piece" CZ f fd):Aq P w K mg base CX0 5 f fd ["f","number"] (Ae K mg Ec):=by
 refine fn3 F D7 (fun ss R U h=>?_) (fun cdv A outer s H E ss R U hr h=>?_)
 .obtain⟨cs,m,k,rfl,_⟩:=h;rfl
 obtain⟨cs,m,k,rfl,hk,hl,up,hz,df,q⟩:=h
 refine#[_,(Aa (AE 2 D7 (vK 0))
  (Aa (B1 (Cm K1 (vN 1) (Ar C6 (DA AM (vN 2)) Ac)) (Bg (vK 0)) An)
  (Bg (Al hr AD (a2 (A5 (vN 2) (vN 1)) (A5 (vN 2) (Ar Bd (vN 1) Ac))))))),?_]
 refine B9 (fun c=>?_) (fun c=>?_)
 .rw[qAa] at c
  rw[Az ()] at q
  exact q
 rw[qAa] at c
 have k1:k+1<cs.length:=()
 refine atR (Mf hk) ?_
 refine atR (Ca (cs:=cs) (k+1) () k1) ?_
 obtain⟨e,f,he,hf,hs⟩:=df k k1
 refine#[_,_,_,_,6400,e,f,rfl,∅,(hz k hk).1,(hz k hk).2,(hz _ k1).1,(hz _ k1).2,he,hf,hs,ES (up k k1),?_]
 rw[B7 k1] at q
 exact q
variable (AX:Cal P w K mg base (CXU P w) 5 "slope_of_piece" ["f","number"] Ec)
theorem F4:Ad ["f","t","number","corner"] ["f","t"] (Ab Hb):=scN
include Dr Aw FP Fh AX in
theorem ML (F:Fun K "value_at" "value_at" Hb f fd):Aq P w K mg base (CXU P w) 7 f fd ["f","t"] (Ae K mg Jd):=by
 refine fnU F F4 (fun ss R U h=>?_) (fun cdv A outer s H E ss R U hr h xo=>?_)
 .obtain⟨cs,m,t,a,b,c,n,rfl,_⟩:=h;rfl
 obtain⟨cs,m,t,a,b,c,n,rfl,o,z,hl,h1,h4,hn,h2,ht,q,qu⟩:=h
 refine#[_,(Aa (AE 2 F4 (NM xo hr Fh (a2 (vN 0) (vN 1))))
  (Aa (AE 3 F4 (A5 (vK 0) (vN 2)))
  (Aa (B1 (Cm (Ss 1 (hu_ hr ∅)) (vK 3) (vN 1)) (Bg (vK 3)) An)
  (Bg (NM xo hr Dr (a2 (vK 3) (NM xo hr FP (a2 (NM xo hr AX (a2 (vN 0) (vN 2))) (NM xo hr Aw (a2 (vN 1) (vK 3))))))))))),?_]
 have c0:=o.ne
 have hz:=z.szk o hl (qAf _)
 refine#[cs,m,t,6000,rfl,c0,hl,o.t0,o.up,∅,hz.cs.mono h1,ht.mono hn,fun h=>?_,fun h=>qu h]
 have q':R (.d (qd (vv cs (plc cs t cs.length)+slp cs m (plc cs t cs.length)*(t-tt cs (plc cs t cs.length))))):=q h
 have hk:plc cs t cs.length<cs.length:=Lg c0 _ (qAf _)
 generalize plc cs t cs.length=k at q' hk
 have zk:=hz.cs k hk
 have tk:=z.tm k hk
 refine atR (Mf hk) ?_
 refine#[rfl,rfl,eqT (tt cs k) t (fun e=>?_) (fun e=>?_)]
 .rw[show vv cs k+slp cs m k*(t-tt cs k)=vv cs k by rw[e];grind] at q'
  exact q'
 refine#[cs,m,k,rfl,hk,hl,o.up,hz.cs.mono (),z.df o h4,?_]
 refine#[t,tt cs k,n,a,rfl,ht,tk,(),?_]
 have zs:=(z.ln o k hk).1
 refine#[_,_,_,_,rfl,zs,ht.sub tk,(),?_]
 exact#[_,_,_,_,rfl,zk.2,zs.mul (ht.sub tk),(),q']
variable (B6:Cal P w K mg base (CXU P w) 7 "value_at" ["f","t"] Jd)
theorem DB:Ad ["f","slopes"] ["f"] (Ab BL):=scN
include Ai AM AY Ah in
theorem Gk (F:Fun K "steeper_corners" "steeper_corners" BL f fd):Aq P w K mg base CX0 6 f fd ["f"] (Ae K mg DE):=by
 refine fn3 F DB (fun ss R U h=>?_) (fun cdv A outer s H E ss R U hr h=>?_)
 .obtain⟨cs,m,a,b,c,rfl,_⟩:=h;rfl
 obtain⟨cs,m,a,b,c,rfl,o,z,hs,hl,q⟩:=h
 refine#[_,(Aa (AE 1 DB (Al hr Ah (a2 (vK 0) (vK 0))))
  (Bg (FC (N:=["number","f","slopes"]) (idx:=[0,1]) (AZ.mk' (Ab BL) ["f","slopes"] rfl rfl (by decide +kernel)) rfl (CO rfl AY (PA3.out (a2 Ac (DA AM (vN 1))))) G0 (fun cl C s₀ H₀ fp=>(OT (BQ (Al hr Ai (a2 (A5 (vN 2) (Ar C6 (vN 0) Ac)) (A5 (vN 2) (vN 0))))))) (fun cl C s₀ H₀ fp=>(A5 (vK 1) (vN 0)))))),?_]
 have kc:SzK 1800 cs m:=z.szk o () hs
 have n0:=o.ne
 refine#[cs,m,rfl,o.ne,(),kc.cs.mono ∅,o.up,?_]
 have eN:((((JO cs m).map qd).length:Nat):Int)=(cs.length:Int):=by rw[qAa,El]
 have eT:((((JO cs m).map qd).length:Nat)-1:Int).toNat=cs.length-1:=by rw[eN];omega
 refine#[#[∅,∅,(),()],?_]
 refine#[(List.range (cs.length-1)).map fun n=>if decide (slp cs m n<slp cs m (n+1))=true then some (cd (tt cs (n+1),vv cs (n+1))) else none,?_,?_,?_,?_]
 .rw[BO,qAa,qAq,eT]
 .intro n x hx
  obtain⟨hn,rfl⟩:=E1 hx
  rw[eT] at hn
  have z1:=(z.ln o n ()).1
  have z2:=(z.ln o (n+1) ()).1
  refine atR (MG (cs:=cs) (m:=m) n () ()) ?_
  refine atR (MG (cs:=cs) (m:=m) (n+1) () ()) ?_
  refine#[_,_,b,b,rfl,z1,z2,(),?_]
  have g:((List.range (cs.length-1)).map fun n=>if decide (slp cs m n<slp cs m (n+1))=true then some (cd (tt cs (n+1),vv cs (n+1))) else none)[n]? = some (if decide (slp cs m n<slp cs m (n+1))=true then some (cd (tt cs (n+1),vv cs (n+1))) else none):=by
   rw[qAc,qAC hn]
   rfl
  refine B9 (fun c=>?_) (fun c=>?_)
  .refine atR (Ca (cs:=cs) (n+1) () ()) ?_
   rw[if_pos (decide_eq_true c)] at g
   exact g
  .rw[if_neg (by simpa using c)] at g
   exact g
 .rw[BO,eT];omega
 rw[Mm (p:=fun n=>decide (slp cs m n<slp cs m (n+1))) (f:=fun k=>cd (tt cs k,vv cs k))]
 exact q
variable (AG:Cal P w K mg base (CXU P w) 6 "steeper_corners" ["f"] DE)
theorem DF:Ad ["f","slopes"] ["f"] (Ab BK):=scN
include Ai AM AY Ah in
theorem GX (F:Fun K "flatter_corners" "flatter_corners" BK f fd):Aq P w K mg base CX0 6 f fd ["f"] (Ae K mg DC):=by
 refine fn3 F DF (fun ss R U h=>?_) (fun cdv A outer s H E ss R U hr h=>?_)
 .obtain⟨cs,m,a,b,c,rfl,_⟩:=h;rfl
 obtain⟨cs,m,a,b,c,rfl,o,z,hs,hl,q⟩:=h
 refine#[_,(Aa (AE 1 DF (Al hr Ah (a2 (vK 0) (vK 0))))
  (Bg (FC (N:=["number","f","slopes"]) (idx:=[0,1]) (AZ.mk' (Ab BK) ["f","slopes"] rfl rfl (by decide +kernel)) rfl (CO rfl AY (PA3.out (a2 Ac (DA AM (vN 1))))) G0 (fun cl C s₀ H₀ fp=>(OT (BQ (Al hr Ai (a2 (A5 (vN 2) (vN 0)) (A5 (vN 2) (Ar C6 (vN 0) Ac))))))) (fun cl C s₀ H₀ fp=>(A5 (vK 1) (vN 0)))))),?_]
 have kc:SzK 1800 cs m:=z.szk o () hs
 have n0:=o.ne
 refine#[cs,m,rfl,o.ne,(),kc.cs.mono ∅,o.up,?_]
 have eN:((((JO cs m).map qd).length:Nat):Int)=(cs.length:Int):=by rw[qAa,El]
 have eT:((((JO cs m).map qd).length:Nat)-1:Int).toNat=cs.length-1:=by rw[eN];omega
 refine#[#[∅,∅,(),()],?_]
 refine#[(List.range (cs.length-1)).map fun n=>if decide (slp cs m (n+1)<slp cs m n)=true then some (cd (tt cs (n+1),vv cs (n+1))) else none,?_,?_,?_,?_]
 .rw[BO,qAa,qAq,eT]
 .intro n x hx
  obtain⟨hn,rfl⟩:=E1 hx
  rw[eT] at hn
  have z1:=(z.ln o n ()).1
  have z2:=(z.ln o (n+1) ()).1
  refine atR (MG (cs:=cs) (m:=m) (n+1) () ()) ?_
  refine atR (MG (cs:=cs) (m:=m) n () ()) ?_
  refine#[_,_,b,b,rfl,z2,z1,(),?_]
  have g:((List.range (cs.length-1)).map fun n=>if decide (slp cs m (n+1)<slp cs m n)=true then some (cd (tt cs (n+1),vv cs (n+1))) else none)[n]? = some (if decide (slp cs m (n+1)<slp cs m n)=true then some (cd (tt cs (n+1),vv cs (n+1))) else none):=by
   rw[qAc,qAC hn]
   rfl
  refine B9 (fun c=>?_) (fun c=>?_)
  .refine atR (Ca (cs:=cs) (n+1) () ()) ?_
   rw[if_pos (decide_eq_true c)] at g
   exact g
  .rw[if_neg (by simpa using c)] at g
   exact g
 .rw[BO,eT];omega
 rw[Mm (p:=fun n=>decide (slp cs m (n+1)<slp cs m n)) (f:=fun k=>cd (tt cs k,vv cs k))]
 exact q
variable (AH:Cal P w K mg base (CXU P w) 6 "flatter_corners" ["f"] DC)
theorem MN:Ad ["f","g"] ["f","g"] (Ab He):=scN
include Ai in
theorem Mr (F:Fun K "outgrows" "outgrows" He f fd):Aq P w K mg base CX0 2 f fd ["f","g"] (Ae K mg Ic):=by
 refine fn3 F MN (fun ss R U h=>?_) (fun cdv A outer s H E ss R U hr h=>?_)
 .obtain⟨cs,m,ds,k,rfl,_⟩:=h;rfl
 obtain⟨cs,m,ds,k,rfl,zm,zk,q⟩:=h
 refine#[_,(Bg (Al hr Ai (a2 (vK 1) (vK 0)))),?_]
 exact#[k,m,_,_,rfl,zk,zm,∅,q]
variable (Bx:Cal P w K mg base (CXU P w) 2 "outgrows" ["f","g"] Ic)
theorem NU:Ad ["point","slope","height"] ["point","slope","height"] (Ab Jj):=scN
include Dr Aw IM in
theorem Og (F:Fun K "time_of" "time_of" Jj f fd):Aq P w K mg base CX0 4 f fd ["point","slope","height"] (Ae K mg JQ):=by
 refine fn3 F NU (fun ss R U h=>?_) (fun cdv A outer s H E ss R U hr h=>?_)
 .obtain⟨a,b,s,h,n,p,l,k,rfl,_⟩:=h;rfl
 obtain⟨a,b,s,h,n,p,l,k,rfl,ha,hb,hh,hs,s0,hl,q⟩:=h
 refine#[_,(Bg (Al hr Dr (a2 (vK 0) (Al hr IM (a2 (Al hr Aw (a2 (vN 2) (vK 0))) (vN 1)))))),?_]
 refine#[h,b,l,p,rfl,hh,hb,(),?_]
 refine#[h-b,s,_,k,rfl,hh.sub hb,hs,(),s0,?_]
 exact#[a,_,n,_,rfl,ha,(hh.sub hb).div hs s0,(),q]
variable (Du:Cal P w K mg base (CXU P w) 4 "time_of" ["point","slope","height"] JQ)
theorem JY:Ad ["f","number","height","slope"] ["f","number","height"] (Ab Ih):=scN
include gc_NOUGHT AX Du in
theorem N1 (F:Fun K "climbed" "climbed" Ih f fd):Aq P w K mg base CX0 6 f fd ["f","number","height"] (Ae K mg JN):=by
 refine fn3 F JY (fun ss R U h=>?_) (fun cdv A outer s H E ss R U hr h=>?_)
 .obtain⟨cs,m,h,k,rfl,_⟩:=h;rfl
 obtain⟨cs,m,h,k,rfl,hk,⟨r,z,hl⟩,hh,q0,q1⟩:=h
 refine#[_,(Aa (AE 3 JY (Al hr AX (a2 (vN 0) (vN 1))))
  (Aa (B1 (Cm (Ss 1 (hu_ hr ∅)) (vN 3) (KY rfl gc_NOUGHT)) (Bg Hh) An)
  (Bg (Al hr Du (AV (A5 (vK 0) (vN 1)) (a2 (vN 3) (vN 2))))))),?_]
 have hz:=z.szk r.o () (qAf _)
 refine#[cs,m,k,rfl,hk,(),r.o.up,hz.cs.mono ∅,z.df r.o ∅,?_]
 refine#[rfl,rfl,eqT (slp cs m k) 0 (fun e=>q0 e) (fun e=>?_)]
 refine atR (Mf hk) ?_
 exact#[_,_,_,_,_,_,_,_,rfl,z.tm k hk,(hz.cs k hk).2,hh,(z.ln r.o k hk).1,e,∅,q1 e]
variable (Dl:Cal P w K mg base (CXU P w) 6 "climbed" ["f","number","height"] JN)
theorem JD:Ad ["f","height","lower"] ["f","height"] (Ab Gj):=scN
include Ai gc_NOUGHT Aj Dl in
theorem Ow (F:Fun K "reached" "reached" Gj f fd){cA cT:Addr}(ht_:W.tabIn K "reached"=some (cA,cT)) (hn_:rA K "reached" f) (hp_:(PyProof.Rows.recsOf P).any (fun d=>d.name == "reached")=true):Aq P w K mg base CX0 7 f fd ["f","height"] (Ae K mg JV):=by
 refine WO ht_ hn_ F JD (fun ss R U h=>?_) (fun cdv A outer s H E ss R U ec hr h=>?_)
 .obtain⟨cs,m,h,rfl,_⟩:=h;rfl
 subst ec
 obtain⟨cs,m,h,rfl,hg,hh,q⟩:=h
 refine#[_,(Aa (AE 2 JD (Qo (x:="corner") Aj (hr.mono ∅) rfl ht_ hp_ rfl (AZ.mk' (Ab Gj) ["f","height","lower"] rfl rfl (by decide +kernel) (N:=["corner","height"]) (idx:=[1])) (vK 0) (fun cl nm a cdv A outer s H hr=>(Al hr Ai (a2 (vK 0) (vN 1))))))
  (Aa (B1 (Cm K1 (vN 2) Ac) (Bg (KY rfl gc_NOUGHT)) An)
  (Bg (Al hr Dl (AV (vN 0) (a2 (Ar C6 (vN 2) Ac) (vN 1))))))),?_]
 have r:=hg.1
 have hl:=hg.2.2
 obtain⟨c,hc,cut⟩:=SI (n:=cs.length) (fun i=>decide (vv cs i<h)) (fun i hi z=>by have:=r.o.vu i hi;have z:=of_decide_eq_true z;exact decide_eq_true ⋯)
 refine#[fun x=>∃k,k<cs.length/\x=.tup [qd (tt cs k),qd (vv cs k)],fun x=>decide (vOf x<h),?_,?_]
 .rintro x ⟨k,hk,rfl⟩
  refine#[vv cs k,h,_,_,rfl,hg.v hk,hh,∅,?_]
  show S.d (.bl (decide (vv cs k<h)))=.d (.bl (decide (vOf (.tup [qd (tt cs k),qd (vv cs k)])<h)))
  rw[Nx]
 intro a
 refine#[_,_,c,rfl,Or.inl rfl,by rw[qAa];omega,by rw[qAa];exact hc,fun i x hx=>?_,?_]
 .obtain⟨hi,rfl⟩:=FJ hx
  refine#[#[i,hi,rfl],?_]
  show(decide (vOf (.tup [qd (tt cs i),qd (vv cs i)])<h))=_
  rw[Nx]
  exact cut i hi
 obtain⟨z0,zk⟩:=Wm r hc cut
 refine B9 (fun e=>?_) (fun e=>?_)
 .exact q (some 0) (z0 ()) (fun t z=>by cases z;exact Sz.zero.mono ∅)
 have hk:c=c-1+1:=()
 generalize c-1=k at hk
 subst hk
 obtain⟨y1,y2⟩:=zk k rfl
 refine#[cs,m,h,k,?_,hc,hg,hh,fun s=>q none (y1 s) (fun t z=>nomatch z),fun s=>q (some _) (y2 s) (fun t z=>?_)]
 .show [S.d (crv cs m),.d (.int (((k+1:Nat):Int)-1)),.d (qd h)]=_
  rw[show((k+1:Nat):Int)-1=(k:Int) from ()]
 .cases z
  exact Nw hg.2.1 r.o hc s hh
variable (CV:Cal P w K mg base (CXU P w) 7 "reached" ["f","height"] JV)
theorem LF:Ad ["f","height","not_above"] ["f","height"] (Ab Ia):=scN
include Ai Aj Dl in
theorem O7 (F:Fun K "passed" "passed" Ia f fd){cA cT:Addr}(ht_:W.tabIn K "passed"=some (cA,cT)) (hn_:rA K "passed" f) (hp_:(PyProof.Rows.recsOf P).any (fun d=>d.name == "passed")=true):Aq P w K mg base CX0 7 f fd ["f","height"] (Ae K mg LZ):=by
 refine WO ht_ hn_ F LF (fun ss R U h=>?_) (fun cdv A outer s H E ss R U ec hr h=>?_)
 .obtain⟨cs,m,h,rfl,_⟩:=h;rfl
 subst ec
 obtain⟨cs,m,h,rfl,hg,hh,q⟩:=h
 refine#[_,(Aa (AE 2 LF (Qo (x:="corner") Aj (hr.mono ∅) rfl ht_ hp_ rfl (AZ.mk' (Ab Ia) ["f","height","not_above"] rfl rfl (by decide +kernel) (N:=["corner","height"]) (idx:=[1])) (vK 0) (fun cl nm a cdv A outer s H hr=>(P2 (Al hr Ai (a2 (vN 1) (vK 0)))))))
  (Aa (B1 (Cm K1 (vN 2) Ac) (Bg Hh) An)
  (Bg (Al hr Dl (AV (vN 0) (a2 (Ar C6 (vN 2) Ac) (vN 1))))))),?_]
 have r:=hg.1
 have hl:=hg.2.2
 obtain⟨c,hc,cut⟩:=SI (n:=cs.length) (fun i=>!decide (h<vv cs i)) (fun i hi z=>Pe z (r.o.vu i hi))
 refine#[fun x=>∃k,k<cs.length/\x=.tup [qd (tt cs k),qd (vv cs k)],fun x=>!decide (h<vOf x),?_,?_]
 .rintro x ⟨k,hk,rfl⟩
  refine#[h,vv cs k,_,_,rfl,hh,hg.v hk,∅,?_]
  show S.d (.bl (!decide (h<vv cs k)))=.d (.bl (!decide (h<vOf (.tup [qd (tt cs k),qd (vv cs k)]))))
  rw[Nx]
 intro a
 refine#[_,_,c,rfl,Or.inl rfl,by rw[qAa];omega,by rw[qAa];exact hc,fun i x hx=>?_,?_]
 .obtain⟨hi,rfl⟩:=FJ hx
  refine#[#[i,hi,rfl],?_]
  show(!decide (h<vOf (.tup [qd (tt cs i),qd (vv cs i)])))=_
  rw[Nx]
  exact cut i hi
 obtain⟨z0,zk⟩:=Vz r hc cut
 refine B9 (fun e=>?_) (fun e=>?_)
 .exact q none (z0 ()) (fun t z=>nomatch z)
 have hk:c=c-1+1:=()
 generalize c-1=k at hk
 subst hk
 obtain⟨y1,y2⟩:=zk k rfl
 refine#[cs,m,h,k,?_,hc,hg,hh,fun s=>q none (y1 s) (fun t z=>nomatch z),fun s=>q (some _) (y2 s) (fun t z=>?_)]
 .show [S.d (crv cs m),.d (.int (((k+1:Nat):Int)-1)),.d (qd h)]=_
  rw[show((k+1:Nat):Int)-1=(k:Int) from ()]
 .cases z
  exact Nw hg.2.1 r.o hc s hh
variable (GY:Cal P w K mg base (CXU P w) 7 "passed" ["f","height"] LZ)
theorem A8:Ad ["f","g","others","told","place","corner"] ["f","g"] (Ab CJ):=scN
include Ai AM in
theorem IJ (F:Fun K "corner_times" "corner_times" CJ f fd):Aq P w K mg base CX0 2 f fd ["f","g"] (Ae K mg Ez):=by
 refine fn3 F A8 (fun ss R U h=>?_) (fun cdv A outer s H E ss R U hr h=>?_)
 .obtain⟨cs,m,ds,k,n,rfl,_⟩:=h;rfl
 obtain⟨cs,m,ds,k,n,rfl,oc,od,lc,ld,hn,zc,zd,q⟩:=h
 refine#[_,(Aa (LN (i:=2) (N:=["corner"]) (idx:=[]) (AZ.mk' (Ab CJ) ["f","g","others","told","place","corner"] rfl rfl (by decide +kernel)) rfl (BP (PE3.out (vK 1))) DW (fun cl C s₀ H₀ fp=>Cn) (fun cl C s₀ H₀ fp=>(vK 0)) A8.nd rfl (Or.inl rfl))
  (Aa (AE 3 A8 (Fm LA))
  (Aa (AE 4 A8 Ac)
  (Aa (GS (Ch PassesOwn.never rfl (BP (PE3.out (vK 0))) (A3 (i:=5) A8.nd rfl (Or.inl rfl)) (Eg.out (Aa (G3 PassesOwn.never (PW3.pt (Ke (Cm K3 (vN 4) (DA AM (vN 2))) (Gg (BQ (Al hr Ai (a2 (A5 (vN 2) (vN 4)) (vK 5))))))) (Aa (Fo (BA (Fn qAE qAA qAB AN (pv 3) (AL (PE3.out (A5 (vN 2) (vN 4))) BD))))
  (Af (K8 (i:=4) A8.nd rfl (Or.inl rfl) Ac))))
  (Cd (B1 (PW3.pt (Ke (Cm K3 (vN 4) (DA AM (vN 2))) (Gg (Cm (Ss 1 (hu_ hr ∅)) (A5 (vN 2) (vN 4)) (vK 5))))) (Af (K8 (i:=4) A8.nd rfl (Or.inl rfl) Ac)) An)
  (Af (Fo (BA (Fn qAE qAA qAB AN (pv 3) (AL (PE3.out (vK 5)) BD))))))))))
  (SF 3 (Bg (Kr J6 (vN 3) (OQ (vN 2) (Hk (vN 4)) Si)))))))),?_]
 refine#[ds.map fun c=>some (qd c.1),by rw[qAa,qAa],?_,?_,?_]
 .intro i x hx
  obtain⟨c,hc,rfl⟩:=BN hx
  show(ds.map _)[i]? = _
  rw[qAc,hc]
  rfl
 .rw[qAa];omega
 have e0:(ds.map fun c=>some (qd c.1)).filterMap id=(rst ds 0).map qd:=by
  rw[EE ds (fun c=>qd c.1)]
  unfold rst
  rw[qCP,qBJ]
  rfl
 rw[e0]
 refine#[(by show 0<=1000;decide),?_]
 refine#[fun n' τ=>∃(p:Nat)(ts:List Rat)(y0 y1 y5:Option S),τ=[some (.d (crv cs m)),some (.d (crv ds k)),some (.l ((rst ds 0).map qd)),some (.l (ts.map qd)),I p,y5]/\Mrg cs ds n' p ts/\p<=ds.length/\(n'<cs.length->∀x∈ts,x<tt cs n'),#[0,[],none,none,none,rfl,Mrg.nil cs ds,qA7 _,fun _ x hx=>by cases hx],?_,?_]
 .rintro n' τ x hx ⟨p,ts,y0,y1,y5,rfl,g,hp,hlt⟩
  obtain⟨hi,rfl⟩:=FJ hx
  have zi:=(zc n' hi).1
  refine#[fun mm τ=>∃(p:Nat)(ts:List Rat),τ=[some (.d (crv cs m)),some (.d (crv ds k)),some (.l ((rst ds 0).map qd)),some (.l (ts.map qd)),I p,some (.d (.tup [qd (tt cs n'),qd (vv cs n')]))]/\Mrg cs ds n' p ts/\p<=ds.length/\(n'<cs.length->∀x∈ts,x<tt cs n')/\mm=ds.length-p,#[_,p,ts,rfl,g,hp,hlt,rfl],?_]
  clear g hp hlt
  rintro mm τ ⟨p,ts,rfl,g,hp,hlt,rfl⟩
  refine B9 (fun c=>?_) (fun c=>?_)
  .have pl:p<ds.length:=by rw[qAa,DH] at c;omega
   refine atR (J3 p rfl pl) ?_
   refine#[_,_,_,_,rfl,(zd p pl).1,zi,(),?_]
   refine B9 (fun c2=>?_) (fun c2=>?_)
   .refine atR (J3 p rfl pl) ?_
    obtain⟨g2,h2⟩:=g.other od.up pl (hlt hi) c2
    refine#[by rw[qAa];have:=g.len;omega,ds.length-(p+1),(),p+1,ts++[tt ds p],by rw[qAN];rfl,g2,pl,fun _=>h2,rfl]
   .have NL:p<ds.length->tt cs n'<=tt ds p:=fun _=>qAz.mp c2
    refine#[fun τ=>∃(q:Nat)(y0 y1 y5:Option S),τ=[some (.d (crv cs m)),some (.d (crv ds k)),some (.l ((rst ds 0).map qd)),some (.l (ts.map qd)),I q,some (.d (.tup [qd (tt cs n'),qd (vv cs n')]))]/\(q=p\/(q=p+1/\p<ds.length/\tt ds p=tt cs n'))/\q<=ds.length/\∀j,q<=j->j<ds.length->tt cs n'<tt ds j,?_,?_]
    .refine B9 (fun c'=>?_) (fun c'=>?_)
     .have pl:p<ds.length:=by rw[qAa,DH] at c';omega
      refine atR (J3 p rfl pl) ?_
      refine#[rfl,rfl,eqT (tt ds p) (tt cs n') (fun e=>?_) (fun e=>?_)]
      .exact#[p+1,none,none,none,rfl,.inr #[rfl,pl,e],pl,fun j j1 j2=>by rw[<-e];exact JT od.up () j2]
      .refine#[p,none,none,none,rfl,.inl rfl,(),fun j j1 j2=>?_]
       have lt:tt cs n'<tt ds p:=qBB (NL pl) (fun z=>e z.symm)
       by_cases z:j=p
       .rw[z];exact lt
       .have:=JT od.up (i:=p) (j:=j) () j2
        grind
     .have pl:¬p<ds.length:=by rw[qAa,DH] at c';omega
      exact#[p,none,none,none,rfl,.inl rfl,hp,fun j j1 j2=>()]
    rintro τ ⟨q',y0,y1,y5,rfl,hq,hq2,hb⟩
    have g2:=g.one hq (hlt hi) hb
    refine#[by rw[qAa];have:=g.len;omega,q',ts++[tt cs n'],none,none,_,by rw[qAN];rfl,g2,hq2,fun c' x hx=>?_]
    rcases qAr.mp hx with hx|hx
    .have:=hlt hi x hx
     have:=oc.up n' c'
     grind
    .rw[qAI.mp hx];exact oc.up n' c'
  .have NL:p<ds.length->tt cs n'<=tt ds p:=fun z=>absurd z (by rw[qAa,DH] at c;omega)
   refine#[fun τ=>∃(q:Nat)(y0 y1 y5:Option S),τ=[some (.d (crv cs m)),some (.d (crv ds k)),some (.l ((rst ds 0).map qd)),some (.l (ts.map qd)),I q,some (.d (.tup [qd (tt cs n'),qd (vv cs n')]))]/\(q=p\/(q=p+1/\p<ds.length/\tt ds p=tt cs n'))/\q<=ds.length/\∀j,q<=j->j<ds.length->tt cs n'<tt ds j,?_,?_]
   .refine B9 (fun c'=>?_) (fun c'=>?_)
    .have pl:p<ds.length:=by rw[qAa,DH] at c';omega
     refine atR (J3 p rfl pl) ?_
     refine#[rfl,rfl,eqT (tt ds p) (tt cs n') (fun e=>?_) (fun e=>?_)]
     .exact#[p+1,none,none,none,rfl,.inr #[rfl,pl,e],pl,fun j j1 j2=>by rw[<-e];exact JT od.up () j2]
     .refine#[p,none,none,none,rfl,.inl rfl,(),fun j j1 j2=>?_]
      have lt:tt cs n'<tt ds p:=qBB (NL pl) (fun z=>e z.symm)
      by_cases z:j=p
      .rw[z];exact lt
      .have:=JT od.up (i:=p) (j:=j) () j2
       grind
    .have pl:¬p<ds.length:=by rw[qAa,DH] at c';omega
     exact#[p,none,none,none,rfl,.inl rfl,hp,fun j j1 j2=>()]
   rintro τ ⟨q',y0,y1,y5,rfl,hq,hq2,hb⟩
   have g2:=g.one hq (hlt hi) hb
   refine#[by rw[qAa];have:=g.len;omega,q',ts++[tt cs n'],none,none,_,by rw[qAN];rfl,g2,hq2,fun c' x hx=>?_]
   rcases qAr.mp hx with hx|hx
   .have:=hlt hi x hx
    have:=oc.up n' c'
    grind
   .rw[qAI.mp hx];exact oc.up n' c'
 rintro τ ⟨p,ts,y0,y1,y5,rfl,g,hp,hlt⟩
 rw[qAa] at g
 have gl:=g.len
 have lr:=DH ds p
 have rr:Eh ((rst ds 0).map qd) (some (p:Int)) none=(rst ds p).map qd:=RY hp
 show Xg (.lst (ts.map qd)) (.lst (Eh ((rst ds 0).map qd) (some (p:Int)) none)) (fun d=>R (.d d))
 rw[rr]
 refine#[by rw[qAa,qAa];omega,?_]
 rw[<-qAN]
 exact q _ (WJ oc od g hp) (by rw[qAw];omega)
variable (Cz:Cal P w K mg base (CXU P w) 2 "corner_times" ["f","g"] Ez)
theorem Jt:Ad ["f","g"] ["f","g"] (Ab C8):=scN
include B6 Cz in
theorem Jv (F:Fun K "corner_rows" "corner_rows" C8 f fd):Aq P w K mg base CX0 8 f fd ["f","g"] (Ae K mg Fx):=by
 refine fn3 F Jt (fun ss R U h=>?_) (fun cdv A outer s H E ss R U hr h=>?_)
 .obtain⟨cs,m,ds,k,a,b,c,rfl,_⟩:=h;rfl
 obtain⟨cs,m,ds,k,a,b,c,rfl,oc,od,lc,ld,zc,zd,h1,h4,h2,q⟩:=h
 refine#[_,(Bg (FC (N:=["t","f","g"]) (idx:=[0,1]) (AZ.mk' (Ab C8) ["f","g"] rfl rfl (by decide +kernel)) rfl (BP (PE3.out (Al hr Cz (a2 (vN 0) (vN 1))))) DW (fun cl C s₀ H₀ fp=>Cn) (fun cl C s₀ H₀ fp=>(Bl (AV (vN 0) (a2 (Al hr B6 (a2 (vN 1) (vN 0))) (Al hr B6 (a2 (vN 2) (vN 0))))))))),?_]
 refine#[cs,m,ds,k,6000,rfl,oc,od,lc,ld,∅,(zc.szk oc () h1).cs,(zd.szk od () h1).cs,fun ts ht hl=>?_]
 refine#[ts.map fun t=>some (rw3 cs m ds k t),by rw[qAa,qAa],?_,?_,?_]
 .intro i x hx
  obtain⟨t,et,rfl⟩:=BN hx
  obtain⟨hi,eT⟩:=NG et
  have zt:Sz a (T ts i):=by
   rcases ht.of i hi with⟨j,hj,e⟩|⟨j,hj,e⟩
   .rw[e];exact zc.tm j hj
   .rw[e];exact zd.tm j hj
  have t0:=OF ht hi
  rw[eT] at zt t0
  refine#[cs,m,t,a,b,c,a,rfl,oc,zc,(),h1,h4,(),(),zt,fun _=>?_,fun z=>absurd t0 z]
  refine#[ds,k,t,a,b,c,a,rfl,od,zd,(),h1,h4,(),(),zt,fun _=>?_,fun z=>absurd t0 z]
  refine#[(by show 3<=1000;decide),?_]
  show(ts.map _)[i]? = _
  rw[qAc,et]
  rfl
 .rw[qAa];omega
 rw[EE ts (rw3 cs m ds k)]
 exact q ts ht hl
variable (Bp:Cal P w K mg base (CXU P w) 8 "corner_rows" ["f","g"] Fx)
theorem KL:Ad ["rows"] ["rows"] (Ab DL):=scN
include Aw in
theorem KO (F:Fun K "gap_points" "gap_points" DL f fd):Aq P w K mg base CX0 4 f fd ["rows"] (Ae K mg Ge):=by
 refine fn3 F KL (fun ss R U h=>?_) (fun cdv A outer s H E ss R U hr h=>?_)
 .obtain⟨x,cs,m,ds,k,ts,v,rfl,_⟩:=h;rfl
 obtain⟨x,cs,m,ds,k,ts,v,rfl,hx,hl,hv,hz,q⟩:=h
 refine#[_,(Bg (FC (N:=["row"]) (idx:=[]) (AZ.mk' (Ab DL) ["rows"] rfl rfl (by decide +kernel)) rfl (BP (PE3.out (vN 0))) DW (fun cl C s₀ H₀ fp=>Cn) (fun cl C s₀ H₀ fp=>(Bl (a2 (vK 0) (Al hr Aw (a2 (vK 0) (vK 0)))))))),?_]
 rcases hx with rfl|rfl
 all_goals
  refine#[ts.map fun t=>some (.tup [qd t,qd (gap cs m ds k t)]),by rw[qAa,qAa],?_,?_,?_]
  .intro i x hx
   obtain⟨t,et,rfl⟩:=BN hx
   obtain⟨hi,eT⟩:=NG et
   have z:=hz i hi
   rw[eT] at z
   refine#[_,_,_,_,rfl,z.1,z.2,(),?_]
   refine#[(by show 2<=1000;decide),?_]
   show(ts.map _)[i]? = _
   rw[qAc,et]
   rfl
  .rw[qAa];omega
  rw[EE ts (fun t=>.tup [qd t,qd (gap cs m ds k t)])]
  have e:(gcs cs m ds k ts).map cd=ts.map (fun t=>.tup [qd t,qd (gap cs m ds k t)]):=by
   unfold gcs
   rw[qBJ]
   rfl
  rw[e] at q
  exact q
variable (BI:Cal P w K mg base (CXU P w) 4 "gap_points" ["rows"] Ge)
theorem Ma:Ad ["one","other"] ["one","other"] (Ab Hl):=scN
theorem MT (F:Fun K "opposite" "opposite" Hl f fd):Aq P w K mg base CX0 1 f fd ["one","other"] (Ae K mg Jf):=by
 refine fn3 F Ma (fun ss R U h=>?_) (fun cdv A outer s H E ss R U hr h=>?_)
 .obtain⟨p,q,rfl,_⟩:=h;rfl
 obtain⟨p,q1,rfl,hp,hq,q⟩:=h
 refine#[_,(Bg (MP K3 (Ar AF (vK 0) (vK 1)) Ac (Hx _))),?_]
 refine#[AI hp.1 hq.1 ∅,?_]
 rw[show decide (Opp p q1)=decide (p.num*q1.num<0) from decide_eq_decide.mpr (Uh p q1).symm] at q
 exact q
variable (Ff:Cal P w K mg base (CXU P w) 1 "opposite" ["one","other"] Jf)
theorem Ax:Ad ["f","g","rows","gaps","last","slopes","sides","told","number","row","t","meet"] ["f","g"] (Ab CG):=scN
variable (B4:mg "enumerate"=none)
include Aw gc_NOUGHT Ba B6 Du Bp BI Ff B4 in
theorem Iq (F:Fun K "crossed_rows" "crossed_rows" CG f fd):Aq P w K mg base CX0 9 f fd ["f","g"] (Ae K mg EV):=by
 refine fn3 F Ax (fun ss R U h=>?_) (fun cdv A outer s H E ss R U hr h=>?_)
 .obtain⟨cs,m,ds,k,a,b,c,rfl,_⟩:=h;rfl
 obtain⟨cs,m,ds,k,a,b,c,rfl,oc,od,z1,z2,h1,h2,hl,q⟩:=h
 refine#[_,(Aa (AE 2 Ax (Al hr Bp (a2 (vN 0) (vN 1))))
  (Aa (AE 3 Ax (Al hr BI (a1 (vN 2))))
  (Aa (AE 4 Ax (Al hr Aw (a2 (vK 0) (vK 1))))
  (Aa (AE 5 Ax (Al hr Ba (a2 (vN 3) (vN 4))))
  (Aa (AE 6 Ax (Kr J6 (FC (N:=["gap"]) (idx:=[]) (AZ.mk' (Ab CG) ["f","g","rows","gaps","last","slopes","sides","told","number","row","t","meet"] rfl rfl (by decide +kernel)) rfl (BP (PE3.out (OQ (vN 3) (Hk Ac) Si))) DW (fun cl C s₀ H₀ fp=>Cn) (fun cl C s₀ H₀ fp=>(vK 0))) (Fm (a1 (vN 4)))))
  (Aa (AE 7 Ax (Fm LA))
  (Aa (SK (Ch PassesOwn.never rfl (Pj rfl B4 (pv 2)) (Nl rfl (Dd (A3 (i:=8) Ax.nd rfl (Or.inl rfl)) (Dd (A3 (i:=9) Ax.nd rfl (Or.inl rfl)) KQ))) (Eg.out (Aa (Fo (BA (Fn qAE qAA qAB AN (pv 7) (AL (PE3.out (vN 9)) BD))))
  (Af (B1 (BQ (Al hr Ff (a2 (A5 (A5 (vN 3) (vN 8)) Ac) (A5 (vN 6) (vN 8))))) (Aa (AE 10 Ax (Al hr Du (AV (A5 (vN 3) (vN 8)) (a2 (A5 (vN 5) (vN 8)) (KY rfl gc_NOUGHT)))))
  (Aa (AE 11 Ax (Al hr B6 (a2 (vN 0) (vN 10))))
  (Af (Fo (BA (Fn qAE qAA qAB AN (pv 7) (AL (PE3.out (Bl (AV (vN 10) (a2 (vN 11) (vN 11))))) BD))))))) An))))))
  (Af (Cj (pv 7)))))))))),?_]
 refine#[cs,m,ds,k,a,b,c,rfl,oc,od,(),(),z1,z2,(),(),(),fun ts ht tl=>?_]
 have tz:∀i,i<ts.length->Sz a (T ts i):=fun i hi=>by
  rcases ht.of i hi with⟨j,hj,e⟩|⟨j,hj,e⟩
  .rw[e];exact z1.tm j hj
  .rw[e];exact z2.tm j hj
 have vz:∀i,i<ts.length->Sz 6000 (val cs m (T ts i))/\Sz 6000 (val ds k (T ts i)):=fun i hi=>#[(z1.va (OF ht hi) (tz i hi)).mono (),(z2.va (OF ht hi) (tz i hi)).mono ()]
 have gz:∀i,i<ts.length->Sz (2*a+1) (gap cs m ds k (T ts i)):=fun i hi=>(Va z1 z2 (OF ht hi) (tz i hi)).mono ()
 refine#[_,cs,m,ds,k,ts,6000,rfl,Or.inl rfl,(),∅,vz,?_]
 have gl:=FZ (cs:=cs) (m:=m) (ds:=ds) (k:=k) (ts:=ts)
 have gC:SzC 6400 (gcs cs m ds k ts):=fun i hi=>by
  rw[gl] at hi
  rw[(C0 hi).1,(C0 hi).2]
  exact#[(tz i hi).mono (),(gz i hi).mono ()]
 have gU:Up (gcs cs m ds k ts):=fun i hi=>by
  rw[gl] at hi
  rw[(C0 (show i<ts.length from ())).1,(C0 hi).1]
  exact ht.up i hi
 have ne:=ht.ne
 have zm:=z1.m oc
 have zk:=z2.m od
 refine#[m,k,_,_,rfl,zm,zk,(),?_]
 refine#[_,gcs cs m ds k ts,m-k,rfl,Or.inl rfl,by rw[gl];exact ne,by rw[gl];omega,gC,Vn z1 z2 oc od ht tz (),gU,?_]
 have cut1:Eh ((gcs cs m ds k ts).map cd) (some 1) none=((gcs cs m ds k ts).drop 1).map cd:=Qc (f:=cd) (h:=1) (by rw[gl];omega)
 refine#[((gcs cs m ds k ts).drop 1).map fun c=>some (qd c.2),?_,?_,?_,?_]
 .show _=(Eh ((gcs cs m ds k ts).map cd) (some 1) none).length
  rw[cut1,qAa,qAa]
 .intro i x hx
  have hx:(Eh ((gcs cs m ds k ts).map cd) (some 1) none)[i]? = some x:=hx
  rw[cut1] at hx
  obtain⟨c',hc,rfl⟩:=BN hx
  show(((gcs cs m ds k ts).drop 1).map _)[i]? = _
  rw[qAc,hc]
  rfl
 .show(Eh ((gcs cs m ds k ts).map cd) (some 1) none).length<=100000
  rw[cut1,qAa,qAL,gl];omega
 refine#[(by show 1<=1000;decide),?_]
 refine#[?_,?_]
 .have:=qBI id (((gcs cs m ds k ts).drop 1).map fun c=>some (qd c.2))
  rw[qAa,qAL,gl] at this
  show List.length _+1<=_
  omega
 rw[U0 cs m ds k ts ne]
 refine#[(by show 0<=1000;decide),?_]
 refine#[fun i τ=>∃(us:List Rat)(y8 y9 y10 y11:Option S),τ=[some (.d (crv cs m)),some (.d (crv ds k)),some (.r (ts.map (rw3 cs m ds k))),some (.l ((gcs cs m ds k ts).map cd)),some (.d (qd (m-k))),some (.l ((JO (gcs cs m ds k ts) (m-k)).map qd)),some (.d (.lst ((sdL cs m ds k ts).map qd))),some (.l (us.map (rw3 cs m ds k))),y8,y9,y10,y11]/\(i=0->us=[])/\(0<i->Cx cs m ds k us (nxT ts (i-1))/\∀u,nxT ts (i-1)=some u->T us (us.length-1)<u)/\us.length<=2*i/\(∀j,j<us.length->Sz a (T us j)),#[[],_,_,_,_,rfl,fun _=>rfl,fun z=>absurd z ∅,qA7 _,fun j hj=>absurd hj (qBf j)],?_,?_]
 .rintro i τ x hx ⟨us,y8,y9,y10,y11,rfl,i0,ip,ul,uz⟩
  obtain⟨t,et,rfl⟩:=BN hx
  obtain⟨hi,eT⟩:=NG et
  subst eT
  obtain⟨e1,e2⟩:=C0 (cs:=cs) (m:=m) (ds:=ds) (k:=k) hi
  have gi:i<(gcs cs m ds k ts).length:=by rw[gl];exact hi
  have t0:=OF ht hi
  have zsd:Sz 6400 (G4 cs m ds k ts i):=by
   unfold G4
   split
   .next z=>exact(gz _ z).mono ()
   .exact(zm.sub zk).mono ()
  refine#[by rw[qAa];omega,?_]
  refine atR (Ca (cs:=gcs cs m ds k ts) i rfl gi) ?_
  refine atR (XE i rfl hi) ?_
  rw[e2]
  refine#[_,_,rfl,(gz i hi).mono (),zsd,?_]
  refine B9 (fun op=>?_) (fun nop=>?_)
  .have lin:=Mo (m:=m) (k:=k) oc od ht hi
   have P:=Vq oc od ht hi op rfl
   have es:slp (gcs cs m ds k ts) (m-k) i=sat cs m (T ts i)-sat ds k (T ts i):=lin.2
   have zt:=PD z1 z2 t0 P.1 h1
   have zs:Sz (b+b+1) (sat cs m (T ts i)-sat ds k (T ts i)):=(z1.sl _ t0).sub (z2.sl _ t0)
   refine atR (Ca (cs:=gcs cs m ds k ts) i rfl gi) ?_
   refine atR (MG (cs:=gcs cs m ds k ts) (m:=m-k) i rfl gi) ?_
   rw[e1,e2,es]
   refine#[T ts i,gap cs m ds k (T ts i),_,0,a,2*a+1,1,_,rfl,tz i hi,gz i hi,Sz.zero,zs,P.1,(),?_]
   generalize T ts i+(0-gap cs m ds k (T ts i))/(sat cs m (T ts i)-sat ds k (T ts i))=t' at P zt
   obtain⟨_,lt,ltn,p1,p2,ev,_,_⟩:=P
   have t0':0<=t':=⋯
   refine#[cs,m,t',a,b,c,a,rfl,oc,z1,(),(),(),(),(),zt,fun _=>?_,fun z=>absurd t0' z]
   refine#[(by show 3<=1000;decide),by rw[qAw,qAa];show us.length+1<_;omega,?_]
   have x1:=Cx.turn ht hi i0 ip p1
   have x2:=x1.snoc (by rw[QH];exact lt) p2
   have em:(us++[T ts i]++[t']).map (rw3 cs m ds k)=us.map (rw3 cs m ds k)++[rw3 cs m ds k (T ts i)]++[.tup [qd t',qd (val cs m t'),qd (val cs m t')]]:=by
    rw[qAN,qAN]
    show us.map (rw3 cs m ds k)++[rw3 cs m ds k (T ts i)]++[.tup [qd t',qd (val cs m t'),qd (val ds k t')]]=_
    rw[ev]
   refine#[us++[T ts i]++[t'],_,_,_,_,by rw[em];rfl,fun z=>absurd z (),fun _=>#[x2,fun u hu=>by rw[QH];exact ltn u hu],?_,Mw (Mw uz (tz i hi)) zt]
   rw[qAw,qAw];show us.length+1+1<=_;omega
  .have x1:=Cx.turn ht hi i0 ip (T2 oc od ht hi nop)
   refine#[us++[T ts i],_,_,_,_,by rw[qAN];rfl,fun z=>absurd z (),fun _=>#[x1,fun u hu=>?_],?_,Mw uz (tz i hi)]
   .rw[QH]
    unfold nxT at hu
    split at hu
    .next z=>cases hu;exact ht.up i z
    .cases hu
   .rw[qAw];show us.length+1<=_;omega
 rintro τ ⟨us,y8,y9,y10,y11,rfl,i0,ip,ul,uz⟩
 rw[qAa] at ip ul
 have X:=(ip ne).1
 rw[show nxT ts (ts.length-1)=none by unfold nxT;rw[if_neg ()]] at X
 exact q us X uz ()
variable (CD:Cal P w K mg base (CXU P w) 9 "crossed_rows" ["f","g"] EV)
theorem Ni:Ad ["f","g","corners"] ["f","g"] (Ab Kv):=scN
include DP DX CD in
theorem R6 (F:Fun K "least" "least" Kv f fd):Aq P w K mg base CX0 10 f fd ["f","g"] (Ae K mg M3):=by
 refine fn3 F Ni (fun ss R U h=>?_) (fun cdv A outer s H E ss R U hr h=>?_)
 .obtain⟨cs,m,ds,k,a,b,c,S0,rfl,_⟩:=h;rfl
 obtain⟨cs,m,ds,k,a,b,c,S0,rfl,r,s,z1,z2,h1,h2,hl,s1,s2,q⟩:=h
 refine#[_,(Aa (LN (i:=2) (N:=["row"]) (idx:=[]) (AZ.mk' (Ab Kv) ["f","g","corners"] rfl rfl (by decide +kernel)) rfl (BP (PE3.out (Al hr CD (a2 (vN 0) (vN 1))))) DW (fun cl C s₀ H₀ fp=>Cn) (fun cl C s₀ H₀ fp=>(Bl (a2 (vK 0) (Al hr DP (a2 (vK 0) (vK 0)))))) Ni.nd rfl (Or.inl rfl))
  (Bg (Al hr DX (a2 (vN 2) (Al hr DP (a2 (vK 0) (vK 1))))))),?_]
 refine#[cs,m,ds,k,a,b,c,rfl,r.o,s.o,z1,z2,h1,h2,hl,fun us X uz ul=>?_]
 have zz:∀i,i<us.length->Sz 6000 (val cs m (T us i))/\Sz 6000 (val ds k (T us i)):=fun i hi=>#[(z1.va (X.nn hi) (uz i hi)).mono (),(z2.va (X.nn hi) (uz i hi)).mono ()]
 refine#[us.map fun t=>some (.tup [qd t,qd (mn (val cs m t) (val ds k t))]),by rw[qAa,qAa],?_,?_,?_]
 .intro i x hx
  obtain⟨t,et,rfl⟩:=BN hx
  obtain⟨hi,eT⟩:=NG et
  have z:=zz i hi
  rw[eT] at z
  refine#[val cs m t,val ds k t,_,_,rfl,z.1,z.2,∅,(by show 2<=1000;decide),?_]
  show(us.map _)[i]? = _
  rw[qAc,et]
  rfl
 .rw[qAa];omega
 rw[EE us (fun t=>.tup [qd t,qd (mn (val cs m t) (val ds k t))])]
 have e:us.map (fun t=>(.tup [qd t,qd (mn (val cs m t) (val ds k t))]:D))=(ocs mn cs m ds k us).map cd:=by
  unfold ocs
  rw[qBJ]
  rfl
 rw[e]
 have O:=Kj Jh r s X
 have zm:=z1.m r.o
 have zk:=z2.m s.o
 have LL:=WM Jh r s X z1 z2 uz
 have ol:=Cu (op:=mn) (cs:=cs) (m:=m) (ds:=ds) (k:=k) (us:=us)
 have m0:0<=mn m k:=by
  have:=r.m0
  have:=s.m0
  rcases Jh.or m k with e|e<;>rw[e]<;>assumption
 refine#[m,k,_,_,rfl,zm,zk,(),?_]
 refine#[_,ocs mn cs m ds k us,mn m k,rfl,Or.inl rfl,LL.szd O () () (),fun _=>?_,fun z=>absurd #[O,m0] z]
 have kl:=JX (ocs mn cs m ds k us) (mn m k) ((ocs mn cs m ds k us).length-1)
 have n0:=O.ne
 exact q _ _ (HS O m0) rfl (LL.kept O) ((Vu Jh r s X s1 s2).kept O) () (fun t t0=>by rw[(HF O t).1,UM Jh r s X t0])
variable (IE:Cal P w K mg base (CXU P w) 10 "least" ["f","g"] M3)
theorem Bu:Ad ["f","g","gaps","best","gap"] ["f","g"] (Ab Dq):=scN
include Ai Bp BI in
theorem HI (F:Fun K "tallest_point" "tallest_point" Dq f fd):Aq P w K mg base CX0 9 f fd ["f","g"] (Ae K mg Ew):=by
 refine fn3 F Bu (fun ss R U h=>?_) (fun cdv A outer s H E ss R U hr h=>?_)
 .obtain⟨cs,m,ds,k,rfl,_⟩:=h;rfl
 obtain⟨cs,m,ds,k,rfl,zc,zd,q⟩:=h
 refine#[_,(Aa (AE 2 Bu (Al hr BI (a1 (Al hr Bp (a2 (vN 0) (vN 1))))))
  (Aa (AE 3 Bu (vK 2))
  (Aa (GS (Ch PassesOwn.never rfl (BP (PE3.out (OQ (vN 2) (Hk Ac) Si))) (A3 (i:=4) Bu.nd rfl (Or.inl rfl)) (Eg.out (Af (B1 (BQ (Al hr Ai (a2 (vK 3) (vK 4)))) (Af (AE 3 Bu (vN 4))) An)))))
  (Af (Cj (pv 3)))))),?_]
 have oc:=zc.1.o
 have od:=zd.1.o
 have lc:=zc.2.2
 have ld:=zd.2.2
 refine#[cs,m,ds,k,1300,70,600,rfl,oc,od,lc,ld,zc.2.1,zd.2.1,∅,∅,∅,fun ts ht hl=>?_]
 have vz:∀i,i<ts.length->Sz 1971 (val cs m (T ts i))/\Sz 1971 (val ds k (T ts i)):=fun i hi =>
  #[(zc.2.1.va (OF ht hi) (S4 zc zd ht hi)).mono ∅,(zd.2.1.va (OF ht hi) (S4 zc zd ht hi)).mono ∅]
 have gz:∀i,i<ts.length->Sz 3943 (gap cs m ds k (T ts i)):=fun i hi=>((vz i hi).1.sub (vz i hi).2).mono ∅
 refine#[_,cs,m,ds,k,ts,1971,rfl,Or.inr rfl,(),∅,vz,?_]
 have gl:=FZ (cs:=cs) (m:=m) (ds:=ds) (k:=k) (ts:=ts)
 have hp:0<(gcs cs m ds k ts).length:=by rw[gl];exact ht.ne
 refine atR (Mf hp) ?_
 obtain⟨e1,e2⟩:=C0 (cs:=cs) (m:=m) (ds:=ds) (k:=k) ht.ne
 rw[e1,e2]
 have ec:Eh ((gcs cs m ds k ts).map cd) (some 1) none=((gcs cs m ds k ts).drop 1).map cd:=Wi hp
 show IH _ (Eh ((gcs cs m ds k ts).map cd) (some 1) none) _ _ _
 rw[ec]
 refine#[fun n τ=>∃(i:Nat)(y:Option S),τ=[some (.d (crv cs m)),some (.d (crv ds k)),some (.l ((gcs cs m ds k ts).map cd)),some (.d (.tup [qd (T ts i),qd (gap cs m ds k (T ts i))])),y]/\i<ts.length/\∀j,j<=n->j<ts.length->gap cs m ds k (T ts j)<=gap cs m ds k (T ts i),#[0,_,rfl,ht.ne,fun j h _=>by rw[Nat.le_zero.mp h];exact qAd],?_,?_]
 .rintro n τ x hx ⟨i,y,rfl,hi,hj⟩
  rw[qBY,qBa] at hx
  obtain⟨h2,rfl⟩:=FJ hx
  rw[gl] at h2
  obtain⟨e1,e2⟩:=C0 (cs:=cs) (m:=m) (ds:=ds) (k:=k) h2
  rw[e1,e2]
  refine#[_,_,_,_,rfl,gz i hi,gz _ h2,∅,?_]
  refine B9 (fun c=>#[1+n,_,rfl,h2,fun j j1 jl=>?_]) (fun c=>#[i,_,rfl,hi,fun j j1 jl=>?_])
  .by_cases z:j<=n
   .exact qAm (hj j z jl) (qAk c)
   .rw[show j=1+n from ()];exact qAd
  .by_cases z:j<=n
   .exact hj j z jl
   .rw[show j=1+n from ()];exact qAz.mp c
 rintro τ ⟨i,y,rfl,hi,hj⟩
 rw[qAa,qAL,gl] at hj
 exact q ts i ht hi (fun j jl=>hj j () jl) (gz i hi)
variable (Cc:Cal P w K mg base (CXU P w) 9 "tallest_point" ["f","g"] Ew)
theorem N8:Ad ["f","g"] ["f","g"] (Ab Ie):=scN
include BU gc_NOUGHT Bx Cc in
theorem Oh (F:Fun K "tallest" "tallest" Ie f fd):Aq P w K mg base CX0 10 f fd ["f","g"] (Ae K mg JG):=by
 refine fn3 F N8 (fun ss R U h=>?_) (fun cdv A outer s H E ss R U hr h=>?_)
 .obtain⟨cs,m,ds,k,rfl,_⟩:=h;rfl
 obtain⟨cs,m,ds,k,rfl,zc,zd,q⟩:=h
 refine#[_,(Aa (B1 (BQ (Al hr Bx (a2 (vN 0) (vN 1)))) (Bg Hh) An)
  (Bg (Al hr BU (a2 (KY rfl gc_NOUGHT) (A5 (Al hr Cc (a2 (vN 0) (vN 1))) Ac))))),?_]
 have oc:=zc.1.o
 have od:=zd.1.o
 have q1:k<m->R (.d .non):=fun c=>q none c (fun v e=>nomatch e)
 have q2:¬k<m->∀v,Tal cs m ds k v->Sz 3943 v->R (.d (qd v)):=fun c v t z=>q (some v) #[c,t] (fun v e=>by cases e;exact z)
 refine#[cs,m,ds,k,rfl,(zc.2.1.m oc).mono ∅,(zd.2.1.m od).mono ∅,?_]
 refine B9 (fun c=>q1 c) (fun c=>?_)
 refine#[cs,m,ds,k,rfl,zc,zd,fun ts i ht hi hj zv=>?_]
 refine#[0,gap cs m ds k (T ts i),_,_,rfl,(Sz.zero.mono ∅:Sz 3943 0),zv,∅,?_]
 by_cases c2:0<gap cs m ds k (T ts i)
 .rw[if_pos c2]
  exact q2 c _ (Ta oc od ht hj ⋯ (qAk c2) (.inr #[i,hi,rfl])) zv
 .rw[if_neg c2]
  exact q2 c 0 (Ta oc od ht (fun j h=>qAm (hj j h) (qAz.mp c2)) ⋯ qAd (.inl rfl)) (Sz.zero.mono ∅)
variable (EW:Cal P w K mg base (CXU P w) 10 "tallest" ["f","g"] JG)
theorem Oy:Ad ["one","other"] ["one","other"] (Ab Il):=scN
include Aw gc_NOUGHT in
theorem N4 (F:Fun K "between" "between" Il f fd):Aq P w K mg base CX0 4 f fd ["one","other"] (Ae K mg JB):=by
 refine fn3 F Oy (fun ss R U h=>?_) (fun cdv A outer s H E ss R U hr h=>?_)
 .obtain⟨a,b,rfl,_⟩:=h;rfl
 obtain⟨a,b,rfl,za,zb,q⟩:=h
 refine#[_,(TX (B1 (PW3.pt (OI (Cm Lf (vN 0) Hh) (Jb (Cm Lf (vN 1) Hh)))) (Bg (KY rfl gc_NOUGHT)) An)
  (Bg (Al hr Aw (a2 (vN 1) (vN 0))))),?_]
 cases a with
 |none=>exact#[False,q,fun z=>z.elim]
 |some x =>
  cases b with
  |none=>exact#[False,q,fun z=>z.elim]
  |some y=>exact#[True,#[rfl,trivial],fun _=>#[y,x,_,_,rfl,zb y rfl,za x rfl,∅,q]]
variable (EU:Cal P w K mg base (CXU P w) 4 "between" ["one","other"] JB)
theorem Hf:Ad ["f","g","height","reaching","passing"] ["f","g","height"] (Ab Jk):=scN
include BU CV GY EU in
theorem Oe (F:Fun K "wide_at" "wide_at" Jk f fd):Aq P w K mg base CX0 8 f fd ["f","g","height"] (Ae K mg JL):=by
 refine fn3 F Hf (fun ss R U h=>?_) (fun cdv A outer s H E ss R U hr h=>?_)
 .obtain⟨cs,m,ds,k,h,rfl,_⟩:=h;rfl
 obtain⟨cs,m,ds,k,h,rfl,zc,zd,zh,q⟩:=h
 refine#[_,(Aa (AE 3 Hf (Al hr EU (a2 (Al hr CV (a2 (vN 0) (vN 2))) (Al hr CV (a2 (vN 1) (vN 2))))))
  (Aa (AE 4 Hf (Al hr EU (a2 (Al hr GY (a2 (vN 0) (vN 2))) (Al hr GY (a2 (vN 1) (vN 2))))))
  (Bg (Al hr BU (a2 (vN 3) (vN 4)))))),?_]
 have bz:∀(a b:Option Rat),(∀t,a=some t->Sz 2642 t)->(∀t,b=some t->Sz 2642 t)->Sz 5285 (btw a b):=fun a b za zb=>by
  cases a with
  |none=>rw[show btw none b=0 by cases b<;>rfl];exact Sz.zero.mono ∅
  |some x =>
   cases b with
   |none=>exact Sz.zero.mono ∅
   |some y=>exact((zb y rfl).sub (za x rfl)).mono ∅
 refine#[cs,m,h,rfl,zc,zh,fun rf hrf zrf=>?_]
 refine#[ds,k,h,rfl,zd,zh,fun rg hrg zrg=>?_]
 refine#[rf,rg,rfl,zrf,zrg,?_]
 refine#[cs,m,h,rfl,zc,zh,fun pf hpf zpf=>?_]
 refine#[ds,k,h,rfl,zd,zh,fun pg hpg zpg=>?_]
 refine#[pf,pg,rfl,zpf,zpg,?_]
 have b1:=bz rf rg zrf zrg
 have b2:=bz pf pg zpf zpg
 exact#[_,_,_,_,rfl,b1,b2,∅,q rf rg pf pg hrf hrg hpf hpg b1 b2]
variable (GG:Cal P w K mg base (CXU P w) 8 "wide_at" ["f","g","height"] JL)
theorem F5:Ad ["f","g","found","corner"] ["f","g"] (Ab Kw):=scN
include BU gc_NOUGHT Bx CV GG in
theorem OK (F:Fun K "widest" "widest" Kw f fd):Aq P w K mg base CX0 9 f fd ["f","g"] (Ae K mg Le):=by
 refine fn3 F F5 (fun ss R U h=>?_) (fun cdv A outer s H E ss R U hr h=>?_)
 .obtain⟨cs,m,ds,k,rfl,_⟩:=h;rfl
 obtain⟨cs,m,ds,k,rfl,zc,zd,q⟩:=h
 refine#[_,(TX (B1 (PW3.pt (OI (BQ (Al hr Bx (a2 (vN 0) (vN 1)))) (Jb (Cm Lf (Al hr CV (a2 (vN 1) (A5 (A5 (vK 0) (EO Ac)) Ac))) Hh)))) (Bg Hh) An)
  (Aa (AE 2 F5 (KY rfl gc_NOUGHT))
  (Aa (GS (Ch PassesOwn.never rfl (BP (PE3.out (Kr J6 (vK 0) (vK 1)))) (A3 (i:=3) F5.nd rfl (Or.inl rfl)) (Eg.out (Af (AE 2 F5 (Al hr BU (a2 (vN 2) (Al hr GG (AV (vN 0) (a2 (vN 1) (vK 3)))))))))))
  (Af (Cj (pv 2)))))),?_]
 have r:=zc.1
 have s:=zd.1
 have lc:=zc.2.2
 have ld:=zd.2.2
 have q1:(k<m\/(k=0/\vv ds (ds.length-1)<vv cs (cs.length-1)))->R (.d .non):=fun c=>q none c (fun v e=>nomatch e)
 have q2:¬(k<m\/(k=0/\vv ds (ds.length-1)<vv cs (cs.length-1)))->∀v,Wid cs m ds k v->Sz 5285 v->R (.d (qd v)):=fun c v t z=>q (some v) #[c,t] (fun v e=>by cases e;exact z)
 have nc:=r.o.ne
 have zl:=zc.v (show cs.length-1<cs.length from ())
 refine#[¬(k<m\/(k=0/\vv ds (ds.length-1)<vv cs (cs.length-1))),?_,fun ne=>?_]
 .refine#[cs,m,ds,k,rfl,(zc.2.1.m r.o).mono ∅,(zd.2.1.m s.o).mono ∅,?_]
  refine B9 (fun c=>q1 (.inl c)) (fun c=>?_)
  refine atR (Pu (cs:=cs) 1 ∅ nc) ?_
  refine#[ds,k,_,rfl,zd,zl,fun rr hr zr=>?_]
  cases rr with
  |none=>exact q1 (.inr ((MC s).1 hr))
  |some t=>exact#[rfl,fun e=>e.elim c ((MC s).2 t hr)]
 have mk:m<=k:=qAz.mp (fun z=>ne (.inl z))
 have ne2:¬(k=0/\vv ds (ds.length-1)<vv cs (cs.length-1)):=fun z=>ne (.inr z)
 have nn:cs.map cd≠[]:=fun z=>by
  have:=congrArg List.length z
  rw[qAa] at this
  exact absurd nc (by rw[this];decide)
 refine#[nn,by rw[qAa,qAa];omega,?_]
 rw[<-qAN]
 refine#[fun n τ=>∃(d:Rat)(y:Option S),τ=[some (.d (crv cs m)),some (.d (crv ds k)),some (.d (qd d)),y]/\0<=d/\Sz 5285 d/\(∀(j:Nat)(c:Rat×Rat),j<n->(cs++ds)[j]? = some c->∃rf rg pf pg,Rch cs m c.2 rf/\Rch ds k c.2 rg/\Psd cs m c.2 pf/\Psd ds k c.2 pg/\btw rf rg<=d/\btw pf pg<=d)/\(d=0\/∃h rf rg,d=btw rf rg/\((Rch cs m h rf/\Rch ds k h rg)\/(Psd cs m h rf/\Psd ds k h rg))),#[0,_,rfl,qAd,Sz.zero.mono ∅,fun j c hj=>absurd hj (qBf j),.inl rfl],?_,?_]
 .rintro n τ x hx ⟨d,y,rfl,d0,zd',hj,ha⟩
  obtain⟨c,hc,rfl⟩:=BN hx
  have zh:Sz 1971 c.2:=by
   rcases qAr.mp (qAK hc) with h|h
   .obtain⟨i,hi,rfl⟩:=qBF.mp h
    rw[<-(Bm hi).2];exact zc.v hi
   .obtain⟨i,hi,rfl⟩:=qBF.mp h
    rw[<-(Bm hi).2];exact zd.v hi
  refine#[cs,m,ds,k,c.2,rfl,zc,zd,zh,fun rf rg pf pg h1 h2 h3 h4 z1 z2=>?_]
  obtain⟨m1,m2,m3⟩:=VV (btw rf rg) (btw pf pg)
  have zm:Sz 5285 (mx (btw rf rg) (btw pf pg)):=by
   rcases m3 with e|e
   .rw[e];exact z1
   .rw[e];exact z2
  refine#[d,_,_,_,rfl,zd',zm,∅,?_]
  rw[show(if d<mx (btw rf rg) (btw pf pg) then mx (btw rf rg) (btw pf pg) else d)=mx d (mx (btw rf rg) (btw pf pg)) from rfl]
  obtain⟨n1,n2,n3⟩:=VV d (mx (btw rf rg) (btw pf pg))
  refine#[_,_,rfl,qAm d0 n1,by rcases n3 with e|e<;>rw[e]<;>assumption,fun j c' j1 ej=>?_,?_]
  .by_cases z:j<n
   .obtain⟨a,b,c,e,i1,i2,i3,i4,i5,i6⟩:=hj j c' z ej
    exact#[a,b,c,e,i1,i2,i3,i4,qAm i5 n1,qAm i6 n1]
   .have:j=n:=()
    subst this
    rw[hc] at ej
    cases ej
    exact#[rf,rg,pf,pg,h1,h2,h3,h4,qAm m1 n2,qAm m2 n2]
  .rcases n3 with e|e
   .rw[e];exact ha
   .rw[e]
    rcases m3 with e'|e'
    .exact .inr #[c.2,rf,rg,e',.inl #[h1,h2]]
    .exact .inr #[c.2,pf,pg,e',.inr #[h3,h4]]
 rintro τ ⟨d,y,rfl,d0,zd',hj,ha⟩
 rw[qAa] at hj
 refine q2 ne d (Wz r s mk d0 ne2 (fun c cm=>?_) ha) zd'
 obtain⟨j,ej⟩:=List.mem_iff_getElem?.mp cm
 exact hj j c (qAe.mp ej).1 ej
variable (CF:Cal P w K mg base (CXU P w) 9 "widest" ["f","g"] Le)
theorem E5:Ad ["point","slope","base"] ["point","slope"] (Ab DU):=scN
include Aw FP in
theorem Ip (F:Fun K "line_through" "line_through" DU f fd):Aq P w K mg base CX0 4 f fd ["point","slope"] (Ae K mg EX):=by
 refine fn3 F E5 (fun ss R U h=>?_) (fun cdv A outer s H E ss R U hr h=>?_)
 .obtain⟨c,m,n,rfl,_⟩:=h;rfl
 obtain⟨c,m,n,rfl,z1,z2,zm,hn,q⟩:=h
 refine#[_,(Aa (AE 2 E5 (Al hr Aw (a2 (vK 0) (Al hr FP (a2 (vN 1) (vK 0))))))
  (Bg (Bl (AV (Ar AF (vK 1) (vK 2)) (a2 (Ar AF (vK 2) (vK 1)) (Ar AF (vK 1) (vK 2))))))),?_]
 refine#[m,c.1,n,n,rfl,zm,z1,(),?_]
 have zt:=zm.mul z1
 refine#[c.2,m*c.1,n,n+n,rfl,z2,zt,(),?_]
 have zb:Sz (n+(n+n)+1) (c.2-m*c.1):=z2.sub zt
 exact#[AI zm.1 (Ay zb) (),AI zb.1 (Ay zm) (),AI (Ay zm) (Ay zb) (),by show 3<=1000;decide,q]
variable (CC:Cal P w K mg base (CXU P w) 4 "line_through" ["point","slope"] EX)
theorem Hr:Ad ["f","slopes"] ["f"] (Ab Ei):=scN
variable (Jw:mg "zip"=none)
include Ah CC Jw in
theorem LI (F:Fun K "pieces_of" "pieces_of" Ei f fd):Aq P w K mg base CX0 6 f fd ["f"] (Ae K mg Hy):=by
 refine fn3 F Hr (fun ss R U h=>?_) (fun cdv A outer s H E ss R U hr h=>?_)
 .obtain⟨cs,m,a,b,c,rfl,_⟩:=h;rfl
 obtain⟨cs,m,a,b,c,rfl,o,z,hs,hl,q⟩:=h
 refine#[_,(Aa (AE 1 Hr (Al hr Ah (a2 (vK 0) (vK 0))))
  (Bg (Tz (N:=["corner","slope"]) (idx:=[]) (D1.mk' (Ab Ei) ["f","slopes"] rfl rfl (by decide +kernel)) rfl (SN rfl Jw (PA3.out (a2 (vK 0) (vN 1)))) (fun cl C s₀ H₀ fp=>(Bl (a2 (vK 0) (Al hr CC (a2 (vN 0) (vN 1))))))))),?_]
 have kc:SzK 1800 cs m:=z.szk o () hs
 refine#[cs,m,rfl,o.ne,(),kc.cs.mono ∅,o.up,?_]
 refine#[_,_,cs.map cd,(JO cs m).map qd,rfl,rfl,Or.inl rfl,(BC cs m).map rpD,?_,?_,?_,q]
 .rw[qAa,qAa,qAa,Be,El,Nat.min_self]
 .intro n x y hx hy
  obtain⟨hn,rfl⟩:=FJ hx
  obtain⟨hn2,rfl⟩:=QP hy
  have zl:=z.ln o n hn
  refine#[(tt cs n,vv cs n),slp cs m n,1800,rfl,(kc.cs n hn).1,(kc.cs n hn).2,zl.1.mono (),∅,by show 2<=1000;decide,?_]
  show((BC cs m).map rpD)[n]? = _
  rw[qAc,EI hn]
  rfl
 .rw[qAa,Be];omega
variable (Bq:Cal P w K mg base (CXU P w) 6 "pieces_of" ["f"] Hy)
theorem Hs:Ad ["begin","line","value"] ["begin","line"] (Ab FU):=scN
include A9 in
theorem Ls (F:Fun K "corner_of" "corner_of" FU f fd):Aq P w K mg base CX0 3 f fd ["begin","line"] (Ae K mg Hw):=by
 refine fn3 F Hs (fun ss R U h=>?_) (fun cdv A outer s H E ss R U hr h=>?_)
 .obtain⟨p,q,k,m,rfl,_⟩:=h;rfl
 obtain⟨p,q0,k,m,rfl,w,hk,q⟩:=h
 refine#[_,(Aa (AE 2 Hs (Al hr A9 (a2 (Ar Bd (Ar AF (vK 1) (vK 0)) (Ar AF (vK 1) (vK 0))) (Ar AF (vK 1) (vK 0)))))
  (Bg (Bl (a2 (Al hr A9 (a2 (vK 0) (vK 0))) (vN 2))))),?_]
 obtain⟨e1,e2⟩:=Ii w
 have wa:=w.l.at_ w.t
 refine#[AI w.l.s.la w.t.la (),AI w.l.c.la w.t.lb (),AI w.l.s.lb w.t.lb (),_,_,rfl,fun z=>absurd wa.pos (by rw[z];decide),AU wa.la (),AU wa.lb (),?_]
 refine#[_,_,rfl,fun z=>absurd w.t.pos (by rw[z];decide),AU w.t.la (),AU w.t.lb (),?_]
 refine#[by show 2<=1000;decide,?_]
 rw[e1,e2]
 exact q
variable (Eo:Cal P w K mg base (CXU P w) 3 "corner_of" ["begin","line"] Hw)
theorem IU:Ad ["pieces","last"] ["pieces"] (Ab Fe):=scN
include A9 DX Eo in
theorem Mv (F:Fun K "curve_of" "curve_of" Fe f fd):Aq P w K mg base CX0 7 f fd ["pieces"] (Ae K mg Iv):=by
 refine fnW (fun ss R U h=>?_) (fn3 F IU (fun ss R U h=>?_) (fun cdv A outer s H E ss R U hr h=>?_))
 .obtain⟨x,ps,P,k,m,rfl,hx,pl,n0,hl,hk,zd,o,m0,q⟩:=h
  rcases hx with rfl|rfl<;>exact#[_,ps,P,k,m,rfl,(.inl rfl),pl,n0,hl,hk,zd,o,m0,q]
 .obtain⟨x,ps,P,k,m,rfl,_⟩:=h.1;rfl
 obtain⟨h,nl_⟩:=h
 obtain⟨x,ps,P,k,m,rfl,hx,pl,n0,hl,hk,zd,o,m0,q⟩:=h
 refine#[_,(Aa (AE 1 IU (A5 (A5 (vN 0) (EO Ac)) Ac))
  (Bg (Al hr DX (a2 (FC (N:=["piece"]) (idx:=[]) (AZ.mk' (Ab Fe) ["pieces","last"] rfl rfl (by decide +kernel)) rfl (BP (PE3.out (vN 0))) DW (fun cl C s₀ H₀ fp=>Cn) (fun cl C s₀ H₀ fp=>(Al hr Eo (a2 (vK 0) (vK 0))))) (Al hr A9 (a2 (vK 1) (vK 1))))))),?_]
 obtain rfl:=Ju hx (nl_ _ (by simp))
 have len:=pl.len
 have hw:∀i,i<ps.length->PW1 k m (ps.getD i dfR) (bg P i,ln P i):=fun i hi=>by
  obtain⟨r,h1,h2⟩:=pl.get (BB hi)
  obtain⟨e1,e2⟩:=Gn h1
  rw[e1,e2]
  exact h2
 refine atR (SH (ps:=ps) n0) ?_
 refine#[ps.map fun p=>some (cd (Rat.divInt p.1.1 p.1.2,Rat.divInt (p.2.1*p.1.1+p.2.2.1*p.1.2) (p.2.2.2*p.1.2))),?_,?_,?_,?_]
 .rw[qAa,qAa]
 .intro i x hx
  have hi:i<ps.length:=by have:=(qAe.mp hx).1;rw[qAa] at this;exact this
  rw[qAc,BB hi] at hx
  cases hx
  refine#[ps.getD i dfR,(bg P i,ln P i),k,m,rfl,hw i hi,(),?_]
  show(ps.map _)[i]? = _
  rw[qAc,BB hi]
  have ce:=Ii (hw i hi)
  show some (some (cd (Rat.divInt (ps.getD i dfR).1.1 (ps.getD i dfR).1.2,_)))=_
  rw[ce.1,ce.2]
 .rw[qAa];omega
 have ef:(ps.map fun p=>some (cd (Rat.divInt p.1.1 p.1.2,Rat.divInt (p.2.1*p.1.1+p.2.2.1*p.1.2) (p.2.2.2*p.1.2)))).filterMap id=(Fp P).map cd:=by
  rw[Gb (f:=fun p:RP=>cd (Rat.divInt p.1.1 p.1.2,Rat.divInt (p.2.1*p.1.1+p.2.2.1*p.1.2) (p.2.2.2*p.1.2)))]
  refine qCy fun i=>?_
  by_cases hi:i<ps.length
  .have ce:=Ii (hw i hi)
   unfold Fp
   rw[qAc,qAc,qAc,BB hi]
   have g:=qAb (show i<P.length from ())
   rw[g]
   obtain⟨e1,e2⟩:=Gn g
   show some (cd (Rat.divInt (ps.getD i dfR).1.1 (ps.getD i dfR).1.2,_))=some (cd (_,_))
   rw[ce.1,ce.2,e1,e2]
  .rw[qAO.mpr (by rw[qAa];omega),qAO.mpr (by rw[qAa,A1];omega)]
 rw[ef]
 have wl:=hw (ps.length-1) ()
 have el:Rat.divInt (ps.getD (ps.length-1) dfR).2.1 (ps.getD (ps.length-1) dfR).2.2.2=(ln P (P.length-1)).1:=by
  rw[<-len]
  exact L6 wl.l.s
 refine#[_,_,rfl,fun z=>absurd wl.l.s.pos (by rw[z];decide),AU wl.l.s.la (),AU wl.l.s.lb (),?_]
 rw[el]
 refine#[_,Fp P,(ln P (P.length-1)).1,rfl,Or.inr rfl,zd,fun _=>?_,fun z=>absurd #[o,m0] z]
 rw[A1];exact q
variable (Ct:Cal P w K mg base (CXU P w) 7 "curve_of" ["pieces"] Iv)
theorem Ki:Ad ["t","way"] ["t","way"] (Ab EL):=scN
theorem JZ (F:Fun K "moved_time" "moved_time" EL f fd):Aq P w K mg base CX0 1 f fd ["t","way"] (Ae K mg Gx):=by
 refine fn3 F Ki (fun ss R U h=>?_) (fun cdv A outer s H E ss R U hr h=>?_)
 .obtain⟨a,b,wn,wd,t,w,m,n,rfl,_⟩:=h;rfl
 obtain⟨a,b,wn,wd,t,w,m,n,rfl,h,hw,hm,hn,q⟩:=h
 refine#[_,(Bg (Bl (a2 (Ar Bd (Ar AF (vK 0) (vK 1)) (Ar AF (vK 1) (vK 0))) (Ar AF (vK 0) (vK 1))))),?_]
 exact#[AI h.la hw.lb (),AI hw.la h.lb (),AI h.lb hw.lb (),by show 2<=1000;decide,q]
variable (DJ:Cal P w K mg base (CXU P w) 1 "moved_time" ["t","way"] Gx)
theorem Cf:Ad ["line","point","way","more","both","base"] ["line","point"] (Ab EK):=scN
theorem Kd (F:Fun K "moved_line" "moved_line" EK f fd):Aq P w K mg base CX0 1 f fd ["line","point"] (Ae K mg Gh):=by
 refine fn3 F Cf (fun ss R U h=>?_) (fun cdv A outer s H E ss R U hr h=>?_)
 .obtain⟨l,q,wn,wd,vn,vd,w,v,k,m,rfl,_⟩:=h;rfl
 obtain⟨l,q0,wn,wd,vn,vd,w,v,k,m,rfl,h,hw,hv,hk,hm,q⟩:=h
 refine#[_,(Aa (AE 2 Cf (vK 1))
  (Aa (AE 3 Cf (vK 1))
  (Aa (AE 4 Cf (Ar AF (vK 2) (vK 3)))
  (Aa (AE 5 Cf (Ar Bd (Ar C6 (Ar AF (vK 0) (vN 4)) (Ar AF (Ar AF (vK 0) (vK 2)) (vK 3))) (Ar AF (Ar AF (vK 0) (vK 3)) (vK 2))))
  (Bg (Bl (AV (Ar AF (vK 0) (vN 4)) (a2 (vN 5) (Ar AF (vK 0) (vN 4)))))))))),?_]
 have b:=Ak hw.lb hv.lb
 exact#[AI hw.lb hv.lb (),AI h.c.la b (),AI h.s.la hw.la (),AI (Ak h.s.la hw.la) hv.lb (),AI h.s.lb hv.la (),AI (Ak h.s.lb hv.la) hw.lb (),AI h.s.la b (),AI h.s.lb b (),by show 3<=1000;decide,q]
variable (DN:Cal P w K mg base (CXU P w) 1 "moved_line" ["line","point"] Gh)
theorem UY:Ad ["pieces","point"] ["pieces","point"] (Ab MY):=scN
include DJ DN in
theorem UI (F:Fun K "laid" "laid" MY f fd):Aq P w K mg base CX0 2 f fd ["pieces","point"] (Ae K mg Pk):=by
 refine fnW (fun ss R U h=>?_) (fn3 F UY (fun ss R U h=>?_) (fun cdv A outer s H E ss R U hr h=>?_))
 .obtain⟨x,ps,P,wn,wd,vn,vd,w,v,k,m,n,rfl,hx,h,hw,hv,hk,hm,hn,hl,q⟩:=h
  rcases hx with rfl|rfl<;>exact#[_,ps,P,wn,wd,vn,vd,w,v,k,m,n,rfl,(.inl rfl),h,hw,hv,hk,hm,hn,hl,q]
 .obtain⟨x,ps,P,wn,wd,vn,vd,w,v,k,m,n,rfl,_⟩:=h.1;rfl
 obtain⟨h,nl_⟩:=h
 obtain⟨x,ps,P,wn,wd,vn,vd,w,v,k,m,n,rfl,hx,h,hw,hv,hk,hm,hn,hl,q⟩:=h
 refine#[_,(Bg (FC (N:=["piece","point"]) (idx:=[1]) (AZ.mk' (Ab MY) ["pieces","point"] rfl rfl (by decide +kernel)) rfl (BP (PE3.out (vN 0))) DW (fun cl C s₀ H₀ fp=>Cn) (fun cl C s₀ H₀ fp=>(Bl (a2 (Al hr DJ (a2 (vK 0) (vK 1))) (Al hr DN (a2 (vK 0) (vN 1)))))))),?_]
 obtain rfl:=Ju hx (nl_ _ (by simp))
 refine#[ps.map fun p=>some (rpD (mvR wn wd vn vd p)),by rw[qAa,qAa],?_,?_,?_]
 .intro i x hx
  rw[qAc] at hx
  cases hp:ps[i]? with
  |none=>rw[hp] at hx;cases hx
  |some p =>
   rw[hp] at hx
   cases hx
   obtain⟨q0,_,w0⟩:=h.get hp
   refine#[p.1.1,p.1.2,wn,wd,_,_,m,n,rfl,w0.t,hw,(),(),?_]
   refine#[p.2,_,wn,wd,vn,vd,_,_,k,n,rfl,w0.l,hw,hv,(),(),?_]
   refine#[by show 2<=1000;decide,?_]
   show(ps.map _)[i]? = _
   rw[qAc,hp]
   rfl
 .rw[qAa];exact hl
 rw[Gb]
 rw[qBJ] at q
 exact q
variable (F8:Cal P w K mg base (CXU P w) 2 "laid" ["pieces","point"] Pk)
theorem Oc:Ad ["pieces"] ["pieces"] (Ab Gf):=scN
theorem Of (F:Fun K "flipped" "flipped" Gf f fd):Aq P w K mg base CX0 1 f fd ["pieces"] (Ae K mg JU):=by
 refine fnW (fun ss R U h=>?_) (fn3 F Oc (fun ss R U h=>?_) (fun cdv A outer s H E ss R U hr h=>?_))
 .obtain⟨x,ps,rfl,hx,hl,q⟩:=h
  rcases hx with rfl|rfl<;>exact#[_,ps,rfl,(.inl rfl),hl,q]
 .obtain⟨x,ps,rfl,_⟩:=h.1;rfl
 obtain⟨h,nl_⟩:=h
 obtain⟨x,ps,rfl,hx,hl,q⟩:=h
 refine#[_,(Bg (FC (N:=["piece"]) (idx:=[]) (AZ.mk' (Ab Gf) ["pieces"] rfl rfl (by decide +kernel)) rfl (BP (PE3.out (vN 0))) DW (fun cl C s₀ H₀ fp=>Cn) (fun cl C s₀ H₀ fp=>(Bl (a2 (vK 0) (Bl (AV (EO (A5 (vK 0) Ac)) (a2 (EO (A5 (vK 0) Ac)) (A5 (vK 0) Ac))))))))),?_]
 obtain rfl:=Ju hx (nl_ _ (by simp))
 refine#[ps.map fun p=>some (rpD (flR p)),by rw[qAa,qAa],?_,?_,?_]
 .intro i x hx
  rw[qAc] at hx
  cases hp:ps[i]? with
  |none=>rw[hp] at hx;cases hx
  |some p =>
   rw[hp] at hx
   cases hx
   refine#[by show 3<=1000;decide,by show 2<=1000;decide,?_]
   show(ps.map _)[i]? = _
   rw[qAc,hp]
   rfl
 .rw[qAa];exact hl
 rw[Gb]
 rw[qBJ] at q
 exact q
variable (ED:Cal P w K mg base (CXU P w) 1 "flipped" ["pieces"] JU)
theorem GQ:Ad ["pieces","far","begins","told","first"] ["pieces","far"] (Ab F6):=scN
include Aw gc_NOUGHT Jw in
theorem Qi (F:Fun K "turned" "turned" F6 f fd):Aq P w K mg base CX0 4 f fd ["pieces","far"] (Ae K mg Lc):=by
 refine fn3 F GQ (fun ss R U h=>?_) (fun cdv A outer s H E ss R U hr h=>?_)
 .obtain⟨cs,m,far,n,rfl,_⟩:=h;rfl
 obtain⟨cs,m,far,n,rfl,n0,hl,zt,zf,hn,q⟩:=h
 refine#[_,(Aa (AE 2 GQ (Kr J6 (FC (N:=["piece"]) (idx:=[]) (AZ.mk' (Ab F6) ["pieces","far","begins","told","first"] rfl rfl (by decide +kernel)) rfl (BP (PE3.out (OQ (vN 0) (Hk Ac) Si))) DW (fun cl C s₀ H₀ fp=>Cn) (fun cl C s₀ H₀ fp=>(Al hr Aw (a2 (KY rfl gc_NOUGHT) (vK 0))))) (Fm (a1 (Al hr Aw (a2 (KY rfl gc_NOUGHT) (vN 1)))))))
  (Aa (Wa (i:=3) (N:=["begin","piece"]) (idx:=[]) (D1.mk' (Ab F6) ["pieces","far","begins","told","first"] rfl rfl (by decide +kernel)) rfl (SN rfl Jw (PA3.out (a2 (vN 2) (vN 0)))) (fun cl C s₀ H₀ fp=>(Bl (a2 (vN 0) (Bl (AV (EO (A5 (vK 1) Ac)) (a2 (A5 (vK 1) Ac) (A5 (vK 1) Ac))))))) GQ.nd rfl (Or.inl rfl))
  (Aa (AE 4 GQ (A5 (vK 0) Ac))
  (Bg (Kr J6 (Yl (vN 3) (EO Ac)) (Fm (a1 (Bl (a2 (KY rfl gc_NOUGHT) (Bl (AV Ac (a2 (vK 4) (vK 4))))))))))))),?_]
 have rl:=Be (cs:=cs) (m:=m)
 have ec:Eh ((BC cs m).map rpD) (some 1) none=((BC cs m).drop 1).map rpD:=Qc (h:=1) ()
 have gt:∀j,j+1<cs.length->((BC cs m).drop 1)[j]? = some (qr (tt cs (j+1)),Nc (slp cs m (j+1)) (vv cs (j+1)-slp cs m (j+1)*tt cs (j+1))):=fun j hj=>by
  rw[qBa,qBS 1 j,EI hj]
 refine#[(List.range (cs.length-1)).map fun j=>some (qd (0-tt cs (j+1))),?_,?_,?_,?_]
 .show _=(Eh ((BC cs m).map rpD) (some 1) none).length
  rw[ec,qAa,qAa,qAq,qAL,rl]
 .intro j x hx
  have hx:(Eh ((BC cs m).map rpD) (some 1) none)[j]? = some x:=hx
  rw[ec] at hx
  have hj:j+1<cs.length:=by have:=(qAe.mp hx).1;rw[qAa,qAL,rl] at this;omega
  rw[qAc,gt j hj] at hx
  cases hx
  refine#[0,tt cs (j+1),1,n,rfl,Sz.zero,zt _ hj,(),?_]
  show((List.range (cs.length-1)).map _)[j]? = _
  rw[qAc,qAC ()]
  rfl
 .show(Eh ((BC cs m).map rpD) (some 1) none).length<=_
  rw[ec,qAa,qAL,rl];omega
 have ef:((List.range (cs.length-1)).map fun j=>some (qd (0-tt cs (j+1)))).filterMap id=(List.range (cs.length-1)).map fun j=>qd (0-tt cs (j+1)):=Gb
 rw[ef]
 refine#[0,far,1,n,rfl,Sz.zero,zf,(),?_]
 refine#[by show 1<=1000;decide,?_]
 refine#[by rw[qAa,qAq];show cs.length-1+1<=_;omega,?_]
 generalize eB:(List.range (cs.length-1)).map (fun j=>qd (0-tt cs (j+1)))++[qd (0-far)]=bs
 have bl:bs.length=cs.length:=by rw[<-eB];simp;omega
 have bg':∀j,j<cs.length->bs[j]? = some (qd (if j+1<cs.length then 0-tt cs (j+1) else 0-far)):=fun j hj=>by
  rw[<-eB]
  by_cases c:j+1<cs.length
  .rw[qAp (by simp;omega),qAc,qAC (),if_pos c]
   rfl
  .rw[qAu (by simp;omega),if_neg c]
   have:j-((List.range (cs.length-1)).map fun j=>qd (0-tt cs (j+1))).length=0:=by simp;omega
   rw[this]
   rfl
 refine#[_,_,bs,(BC cs m).map rpD,rfl,rfl,Or.inr rfl,(List.range cs.length).map (fun k=>rpD ((qr (if k+1<cs.length then 0-tt cs (k+1) else 0-far),(-(Nc (slp cs m k) (vv cs k-slp cs m k*tt cs k)).1,(Nc (slp cs m k) (vv cs k-slp cs m k*tt cs k)).2)):RP)),?_,?_,?_,?_]
 .rw[qAa,qAq,qAa,rl,bl,Nat.min_self]
 .intro j x y hx hy
  have hj:j<cs.length:=by have:=(qAe.mp hx).1;omega
  rw[bg' j hj] at hx
  rw[qAc,EI hj] at hy
  cases hx
  cases hy
  refine#[by show 3<=1000;decide,by show 2<=1000;decide,?_]
  show((List.range cs.length).map _)[j]? = _
  rw[qAc,qAC hj]
  rfl
 .rw[qAa,qAq];omega
 refine atR (IC (ps:=BC cs m) (i:=0) 0 rfl ()) ?_
 have e0:(BC cs m).getD 0 dfR=(qr (tt cs 0),Nc (slp cs m 0) (vv cs 0-slp cs m 0*tt cs 0)):=by
  rw[qAg,EI n0]
  rfl
 rw[e0]
 refine#[_,Or.inl rfl,rfl,?_]
 refine#[by show 3<=1000;decide,by show 2<=1000;decide,by show 1<=1000;decide,?_]
 refine#[by rw[qBw,qAa,qAq];show cs.length+1<=_;omega,?_]
 have eQ:(trR cs m far).map rpD=((List.range cs.length).map (fun k=>rpD ((qr (if k+1<cs.length then 0-tt cs (k+1) else 0-far),(-(Nc (slp cs m k) (vv cs k-slp cs m k*tt cs k)).1,(Nc (slp cs m k) (vv cs k-slp cs m k*tt cs k)).2)):RP))).reverse++[rpD ((0,1),(0,(Nc (slp cs m 0) (vv cs 0-slp cs m 0*tt cs 0)).2))]:=by
  unfold trR
  rw[qAN,List.map_reverse,qBJ]
  rfl
 rw[eQ] at q
 exact q
variable (HX:Cal P w K mg base (CXU P w) 4 "turned" ["pieces","far"] Lc)
theorem Fv:Ad ["pieces","begun"] ["pieces"] (Ab C9):=scN
include AO gc_NOUGHT Aj in
theorem Jx (F:Fun K "from_nought" "from_nought" C9 f fd){cA cT:Addr}(ht_:W.tabIn K "from_nought"=some (cA,cT)) (hn_:rA K "from_nought" f) (hp_:(PyProof.Rows.recsOf P).any (fun d=>d.name == "from_nought")=true):Aq P w K mg base CX0 6 f fd ["pieces"] (Ae K mg Fy):=by
 refine WO ht_ hn_ F Fv (fun ss R U h=>?_) (fun cdv A outer s H E ss R U ec hr h=>?_)
 .obtain⟨ps,P,k,m,c,rfl,_⟩:=h;rfl
 subst ec
 obtain⟨ps,P,k,m,c,rfl,pl,hl,hm,c0,c1,b1,b2,q⟩:=h
 refine#[_,(Aa (AE 1 Fv (HM (x:="piece") Aj (hr.mono ∅) rfl ht_ hp_ rfl (AZ.mk' (Ab C9) ["pieces","begun"] rfl rfl (by decide +kernel) (N:=["piece"]) (idx:=[])) (vN 0) (fun cl nm a cdv A outer s H hr=>(P2 (Al hr AO (a2 (KY rfl gc_NOUGHT) (vK 0)))))))
  (Bg (Kr J6 (Fm (a1 (Bl (a2 (KY rfl gc_NOUGHT) (A5 (A5 (vN 0) (Ar C6 (vN 1) Ac)) Ac))))) (OQ (vN 0) (Hk (vN 1)) Si)))),?_]
 have len:=pl.len
 have hw:∀i,i<ps.length->Wq m (ps.getD i dfR).1.1 (ps.getD i dfR).1.2 (bg P i):=fun i hi=>(pl.lnw (BB hi)).2.1
 refine#[fun x=>∃i,i<ps.length/\x=rpD (ps.getD i dfR),fun x=>!decide (0<Q5 x),?_,?_]
 .rintro x ⟨i,hi,rfl⟩
  refine#[_,_,_,_,0,bg P i,1,m,rfl,Wq.of Sz.zero,hw i hi,∅,(),?_]
  show S.d (.bl (!decide (0<bg P i)))=.d (.bl (!decide (0<Q5 (rpD (ps.getD i dfR)))))
  rw[Hi (hw i hi)]
 intro a
 refine#[_,ps.map rpD,c,rfl,Or.inr (Or.inr rfl),by rw[qAa];omega,by rw[qAa];omega,fun i x hx=>?_,?_]
 .have hi:i<ps.length:=by have:=(qAe.mp hx).1;rw[qAa] at this;exact this
  rw[qAc,BB hi] at hx
  cases hx
  refine#[#[i,hi,rfl],?_]
  show(!decide (0<Q5 (rpD (ps.getD i dfR))))=_
  rw[Hi (hw i hi)]
  by_cases z:i<c
  .have:=b1 i z
   rw[decide_eq_true z,decide_eq_false ⋯]
   rfl
  .have:=b2 i () ()
   rw[decide_eq_false z,decide_eq_true this]
   rfl
 refine atR (IC (ps:=ps) (i:=(c:Int)-1) (c-1) () ()) ?_
 refine#[by show 2<=1000;decide,by show 1<=1000;decide,?_]
 have ec:Eh (ps.map rpD) (some (c:Int)) none=(ps.drop c).map rpD:=Qc ()
 refine#[by rw[ec,qAa,qAL];show 1+_<=_;omega,?_]
 rw[ec]
 exact q
variable (Cb:Cal P w K mg base (CXU P w) 6 "from_nought" ["pieces"] Fy)
theorem Dn:Ad ["one_or_two","first","second"] ["one_or_two"] (Ab DT):=scN
include AO in
theorem IQ (F:Fun K "sooner_begin" "sooner_begin" DT f fd):Aq P w K mg base CX0 2 f fd ["one_or_two"] (Ae K mg EC):=by
 refine fn3 F Dn (fun ss R U h=>?_) (fun cdv A outer s H E ss R U hr h=>?_)
 .obtain⟨xs,p,q,s,t,m,rfl,_⟩:=h;rfl
 obtain⟨xs,p,q0,s,t,m,rfl,n0,rfl,rfl,w1,w2,hm,q⟩:=h
 refine#[_,(Aa (AE 1 Dn (A5 (vK 0) Ac))
  (Aa (AE 2 Dn (A5 (A5 (vN 0) (EO Ac)) Ac))
  (Aa (B1 (BQ (Al hr AO (a2 (vN 2) (vN 1)))) (Af (Cj (pv 2))) An)
  (Af (Cj (pv 1)))))),?_]
 refine atR (IC (ps:=xs) (i:=0) 0 rfl n0) ?_
 refine atR (SH (ps:=xs) n0) ?_
 refine#[_,_,_,_,t,s,m,m,rfl,w2,w1,(),(),?_]
 refine B9 (fun c=>?_) (fun c=>?_)
 .rw[if_pos c] at q;exact q
 .rw[if_neg c] at q;exact q
variable (CA:Cal P w K mg base (CXU P w) 2 "sooner_begin" ["one_or_two"] EC)
theorem AR:Ad ["pieces","others","first","one","other","rows","begin"] ["pieces","others"] (Ab CM):=scN
include AO AM Aj CA in
theorem Ig (F:Fun K "side_by_side" "side_by_side" CM f fd){cA cT:Addr}(ht_:W.tabIn K "side_by_side"=some (cA,cT)) (hn_:rA K "side_by_side" f) (hp_:(PyProof.Rows.recsOf P).any (fun d=>d.name == "side_by_side")=true):Aq P w K mg base CX0 6 f fd ["pieces","others"] (Ae K mg EH):=by
 refine fnW (fun ss R U h=>?_) (WO ht_ hn_ F AR (fun ss R U h=>?_) (fun cdv A outer s H E ss R U ec hr h=>?_))
 .obtain⟨y,ps,os,P,O,k,m,c,rfl,hy,pl,ol,o0,uP,uO,hm,hl,c0,c1,b1,b2,q⟩:=h
  rcases hy with rfl|rfl<;>exact#[_,ps,os,P,O,k,m,c,rfl,(.inl rfl),pl,ol,o0,uP,uO,hm,hl,c0,c1,b1,b2,q]
 .obtain⟨y,ps,os,P,O,k,m,c,rfl,_⟩:=h.1;rfl
 subst ec
 obtain⟨h,nl_⟩:=h
 obtain⟨y,ps,os,P,O,k,m,c,rfl,hy,pl,ol,o0,uP,uO,hm,hl,c0,c1,b1,b2,q⟩:=h
 refine#[_,(Aa (AE 2 AR (A5 (vK 1) Ac))
  (Aa (AE 3 AR (Ar C6 (HM (x:="piece") Aj (hr.mono ∅) rfl ht_ hp_ rfl (AZ.mk' (Ab CM) ["pieces","others","first","one","other","rows","begin"] rfl rfl (by decide +kernel) (N:=["piece","first"]) (idx:=[2])) (vN 0) (fun cl nm a cdv A outer s H hr=>(P2 (Al hr AO (a2 (vN 1) (vK 0)))))) Ac))
  (Aa (AE 4 AR Ac)
  (Aa (AE 5 AR (Fm (a1 (Bl (AV (vN 2) (a2 (A5 (A5 (vN 0) (vN 3)) Ac) (A5 (A5 (vN 1) (vN 4)) Ac)))))))
  (Aa (G3 PassesOwn.never (PW3.pt (OI (Cm K3 (Ar Bd (vN 3) Ac) (DA AM (vN 0))) (Jb (Cm K3 (Ar Bd (vN 4) Ac) (DA AM (vN 1)))))) (Aa (AE 6 AR (Al hr CA (a1 (Kr J6 (OQ (vN 0) (Hk (Ar Bd (vN 3) Ac)) (Hk (Ar Bd (vN 3) Ac))) (OQ (vN 1) (Hk (Ar Bd (vN 4) Ac)) (Hk (Ar Bd (vN 4) Ac)))))))
  (Cd (B1 (PW3.pt (Ke (Cm K3 (Ar Bd (vN 3) Ac) (DA AM (vN 0))) (Gg (w_not (BQ (Al hr AO (a2 (vN 6) (A5 (A5 (vN 0) (Ar Bd (vN 3) Ac)) Ac)))))))) (Af (K8 (i:=3) AR.nd rfl (Or.inl rfl) Ac)) An)
  (Cd (B1 (PW3.pt (Ke (Cm K3 (Ar Bd (vN 4) Ac) (DA AM (vN 1))) (Gg (w_not (BQ (Al hr AO (a2 (vN 6) (A5 (A5 (vN 1) (Ar Bd (vN 4) Ac)) Ac)))))))) (Af (K8 (i:=4) AR.nd rfl (Or.inl rfl) Ac)) An)
  (Af (Fo (BA (Fn qAE qAA qAB AN (pv 5) (AL (PE3.out (Bl (AV (vN 6) (a2 (A5 (A5 (vN 0) (vN 3)) Ac) (A5 (A5 (vN 1) (vN 4)) Ac))))) BD)))))))))
  (Af (Cj (pv 5)))))))),?_]
 have l1:=pl.len
 have l2:=ol.len
 have wP:∀i,i<ps.length->Wq m (ps.getD i dfR).1.1 (ps.getD i dfR).1.2 (bg P i):=fun i hi=>(pl.lnw (BB hi)).2.1
 have wO:∀i,i<os.length->Wq m (os.getD i dfR).1.1 (os.getD i dfR).1.2 (bg O i):=fun i hi=>(ol.lnw (BB hi)).2.1
 obtain rfl:=Ju hy (nl_ _ (by simp))
 refine atR (IC (ps:=os) (i:=0) 0 rfl ()) ?_
 refine#[fun x=>∃i,i<ps.length/\x=rpD (ps.getD i dfR),fun x=>!decide (bg O 0<Q5 x),?_,?_]
 .rintro x ⟨i,hi,rfl⟩
  refine#[_,_,_,_,bg O 0,bg P i,m,m,rfl,wO 0 (),wP i hi,(),(),?_]
  show S.d (.bl (!decide (bg O 0<bg P i)))=.d (.bl (!decide (bg O 0<Q5 (rpD (ps.getD i dfR)))))
  rw[Hi (wP i hi)]
 intro a
 refine#[_,ps.map rpD,c,rfl,Or.inr (Or.inl rfl),by rw[qAa];omega,by rw[qAa];omega,fun i x hx=>?_,?_]
 .have hi:i<ps.length:=by have:=(qAe.mp hx).1;rw[qAa] at this;exact this
  rw[qAc,BB hi] at hx
  cases hx
  refine#[#[i,hi,rfl],?_]
  show(!decide (bg O 0<Q5 (rpD (ps.getD i dfR))))=_
  rw[Hi (wP i hi)]
  by_cases z:i<c
  .have:=b1 i z
   rw[decide_eq_true z,decide_eq_false ⋯]
   rfl
  .have:=b2 i () ()
   rw[decide_eq_false z,decide_eq_true this]
   rfl
 have ec:((c:Int)-1)=((c-1:Nat):Int):=()
 refine atR (IC (ps:=ps) (i:=(c:Int)-1) (c-1) ec ()) ?_
 refine atR (IC (ps:=os) (i:=0) 0 rfl ()) ?_
 refine#[by show 3<=1000;decide,by show 1<=1000;decide,?_]
 have s1:Qa P O m [((os.getD 0 dfR).1,c-1,0)]:=Qa.one (wO 0 ()) () o0 (b1 _ ()) (fun z=>b2 _ () z) (fun z=>uO 0 z)
 refine#[fun mm τ=>∃(rw0:List R4)(i0 j0:Nat)(y6:Option S),τ=[some (.r (ps.map rpD)),some (.r (os.map rpD)),some (.d (tp (os.getD 0 dfR).1.1 (os.getD 0 dfR).1.2)),I (i0:Int),I (j0:Int),some (.l (rw0.map (Uj ps os))),y6]/\Qa P O m rw0/\iF' rw0 (rw0.length-1)=i0/\jF rw0 (rw0.length-1)=j0/\mm=(P.length-i0)+(O.length-j0),#[_,[((os.getD 0 dfR).1,c-1,0)],c-1,0,none,by rw[<-ec];rfl,s1,rfl,rfl,rfl],?_]
 rintro mm τ ⟨rw0,i0,j0,y6,rfl,sb,ei0,ej0,rfl⟩
 have hi0:i0<P.length:=by rw[<-ei0];exact sb.iP _ (by have:=sb.n0;omega)
 have hj0:j0<O.length:=by rw[<-ej0];exact sb.jO _ (by have:=sb.n0;omega)
 refine B9 (fun c1=>?_) (fun c1=>B9 (fun c2=>?_) (fun c2=>?_))
 rotate_left 2
 .rw[qAa] at c1 c2
  exact q rw0 sb (by rw[ei0];omega) (by rw[ej0];omega)
 all_goals
  have hc:i0+1<P.length\/j0+1<O.length:=by first|(rw[qAa] at c2;omega)|(rw[qAa] at c1;omega)
  obtain⟨p,q0,s,t,x,tm,x0,hp,hq,w1,w2,et,wx,x1,x2,x3⟩:=Zr pl ol (i:=i0) (j:=j0) hc
  refine#[by rw[J1 (xs:=ps) (j:=i0) () (),J1 (xs:=os) (j:=j0) () (),qAa,qAa,qAU,qAU];omega,?_]
  refine#[(ps.drop (i0+1)).take 1++(os.drop (j0+1)).take 1,p,q0,s,t,m,by rw[J1 (xs:=ps) (j:=i0) () (),J1 (xs:=os) (j:=j0) () (),<-qAN];rfl,x0,hp,hq,w1,w2,hm,?_]
  rw[et]
  obtain⟨i',ei'⟩:∃i',i'=if i0+1<P.length/\¬x<bg P (i0+1) then i0+1 else i0:=#[_,rfl]
  obtain⟨j',ej'⟩:∃j',j'=if j0+1<O.length/\¬x<bg O (j0+1) then j0+1 else j0:=#[_,rfl]
  refine#[fun τ=>τ=[some (.r (ps.map rpD)),some (.r (os.map rpD)),some (.d (tp (os.getD 0 dfR).1.1 (os.getD 0 dfR).1.2)),I (i':Int),I (j0:Int),some (.l (rw0.map (Uj ps os))),some (.d (tp tm.1 tm.2))],?_,?_]
  .refine B9 (fun c1=>?_) (fun c1=>iF ?_)
   .rw[qAa] at c1
    refine atR (IC (ps:=ps) (i0+1) () ()) ?_
    refine#[_,_,_,_,x,bg P (i0+1),m,m,rfl,wx,(pl.lnw (BB (show i0+1<ps.length from ()))).2.1,(),(),?_]
    refine Ui (fun c2=>?_) (fun c2=>?_)
    .rw[if_pos #[(),c2]] at ei'
     rw[ei']
     rfl
    .rw[if_neg (fun z=>z.2 c2)] at ei'
     rw[ei']
     rfl
   .rw[qAa] at c1
    rw[if_neg (fun z=>c1 ())] at ei'
    rw[ei']
    rfl
  rintro τ rfl
  refine#[fun τ=>τ=[some (.r (ps.map rpD)),some (.r (os.map rpD)),some (.d (tp (os.getD 0 dfR).1.1 (os.getD 0 dfR).1.2)),I (i':Int),I (j':Int),some (.l (rw0.map (Uj ps os))),some (.d (tp tm.1 tm.2))],?_,?_]
  .refine B9 (fun c1=>?_) (fun c1=>iF ?_)
   .rw[qAa] at c1
    refine atR (IC (ps:=os) (j0+1) () ()) ?_
    refine#[_,_,_,_,x,bg O (j0+1),m,m,rfl,wx,(ol.lnw (BB (show j0+1<os.length from ()))).2.1,(),(),?_]
    refine Ui (fun c2=>?_) (fun c2=>?_)
    .rw[if_pos #[(),c2]] at ej'
     rw[ej']
     rfl
    .rw[if_neg (fun z=>z.2 c2)] at ej'
     rw[ej']
     rfl
   .rw[qAa] at c1
    rw[if_neg (fun z=>c1 ())] at ej'
    rw[ej']
    rfl
  rintro τ rfl
  have st:=sb.step uP uO (tm:=tm) (x:=x) (i':=i') (j':=j') wx (by rw[ei0];exact x1) (by rw[ej0];exact x2) (by rw[ei0,ej0];exact x3) (by rw[ei0];exact ei') (by rw[ej0];exact ej')
  have hl':(rw0++[(tm,i',j')]).length-1=rw0.length:=by simp
  have ii:=Yu (rw:=rw0) (r:=(tm,i',j'))
  have iP':=st.iP rw0.length (by simp)
  have jO':=st.jO rw0.length (by simp)
  rw[ii.2.1] at iP'
  rw[ii.2.2.1] at jO'
  have iP':i'<P.length:=iP'
  have jO':j'<O.length:=jO'
  have st':=st.cnt
  rw[hl',ii.2.1,ii.2.2.1] at st'
  have st':(rw0++[(tm,i',j')]).length+iF' (rw0++[(tm,i',j')]) 0<=i'+j'+1+iF' (rw0++[(tm,i',j')]) 0:=st'
  have dec:i0+j0<i'+j':=by
   rcases x3 with⟨z1,z2⟩|⟨z1,z2⟩
   .rw[if_pos #[z1,by rw[z2];exact qBc]] at ei'
    split at ej'<;>omega
   .rw[if_pos #[z1,by rw[z2];exact qBc]] at ej'
    split at ei'<;>omega
  refine atR (IC (ps:=ps) i' rfl ()) ?_
  refine atR (IC (ps:=os) j' rfl ()) ?_
  rw[qAw] at st'
  have st':rw0.length+1+iF' (rw0++[(tm,i',j')]) 0<=i'+j'+1+iF' (rw0++[(tm,i',j')]) 0:=st'
  refine#[by show 3<=1000;decide,by rw[qAa];omega,?_]
  refine#[(P.length-i')+(O.length-j'),(),rw0++[(tm,i',j')],i',j',_,by rw[qAN];rfl,st,by rw[hl'];exact ii.2.1,by rw[hl'];exact ii.2.2.1,rfl]
variable (CI:Cal P w K mg base (CXU P w) 6 "side_by_side" ["pieces","others"] EH)
theorem Us:Ad ["number"] ["number"] (Ab QT):=scN
theorem UE (F:Fun K "sign" "sign" QT f fd):Aq P w K mg base CX0 1 f fd ["number"] (Ae K mg Qg):=by
 refine fn3 F Us (fun ss R U h=>?_) (fun cdv A outer s H E ss R U hr h=>?_)
 .obtain⟨a,rfl,_⟩:=h;rfl
 obtain⟨a,rfl,q⟩:=h
 refine#[_,(Aa (B1 (Cm K3 (vN 0) Ac) (Bg (EO Ac)) An)
  (Aa (B1 (Cm US (vN 0) Ac) (Bg Ac) An)
  (Bg Ac))),?_]
 refine B9 (fun c=>?_) (fun c=>?_)
 .rw[qBW c] at q
  exact q
 refine B9 (fun c2=>?_) (fun c2=>?_)
 .rw[qB7 c2] at q
  exact q
 .have:a=0:=()
  subst this
  exact q
variable (Jl:Cal P w K mg base (CXU P w) 1 "sign" ["number"] Qg)
theorem UK:Ad ["one","other","t"] ["one","other","t"] (Ab Pt):=scN
include Jl in
theorem UH (F:Fun K "side" "side" Pt f fd):Aq P w K mg base CX0 2 f fd ["one","other","t"] (Ae K mg Qb):=by
 refine fn3 F UK (fun ss R U h=>?_) (fun cdv A outer s H E ss R U hr h=>?_)
 .obtain⟨l1,l2,tn,td,q1,q2,t,k,m,rfl,_⟩:=h;rfl
 obtain⟨l1,l2,tn,td,q1,q2,t,k,m,rfl,h1,h2,w,hk,hm,q⟩:=h
 refine#[_,(Bg (Al hr Jl (a1 (Ar C6 (Ar AF (Ar Bd (Ar AF (vK 0) (vK 2)) (Ar AF (vK 0) (vK 2))) (vK 1)) (Ar AF (Ar Bd (Ar AF (vK 1) (vK 2)) (Ar AF (vK 1) (vK 2))) (vK 0)))))),?_]
 have a1:=HB (Ak h1.s.la w.la) (Ak h1.c.la w.lb)
 have a2:=HB (Ak h2.s.la w.la) (Ak h2.c.la w.lb)
 refine#[AI h1.s.la w.la (),AI h1.c.la w.lb (),AI a1 h2.s.lb (),AI h2.s.la w.la (),AI h2.c.la w.lb (),AI a2 h1.s.lb (),_,rfl,?_]
 rw[UP h1 h2 w]
 exact q
variable (M9:Cal P w K mg base (CXU P w) 2 "side" ["one","other","t"] Qb)
theorem UA:Ad ["one","other"] ["one","other"] (Ab P4):=scN
include Jl in
theorem Tn (F:Fun K "lean" "lean" P4 f fd):Aq P w K mg base CX0 2 f fd ["one","other"] (Ae K mg Qy):=by
 refine fn3 F UA (fun ss R U h=>?_) (fun cdv A outer s H E ss R U hr h=>?_)
 .obtain⟨l1,l2,q1,q2,k,rfl,_⟩:=h;rfl
 obtain⟨l1,l2,q1,q2,k,rfl,h1,h2,hk,q⟩:=h
 refine#[_,(Bg (Al hr Jl (a1 (Ar C6 (Ar AF (vK 0) (vK 1)) (Ar AF (vK 1) (vK 0)))))),?_]
 refine#[AI h1.s.la h2.s.lb (),AI h2.s.la h1.s.lb (),_,rfl,?_]
 rw[Ts h1 h2]
 exact q
variable (M7:Cal P w K mg base (CXU P w) 2 "lean" ["one","other"] Qy)
theorem LV:Ad ["told","begin","line"] ["told","begin","line"] (Ab F0):=scN
theorem LC (F:Fun K "add_piece" "add_piece" F0 f fd):Aq P w K mg base CX0 1 f fd ["told","begin","line"] (Od K DR):=by
 refine fnM F LV (fun xs ds R h=>?_) (fun cdv A outer s H E a xs ds R hr h=>?_)
 .obtain⟨ps,p,rfl,rfl,_⟩:=h;rfl
 obtain⟨ps,p,rfl,rfl,hl,q⟩:=h
 refine#[_,(Af (B1 (PW3.pt (OI (w_not (Yc (pv 0))) (Jb (Cm (Sw 1 (hu_ hr ∅)) (A5 (A5 (vN 0) (EO Ac)) Ac) (vN 2))))) (Af (Fo (BA (Fn qAE qAA qAB AN (pv 0) (AL (PE3.out (Bl (a2 (vN 1) (vN 2)))) BD))))) An)),?_]
 rcases qBo ps.length with z|z
 .have z:=qAS z
  subst z
  exact#[by show 2<=1000;decide,∅,_,rfl,q _ (Or.inl #[rfl,fun q' h=>by cases h])]
 have hg:ps[ps.length-1]? = some (ps[ps.length-1]' ()):=qAb _
 have e:(List.map rpD ps).isEmpty=false:=by
  cases ps with
  |nil=>cases z
  |cons _ _=>rfl
 refine iF ?_ (congrArg (fun b=>!(!b)) e)
 refine atR (HQ hg) ?_
 refine#[rfl,rfl,?_]
 refine ZC (fun c=>?_) (fun c=>?_)
 .have:=q _ (Or.inl #[rfl,fun q' h=>by rw[hg] at h;cases h;exact c])
  rw[qAN] at this
  exact#[by show 2<=1000;decide,by rw[qAa];omega,_,rfl,this]
 .exact#[_,rfl,q _ (Or.inr #[rfl,_,hg,c])]
variable (B5:Xd P w K mg base 1 "add_piece" ["told","begin","line"] DR)
theorem Mx:Ad ["one","other"] ["one","other"] (Ab Hg):=scN
include A9 in
theorem Mt (F:Fun K "crossing" "crossing" Hg f fd):Aq P w K mg base CX0 3 f fd ["one","other"] (Ae K mg IF):=by
 refine fn3 F Mx (fun ss R U h=>?_) (fun cdv A outer s H E ss R U hr h=>?_)
 .obtain⟨l1,l2,q1,q2,k,rfl,_⟩:=h;rfl
 obtain⟨l1,l2,q1,q2,k,rfl,h1,h2,hk,ne,q⟩:=h
 refine#[_,(Bg (Al hr A9 (a2 (Ar C6 (Ar AF (vK 1) (vK 0)) (Ar AF (vK 0) (vK 1))) (Ar C6 (Ar AF (vK 0) (vK 1)) (Ar AF (vK 1) (vK 0)))))),?_]
 obtain⟨n,e⟩:=NF h1 h2 ne
 refine#[AI h2.c.la h1.s.lb (),AI h1.c.la h2.s.lb (),AI h1.s.la h2.s.lb (),AI h2.s.la h1.s.lb (),_,_,rfl,n,AU (GB (Ak h2.c.la h1.s.lb) (Ak h1.c.la h2.s.lb)) (),AU (GB (Ak h1.s.la h2.s.lb) (Ak h2.s.la h1.s.lb)) (),?_]
 rw[e]
 exact q
variable (D5:Cal P w K mg base (CXU P w) 3 "crossing" ["one","other"] IF)
theorem EM:Ad ["told","row","now","then","one","other"] ["told","row","now","then"] (Ab FR):=scN
include B5 D5 in
theorem La (F:Fun K "add_lower" "add_lower" FR f fd):Aq P w K mg base CX0 4 f fd ["told","row","now","then"] (Od K HC):=by
 refine fnM F EM (fun xs ds R h=>?_) (fun cdv A outer s H E a xs ds R hr h=>?_)
 .obtain⟨ps,tm,l1,l2,now,thn,q1,q2,k,rfl,rfl,_⟩:=h;rfl
 obtain⟨ps,tm,l1,l2,now,thn,q1,q2,k,rfl,rfl,h1,h2,hk,hx,hl,q⟩:=h
 refine#[_,(Aa (AE 4 EM (vK 1))
  (Aa (AE 5 EM (vK 1))
  (Cd (B1 (PW3.pt (OI (Cm K3 (vN 2) Ac) (Jb (PW3.pt (Ke (Cm K1 (vN 2) Ac) (Gg (Cm K3 (vN 3) Ac))))))) (Af (Io B5 (hr.mono ∅) rfl (pv 0) (a2 (vK 1) (vN 4)))) (Af (Io B5 (hr.mono ∅) rfl (pv 0) (a2 (vK 1) (vN 5)))))
  (Cd (B1 (PW3.pt (Ke (Cm K3 (vN 2) Ac) (Gg (Cm US (vN 3) Ac)))) (Af (Io B5 (hr.mono ∅) rfl (pv 0) (a2 (Al hr D5 (a2 (vN 4) (vN 5))) (vN 5)))) An)
  (Af (B1 (PW3.pt (Ke (Cm US (vN 2) Ac) (Gg (Cm K3 (vN 3) Ac)))) (Af (Io B5 (hr.mono ∅) rfl (pv 0) (a2 (Al hr D5 (a2 (vN 4) (vN 5))) (vN 4)))) An)))))),?_]
 refine#[fun τ=>∃ps1:List RP,τ=[some (.l (ps1.map rpD)),some (.d (.tup [.tup [.int tm.1,.int tm.2],lnD l1,lnD l2])),I now,I thn,some (.d (lnD l1)),some (.d (lnD l2))]/\(if now<0\/(now=0/\thn<0) then L8 ps (tm,l1) ps1 else L8 ps (tm,l2) ps1),?_,?_]
 .have one:(now<0\/(now=0/\thn<0))->DR (ps.map rpD) [.tup [.int tm.1,.int tm.2],lnD l1] fun ys=>∃ps1:List RP,[some (.l ys),some (.d (.tup [.tup [.int tm.1,.int tm.2],lnD l1,lnD l2])),I now,I thn,some (.d (lnD l1)),some (.d (lnD l2))]=[some (.l (ps1.map rpD)),some (.d (.tup [.tup [.int tm.1,.int tm.2],lnD l1,lnD l2])),I now,I thn,some (.d (lnD l1)),some (.d (lnD l2))]/\(if now<0\/(now=0/\thn<0) then L8 ps (tm,l1) ps1 else L8 ps (tm,l2) ps1):=fun c=>#[ps,(tm,l1),rfl,rfl,(),fun ps' a=>#[ps',rfl,by rw[if_pos c];exact a]]
  have two:¬(now<0\/(now=0/\thn<0))->DR (ps.map rpD) [.tup [.int tm.1,.int tm.2],lnD l2] fun ys=>∃ps1:List RP,[some (.l ys),some (.d (.tup [.tup [.int tm.1,.int tm.2],lnD l1,lnD l2])),I now,I thn,some (.d (lnD l1)),some (.d (lnD l2))]=[some (.l (ps1.map rpD)),some (.d (.tup [.tup [.int tm.1,.int tm.2],lnD l1,lnD l2])),I now,I thn,some (.d (lnD l1)),some (.d (lnD l2))]/\(if now<0\/(now=0/\thn<0) then L8 ps (tm,l1) ps1 else L8 ps (tm,l2) ps1):=fun c=>#[ps,(tm,l2),rfl,rfl,(),fun ps' a=>#[ps',rfl,by rw[if_neg c];exact a]]
  refine B9 (fun c=>one (.inl c)) (fun c=>?_)
  refine B9 (fun c2=>?_) (fun c2=>two (fun z=>z.elim c fun z=>c2 z.1))
  exact B9 (fun c3=>one (.inr #[c2,c3])) (fun c3=>two (fun z=>z.elim c fun z=>c3 z.2))
 rintro τ ⟨ps1,rfl,a1⟩
 have hl1:ps1.length<=ps.length+1:=by split at a1<;>exact a1.len
 refine#[fun τ=>∃ps2:List RP,τ=[some (.l (ps2.map rpD)),some (.d (.tup [.tup [.int tm.1,.int tm.2],lnD l1,lnD l2])),I now,I thn,some (.d (lnD l1)),some (.d (lnD l2))]/\(if now<0/\0<thn then L8 ps1 (((xg q1 q2).num,((xg q1 q2).den:Int)),l2) ps2 else ps2=ps1),?_,?_]
 .refine B9 (fun c=>?_) (fun c=>#[ps1,rfl,by rw[if_neg (fun z=>c z.1)]])
  refine B9 (fun c2=>?_) (fun c2=>#[ps1,rfl,by rw[if_neg (fun z=>c2 z.2)]])
  refine#[l1,l2,q1,q2,k,rfl,h1,h2,hk,hx (.inl #[c,c2]),?_]
  exact#[ps1,(((xg q1 q2).num,((xg q1 q2).den:Int)),l2),rfl,rfl,(),fun ps' a=>#[ps',rfl,by rw[if_pos #[c,c2]];exact a]]
 rintro τ ⟨ps2,rfl,a2⟩
 have hl2:ps2.length<=ps1.length+1:=by
  split at a2
  .exact a2.len
  .rw[a2];omega
 have fin:∀ps',(if 0<now/\thn<0 then L8 ps2 (((xg q1 q2).num,((xg q1 q2).den:Int)),l1) ps' else ps'=ps2)->Rf ps tm l1 l2 now thn (xg q1 q2) ps':=fun ps' a=>by
  refine#[ps1,a1,?_]
  by_cases c:now<0/\0<thn
  .rw[if_pos c] at a2 ⊢
   rw[if_neg ()] at a
   rw[a]
   exact a2
  .rw[if_neg c] at a2 ⊢
   rw[<-a2]
   exact a
 refine B9 (fun c=>?_) (fun c=>#[_,rfl,q _ (fin _ (by rw[if_neg (fun z=>c z.1)]))])
 refine B9 (fun c2=>?_) (fun c2=>#[_,rfl,q _ (fin _ (by rw[if_neg (fun z=>c2 z.2)]))])
 refine#[l1,l2,q1,q2,k,rfl,h1,h2,hk,hx (.inr #[c,c2]),?_]
 exact#[ps2,(((xg q1 q2).num,((xg q1 q2).den:Int)),l1),rfl,rfl,(),fun ps' a=>#[_,rfl,q _ (fin _ (by rw[if_pos #[c,c2]];exact a))]]
variable (Et:Xd P w K mg base 4 "add_lower" ["told","row","now","then"] HC)
theorem Co:Ad ["pieces","others","begin","told","rows","sides","number","row"] ["pieces","others"] (Ab EJ):=scN
include AO Aj B4 CI M9 M7 Et in
theorem Ov (F:Fun K "lowered" "lowered" EJ f fd){cA cT:Addr}(ht_:W.tabIn K "lowered"=some (cA,cT)) (hn_:rA K "lowered" f) (hp_:(PyProof.Rows.recsOf P).any (fun d=>d.name == "lowered")=true):Aq P w K mg base CX0 7 f fd ["pieces","others"] (Ae K mg JM):=by
 refine fnW (fun ss R U h=>?_) (WO ht_ hn_ F Co (fun ss R U h=>?_) (fun cdv A outer s H E ss R U ec hr h=>?_))
 .obtain⟨y,ps,os,P,O,B,S0,G,V,k,m,h,g,rfl,hy,⟨rP,p0,ol,pO,o0,sO,gO,ux,hkm,hm,hb,hj,hl,hn0⟩,q⟩:=h
  rcases hy with rfl|rfl<;>exact#[_,ps,os,P,O,B,S0,G,V,k,m,h,g,rfl,(.inl rfl),#[rP,p0,ol,pO,o0,sO,gO,ux,hkm,hm,hb,hj,hl,hn0],q]
 .obtain⟨y,ps,os,P,O,B,S0,G,V,k,m,h,g,rfl,_⟩:=h.1;rfl
 subst ec
 obtain⟨h,nl_⟩:=h
 obtain⟨y,ps,os,P,O,B,S0,G,V,k,m,h,g,rfl,hy,⟨rP,p0,ol,pO,o0,sO,gO,ux,hkm,hm,hb,hj,hl,hn0⟩,q⟩:=h
 refine#[_,(Aa (AE 2 Co (A5 (vK 1) Ac))
  (Aa (AE 3 Co (OQ (vN 0) Si (Hk (HM (x:="piece") Aj (hr.mono ∅) rfl ht_ hp_ rfl (AZ.mk' (Ab EJ) ["pieces","others","begin","told","rows","sides","number","row"] rfl rfl (by decide +kernel) (N:=["piece","begin"]) (idx:=[2])) (vN 0) (fun cl nm a cdv A outer s H hr=>(Al hr AO (a2 (vK 0) (vN 1))))))))
  (Aa (AE 4 Co (Al hr CI (a2 (vN 0) (vN 1))))
  (Aa (LN (i:=5) (N:=["row"]) (idx:=[]) (AZ.mk' (Ab EJ) ["pieces","others","begin","told","rows","sides","number","row"] rfl rfl (by decide +kernel)) rfl (BP (PE3.out (vN 4))) DW (fun cl C s₀ H₀ fp=>Cn) (fun cl C s₀ H₀ fp=>(Al hr M9 (AV (vK 0) (a2 (vK 0) (vK 0))))) Co.nd rfl (Or.inl rfl))
  (Aa (Fo (BA (Fn qAE qAA qAB AN (pv 5) (AL (PE3.out (Al hr M7 (a2 (A5 (A5 (vN 4) (EO Ac)) Ac) (A5 (A5 (vN 4) (EO Ac)) Ac)))) BD))))
  (Aa (SK (Ch PassesOwn.never rfl (Pj rfl B4 (pv 4)) (Nl rfl (Dd (A3 (i:=6) Co.nd rfl (Or.inl rfl)) (Dd (A3 (i:=7) Co.nd rfl (Or.inl rfl)) KQ))) (Eg.out (Af (Io Et (hr.mono ∅) rfl (pv 3) (AV (vN 7) (a2 (A5 (vN 5) (vN 6)) (A5 (vN 5) (Ar Bd (vN 6) Ac)))))))))
  (Af (Cj (pv 3))))))))),?_]
 have pl:=rP.pl
 have pP:=rP.pu
 have uP:=pP.up
 have uO:=pO.up
 have l1:=pl.len
 have l2:=ol.len
 have wP:∀i,i<ps.length->Wq m (ps.getD i dfR).1.1 (ps.getD i dfR).1.2 (bg P i):=fun i hi=>(pl.lnw (BB hi)).2.1
 have wO:∀i,i<os.length->Wq m (os.getD i dfR).1.1 (os.getD i dfR).1.2 (bg O i):=fun i hi=>(ol.lnw (BB hi)).2.1
 obtain⟨c,cA0,cA1,cA2⟩:=Ti uP (bg O 0)
 obtain⟨d,d1,dB1,dB2⟩:=P9 uP (bg O 0)
 have cA3:c<P.length->bg O 0<=bg P c:=fun z=>cA2 c (qAf _) z
 have d0:0<d:=by
  rcases qBo d with z|z
  .have:=dB2 0 () p0;grind
  .exact z
 have hj0:0<c->h (bg O 0)<=g (bg O 0):=fun z=>hj (cA1 0 z)
 obtain rfl:=Ju hy (nl_ _ (by simp))
 refine atR (IC (ps:=os) (i:=0) 0 rfl ()) ?_
 refine#[fun x=>∃i,i<ps.length/\x=rpD (ps.getD i dfR),fun x=>decide (Q5 x<bg O 0),?_,?_]
 .rintro x ⟨i,hi,rfl⟩
  refine#[_,_,_,_,bg P i,bg O 0,m,m,rfl,wP i hi,wO 0 (),(),(),?_]
  show S.d (.bl (decide (bg P i<bg O 0)))=.d (.bl (decide (Q5 (rpD (ps.getD i dfR))<bg O 0)))
  rw[Hi (wP i hi)]
 intro a
 refine#[_,ps.map rpD,c,rfl,Or.inr (Or.inl rfl),by rw[qAa];omega,by rw[qAa];omega,fun i x hx=>?_,?_]
 .have hi:i<ps.length:=by have:=(qAe.mp hx).1;rw[qAa] at this;exact this
  rw[qAc,BB hi] at hx
  cases hx
  refine#[#[i,hi,rfl],?_]
  show decide (Q5 (rpD (ps.getD i dfR))<bg O 0)=_
  rw[Hi (wP i hi)]
  refine decide_eq_decide.mpr #[fun z=>?_,fun z=>cA1 i z]
  by_cases y:i<c
  .exact y
  .have:=cA2 i () ();grind
 have ec:Eh (ps.map rpD) none (some (c:Int))=(ps.take c).map rpD:=Yh ()
 refine#[_,ps,os,P,O,k,m,d,rfl,Or.inl rfl,pl,ol,o0,uP,uO,(),(),d0,d1,dB1,dB2,fun rw0 sb e1 e2=>?_]
 have sA:=sb.all e1 e2
 have nw:=sb.n0
 have cn:=sb.cnt
 have iL:=sb.iP (rw0.length-1) ()
 have jL:=sb.jO (rw0.length-1) ()
 have lw1:∀n,n<rw0.length->LW k (ps.getD (iF' rw0 n) dfR).2 (ln P (iF' rw0 n)):=fun n hn=>(pl.lnw (BB (by have:=sb.iP n hn;omega))).1
 have lw2:∀n,n<rw0.length->LW k (os.getD (jF rw0 n) dfR).2 (ln O (jF rw0 n)):=fun n hn=>(ol.lnw (BB (by have:=sb.jO n hn;omega))).1
 refine#[(List.range rw0.length).map fun n=>some (D.int (sg (ev (ln P (iF' rw0 n)) (aF rw0 n)-ev (ln O (jF rw0 n)) (aF rw0 n)))),?_,?_,?_,?_]
 .rw[qAa,qAa,qAq]
 .intro n x hx
  have hn:n<rw0.length:=by have:=(qAe.mp hx).1;rw[qAa] at this;exact this
  rw[qAc,UU hn] at hx
  cases hx
  refine#[_,_,_,_,_,_,aF rw0 n,k,m,rfl,lw1 n hn,lw2 n hn,sb.w n hn,(),(),?_]
  show((List.range rw0.length).map _)[n]? = _
  rw[qAc,qAC hn]
  rfl
 .rw[qAa];omega
 have ef:((List.range rw0.length).map fun n=>some (D.int (sg (ev (ln P (iF' rw0 n)) (aF rw0 n)-ev (ln O (jF rw0 n)) (aF rw0 n))))).filterMap id=(List.range rw0.length).map fun n=>D.int (sg (ev (ln P (iF' rw0 n)) (aF rw0 n)-ev (ln O (jF rw0 n)) (aF rw0 n))):=Gb
 rw[ef]
 have eL:atI (rw0.map (Uj ps os)) (-1)=some (Uj ps os (tmF rw0 (rw0.length-1),iF' rw0 (rw0.length-1),jF rw0 (rw0.length-1))):=HQ (UU ())
 refine atR eL ?_
 refine atR eL ?_
 refine#[_,_,_,_,k,rfl,lw1 _ (),lw2 _ (),(),?_]
 refine#[by rw[qAa,qAq];omega,?_]
 generalize eS:(List.range rw0.length).map (fun n=>D.int (sg (ev (ln P (iF' rw0 n)) (aF rw0 n)-ev (ln O (jF rw0 n)) (aF rw0 n))))++[D.int (sg ((ln P (iF' rw0 (rw0.length-1))).1-(ln O (jF rw0 (rw0.length-1))).1))]=sd
 have sl:sd.length=rw0.length+1:=by rw[<-eS];simp
 have sNow:∀n,n<rw0.length->atI sd (n:Int)=some (D.int (sg (ev (ln P (iF' rw0 n)) (aF rw0 n)-ev (ln O (jF rw0 n)) (aF rw0 n)))):=fun n hn=>by
  rw[CH.atI_nat (),<-eS,qAp (by simp;exact hn),qAc,qAC hn]
  rfl
 have sThn:∀n,n<rw0.length->atI sd ((n:Int)+1)=some (D.int (sg (Ef (ln P (iF' rw0 n)) (ln O (jF rw0 n)) (TmN rw0.length (aF rw0) (n+1))))):=fun n hn=>by
  by_cases z:n+1<rw0.length
  .rw[sA.thn pP pO z,show(n:Int)+1=((n+1:Nat):Int) from ()]
   exact sNow (n+1) z
  .have en:n=rw0.length-1:=()
   rw[show(n:Int)+1=((rw0.length:Nat):Int) from (),CH.atI_nat (),<-eS,qAu (by simp),en]
   have e9:TmN rw0.length (aF rw0) (rw0.length-1+1)=none:=if_neg ()
   rw[e9]
   simp
   rfl
 refine#[fun n τ=>∃(qs:List RP)(Q:Ps)(y6 y7:Option S),τ=[some (.r (ps.map rpD)),some (.r (os.map rpD)),some (.d (tp (os.getD 0 dfR).1.1 (os.getD 0 dfR).1.2)),some (.l (qs.map rpD)),some (.r (rw0.map (Uj ps os))),some (.l sd),y6,y7]/\T6 B S0 G V k m ps os P O h g rw0.length (aF rw0) (iF' rw0) (jF rw0) n qs Q/\(n=0->qs=ps.take c),#[ps.take c,P.take c,none,none,by rw[<-ec];rfl,T6.zero rP sA cA0 cA1 cA3 hj0,fun _=>rfl],?_,?_]
 .rintro n τ x hx ⟨qs,Q,y6,y7,rfl,li,z0⟩
  have hn:n<rw0.length:=by have:=(qAe.mp hx).1;rw[qAa] at this;exact this
  rw[qAc,UU hn] at hx
  cases hx
  have ql:qs.length<=90000:=by
   have q1:=li.r.cn.len
   have q2:=li.r.pl.len
   rw[qAw] at q1
   have q3:(L7 O).length=O.length:=qAa _
   rw[q3] at q1
   omega
  refine atR (sNow n hn) ?_
  refine atR (sThn n hn) ?_
  refine#[qs,tmF rw0 n,(ps.getD (iF' rw0 n) dfR).2,(os.getD (jF rw0 n) dfR).2,_,_,ln P (iF' rw0 n),ln O (jF rw0 n),k,rfl,rfl,lw1 n hn,lw2 n hn,(),fun z=>?_,(),fun qs' ad=>?_]
  .rcases z with⟨z1,z2⟩|⟨z1,z2⟩
   .exact(IT (T:=TmN rw0.length (aF rw0) (n+1)) (a:=aF rw0 n) (by have:=Qk.mp z1;grind) (Oi (sA.lt hn) (QM.mp z2))).1
   .have:=(IT (l1:=ln O (jF rw0 n)) (l2:=ln P (iF' rw0 n)) (T:=TmN rw0.length (aF rw0) (n+1)) (a:=aF rw0 n) (by have:=QM.mp z1;grind) (Oi (sA.lt hn) (by rw[G6];have:=Qk.mp z2;grind))).1
    exact Ne.symm this
  obtain⟨Q',li'⟩:=li.step rP ol pO sO gO ux hkm sA hb hn (sb.w n hn) (BB (show iF' rw0 n<ps.length by have:=sb.iP n hn;omega)) (BB (show jF rw0 n<os.length by have:=sb.jO n hn;omega)) ad (fun z y=>by
   have t0:=z0 z
   rw[y] at t0
   have c0':c=0:=by
    have:(ps.take c).length=0:=by rw[<-t0];rfl
    rw[qAU] at this
    omega
   have:=cA2 0 () p0
   grind)
  exact#[qs',Q',_,_,rfl,li',fun z=>absurd z ()]
 rintro τ ⟨qs,Q,y6,y7,rfl,li,_⟩
 rw[qAa] at li
 have r:=li.r
 have e9:TmN rw0.length (aF rw0) rw0.length=none:=if_neg ()
 rw[e9] at r
 have lb:=li.b.2 nw
 exact q qs Q r (by rw[<-r.pl.len];exact List.length_pos_iff.mpr lb.1) lb.2
variable (BS:Cal P w K mg base (CXU P w) 7 "lowered" ["pieces","others"] JM)
theorem Au:Ad ["f","g","ones","others","found","corner"] ["f","g"] (Ab B3):=scN
include AG Bq Ct F8 BS in
theorem Fl (F:Fun K "joined_by_corners" "joined_by_corners" B3 f fd):Aq P w K mg base CX0 8 f fd ["f","g"] (Ae K mg C3):=by
 refine fn3 F Au (fun ss R U h=>?_) (fun cdv A outer s H E ss R U hr h=>?_)
 .obtain⟨fc,fm,gc,gm,a,b,c,N,S0,rfl,_⟩:=h;rfl
 obtain⟨fc,fm,gc,gm,a,b,c,N,S0,rfl,⟨rf,rg,zf,zg,hz,hn,h6,hN,sf,sg,h48⟩,q⟩:=h
 refine#[_,(Aa (AE 2 Au (Al hr Bq (a1 (vN 0))))
  (Aa (AE 3 Au (Al hr Bq (a1 (vN 1))))
  (Aa (AE 4 Au (Al hr BS (a2 (vN 2) (vN 3))))
  (Aa (GS (Ch PassesOwn.never rfl (BP (PE3.out (Al hr AG (a1 (vN 0))))) (A3 (i:=5) Au.nd rfl (Or.inl rfl)) (Eg.out (Af (AE 4 Au (Al hr BS (a2 (vN 4) (Al hr F8 (a2 (vN 3) (vN 5))))))))))
  (Aa (GS (Ch PassesOwn.never rfl (BP (PE3.out (Al hr AG (a1 (vN 1))))) (A3 (i:=5) Au.nd rfl (Or.inl rfl)) (Eg.out (Af (AE 4 Au (Al hr BS (a2 (vN 4) (Al hr F8 (a2 (vN 2) (vN 5))))))))))
  (Bg (Al hr Ct (a1 (vN 4))))))))),?_]
 have of:=rf.o
 have og:=rg.o
 have f0:=of.ne
 have g0:=og.ne
 obtain⟨K,hK⟩:∃K,K=2*a+3*b+3*c+12:=#[_,rfl]
 obtain⟨Z,hZ⟩:∃Z,Z=2*(a+b+c)+5:=#[_,rfl]
 obtain⟨X,hX⟩:∃X,X=4*(a+b+c)+2*b+16:=#[_,rfl]
 obtain⟨W,hW⟩:∃W,W=2*(fc.length*gc.length)+2*fc.length+2*gc.length+3:=#[_,rfl]
 rw[<-hX,<-hZ] at q
 rw[<-hW] at hn
 have cnt:∀x,x<=W->x*(S0).length<=N:=fun x hx=>qAD (qAR _ hx) hn
 have s0:1<=S0.length:=qB9 (sf.at of f0)
 have WS:W<=40000:=by
  have:=cnt W (qAf _)
  have:=qB0 W s0
  omega
 have ux:=Vp (b:=b) (Z:=Z) (X:=X) ()
 have st1:=Px (cs:=fc) (m:=fm) f0
 have st2:=Px (cs:=gc) (m:=gm) g0
 refine#[fc,fm,a,b,c,rfl,of,zf,(),(),?_]
 refine#[gc,gm,a,b,c,rfl,og,zg,(),(),?_]
 have r0:Dy (L7 (Ck fc fm)) (S0) (Gz b Z) (Sz X) K (2*K+1) (val fc fm) none (BC fc fm) (Ck fc fm):=Zi of zf (fun i hi=>sf.at of hi) () () () ()
 have pG:PL K (2*K+1) (BC gc gm) (Ck gc gm):=(Ep og zg).mono () ()
 have bf:bg (Ck fc fm) 0=0:=by rw[(AW f0).1];exact of.t0
 have bgg:bg (Ck gc gm) 0=0:=by rw[(AW g0).1];exact og.t0
 have lf:=AA (cs:=fc) (m:=fm)
 have lg:=AA (cs:=gc) (m:=gm)
 have lbf:(L7 (Ck fc fm)).length=fc.length:=by rw[show(L7 (Ck fc fm)).length=(Ck fc fm).length from qAa _,lf]
 have lbg:(L7 (Ck gc gm)).length=gc.length:=by rw[show(L7 (Ck gc gm)).length=(Ck gc gm).length from qAa _,lg]
 have c0:=cnt (fc.length+gc.length+1) ()
 refine#[_,_,_,Ck fc fm,Ck gc gm,L7 (Ck fc fm),S0,Gz b Z,Sz X,K,2*K+1,val fc fm,val gc gm,rfl,Or.inl rfl,#[r0,by rw[lf];exact f0,pG,FK og,by rw[lg];exact g0,fun x hx=>by rw[lg] at hx;rw[(AW hx).2];exact sg.at og hx,fun x hx=>?_,ux,(),(),by rw[bf,bgg];exact qAd,fun z=>by rw[bf,bgg] at z;exact absurd z qBc,by rw[Be,Be];omega,by rw[lbf,lg];omega],fun qs Q r ne b0=>?_]
 .rw[lg] at hx
  rw[(AW hx).1,(AW hx).2]
  have z:=zg.ln og x hx
  exact#[#[z.1,z.2.mono ()],(zg.tm x hx).mono ()]
 rw[bgg] at r
 rw[bf] at b0
 have mi:JI fc fm gc gm [] [] _:=JI.start
 refine#[fc,fm,a,b,c,rfl,of,zf,(),(),?_]
 refine#[fun n τ=>∃(qs:List RP)(Q:Ps)(B:List Rat)(h:Rat->Rat)(y5:Option S),τ=[some (.d (crv fc fm)),some (.d (crv gc gm)),some (.l ((BC fc fm).map rpD)),some (.l ((BC gc gm).map rpD)),some (.l (qs.map rpD)),y5]/\Dy B (S0) (Gz b Z) (Sz X) K (2*K+1) h none qs Q/\0<Q.length/\bg Q 0=0/\JI fc fm gc gm ((stI fc fm).take n) [] h/\B.length<=fc.length+gc.length+n*gc.length,#[qs,Q,_,_,none,rfl,r,ne,b0,mi,by rw[qAw,lbf,lbg];omega],?_,?_]
 .clear r ne b0 mi
  clear qs Q
  rintro n τ x hx ⟨qs,Q,B,h,y5,rfl,r,ne,b0,mi,bl⟩
  obtain⟨k,hk,rfl⟩:=BN hx
  have nl:n<(stI fc fm).length:=(qAe.mp hk).1
  have kl:k<fc.length:=(FX.mp (qAK hk)).1
  have tk:=zf.tm k kl
  have t0:=Bo of kl
  have vk:Sz (b+a+c+1) (vv fc k):=by
   have:=zf.va t0 tk
   rw[A7 of kl] at this
   exact this
  have w1:Wq (a+b+c+3) (tt fc k).num ((tt fc k).den:Int) (tt fc k):=Wq.of (tk.mono ())
  have w2:Wq (a+b+c+3) (vv fc k).num ((vv fc k).den:Int) (vv fc k):=Wq.of (vk.mono ())
  refine#[_,BC gc gm,Ck gc gm,_,_,_,_,_,_,b+c,a,a+b+c+3,rfl,Or.inl rfl,Ep og zg,w1,w2,(),(),(),by rw[Be];omega,?_]
  have pO:PL K (2*K+1) ((BC gc gm).map (mvR (tt fc k).num ((tt fc k).den:Int) (vv fc k).num ((vv fc k).den:Int))) (pJ gc gm (tt fc k) (vv fc k)):=((Ep og zg).moved w1 w2).mono (k':=K) (m':=2*K+1) () ()
  have lO:=PX (fc:=gc) (fm:=gm) (w:=tt fc k) (v:=vv fc k)
  have b0':bg (pJ gc gm (tt fc k) (vv fc k)) 0=tt fc k:=by rw[(N9 og.ne).1,og.t0];grind
  have gd:=W2 og zg tk vk (Z:=Z) (X:=X) () ()
  have ol:=pO.len
  have nm:(n+1)*gc.length<=fc.length*gc.length:=qAR _ ()
  have n1:(n+1)*gc.length=n*gc.length+gc.length:=qCD _ _
  have c1':=cnt (B.length+1) ()
  have c2':=cnt (B.length+(pJ gc gm (tt fc k) (vv fc k)).length+1) ()
  have ql:qs.length<=40000:=by rw[r.pl.len];exact qAD (qAD r.cn.len c1') hN
  refine#[_,qs,_,Q,_,B,S0,Gz b Z,Sz X,K,2*K+1,h,fun t=>val gc gm (t-tt fc k)+vv fc k,rfl,Or.inr rfl,#[r,ne,pO,(FK og).move _ _,by rw[lO];exact og.ne,fun x hx=>by rw[lO] at hx;rw[(N9 hx).2];exact sg.at og hx,gd,ux,(),(),by rw[b0,b0'];exact t0,fun _=>?_,by rw[qAa,Be];omega,()],fun qs' Q' r' ne' b0''=>?_]
  .rw[b0',show tt fc k-tt fc k=0 from ⋯]
   have h1:=mi.f (tt fc k) t0
   rw[A7 of kl] at h1
   have h2:=Ft (t:=0) rg qAd
   grind
  rw[b0'] at r'
  refine#[qs',Q',_,_,_,rfl,r',ne',b0''.trans b0,?_,?_]
  .rw[qA2,hk]
   exact mi.stepA of kl
  .rw[qAw,show(L7 (pJ gc gm (tt fc k) (vv fc k))).length=(pJ gc gm (tt fc k) (vv fc k)).length from qAa _]
   omega
 clear r ne b0 mi
 clear qs Q
 rintro τ ⟨qs,Q,B,h,y5,rfl,r,ne,b0,mi,bl⟩
 rw[qAa] at mi bl
 rw[qAX (qAf _)] at mi
 replace bl:B.length<=fc.length+gc.length+fc.length*gc.length:=by
  have:=qAR gc.length (show(stI fc fm).length<=fc.length from ())
  omega
 refine#[gc,gm,a,b,c,rfl,og,zg,(),(),?_]
 refine#[fun n τ=>∃(qs:List RP)(Q:Ps)(B:List Rat)(h:Rat->Rat)(y5:Option S),τ=[some (.d (crv fc fm)),some (.d (crv gc gm)),some (.l ((BC fc fm).map rpD)),some (.l ((BC gc gm).map rpD)),some (.l (qs.map rpD)),y5]/\Dy B (S0) (Gz b Z) (Sz X) K (2*K+1) h none qs Q/\0<Q.length/\bg Q 0=0/\JI fc fm gc gm (stI fc fm) ((stI gc gm).take n) h/\B.length<=fc.length+gc.length+fc.length*gc.length+n*fc.length,#[qs,Q,B,h,_,rfl,r,ne,b0,mi,()],?_,?_]
 .clear r ne b0 mi bl
  clear qs Q B h y5
  rintro n τ x hx ⟨qs,Q,B,h,y5,rfl,r,ne,b0,mi,bl⟩
  obtain⟨k,hk,rfl⟩:=BN hx
  have nl:n<(stI gc gm).length:=(qAe.mp hk).1
  have kl:k<gc.length:=(FX.mp (qAK hk)).1
  have tk:=zg.tm k kl
  have t0:=Bo og kl
  have vk:Sz (b+a+c+1) (vv gc k):=by
   have:=zg.va t0 tk
   rw[A7 og kl] at this
   exact this
  have w1:Wq (a+b+c+3) (tt gc k).num ((tt gc k).den:Int) (tt gc k):=Wq.of (tk.mono ())
  have w2:Wq (a+b+c+3) (vv gc k).num ((vv gc k).den:Int) (vv gc k):=Wq.of (vk.mono ())
  refine#[_,BC fc fm,Ck fc fm,_,_,_,_,_,_,b+c,a,a+b+c+3,rfl,Or.inl rfl,Ep of zf,w1,w2,(),(),(),by rw[Be];omega,?_]
  have pO:PL K (2*K+1) ((BC fc fm).map (mvR (tt gc k).num ((tt gc k).den:Int) (vv gc k).num ((vv gc k).den:Int))) (pJ fc fm (tt gc k) (vv gc k)):=((Ep of zf).moved w1 w2).mono (k':=K) (m':=2*K+1) () ()
  have lO:=PX (fc:=fc) (fm:=fm) (w:=tt gc k) (v:=vv gc k)
  have b0':bg (pJ fc fm (tt gc k) (vv gc k)) 0=tt gc k:=by rw[(N9 of.ne).1,of.t0];grind
  have gd:=W2 of zf tk vk (Z:=Z) (X:=X) () ()
  have ol:=pO.len
  have nm:(n+1)*fc.length<=gc.length*fc.length:=qAR _ ()
  have n1:(n+1)*fc.length=n*fc.length+fc.length:=qCD _ _
  have mc:=qCE gc.length fc.length
  have c1':=cnt (B.length+1) ()
  have c2':=cnt (B.length+(pJ fc fm (tt gc k) (vv gc k)).length+1) ()
  have ql:qs.length<=40000:=by rw[r.pl.len];exact qAD (qAD r.cn.len c1') hN
  refine#[_,qs,_,Q,_,B,S0,Gz b Z,Sz X,K,2*K+1,h,fun t=>val fc fm (t-tt gc k)+vv gc k,rfl,Or.inr rfl,#[r,ne,pO,(FK of).move _ _,by rw[lO];exact of.ne,fun x hx=>by rw[lO] at hx;rw[(N9 hx).2];exact sf.at of hx,gd,ux,(),(),by rw[b0,b0'];exact t0,fun _=>?_,by rw[qAa,Be];omega,()],fun qs' Q' r' ne' b0''=>?_]
  .rw[b0',show tt gc k-tt gc k=0 from ⋯]
   have h1:=mi.g (tt gc k) t0
   rw[A7 og kl] at h1
   have h2:=Ft (t:=0) rf qAd
   grind
  rw[b0'] at r'
  refine#[qs',Q',_,_,_,rfl,r',ne',b0''.trans b0,?_,?_]
  .rw[qA2,hk]
   exact mi.stepB og kl
  .rw[qAw,show(L7 (pJ fc fm (tt gc k) (vv gc k))).length=(pJ fc fm (tt gc k) (vv gc k)).length from qAa _]
   omega
 clear r ne b0 mi bl
 clear qs Q B h y5
 rintro τ ⟨qs,Q,B,h,y5,rfl,r,ne,b0,mi,bl⟩
 rw[qAa] at mi bl
 rw[qAX (qAf _)] at mi
 have nm:=qAR fc.length (show(stI gc gm).length<=gc.length from ())
 have mc:=qCE gc.length fc.length
 have c1':=cnt (B.length+1) ()
 have ql0:Q.length<=(B.length+1)*(S0).length:=r.cn.len
 have ql:qs.length<=40000:=by rw[r.pl.len];exact qAD (qAD ql0 c1') hN
 obtain⟨o,m0,eM,iv,ls⟩:=RV rf rg r ne b0 mi
 refine#[_,qs,Q,K,2*K+1,rfl,Or.inl rfl,r.pl,by rw[r.pl.len];exact ne,(),(),ls.szd o (by rw[A1];omega) () (),o,m0,?_]
 have ki:=HS o m0
 have kv:=fun t=>HF (m:=(ln Q (Q.length-1)).1) o t
 have kl':=JX (Fp Q) (ln Q (Q.length-1)).1 ((Fp Q).length-1)
 have kls:=ls.kept o
 have ksl:=(Tp r o).kept o
 rw[A1] at ki kv kl' kls ksl
 refine q _ _ ki eM (fun t t0=>?_) kls ksl (by have:=r.pl.len;omega)
 rw[(kv t).1];exact iv t t0
variable (Br:Cal P w K mg base (CXU P w) 8 "joined_by_corners" ["f","g"] C3)
theorem Dw:Ad ["ones","others","told","place","one"] ["ones","others"] (Ab Hm):=scN
include Ai AM in
theorem MF (F:Fun K "by_slope" "by_slope" Hm f fd):Aq P w K mg base CX0 2 f fd ["ones","others"] (Ae K mg Iz):=by
 refine fn3 F Dw (fun ss R U h=>?_) (fun cdv A outer s H E ss R U hr h=>?_)
 .obtain⟨fc,fm,gc,gm,last,p,q,rfl,_⟩:=h;rfl
 obtain⟨fc,fm,gc,gm,last,p,q,rfl,⟨of,og,cf,cg,pl,ql,f1,f2,g1,g2⟩,lf,lg,zf,zg,R0⟩:=h
 refine#[_,(Aa (AE 2 Dw (Fm LA))
  (Aa (AE 3 Dw Ac)
  (Aa (OL (Ch PassesOwn.never rfl (BP (pv 0)) (A3 (i:=4) Dw.nd rfl (Or.inl rfl)) (Eg.out (Aa (G3 PassesOwn.never (PW3.pt (Ke (Cm K3 (vN 3) (DA AM (vN 1))) (Gg (BQ (Al hr Ai (a2 (A5 (A5 (vN 1) (vN 3)) Ac) (vK 4))))))) (Aa (Fo (BA (Fn qAE qAA qAB AN (pv 2) (AL (PE3.out (A5 (vN 1) (vN 3))) BD))))
  (Af (K8 (i:=3) Dw.nd rfl (Or.inl rfl) Ac))))
  (Af (Fo (BA (Fn qAE qAA qAB AN (pv 2) (AL (PE3.out (vN 4)) BD)))))))))
  (SF 2 (Bg (Kr J6 (vN 2) (OQ (vN 1) (Hk (vN 3)) Si))))))),?_]
 have atg:∀j,j<q->atI ((List.range q).map (stD gc gm)) (j:Int)=some (stD gc gm j):=fun j hj=>by
  rw[CH.atI_nat (by rw[qAa,qAq];exact hj),qAc,qAC hj]
  rfl
 refine#[by show 0<=1000;decide,?_]
 refine#[fun i τ=>∃(j:Nat)(W:List (Nat×Nat))(L:List D)(y4:Option S),τ=[some (.d (.lst ((List.range p).map (stD fc fm)))),some (.d (.lst ((List.range q).map (stD gc gm)))),some (.l L),some (.d (.int (j:Int))),y4]/\j<=q/\HR fc fm gc gm i j W/\FL fc gc W L,#[0,[(0,0)],[],none,rfl,(),HR.start of og,FL.start],?_,?_]
 .rintro i τ x hx ⟨j,W,L,y4,rfl,jq,h,s⟩
  have hi:i<p:=by have:=(qAe.mp hx).1;rw[qAa,qAq] at this;exact this
  rw[qAc,qAC hi] at hx
  cases hx
  have fi:=f1 i hi
  refine#[fun mm τ=>∃(j:Nat)(W:List (Nat×Nat))(L:List D)(y4:Option S),τ=[some (.d (.lst ((List.range p).map (stD fc fm)))),some (.d (.lst ((List.range q).map (stD gc gm)))),some (.l L),some (.d (.int (j:Int))),y4]/\y4=some (.d (stD fc fm i))/\j<=q/\HR fc fm gc gm i j W/\FL fc gc W L/\mm=q-j,#[_,j,W,L,_,rfl,rfl,jq,h,s,rfl],?_]
  clear h s jq
  rintro mm τ ⟨j,W,L,y4,rfl,e4,jq,h,s,rfl⟩
  subst e4
  have wl:=h.wl
  have sl:=s.1
  have il:=h.il
  have jl:=h.jl
  have fin:(∀l,j<=l->l<gc.length->slp fc fm i<=slp gc gm l)->_:=fun hs=>h.fS s cf () hs
  refine B9 (fun c=>?_) (fun c=>?_)
  .have jq':j<q:=by rw[qAa,qAq] at c;omega
   refine atR (atg j jq') ?_
   refine#[_,_,_,_,rfl,zg j (),zf i (),∅,?_]
   refine B9 (fun c2=>?_) (fun c2=>?_)
   .refine atR (atg j jq') ?_
    obtain⟨h',s'⟩:=h.gS s cg () (fun l l1 l2=>by have:=cf.mono l1 l2;grind)
    exact#[(),q-(j+1),(),j+1,_,_,_,rfl,rfl,(),h',s',rfl]
   .obtain⟨h',s'⟩:=fin (fun l l1 l2=>by have:=cg.mono l1 l2;grind)
    exact#[(),j,_,_,_,rfl,jq,h',s']
  .have jq':j=q:=by rw[qAa,qAq] at c;omega
   obtain⟨h',s'⟩:=fin (fun l l1 l2=>by have:=g2 l () l2;grind)
   exact#[(),j,_,_,_,rfl,jq,h',s']
 rintro τ ⟨j,W,L,y4,rfl,jq,h,s⟩
 rw[qAa,qAq] at h
 obtain⟨W',h',s'⟩:=NR cg ql g1 f2 (q-j) j W L () h s
 have rr:Eh ((List.range q).map (stD gc gm)) (some (j:Int)) none=((List.range q).drop j).map (stD gc gm):=by
  rw[Qc (f:=stD gc gm) (h:=j) (by rw[qAq];omega)]
 show Xg (.lst L) (.lst (Eh ((List.range q).map (stD gc gm)) (some (j:Int)) none)) (fun d=>R (.d d))
 rw[rr]
 have wl:=h.wl
 have sl:=s.1
 refine#[by rw[qAa,qAL,qAq];omega,?_]
 exact R0 W' _ h' s'
variable (Fg:Cal P w K mg base (CXU P w) 2 "by_slope" ["ones","others"] Iz)
theorem Bf:Ad ["f","last","told","slope","one","other"] ["f","last"] (Ab Cp):=scN
include Aw Ai Ah Jw in
theorem Ga (F:Fun K "stretches_under" "stretches_under" Cp f fd):Aq P w K mg base CX0 6 f fd ["f","last"] (Ae K mg DQ):=by
 refine fn3 F Bf (fun ss R U h=>?_) (fun cdv A outer s H E ss R U hr h=>?_)
 .obtain⟨cs,m,last,p,n,rfl,_⟩:=h;rfl
 obtain⟨cs,m,last,p,n,rfl,n0,up,hl,zc,hn,zs,zl,pl,h1,h2,q⟩:=h
 refine#[_,(Aa (AE 2 Bf (Fm LA))
  (Aa (U5 (Ch PassesOwn.never rfl (Ub rfl Jw (AL (PE3.out (Al hr Ah (a2 (vK 0) (vK 0)))) (AL (PE3.out (vK 0)) (AL (PE3.out (OQ (vK 0) (Hk Ac) Si)) BD)))) (Nl rfl (Dd (A3 (i:=3) Bf.nd rfl (Or.inl rfl)) (Dd (A3 (i:=4) Bf.nd rfl (Or.inl rfl)) (Dd (A3 (i:=5) Bf.nd rfl (Or.inl rfl)) KQ)))) (Eg.out (Af (B1 (BQ (Al hr Ai (a2 (vN 3) (vN 1)))) (Af (Fo (BA (Fn qAE qAA qAB AN (pv 2) (AL (PE3.out (Bl (AV (vN 3) (a2 (Al hr Aw (a2 (vK 5) (vK 4))) (Al hr Aw (a2 (vK 5) (vK 4))))))) BD))))) An)))))
  (Af (Cj (pv 2))))),?_]
 refine#[by show 0<=1000;decide,?_]
 refine#[cs,m,rfl,n0,(),zc.mono (),up,?_]
 refine#[_,rfl,?_]
 refine#[_,rfl,?_]
 have cut1:Eh (cs.map cd) (some 1) none=(cs.drop 1).map cd:=Qc (f:=cd) (h:=1) ()
 refine#[fun z=>?_,_,rfl,?_]
 .have z1:min 1 (cs.map cd).length=0:=(HT.sIx_nat _ 0 1).symm.trans z.1
  rw[qAa] at z1
  omega
 refine#[fun i τ=>∃(y3 y4 y5:Option S),τ=[some (.d (crv cs m)),some (.d (qd last)),some (.l ((List.range (min i p)).map (stD cs m))),y3,y4,y5]/\i<=1000,#[_,_,_,rfl,()],?_,?_]
 .rintro i τ x y z hx hy hz ⟨y3,y4,y5,rfl,il⟩
  obtain⟨hi,rfl⟩:=QP hx
  obtain⟨_,rfl⟩:=FJ hy
  have hz:((Eh (cs.map cd) (some 1) none))[i]? = some z:=hz
  rw[cut1] at hz
  obtain⟨c',hc,rfl⟩:=BN hz
  rw[qBa,qBS 1 i] at hc
  have hi':i+1<cs.length:=(qAe.mp hc).1
  have ec:c'=(tt cs (i+1),vv cs (i+1)):=by
   rw[qAb hi'] at hc
   have:=qAn hc
   rw[(Bm hi').1,(Bm hi').2,this]
  subst ec
  refine#[slp cs m i,last,_,_,rfl,zs i hi,zl,∅,?_]
  refine B9 (fun c=>?_) (fun c=>?_)
  .have ip:i<p:=by
    refine Nat.lt_of_not_le fun z=>?_
    have:=h2 i z hi
    grind
   refine#[_,_,_,_,rfl,(zc _ hi').1,(zc _ hi).1,(),?_]
   refine#[_,_,_,_,rfl,(zc _ hi').2,(zc _ hi).2,(),?_]
   refine#[by show 3<=1000;decide,?_]
   refine#[by rw[qAa,qAq];omega,some (.d (qd (slp cs m i))),some (.d (cd (tt cs i,vv cs i))),some (.d (cd (tt cs (i+1),vv cs (i+1)))),?_,()]
   rw[show min (i+1) p=min i p+1 from (),List.range_succ,qAN,show min i p=i from ()]
   rfl
  .have ip:p<=i:=qCB fun z=>c (h1 i z)
   refine#[some (.d (qd (slp cs m i))),some (.d (cd (tt cs i,vv cs i))),some (.d (cd (tt cs (i+1),vv cs (i+1)))),?_,()]
   rw[show min (i+1) p=min i p from ()]
   rfl
 rintro τ ⟨y3,y4,y5,rfl,_⟩
 have e1:(Eh (cs.map cd) (some 1) none).length=cs.length-1:=by rw[cut1,qAa,qAL]
 have e2:min (min ((JO cs m).map qd).length (min (cs.map cd).length (Eh (cs.map cd) (some 1) none).length)) p=p:=by
  rw[e1,qAa,qAa,El];omega
 rw[e2]
 exact q
variable (Bk:Cal P w K mg base (CXU P w) 6 "stretches_under" ["f","last"] DQ)
theorem Bi:Ad ["f","g","last","corners","stretch","ahead"] ["f","g"] (Ab CY):=scN
include Dr DP gc_NOUGHT DX Fg Bk in
theorem Hq (F:Fun K "flattest_first" "flattest_first" CY f fd):Aq P w K mg base CX0 7 f fd ["f","g"] (Ae K mg D8):=by
 refine fn3 F Bi (fun ss R U h=>?_) (fun cdv A outer s H E ss R U hr h=>?_)
 .obtain⟨fc,fm,gc,gm,a,b,c,S0,rfl,_⟩:=h;rfl
 obtain⟨fc,fm,gc,gm,a,b,c,S0,rfl,⟨rf,rg,cf,cg,lf,lg,hz,hn,s1,s2⟩,q0⟩:=h
 refine#[_,(Aa (AE 2 Bi (Al hr DP (a2 (vK 0) (vK 1))))
  (Aa (AE 3 Bi (Fm (a1 (Bl (a2 (KY rfl gc_NOUGHT) (Al hr Dr (a2 (A5 (A5 (vK 0) Ac) Ac) (A5 (A5 (vK 1) Ac) Ac))))))))
  (Aa (GS (Ch PassesOwn.never rfl (BP (PE3.out (Al hr Fg (a2 (Al hr Bk (a2 (vN 0) (vN 2))) (Al hr Bk (a2 (vN 1) (vN 2))))))) (A3 (i:=4) Bi.nd rfl (Or.inl rfl)) (Eg.out (Aa (AE 5 Bi (A5 (vN 3) (EO Ac)))
  (Af (Fo (BA (Fn qAE qAA qAB AN (pv 3) (AL (PE3.out (Bl (a2 (Al hr Dr (a2 (vK 5) (vK 4))) (Al hr Dr (a2 (vK 5) (vK 4)))))) BD)))))))))
  (Bg (Al hr DX (a2 (vN 3) (vN 2))))))),?_]
 have of:=rf.o
 have og:=rg.o
 have f0:=of.ne
 have g0:=og.ne
 have zf:=(lf.szk of (n:=1500) () ()).cs
 have zg:=(lg.szk og (n:=1500) () ()).cs
 have sf:∀k,k<fc.length->Sz b (slp fc fm k):=fun k hk=>(lf.ln of k hk).1
 have sg:∀k,k<gc.length->Sz b (slp gc gm k):=fun k hk=>(lg.ln og k hk).1
 have zfm:=lf.m of
 have zgm:=lg.m og
 refine#[fm,gm,b,b,rfl,zfm,zgm,(),?_]
 generalize eL:(if gm<fm then gm else fm)=last at q0 ⊢
 have zl:Sz b last:=by rw[<-eL];split<;>assumption
 have l1:last<=fm:=by rw[<-eL];split<;>grind
 have l2:last<=gm:=by rw[<-eL];split<;>grind
 have l3:last=fm\/last=gm:=by rw[<-eL];split<;>simp
 have m0:0<=last:=by
  have:=rf.m0
  have:=rg.m0
  grind
 obtain⟨p,pl,p1,p2⟩:=QR of cf l1
 obtain⟨q,ql,q1,q2⟩:=QR og cg l2
 refine atR (Ca (cs:=fc) (i:=0) 0 rfl f0) ?_
 refine atR (Ca (cs:=gc) (i:=0) 0 rfl g0) ?_
 refine#[_,_,_,_,rfl,(zf 0 f0).2,(zg 0 g0).2,(),?_]
 refine#[by show 2<=1000;decide,by show 1<=1000;decide,?_]
 refine#[fc,fm,last,p,1500,rfl,f0,of.up,(),zf,(),fun k hk=>(sf k hk).mono (),zl.mono (),pl,p1,p2,?_]
 refine#[gc,gm,last,q,1500,rfl,g0,og.up,(),zg,(),fun k hk=>(sg k hk).mono (),zl.mono (),ql,q1,q2,?_]
 refine#[fc,fm,gc,gm,last,p,q,rfl,#[of,og,cf,cg,pl,ql,p1,p2,q1,q2],(),(),fun k hk=>(sf k hk).mono (),fun k hk=>(sg k hk).mono (),fun W L h s=>?_]
 have y:Q7 fc fm gc gm last W:=h.fin p1 p2 q1 q2
 have wl:=h.wl
 have sl:=s.1
 have ml:=DS (fc:=fc) (gc:=gc) (W:=W)
 have O:=y.ord of og
 have ls:=So y of og cf cg l3 lf lg h.wb
 have zk:=ls.szk O (n:=3000) () ()
 have at0:∀n,n<W.length->(mcs fc gc W)[n]? = some (tt (mcs fc gc W) n,vv (mcs fc gc W) n):=fun n hn=>by
  have hn':n<(mcs fc gc W).length:=()
  rw[(Bm hn').1,(Bm hn').2,qAb hn']
 have e0:(mcs fc gc W).take 1=[(0,vv fc 0+vv gc 0)]:=by
  have h0:=at0 0 ()
  have a0:=BE (fc:=fc) (gc:=gc) (W:=W) (n:=0) ()
  rw[y.z0.1,y.z0.2,of.t0,og.t0] at a0
  rw[a0.1,a0.2] at h0
  rw[show(1:Nat)=0+1 from rfl,qA2,h0,qCS]
  show [((0:Rat)+0,_)]=_
  rw[show(0:Rat)+0=0 from ⋯]
 refine#[fun n τ=>∃(y4 y5:Option S),τ=[some (.d (crv fc fm)),some (.d (crv gc gm)),some (.d (qd last)),some (.l (((mcs fc gc W).take (n+1)).map cd)),y4,y5],#[none,none,by rw[e0];rfl],?_,?_]
 .rintro n τ x hx ⟨y4,y5,rfl⟩
  have hn:n<L.length:=(qAe.mp hx).1
  obtain⟨s',e⟩:=s.2 n ()
  rw[e] at hx
  cases hx
  have la:atI (((mcs fc gc W).take (n+1)).map cd) (-1)=some (cd (tt (mcs fc gc W) n,vv (mcs fc gc W) n)):=by
   refine HQ ?_
   rw[qAU,show min (n+1) (mcs fc gc W).length-1=n from (),qBH (),at0 n ()]
  refine atR la ?_
  have k1:=zk.cs n ()
  have k2:=zk.cs (n+1) ()
  have d1:=k2.1.sub k1.1
  have d2:=k2.2.sub k1.2
  refine#[_,_,_,_,rfl,k1.1,d1,(),?_]
  refine#[_,_,_,_,rfl,k1.2,d2,(),?_]
  refine#[by show 2<=1000;decide,by rw[qAa,qAU];omega,some (.d (.tup [s',qd (tt (mcs fc gc W) (n+1)-tt (mcs fc gc W) n),qd (vv (mcs fc gc W) (n+1)-vv (mcs fc gc W) n)])),some (.d (cd (tt (mcs fc gc W) n,vv (mcs fc gc W) n))),?_]
  have eT:((mcs fc gc W).take (n+1+1)).map cd=((mcs fc gc W).take (n+1)).map cd++[cd (tt (mcs fc gc W) (n+1),vv (mcs fc gc W) (n+1))]:=by
   rw[qA2 (i:=n+1),at0 (n+1) (),qAN]
   rfl
  have s1:tt (mcs fc gc W) n+(tt (mcs fc gc W) (n+1)-tt (mcs fc gc W) n)=tt (mcs fc gc W) (n+1):=⋯
  have s2:vv (mcs fc gc W) n+(vv (mcs fc gc W) (n+1)-vv (mcs fc gc W) n)=vv (mcs fc gc W) (n+1):=⋯
  dsimp only
  rw[s1,s2,eT]
  rfl
 rintro τ ⟨y4,y5,rfl⟩
 rw[qAX ()]
 refine#[_,mcs fc gc W,last,rfl,Or.inl rfl,ls.szd O () () (),fun _=>?_,fun z=>absurd #[O,m0] z]
 have kl:=JX (mcs fc gc W) last ((mcs fc gc W).length-1)
 refine q0 _ _ (HS O m0) rfl (fun t t0=>?_) (ls.kept O) ((UN y of og l3 s1 s2 h.wb).kept O) ()
 rw[(HF O t).1]
 exact y.val of og cf cg l3 t0
variable (BY:Cal P w K mg base (CXU P w) 7 "flattest_first" ["f","g"] D8)
theorem P8:Ad ["f","g"] ["f","g"] (Ab KR):=scN
include AH IE Br BY in
theorem PB (F:Fun K "joined" "joined" KR f fd):Aq P w K mg base CX0 11 f fd ["f","g"] (Ae K mg LD):=by
 refine fn3 F P8 (fun ss R U h=>?_) (fun cdv A outer s H E ss R U hr h=>?_)
 .obtain⟨fc,fm,gc,gm,a,b,c,N,S0,rfl,_⟩:=h;rfl
 obtain⟨fc,fm,gc,gm,a,b,c,N,S0,rfl,⟨rf,rg,zf,zg,hz,hn,h6,hN,sf,sg,hl,hz2⟩,q⟩:=h
 refine#[_,(P0 (B1 (PW3.pt (Ke (w_not (Tb (Al hr AH (a1 (vN 0))))) (Gg (w_not (Tb (Al hr AH (a1 (vN 1)))))))) (Bg (Al hr IE (a2 (Al hr IE (a2 (vN 0) (vN 1))) (Al hr BY (a2 (vN 0) (vN 1)))))) An)
  (Bg (Al hr Br (a2 (vN 0) (vN 1))))),?_]
 have of:=rf.o
 have og:=rg.o
 refine#[?_,?_]
 .refine#[fc,fm,a,b,c,rfl,of,zf,(),(),?_]
  refine#[_,rfl,?_]
  cases e1:flI fc fm with
  |cons=>rfl
  |nil =>
  refine#[gc,gm,a,b,c,rfl,og,zg,(),(),?_]
  refine#[_,rfl,?_]
  cases e2:flI gc gm with
  |cons=>rfl
  |nil =>
  have cf:=SQ e1
  have cg:=SQ e2
  refine#[fc,fm,gc,gm,4*(a+b+c)+2*b+8,b,2*(a+b+c)+3,S0,rfl,rf,rg,zf.mono () (qAf _) (),zg.mono () (qAf _) (),(),(),(),sf,sg,fun C1 M1 k1 e1 z1 t1 l1 v1=>?_]
  refine#[fc,fm,gc,gm,a,b,c,S0,rfl,#[rf,rg,cf,cg,zf,zg,hz2,hl,sf,sg],fun C2 M2 k2 e2 v2 z2 t2 l2=>?_]
  refine#[C1,M1,C2,M2,4*(a+b+c)+2*b+8,b,2*(a+b+c)+3,S0,rfl,#[#[k1.ne,k1.t0,k1.v0,k1.up,k1.vu],k1.m0],#[#[k2.ne,k2.t0,k2.v0,k2.up,k2.vu],k2.m0],z1,z2.mono () (qAf _) (qAf _),(),(),(),t1,t2,fun C M k3 e3 z3 t3 l3 v3=>?_]
  refine q C M k3 ?_ (fun t t0=>?_) (z3.mono () (qAf _) ()) t3 ()
  .rw[e3,e1,e2]
   unfold mn
   split<;>split<;>grind
  .rw[v3 t t0,v1 t t0]
   obtain⟨w1,s,s0,s1,w2⟩:=v2 t t0
   have m1:∀x y:Rat,mn x y<=x/\mn x y<=y/\(mn x y=x\/mn x y=y):=fun x y=>by
    unfold mn
    split<;>grind
   have a1:=m1 (val fc fm t) (val gc gm t)
   have a2:=m1 (mn (val fc fm t) (val gc gm t)) (val C2 M2 t)
   refine#[#[⋯,⋯,fun r r0 r1=>qAm a2.2.1 (w1 r r0 r1)],?_]
   rcases a2.2.2 with e|e
   .rcases a1.2.2 with e'|e'
    .exact .inl (e.trans e')
    .exact .inr (.inl (e.trans e'))
   .exact .inr (.inr #[s,s0,s1,e.trans w2])
 exact#[fc,fm,gc,gm,a,b,c,N,S0,rfl,#[rf,rg,zf,zg,hz,hn,h6,hN,sf,sg,hl],q]
variable (Gq:Cal P w K mg base (CXU P w) 11 "joined" ["f","g"] LD)
theorem Fq:Ad ["g"] ["g"] (Ab B0):=scN
include AG in
theorem Fj (F:Fun K "begin_and_steeper" "begin_and_steeper" B0 f fd):Aq P w K mg base CX0 7 f fd ["g"] (Ae K mg C5):=by
 refine fn3 F Fq (fun ss R U h=>?_) (fun cdv A outer s H E ss R U hr h=>?_)
 .obtain⟨cs,m,a,b,c,rfl,_⟩:=h;rfl
 obtain⟨cs,m,a,b,c,rfl,o,z,hs,hl,q⟩:=h
 refine#[_,(Bg (Kr J6 (Fm (a1 (A5 (vK 0) Ac))) (Al hr AG (a1 (vN 0))))),?_]
 have sl:(stI cs m).length<=cs.length:=by
  unfold CH.stI
  rw[qAa]
  have:=qBn (fun n=>decide (slp cs m n<slp cs m (n+1))) (List.range (cs.length-1))
  rw[qAq] at this
  omega
 refine atR (Ca (cs:=cs) (i:=0) 0 rfl o.ne) ?_
 refine#[by show 1<=1000;decide,?_]
 refine#[cs,m,a,b,c,rfl,o,z,hs,hl,?_]
 refine#[by rw[qAa];show 1+(stI cs m).length<=_;omega,?_]
 exact q
variable (Bt:Cal P w K mg base (CXU P w) 7 "begin_and_steeper" ["g"] C5)
theorem CU:Ad ["f","g","ones","others","found","corner"] ["f","g"] (Ab Kg):=scN
include Dr Aw gc_NOUGHT AH Bx Bq Ct F8 ED HX Cb BS Bt in
theorem PF (F:Fun K "undone" "undone" Kg f fd):Aq P w K mg base CX0 8 f fd ["f","g"] (Ae K mg Lr):=by
 refine fn3 F CU (fun ss R U h=>?_) (fun cdv A outer s H E ss R U hr h=>?_)
 .obtain⟨fc,fm,gc,gm,a,b,c,N,S0,rfl,_⟩:=h;rfl
 obtain⟨fc,fm,gc,gm,a,b,c,N,S0,rfl,⟨rf,rg,zf,zg,hb,hz,hn,hN,sf,sg,s0,fl,gl⟩,qn,q⟩:=h
 refine#[_,(Aa (B1 (BQ (Al hr Bx (a2 (vN 0) (vN 1)))) (Bg Hh) An)
  (Aa (AE 2 CU (Al hr ED (a1 (Al hr Bq (a1 (vN 0))))))
  (Aa (AE 3 CU (Al hr HX (a2 (Al hr Bq (a1 (vN 1))) (Al hr Dr (a2 (A5 (A5 (vK 0) (EO Ac)) Ac) (A5 (A5 (vK 1) (EO Ac)) Ac))))))
  (Aa (AE 4 CU (Fm (a1 (Bl (a2 (KY rfl gc_NOUGHT) (Bl (AV Ac (a2 Ac Ac))))))))
  (Aa (GS (Ch PassesOwn.never rfl (BP (PE3.out (Al hr Bt (a1 (vN 1))))) (A3 (i:=5) CU.nd rfl (Or.inl rfl)) (Eg.out (Af (AE 4 CU (Al hr BS (a2 (vN 4) (Al hr Cb (a1 (Al hr F8 (a2 (vN 2) (Bl (a2 (Al hr Aw (a2 (KY rfl gc_NOUGHT) (vK 5))) (vK 5))))))))))))))
  (Aa (GS (Ch PassesOwn.never rfl (BP (PE3.out (Al hr AH (a1 (vN 0))))) (A3 (i:=5) CU.nd rfl (Or.inl rfl)) (Eg.out (Af (AE 4 CU (Al hr BS (a2 (vN 4) (Al hr Cb (a1 (Al hr F8 (a2 (vN 3) (Bl (a2 (vK 5) (Al hr Aw (a2 (KY rfl gc_NOUGHT) (vK 5))))))))))))))))
  (Bg (Al hr Ct (a1 (Al hr ED (a1 (vN 4)))))))))))),?_]
 have of:=rf.o
 have og:=rg.o
 have f0:=of.ne
 have g0:=og.ne
 have zfm:=zf.m of
 have zgm:=zg.m og
 refine#[fc,fm,gc,gm,rfl,zfm.mono (),zgm.mono (),?_]
 refine B9 (fun c1=>qn c1) (fun c1=>?_)
 have hm:fm<=gm:=⋯
 have q:=q hm
 refine#[fc,fm,a,b,c,rfl,of,zf,(),(),?_]
 refine#[_,BC fc fm,rfl,Or.inr rfl,by rw[Be];omega,?_]
 refine#[gc,gm,a,b,c,rfl,og,zg,(),(),?_]
 refine atR (Pu (cs:=fc) 1 ∅ f0) ?_
 refine atR (Pu (cs:=gc) 1 ∅ g0) ?_
 have tfl:=zf.tm (fc.length-1) ()
 have tgl:=zg.tm (gc.length-1) ()
 refine#[_,_,a,a,rfl,tfl,tgl,(),?_]
 have zfar:Sz (2*a+1) (tt fc (fc.length-1)+tt gc (gc.length-1)):=(tfl.add tgl).mono ()
 refine#[gc,gm,_,2*a+2,rfl,g0,(),fun i hi=>(zg.tm i hi).mono (),zfar.mono (),(),?_]
 refine#[by show 3<=1000;decide,by show 2<=1000;decide,by show 1<=1000;decide,?_]
 obtain⟨K,hK⟩:∃K,K=2*a+3*b+3*c+12:=#[_,rfl]
 obtain⟨Z,hZ⟩:∃Z,Z=2*(a+b+c)+5:=#[_,rfl]
 obtain⟨X,hX⟩:∃X,X=4*(a+b+c)+2*b+16:=#[_,rfl]
 obtain⟨W,hW⟩:∃W,W=2*(fc.length*gc.length)+2*fc.length+gc.length+3:=#[_,rfl]
 rw[<-hZ,<-hX] at q
 rw[<-hW] at hn
 have sub:=Um of og sf sg s0
 have sL:(S0.map (fun y=>-y)).length=S0.length:=qAa _
 have sm0:(0:Rat)∈S0.map (fun y=>-y):=sub 0 Ws
 have sp:1<=S0.length:=qB9 s0
 have cnt:∀x,x<=W->x*(S0.map (fun y=>-y)).length<=N:=fun x hx=>qAD (by rw[sL];exact qAR _ hx) hn
 have WS:W<=40000:=by
  have:=qB0 W sp
  omega
 have plF:PL (b+c) a ((BC fc fm).map flR) ((Ck fc fm).map flP):=(Ep of zf).flipped
 have plG:PL (b+c) (2*a+4) (trR gc gm (tt fc (fc.length-1)+tt gc (gc.length-1))) (Hc (Ck gc gm) (tt fc (fc.length-1)+tt gc (gc.length-1))):=V3 og zg (n:=2*a+2) (zfar.mono ()) ()
 have ux:=Vp (b:=b) (Z:=Z) (X:=X) ()
 have stl:(stI gc gm).length+1<=gc.length:=by
  unfold CH.stI
  rw[qAa]
  have:=qBn (fun n=>decide (slp gc gm n<slp gc gm (n+1))) (List.range (gc.length-1))
  rw[qAq] at this
  omega
 have fll:(flI fc fm).length+1<=fc.length:=by
  unfold flI
  rw[qAa]
  have:=qBn (fun n=>decide (slp fc fm (n+1)<slp fc fm n)) (List.range (fc.length-1))
  rw[qAq] at this
  omega
 refine#[gc,gm,a,b,c,rfl,og,zg,(),(),?_]
 refine#[fun n τ=>∃(qs:List RP)(Q:Ps)(B:List Rat)(h:Rat->Rat)(y5:Option S),τ=[some (.d (crv fc fm)),some (.d (crv gc gm)),some (.l (((BC fc fm).map flR).map rpD)),some (.d (.lst ((trR gc gm (tt fc (fc.length-1)+tt gc (gc.length-1))).map rpD))),some (.l (qs.map rpD)),y5]/\Dy B ((S0.map (fun y=>-y))) (Gz b Z) (Sz X) K (2*K+1) h none qs Q/\0<Q.length/\bg Q 0=0/\Q8 (((0::stI gc gm).take n).map (cA fc fm gc)) h/\B.length<=n*fc.length,#[[((0,1),(0,0,1))],[(0,(0,0))],[],fun _=>0,none,rfl,QG sm0 hb () () () (),∅,rfl,Q8.nil,qA7 _],?_,?_]
 .rintro n τ x hx ⟨qs,Q,B,h,y5,rfl,r,ne,b0,mi,bl⟩
  obtain⟨k,hk,rfl⟩:=BN hx
  have nl:n<(0::stI gc gm).length:=(qAe.mp hk).1
  have nl:n<(stI gc gm).length+1:=nl
  have kl:k<gc.length:=by
   rcases qAl.mp (qAK hk) with rfl|z
   .exact g0
   .exact(FX.mp z).1
  have tg:=zg.tm k kl
  have vg:Sz (b+a+c+1) (vv gc k):=by
   have:=zg.va (Bo og kl) tg
   rw[A7 og kl] at this
   exact this
  refine#[0,tt gc k,1,a,rfl,Sz.zero,tg,(),?_]
  refine#[by show 2<=1000;decide,?_]
  have w1:Wq (a+b+c+3) (0-tt gc k).num ((0-tt gc k).den:Int) (0-tt gc k):=Wq.of ((Sz.zero.sub tg).mono ())
  have w2:Wq (a+b+c+3) (vv gc k).num ((vv gc k).den:Int) (vv gc k):=Wq.of (vg.mono ())
  refine#[_,(BC fc fm).map flR,(Ck fc fm).map flP,_,_,_,_,_,_,b+c,a,a+b+c+3,rfl,Or.inl rfl,plF,w1,w2,(),(),(),by rw[qAa,Be];omega,?_]
  have plA:PL K (2*K+1) (((BC fc fm).map flR).map (mvR (0-tt gc k).num ((0-tt gc k).den:Int) (vv gc k).num ((vv gc k).den:Int))) (pA fc fm gc k):=(plF.moved w1 w2).mono (k':=K) (m':=2*K+1) () ()
  have puA:=XX (fm:=fm) (gc:=gc) of (k:=k)
  have lA:=Py (fc:=fc) (fm:=fm) (gc:=gc) (k:=k)
  obtain⟨d,d1,d2,d3⟩:=P9 puA.up 0
  have d0:0<d:=by
   rcases qBo d with z|z
   .have:=d3 0 () (by rw[lA];exact f0)
    rw[(RD f0).1,of.t0] at this
    have:=Bo og kl
    grind
   .exact z
  have gA:=Yn of og zf zg kl (Z:=Z) (X:=X) () ()
  have oth:TK ((S0.map (fun y=>-y))) b Z X K (2*K+1) (frR (((BC fc fm).map flR).map (mvR (0-tt gc k).num ((0-tt gc k).den:Int) (vv gc k).num ((vv gc k).den:Int))) d) (frN (pA fc fm gc k) d) (cA fc fm gc k):=SS (K:=K) (m:=2*K+1) plA puA () () d0 d1 d2 d3 (fun x hx=>sub _ (gA.1 x hx)) gA.2
  refine#[_,pA fc fm gc k,K,2*K+1,d,rfl,plA,by rw[qAa,qAa,Be];omega,(),d0,d1,d2,d3,?_]
  have oL:(frN (pA fc fm gc k) d).length<=fc.length:=by rw[ET,lA];omega
  have ol':=oth.pl.len
  have nm:n*fc.length<=fc.length*gc.length:=by rw[qCE];exact qB0 _ ()
  have c1':=cnt (B.length+1) ()
  have c2':=cnt (B.length+(frN (pA fc fm gc k) d).length+1) ()
  have ql:qs.length<=40000:=by rw[r.pl.len];exact qAD (qAD r.cn.len c1') hN
  refine#[_,qs,frR (((BC fc fm).map flR).map (mvR (0-tt gc k).num ((0-tt gc k).den:Int) (vv gc k).num ((vv gc k).den:Int))) d,Q,frN (pA fc fm gc k) d,B,(S0.map (fun y=>-y)),Gz b Z,Sz X,K,2*K+1,h,cA fc fm gc k,rfl,Or.inr rfl,#[r,ne,oth.pl,oth.pu,oth.ne,oth.sl,oth.gd,ux,(),(),by rw[b0,oth.b0];exact qAd,fun z=>?_,(),()],fun qs' Q' r' ne' b0'=>?_]
  .rw[b0,oth.b0] at z;exact absurd z qBc
  rw[oth.b0] at r'
  refine#[qs',Q',_,_,_,rfl,r',ne',b0'.trans b0,?_,?_]
  .rw[qA2,hk,qAN]
   exact mi.add
  .rw[qAw,show(L7 (frN (pA fc fm gc k) d)).length=(frN (pA fc fm gc k) d).length from qAa _,Nat.add_mul]
   omega
 rintro τ ⟨qs,Q,B,h,y5,rfl,r,ne,b0,mi,bl⟩
 rw[qAa] at mi bl
 rw[qAX (qAf _)] at mi
 replace bl:B.length<=fc.length*gc.length:=qAD bl (by rw[qCE];exact qB0 _ (by show(stI gc gm).length+1<=_;exact stl))
 refine#[fc,fm,a,b,c,rfl,of,zf,(),(),?_]
 refine#[fun n τ=>∃(qs:List RP)(Q:Ps)(B:List Rat)(h:Rat->Rat)(y5:Option S),τ=[some (.d (crv fc fm)),some (.d (crv gc gm)),some (.l (((BC fc fm).map flR).map rpD)),some (.d (.lst ((trR gc gm (tt fc (fc.length-1)+tt gc (gc.length-1))).map rpD))),some (.l (qs.map rpD)),y5]/\Dy B ((S0.map (fun y=>-y))) (Gz b Z) (Sz X) K (2*K+1) h none qs Q/\0<Q.length/\bg Q 0=0/\Q8 ((0::stI gc gm).map (cA fc fm gc)++((flI fc fm).take n).map (cB fc gc gm)) h/\B.length<=fc.length*gc.length+n*(gc.length+1),#[qs,Q,B,h,_,rfl,r,ne,b0,by rw[qCS,qCW,qBq];exact mi,()],?_,?_]
 .clear r ne b0 mi bl
  clear qs Q B h y5
  rintro n τ x hx ⟨qs,Q,B,h,y5,rfl,r,ne,b0,mi,bl⟩
  obtain⟨k,hk,rfl⟩:=BN hx
  have nl:n<(flI fc fm).length:=(qAe.mp hk).1
  have hm':=Kq.mp (qAK hk)
  have kl:=hm'.1
  have tf:=zf.tm k kl
  have vf:Sz (b+a+c+1) (vv fc k):=by
   have:=zf.va (Bo of kl) tf
   rw[A7 of kl] at this
   exact this
  have tkl:tt fc k<=tt fc (fc.length-1):=AK of.up () ()
  have tk0:0<tt fc k:=by
   have h1:=of.up 0 ()
   rw[of.t0] at h1
   have h2:=AK of.up (i:=0+1) (j:=k) () kl
   grind
  have far1:tt gc (gc.length-1)<tt fc (fc.length-1)+tt gc (gc.length-1):=⋯
  refine#[0,vv fc k,1,b+a+c+1,rfl,Sz.zero,vf,(),?_]
  refine#[by show 2<=1000;decide,?_]
  have w1:Wq (a+b+c+3) (tt fc k).num ((tt fc k).den:Int) (tt fc k):=Wq.of (tf.mono ())
  have w2:Wq (a+b+c+3) (0-vv fc k).num ((0-vv fc k).den:Int) (0-vv fc k):=Wq.of ((Sz.zero.sub vf).mono ())
  have tl:(trR gc gm (tt fc (fc.length-1)+tt gc (gc.length-1))).length=gc.length+1:=by rw[plG.len,FG,AA]
  refine#[_,trR gc gm (tt fc (fc.length-1)+tt gc (gc.length-1)),Hc (Ck gc gm) (tt fc (fc.length-1)+tt gc (gc.length-1)),_,_,_,_,_,_,b+c,2*a+4,a+b+c+3,rfl,Or.inr rfl,plG,w1,w2,(),(),(),by rw[tl];omega,?_]
  have plA:PL K (2*K+1) ((trR gc gm (tt fc (fc.length-1)+tt gc (gc.length-1))).map (mvR (tt fc k).num ((tt fc k).den:Int) (0-vv fc k).num ((0-vv fc k).den:Int))) (pB fc gc gm (tt fc (fc.length-1)+tt gc (gc.length-1)) k):=(plG.moved w1 w2).mono (k':=K) (m':=2*K+1) () ()
  have puA:=Yp (fc:=fc) (gm:=gm) og (k:=k) far1
  have lA:=QC (fc:=fc) (gc:=gc) (gm:=gm) (k:=k) (far:=tt fc (fc.length-1)+tt gc (gc.length-1))
  have b00:=Zj (fc:=fc) (gm:=gm) og (k:=k) (far:=tt fc (fc.length-1)+tt gc (gc.length-1))
  obtain⟨d,d1,d2,d3⟩:=P9 puA.up 0
  have d0:0<d:=by
   rcases qBo d with z|z
   .have:=d3 0 () (by rw[lA];omega)
    rw[b00] at this
    have:=Bo og (show gc.length-1<gc.length from ())
    grind
   .exact z
  have gA:=Xo of og zf zg kl zfar (Z:=Z) (X:=X) hb () ()
  have oth:TK ((S0.map (fun y=>-y))) b Z X K (2*K+1) (frR ((trR gc gm (tt fc (fc.length-1)+tt gc (gc.length-1))).map (mvR (tt fc k).num ((tt fc k).den:Int) (0-vv fc k).num ((0-vv fc k).den:Int))) d) (frN (pB fc gc gm (tt fc (fc.length-1)+tt gc (gc.length-1)) k) d) (cB fc gc gm k):=SS (K:=K) (m:=2*K+1) plA puA () () d0 d1 d2 d3 (fun x hx=>sub _ (gA.1 x hx)) gA.2
  refine#[_,pB fc gc gm (tt fc (fc.length-1)+tt gc (gc.length-1)) k,K,2*K+1,d,rfl,plA,by rw[qAa,tl];omega,(),d0,d1,d2,d3,?_]
  have oL:(frN (pB fc gc gm (tt fc (fc.length-1)+tt gc (gc.length-1)) k) d).length<=gc.length+1:=by rw[ET,lA];omega
  have ol':=oth.pl.len
  have nm:(n+1)*(gc.length+1)<=fc.length*(gc.length+1):=qAR _ ()
  have n1:(n+1)*(gc.length+1)=n*(gc.length+1)+(gc.length+1):=qCD _ _
  have n2:fc.length*(gc.length+1)=fc.length*gc.length+fc.length:=Nat.mul_succ _ _
  have c1':=cnt (B.length+1) ()
  have c2':=cnt (B.length+(frN (pB fc gc gm (tt fc (fc.length-1)+tt gc (gc.length-1)) k) d).length+1) ()
  have ql:qs.length<=40000:=by rw[r.pl.len];exact qAD (qAD r.cn.len c1') hN
  refine#[_,qs,frR ((trR gc gm (tt fc (fc.length-1)+tt gc (gc.length-1))).map (mvR (tt fc k).num ((tt fc k).den:Int) (0-vv fc k).num ((0-vv fc k).den:Int))) d,Q,frN (pB fc gc gm (tt fc (fc.length-1)+tt gc (gc.length-1)) k) d,B,(S0.map (fun y=>-y)),Gz b Z,Sz X,K,2*K+1,h,cB fc gc gm k,rfl,Or.inr rfl,#[r,ne,oth.pl,oth.pu,oth.ne,oth.sl,oth.gd,ux,(),(),by rw[b0,oth.b0];exact qAd,fun z=>?_,(),()],fun qs' Q' r' ne' b0'=>?_]
  .rw[b0,oth.b0] at z;exact absurd z qBc
  rw[oth.b0] at r'
  refine#[qs',Q',_,_,_,rfl,r',ne',b0'.trans b0,?_,?_]
  .rw[qA2,hk,qAN,<-List.append_assoc]
   exact mi.add
  .rw[qAw,show(L7 (frN (pB fc gc gm (tt fc (fc.length-1)+tt gc (gc.length-1)) k) d)).length=(frN (pB fc gc gm (tt fc (fc.length-1)+tt gc (gc.length-1)) k) d).length from qAa _]
   omega
 clear r ne b0 mi bl
 clear qs Q B h y5
 rintro τ ⟨qs,Q,B,h,y5,rfl,r,ne,b0,mi,bl⟩
 rw[qAa] at mi bl
 rw[qAX (qAf _)] at mi
 have nm:(flI fc fm).length*(gc.length+1)<=fc.length*(gc.length+1):=qAR _ ()
 have n2:fc.length*(gc.length+1)=fc.length*gc.length+fc.length:=Nat.mul_succ _ _
 have c1':=cnt (B.length+1) ()
 have ql0:Q.length<=(B.length+1)*((S0.map (fun y=>-y))).length:=r.cn.len
 have ql:qs.length<=40000:=by rw[r.pl.len];exact qAD (qAD ql0 c1') hN
 obtain⟨o,m0,eM,iv,ls⟩:=Uu rf rg hm r ne b0 mi
 refine#[_,qs,rfl,Or.inl rfl,(),?_]
 have fl':(Q.map flP).length=Q.length:=qAa _
 refine#[_,qs.map flR,Q.map flP,K,2*K+1,rfl,Or.inr rfl,r.pl.flipped,by rw[qAa,r.pl.len];exact ne,by rw[qAa];omega,(),ls.szd o (by rw[A1];omega) () (),o,m0,?_]
 have ki:=HS o m0
 have kv:=fun t=>HF (m:=(ln (Q.map flP) ((Q.map flP).length-1)).1) o t
 have kl':=JX (Fp (Q.map flP)) (ln (Q.map flP) ((Q.map flP).length-1)).1 ((Fp (Q.map flP)).length-1)
 have kls:=ls.kept o
 have ksl:=(WI r o).kept o
 rw[A1] at ki kv kl' kls ksl
 rw[eM] at ki kv kl' kls ksl iv ⊢
 refine q _ ki (fun t t0=>?_) kls ksl ?_
 .rw[(kv t).1];exact iv t t0
 .omega
variable (H0:Cal P w K mg base (CXU P w) 8 "undone" ["f","g"] Lr)
theorem Je:Ad ["_law_script","_law_k"] ["_law_script","_law_k"] (Ab D4):=scN
include AM in
theorem ID (F:Fun K "_law_cell_at" "_law_cell_at" D4 f fd):Aq P w K mg base CX0 1 f fd ["_law_script","_law_k"] (Ae K mg EN):=by
 refine fn3 F Je (fun ss R U h=>?_) (fun cdv A outer s H E ss R U hr h=>?_)
 .obtain⟨ns,k,rfl,_⟩:=h;rfl
 obtain⟨ns,k,rfl,k0,k1,q⟩:=h
 refine#[_,(Aa (B1 (Cm K3 (vN 1) (DA AM (vN 0))) (Bg (A5 (vN 0) (vN 1))) An)
  (Bg (Ar Bd (Ar AF Ac (vN 1)) Ac))),?_]
 unfold cl at q
 refine B9 (fun c=>?_) (fun c=>?_)
 .rw[qAa] at c
  rw[if_pos c] at q
  refine atR (GK (ms:=ns) k.toNat () ()) ?_
  rw[show((k.toNat:Nat):Int)=k from ()]
  exact q
 .rw[qAa] at c
  rw[if_neg c] at q
  exact#[AI (m:=10) (n:=20) ∅ () ∅,q]
variable (Am:Cal P w K mg base (CXU P w) 1 "_law_cell_at" ["_law_script","_law_k"] EN)
theorem Cr:Ad ["_law_top","_law_bottom","_law_one","_law_other","_law_rest"] ["_law_top","_law_bottom"] (Ab Hj):=scN
include LY in
theorem Me (F:Fun K "_law_low" "_law_low" Hj f fd):Aq P w K mg base CX0 1 f fd ["_law_top","_law_bottom"] (Ae K mg Jg):=by
 refine fn3 F Cr (fun ss R U h=>?_) (fun cdv A outer s H E ss R U hr h=>?_)
 .obtain⟨a,b,rfl,_⟩:=h;rfl
 obtain⟨a,b,rfl,hb,h1,h2,q⟩:=h
 refine#[_,(Aa (AE 2 Cr (Kt Ua rfl LY qCf (a1 (vN 0))))
  (Aa (AE 3 Cr (vN 1))
  (Aa (G3 PassesOwn.never (Cm US (vN 3) Ac) (Aa (AE 4 Cr (Ar Dx (vN 2) (vN 3)))
  (Aa (AE 2 Cr (vN 3))
  (Af (AE 3 Cr (vN 4))))))
  (Bg (Bl (a2 (Ar C4 (vN 0) (vN 2)) (Ar C4 (vN 1) (vN 2)))))))),?_]
 have hb0:b≠0:=by clear h1 h2;omega
 have hp:=IY (a:=a) hb0
 have hc:=Oo (a:=a) hb0
 have e:cm a b=g a b:=if_neg (by clear h1 h2;omega)
 rw[e] at hp hc
 have ga:=VP a b
 rw[if_neg (show ¬b<0 by clear h1 h2;omega)] at ga
 refine#[fun m τ=>∃x y z,τ=[I a,I b,I x,I y,z]/\0<=x/\0<=y/\g x y=g a b/\m=y.toNat,#[_,_,_,_,rfl,QB a,Int.le_of_lt hb,ga,rfl],?_]
 rintro m τ ⟨x,y,z,rfl,k1,k2,k3,rfl⟩
 refine B9 (fun c=>?_) (fun c=>?_)
 .clear h1 h2
  have c:0<y:=c
  refine#[(),(x.fmod y).toNat,?_,_,_,_,rfl,k2,?_,?_,rfl]
  .have:=qCu x (show 0<y from ())
   omega
  .exact qB8 x ()
  .rw[<-k3,qCx x k2]
   exact SY ()
 .have c:y=0:=by have:¬0<y:=c;omega
  subst c
  rw[W3 k1] at k3
  subst k3
  refine#[#[hc,Xl h1],#[hc,Xl h2],(by show 2<=1000;decide),?_]
  show R (.d (.tup [.int (a.fdiv (g a b)),.int (b.fdiv (g a b))]))
  rw[hp.1,hp.2]
  exact q
variable (A6:Cal P w K mg base (CXU P w) 1 "_law_low" ["_law_top","_law_bottom"] Jg)
theorem Mb:Ad ["_law_one","_law_other"] ["_law_one","_law_other"] (Ab G8):=scN
theorem MA (F:Fun K "_law_add" "_law_add" G8 f fd):Aq P w K mg base CX0 1 f fd ["_law_one","_law_other"] (Ae K mg IV):=by
 refine fn3 F Mb (fun ss R U h=>?_) (fun cdv A outer s H E ss R U hr h=>?_)
 .obtain⟨a,b,c,d,rfl,_⟩:=h;rfl
 obtain⟨a,b,c,d,rfl,⟨h1,h2,h3,h4⟩,q⟩:=h
 refine#[_,(Bg (Bl (a2 (Ar Bd (Ar AF (vK 0) (vK 1)) (Ar AF (vK 1) (vK 0))) (Ar AF (vK 0) (vK 1))))),?_]
 exact#[AI h1 h4 ∅,AI h3 h2 ∅,AI h2 h4 ∅,(by show 2<=1000;decide),q]
variable (Cw:Cal P w K mg base (CXU P w) 1 "_law_add" ["_law_one","_law_other"] IV)
theorem Lq:Ad ["_law_one","_law_other"] ["_law_one","_law_other"] (Ab FH):=scN
theorem Lj (F:Fun K "_law_take" "_law_take" FH f fd):Aq P w K mg base CX0 1 f fd ["_law_one","_law_other"] (Ae K mg Hv):=by
 refine fn3 F Lq (fun ss R U h=>?_) (fun cdv A outer s H E ss R U hr h=>?_)
 .obtain⟨a,b,c,d,rfl,_⟩:=h;rfl
 obtain⟨a,b,c,d,rfl,⟨h1,h2,h3,h4⟩,q⟩:=h
 refine#[_,(Bg (Bl (a2 (Ar C6 (Ar AF (vK 0) (vK 1)) (Ar AF (vK 1) (vK 0))) (Ar AF (vK 0) (vK 1))))),?_]
 exact#[AI h1 h4 ∅,AI h3 h2 ∅,AI h2 h4 ∅,(by show 2<=1000;decide),q]
variable (Dv:Cal P w K mg base (CXU P w) 1 "_law_take" ["_law_one","_law_other"] Hv)
theorem J8:Ad ["_law_one","_law_other"] ["_law_one","_law_other"] (Ab E6):=scN
theorem KI (F:Fun K "_law_up_to" "_law_up_to" E6 f fd):Aq P w K mg base CX0 1 f fd ["_law_one","_law_other"] (Ae K mg GL):=by
 refine fn3 F J8 (fun ss R U h=>?_) (fun cdv A outer s H E ss R U hr h=>?_)
 .obtain⟨a,b,c,d,rfl,_⟩:=h;rfl
 obtain⟨a,b,c,d,rfl,⟨h1,h2,h3,h4⟩,q⟩:=h
 refine#[_,(Bg (MP Zn (Ar AF (vK 0) (vK 1)) (Ar AF (vK 1) (vK 0)) (Hx _))),?_]
 exact#[AI h1 h4 ∅,AI h3 h2 ∅,q]
variable (BF:Cal P w K mg base (CXU P w) 1 "_law_up_to" ["_law_one","_law_other"] GL)
theorem Ej:Ad ["_law_f","_law_k","_law_high","_law_wide"] ["_law_f","_law_k"] (Ab E3):=scN
include AM Dv in
theorem J9 (F:Fun K "_law_slope" "_law_slope" E3 f fd):Aq P w K mg base CX0 2 f fd ["_law_f","_law_k"] (Ae K mg GW):=by
 refine fn3 F Ej (fun ss R U h=>?_) (fun cdv A outer s H E ss R U hr h=>?_)
 .obtain⟨cs,m,k,j,n,rfl,_⟩:=h;rfl
 obtain⟨cs,m,k,j,n,rfl,rfl,jl,up,hn,zc,zm,q⟩:=h
 refine#[_,(Aa (B1 (Cm K1 (Ar Bd (vN 1) Ac) (DA AM (vK 0))) (Bg (vK 0)) An)
  (Aa (AE 2 Ej (Al hr Dv (a2 (A5 (A5 (vK 0) (Ar Bd (vN 1) Ac)) Ac) (A5 (A5 (vK 0) (vN 1)) Ac))))
  (Aa (AE 3 Ej (Al hr Dv (a2 (A5 (A5 (vK 0) (Ar Bd (vN 1) Ac)) Ac) (A5 (A5 (vK 0) (vN 1)) Ac))))
  (Bg (Bl (a2 (Ar AF (vK 2) (vK 3)) (Ar AF (vK 2) (vK 3)))))))),?_]
 refine B9 (fun c=>?_) (fun c=>?_)
 .rw[qAa] at c
  have e:slp cs m j=m:=Az ()
  rw[e] at q
  exact q _ _ ((Wq.of zm).mono ())
 .rw[qAa] at c
  have j1:j+1<cs.length:=()
  have b1:=Ca (cs:=cs) (i:=(j:Int)+1) (j+1) () j1
  have b0:=Ca (cs:=cs) (i:=(j:Int)) j rfl jl
  have z1:=zc _ j1
  have z0:=zc _ jl
  refine atR b1 ?_
  refine atR b0 ?_
  refine#[_,_,_,_,rfl,l4 z1.2 z0.2 (),?_]
  refine atR b1 ?_
  refine atR b0 ?_
  refine#[_,_,_,_,rfl,l4 z1.1 z0.1 (),?_]
  have w1:=(Wq.of z1.2).minus (Wq.of z0.2)
  have w2:=(Wq.of z1.1).minus (Wq.of z0.1)
  refine#[AI w1.la w2.lb (),AI w1.lb w2.la (),(by show 2<=1000;decide),?_]
  rw[B7 j1] at q
  exact q _ _ ((w1.div w2 (RH (up j j1))).mono ())
variable (DD:Cal P w K mg base (CXU P w) 2 "_law_slope" ["_law_f","_law_k"] GW)
theorem GJ:Ad ["_law_found","_law_part"] ["_law_found"] (Ab E7):=scN
include A4 My Iw AM DY A6 in
theorem Ku (F:Fun K "_law_ratio" "_law_ratio" E7 f fd):Aq P w K mg base CX0 2 f fd ["_law_found"] (Ae K mg Gr):=by
 refine fn3 F GJ (fun ss R U h=>?_) (fun cdv A outer s H E ss R U hr h=>?_)
 .obtain⟨q0,rfl,_⟩:=h;rfl
 obtain⟨q0,rfl,hz,q⟩:=h
 refine#[_,(P0 (B1 (PW3.pt (OI (w_not (BQ (OX .tuple (vN 0) rfl A4 rfl DY qCH))) (Jb (Cm X8 (DA AM (vN 0)) Ac)))) (Bg Q6) An)
  (Aa (OL (Ch PassesOwn.never rfl (BP (pv 0)) (A3 (i:=1) GJ.nd rfl (Or.inl rfl)) (Eg.out (Af (B1 (PW3.pt (OI (w_not (BQ (OX .int (vN 1) rfl A4 rfl My qCT))) (Jb (BQ (OX .bool (vN 1) rfl A4 rfl Iw qCM))))) (Bg Q6) An)))))
  (Bg (RZ (MP US (vK 0) Ac (Hx _)) (Sb (MP (Ss 1 (hu_ hr ∅)) (Al hr A6 (a2 (vK 0) (vK 0))) (vN 0) (Hx _))))))),?_]
 have hd:=den_pos q0
 refine#[#[trivial,rfl],?_]
 refine#[fun n τ=>∃z,τ=[some (.d (qd q0)),z],#[_,rfl],?_,?_]
 .rintro n τ x hx ⟨z,rfl⟩
  have ex:∃i,x=.int i:=by
   match n,hx with
   |0,hx=>exact#[_,(qAn hx).symm]
   |1,hx=>exact#[_,(qAn hx).symm]
  obtain⟨i,rfl⟩:=ex
  exact#[trivial,#[trivial,#[_,rfl]]]
 rintro τ ⟨z,rfl⟩
 refine B9 (fun _=>?_) (fun c=>absurd (show(0:Int)<q0.den from ()) c)
 refine#[q0.num,q0.den,rfl,(),hz.1,Ay hz,rfl,rfl,?_]
 rw[qB2]
 have e:eqN 1 (qd q0) (qd q0)=true:=GU 1 _ rfl
 show R (.d (.bl (eqN 1 (qd q0) (qd q0))))
 rw[e]
 exact q
variable (AS:Cal P w K mg base (CXU P w) 2 "_law_ratio" ["_law_found"] Gr)
theorem AJ:Ad ["_law_cells","_law_slopes_here","_law_slope_here","_law_cell","_law_kind"] ["_law_cells"] (Ab Es):=scN
theorem Jo (F:Fun K "_law_slopes" "_law_slopes" Es f fd):Aq P w K mg base CX0 1 f fd ["_law_cells"] (Ae K mg Fu):=by
 refine fn3 F AJ (fun ss R U h=>?_) (fun cdv A outer s H E ss R U hr h=>?_)
 .obtain⟨ms,rfl,_⟩:=h;rfl
 obtain⟨ms,rfl,hl,q⟩:=h
 refine#[_,(Aa (AE 1 AJ (Fm LA))
  (Aa (AE 2 AJ Ac)
  (Aa (OL (Ch PassesOwn.never rfl (BP (pv 0)) (A3 (i:=3) AJ.nd rfl (Or.inl rfl)) (Eg.out (Aa (AE 4 AJ (Ar Dx (vN 3) Ac))
  (Cd (B1 (Cm K1 (vN 4) Ac) (Af (AE 2 AJ Ac)) An)
  (Cd (B1 (Cm K1 (vN 4) Ac) (Af (AE 2 AJ Ac)) An)
  (Cd (B1 (Cm K1 (vN 4) Ac) (Af (AE 2 AJ (Ar Bd Ac (Ar Dx (Ar C4 (vN 3) Ac) Ac)))) An)
  (Cd (B1 (Cm K1 (vN 4) Ac) (Af (AE 2 AJ (Ar Bd Ac (Ar Dx (Ar C4 (vN 3) Ac) Ac)))) An)
  (Cd (B1 (Cm K1 (vN 4) Ac) (Af (AE 2 AJ (Ar Bd Ac (Ar Dx (Ar C4 (vN 3) Ac) (Ar SA Ac Ac))))) An)
  (Af (Fo (BA (Fn qAE qAA qAB AN (pv 1) (AL (PE3.out (vN 2)) BD))))))))))))))
  (Af (Cj (pv 1)))))),?_]
 refine#[(by show 0<=1000;decide),?_]
 refine#[fun n τ=>∃(s:Int)(sl:List Int)(y3 y4:Option S),τ=[some (.d (.lst (ms.map D.int))),some (.l (sl.map D.int)),I s,y3,y4]/\sl.length=n/\0<=s/\s<=2000000000000/\∀x∈sl,0<=x/\x<=2000000000000,#[0,[],_,_,rfl,rfl,∅,∅,fun x hx=>by cases hx],?_,?_]
 .rintro n τ x hx ⟨s,sl,y3,y4,rfl,e,s0,s1,bs⟩
  have hn:n<ms.length:=by have:=(qAe.mp hx).1;rw[qAa] at this;exact this
  obtain⟨c,_,rfl⟩:=BN hx
  have h12:(0:Int)<10^(12:Int).toNat:=∅
  have h121:(10:Int)^(12:Int).toNat=1000000000000:=∅
  have f5:=fm (a:=c.fdiv 24) (show(0:Int)<5 from ∅)
  have f1000:=fm (a:=c.fdiv 24) (show(0:Int)<1000 from ∅)
  have f12:=fm (a:=c.fdiv 24) h12
  refine#[∅,?_]
  refine#[fun τ=>∃s:Int,τ=[some (.d (.lst (ms.map D.int))),some (.l (sl.map D.int)),I s,I c,I (c.fmod 6)]/\0<=s/\s<=2000000000000,?_,?_]
  .refine B9 (fun _=>#[0,rfl,∅,∅]) (fun _=>#[s,rfl,s0,s1])
  clear s0 s1
  rintro τ ⟨s,rfl,s0,s1⟩
  refine#[fun τ=>∃s:Int,τ=[some (.d (.lst (ms.map D.int))),some (.l (sl.map D.int)),I s,I c,I (c.fmod 6)]/\0<=s/\s<=2000000000000,?_,?_]
  .refine B9 (fun _=>#[1,rfl,∅,∅]) (fun _=>#[s,rfl,s0,s1])
  clear s0 s1
  rintro τ ⟨s,rfl,s0,s1⟩
  refine#[fun τ=>∃s:Int,τ=[some (.d (.lst (ms.map D.int))),some (.l (sl.map D.int)),I s,I c,I (c.fmod 6)]/\0<=s/\s<=2000000000000,?_,?_]
  .refine B9 (fun _=>#[#[∅,HJ ∅],∅,_,rfl,(),()]) (fun _=>#[s,rfl,s0,s1])
  clear s0 s1
  rintro τ ⟨s,rfl,s0,s1⟩
  refine#[fun τ=>∃s:Int,τ=[some (.d (.lst (ms.map D.int))),some (.l (sl.map D.int)),I s,I c,I (c.fmod 6)]/\0<=s/\s<=2000000000000,?_,?_]
  .refine B9 (fun _=>#[#[∅,HJ ∅],∅,_,rfl,(),()]) (fun _=>#[s,rfl,s0,s1])
  clear s0 s1
  rintro τ ⟨s,rfl,s0,s1⟩
  refine#[fun τ=>∃s:Int,τ=[some (.d (.lst (ms.map D.int))),some (.l (sl.map D.int)),I s,I c,I (c.fmod 6)]/\0<=s/\s<=2000000000000,?_,?_]
  .refine B9 (fun _=>#[#[∅,HJ ∅],#[∅,∅,∅],qBA h12,_,rfl,(),by rw[h121] at f12 ⊢;omega]) (fun _=>#[s,rfl,s0,s1])
  clear s0 s1
  rintro τ ⟨s,rfl,s0,s1⟩
  refine#[by rw[qAa];omega,s,sl++[s],_,_,by rw[qAN];rfl,by rw[qAw,e];rfl,s0,s1,fun x hx=>?_]
  rcases qAr.mp hx with h|h
  .exact bs x h
  .rw[qAI.mp h];exact#[s0,s1]
 rintro τ ⟨s,sl,y3,y4,rfl,e,s0,s1,bs⟩
 rw[qAa] at e
 exact q sl e bs
variable (De:Cal P w K mg base (CXU P w) 1 "_law_slopes" ["_law_cells"] Fu)
theorem As:Ad ["_law_head","_law_cells","_law_start","_law_shape","_law_unit","_law_part","_law_slopes_here","_law_time","_law_value","_law_corners","_law_k","_law_gap"] ["_law_head","_law_cells","_law_start","_law_shape"] (Ab EY):=scN
variable (GN:mg "sorted"=none)
include AM AY DY A6 De GN in
theorem Kk (F:Fun K "_law_drawn" "_law_drawn" EY f fd):Aq P w K mg base CX0 2 f fd ["_law_head","_law_cells","_law_start","_law_shape"] (Ae K mg Gv):=by
 refine fn3 F As (fun ss R U h=>?_) (fun cdv A outer s H E ss R U hr h=>?_)
 .obtain⟨c,ms,st,sh,rfl,_⟩:=h;rfl
 obtain⟨c,ms,st,sh,rfl,m0,m1,s0,s1,q⟩:=h
 refine#[_,(Aa (AE 4 As (Ar Bd Ac (Ar Dx (vN 0) Ac)))
  (Aa (AE 5 As (Ar Bd Ac (Ar Dx (Ar C4 (vN 0) Ac) Ac)))
  (Cd (B1 (Cm K1 (Ar Dx (Ar C4 (vN 0) Ac) Ac) Ac) (Af (AE 4 As (Ar Bd Ac (Ar Dx (Ar C4 (vN 0) Ac) (Ar SA Ac Ac))))) An)
  (Aa (AE 6 As (Al hr De (a1 (vN 1))))
  (Cd (B1 (Cm K1 (vN 3) Ac) (Af (AE 6 As (O1 (vN 6) rfl GN))) An)
  (Cd (B1 (Cm K1 (vN 3) Ac) (Af (AE 6 As (Sx (vN 6) rfl GN))) An)
  (Aa (AE 7 As Ac)
  (Aa (AE 8 As (vN 2))
  (Aa (AE 9 As (Fm (a1 (Bl (a2 (Bl (a2 Ac Ac)) (Al hr A6 (a2 (vN 8) (Ar AF (vN 4) (vN 5)))))))))
  (Aa (P5 (Ch PassesOwn.never rfl (CO rfl AY (PA3.out (a2 Ac (DA AM (vN 1))))) (A3 (i:=10) As.nd rfl (Or.inl rfl)) (Eg.out (Aa (AE 11 As (Ar Bd Ac (Ar Dx (Ar C4 (A5 (vN 1) (Ar C6 (vN 10) Ac)) Ac) Ac)))
  (Cd (B1 (Cm K1 (vN 11) Ac) (Af (AE 11 As (Ar Bd Ac (Ar Dx (Ar AF (A5 (vN 1) (Ar C6 (vN 10) Ac)) Ac) Ac)))) An)
  (Aa (AE 7 As (Ar Bd (vN 7) (vN 11)))
  (Aa (AE 8 As (Ar Bd (vN 8) (Ar AF (vN 11) (A5 (vN 6) (Ar C6 (vN 10) Ac)))))
  (Af (B1 (Cm X8 (A5 (vN 6) (vN 10)) (A5 (vN 6) (Ar C6 (vN 10) Ac))) (Af (Fo (BA (Fn qAE qAA qAB AN (pv 9) (AL (PE3.out (Bl (a2 (Al hr A6 (a2 (vN 7) (vN 4))) (Al hr A6 (a2 (vN 8) (Ar AF (vN 4) (vN 5))))))) BD))))) An)))))))))
  (Bg (Bl (a2 (Q0 (vN 9) rfl DY) (Al hr A6 (a2 (A5 (vN 6) (EO Ac)) (vN 5)))))))))))))))),?_]
 have h12:(0:Int)<10^(12:Int).toNat:=∅
 have h121:(10:Int)^(12:Int).toNat=1000000000000:=∅
 have f6:=fm (a:=c) (show(0:Int)<6 from ∅)
 have f5:=fm (a:=c.fdiv 6) (show(0:Int)<5 from ∅)
 have f12:=fm (a:=c.fdiv 120) h12
 refine#[∅,#[∅,HJ ∅],∅,?_]
 refine#[fun τ=>∃u p:Int,τ=[I c,some (.d (.lst (ms.map D.int))),I st,I sh,I u,I p,none,none,none,none,none,none]/\0<u/\u<=1000000000000/\0<p/\p<=5,?_,?_]
 .refine#[#[∅,HJ ∅],∅,?_]
  refine B9 (fun _=>?_) (fun _=>#[_,_,rfl,(),(),(),()])
  exact#[#[∅,HJ ∅],#[∅,∅,∅],qBA h12,_,_,rfl,(),by rw[h121] at f12 ⊢;omega,(),()]
 clear f6 f5 f12
 rintro τ ⟨u,p,rfl,u0,u1,p0,p1⟩
 refine#[ms,rfl,m1,fun sl el bs=>?_]
 refine#[fun τ=>∃sl:List Int,τ=[I c,some (.d (.lst (ms.map D.int))),I st,I sh,I u,I p,some (.l (sl.map D.int)),none,none,none,none,none]/\sl.length=ms.length/\∀x∈sl,0<=x/\x<=2000000000000,?_,?_]
 .refine B9 (fun _=>?_) (fun _=>#[sl,rfl,el,bs])
  exact#[sl,rfl,(),fun sl' pm=>#[sl',rfl,by rw[pm.length_eq];exact el,fun x hx=>bs x (pm.mem_iff.mp hx)]]
 clear bs el
 clear sl
 rintro τ ⟨sl,rfl,el,bs⟩
 refine#[fun τ=>∃sl:List Int,τ=[I c,some (.d (.lst (ms.map D.int))),I st,I sh,I u,I p,some (.l (sl.map D.int)),none,none,none,none,none]/\sl.length=ms.length/\∀x∈sl,0<=x/\x<=2000000000000,?_,?_]
 .refine B9 (fun _=>?_) (fun _=>#[sl,rfl,el,bs])
  exact#[sl,rfl,(),fun sl' pm=>#[sl',rfl,by rw[pm.length_eq];exact el,fun x hx=>bs x (pm.mem_iff.mp hx)]]
 clear bs el
 clear sl
 rintro τ ⟨sl,rfl,el,bs⟩
 have up0:0<u*p:=qBd u0 p0
 have ub:u.natAbs<2^41:=()
 have pb:p.natAbs<2^4:=()
 have upb:(u*p).natAbs<2^100:=AU (Ak ub pb) ∅
 have ub':u.natAbs<2^100:=AU ub ∅
 have mup:IntMulOk u p:=AI ub pb ∅
 have stb:st.natAbs<2^100:=()
 have u13:∀{x:Nat},x<2^100->x<2^13000:=fun h=>AU h ∅
 have upb68:(u*p).natAbs<2^68:=AU (Ak ub pb) ∅
 have s9:∀j:Nat,j<sl.length->0<=cell sl j/\cell sl j<=2000000000000:=fun j hj=>by
  refine bs _ ?_
  unfold cell
  rw[qBR,qAg,qAb hj]
  exact qA6 hj
 have zsl:∀j:Nat,j<sl.length->Sz 45 (Rat.divInt (cell sl j) p):=fun j hj=>by
  have:=s9 j hj
  exact MK p0 () (AU pb ∅)
 refine#[(by show 2<=1000;decide),mup,st,u*p,rfl,up0,u13 stb,u13 upb,(by show 2<=1000;decide),(by show 1<=1000;decide),?_]
 refine#[#[∅,∅,by rw[qAa];omega,by rw[qAa];omega],?_]
 refine#[fun n τ=>∃(ti va:Int)(cs:Cs)(y10 y11:Option S),τ=[I c,some (.d (.lst (ms.map D.int))),I st,I sh,I u,I p,some (.l (sl.map D.int)),I ti,I va,some (.l (cs.map cd)),y10,y11]/\Ord cs/\(Ln 45 68 cs (Rat.divInt (cell sl n) p)/\(∀i,i<cs.length->Sz 41 (tt cs i)/\Sz 68 (vv cs i))/\Rat.divInt va (u*p)=vv cs (cs.length-1)+Rat.divInt (cell sl n) p*(Rat.divInt ti u-tt cs (cs.length-1)))/\cs.length<=n+1/\vv cs 0=Rat.divInt st (u*p)/\tt cs (cs.length-1)<=Rat.divInt ti u/\vv cs (cs.length-1)<=Rat.divInt va (u*p)/\0<=ti/\ti<=n*1000010/\0<=va/\va<=4000000000000+n*2000020000000000000,#[0,st,[(0,Rat.divInt st (u*p))],_,_,rfl,Ord.one (Im up0 s0),#[Ln.one (zsl 0 ()) (by show Sz 68 (Rat.divInt st (u*p)-Rat.divInt (cell sl 0) p*0);rw[show Rat.divInt st (u*p)-Rat.divInt (cell sl 0) p*0=Rat.divInt st (u*p) from ⋯];exact MK up0 () upb68),fun i hi=>by(have:i=0:=by(have:i<1:=hi;omega));subst this;exact#[Sz.zero.mono ∅,MK up0 () upb68],by rw[qCK];show Rat.divInt st (u*p)=Rat.divInt st (u*p)+Rat.divInt (cell sl 0) p*(0-0);grind],qAf _,rfl,by rw[qCK];exact qAd,qAd,∅,∅,s0,()],?_,?_]
 .rintro n τ hn ⟨ti,va,cs,y10,y11,rfl,oc,⟨zl,zt,onl⟩,lc,hv0,ht,hv,t0,t1,v0,v1⟩
  rw[qAa] at hn
  have nl:n+1<ms.length:=()
  have b0:=GK (ms:=ms) (i:=1+n*1-1) n () ()
  have c0:=GK (ms:=sl) (i:=1+n*1-1) n () ()
  have c1:=GK (ms:=sl) (i:=1+n*1) (n+1) () ()
  have sn:=s9 n ()
  refine atR b0 ?_
  have f4:=fm (a:=(cell ms n).fdiv 6) (show(0:Int)<4 from ∅)
  have f3:=fm (a:=cell ms n*48271) (show(0:Int)<1000003 from ∅)
  refine#[#[∅,HJ ∅],∅,?_]
  refine#[fun τ=>∃g:Int,τ=[I c,some (.d (.lst (ms.map D.int))),I st,I sh,I u,I p,some (.l (sl.map D.int)),I ti,I va,some (.l (cs.map cd)),I (1+n*1),I g]/\1<=g/\g<=1000010,?_,?_]
  .refine B9 (fun _=>?_) (fun _=>#[_,rfl,(),()])
   refine atR b0 ?_
   exact#[PySem.IntMulOk.of_right ∅,∅,_,rfl,(),()]
  clear f4 f3
  rintro τ ⟨g,rfl,g0,g1⟩
  refine atR c0 ?_
  have sn1:=s9 (n+1) ()
  have zs1:=zsl (n+1) ()
  generalize ecx:cell sl n=x at sn zl onl ⊢
  have gx:0<=g*x:=qB4 () sn.1
  have gx1:g*x<=1000010*2000000000000:=Int.mul_le_mul g1 sn.2 sn.1 ∅
  refine#[AI (m:=21) (n:=42) () () ∅,?_]
  refine atR c1 ?_
  refine atR c0 ?_
  have lt1:Rat.divInt ti u<Rat.divInt (ti+g) u:=LM u0 ()
  have le1:Rat.divInt va (u*p)<=Rat.divInt (va+g*x) (u*p):=OV up0 ()
  have tb:(ti+g).natAbs<2^100:=()
  have vb:(va+g*x).natAbs<2^100:=()
  have n60:(n:Int)<=58:=()
  have st2:=Ph (va:=va) (g:=g) (x:=x) (ti:=ti) u0 p0
  have onl2:Rat.divInt (va+g*x) (u*p)=vv cs (cs.length-1)+Rat.divInt x p*(Rat.divInt (ti+g) u-tt cs (cs.length-1)):=by
   rw[st2,onl]
   generalize Rat.divInt x p=M
   generalize Rat.divInt ti u=X0
   generalize Rat.divInt (ti+g) u=X1
   generalize vv cs (cs.length-1)=Y
   generalize tt cs (cs.length-1)=Z
   grind
  refine Ui (fun _=>?_) (fun ne=>?_)
  .refine#[ti+g,u,rfl,u0,u13 tb,u13 ub',mup,va+g*x,u*p,rfl,up0,u13 vb,u13 upb,(by show 2<=1000;decide),by rw[qAa];omega,?_]
   have o2:Ord (cs++[(Rat.divInt (ti+g) u,Rat.divInt (va+g*x) (u*p))]):=oc.snoc (c:=(Rat.divInt (ti+g) u,Rat.divInt (va+g*x) (u*p))) (by show _<Rat.divInt (ti+g) u;grind) (by show _<=Rat.divInt (va+g*x) (u*p);grind)
   have ln:(cs++[(Rat.divInt (ti+g) u,Rat.divInt (va+g*x) (u*p))]).length-1=cs.length:=by rw[BM];omega
   refine#[_,_,cs++[(Rat.divInt (ti+g) u,Rat.divInt (va+g*x) (u*p))],_,_,by rw[qAN];rfl,o2,#[zl.snoc (Lz (by show Rat.divInt (va+g*x) (u*p)-_=Rat.divInt x p*(Rat.divInt (ti+g) u-_);rw[onl2];grind) (by show Rat.divInt (ti+g) u-_≠0;grind)) zs1 ?_,?_,?_],by rw[BM];omega,by rw[OE oc.ne];exact hv0,by rw[ln,Q3];exact qAd,by rw[ln,SW];exact qAd,(),(),(),()]
   .show Sz 68 (Rat.divInt (va+g*x) (u*p)-Rat.divInt (cell sl ((n+1:Nat):Int)) p*Rat.divInt (ti+g) u)
    rw[T5 u0 p0]
    have m1:(va+g*x).natAbs<2^67:=()
    have m3:cell sl ((n+1:Nat):Int)*(ti+g)<=2000000000000*60000000:=Int.mul_le_mul sn1.2 () () ∅
    have m4:0<=cell sl ((n+1:Nat):Int)*(ti+g):=qB4 sn1.1 ()
    have m2:(cell sl ((n+1:Nat):Int)*(ti+g)).natAbs<2^67:=()
    exact MK up0 (GB m1 m2) upb68
   .intro i hi
    rw[BM] at hi
    by_cases e:i<cs.length
    .rw[Ot e,OE e];exact zt i e
    .have:i=cs.length:=()
     subst this
     rw[Q3,SW]
     exact#[MK u0 () ub,MK up0 () upb68]
   .rw[ln,Q3,SW]
    show Rat.divInt (va+g*x) (u*p)=Rat.divInt (va+g*x) (u*p)+_*(Rat.divInt (ti+g) u-Rat.divInt (ti+g) u)
    grind
  .have ne:cell sl ((n+1:Nat):Int)=x:=ne.trans ecx
   exact#[_,_,cs,_,_,rfl,oc,#[by rw[ne];exact zl,zt,by rw[ne];exact onl2],(),hv0,⋯,⋯,(),(),(),()]
 rintro τ ⟨ti,va,cs,y10,y11,rfl,oc,⟨zl,zt,onl⟩,lc,hv0,ht,hv,t0,t1,v0,v1⟩
 have eN:((((ms.map D.int).length:Nat):Int)-1).toNat=ms.length-1:=by rw[qAa];omega
 rw[eN] at lc zl
 have bx:=s9 (ms.length-1) ()
 refine atR (K5 (ms:=sl) ()) ?_
 rw[el]
 have xb:(cell sl ((ms.length-1:Nat):Int)).natAbs<2^100:=()
 have pb':p.natAbs<2^100:=AU pb ∅
 refine#[cell sl ((ms.length-1:Nat):Int),p,rfl,p0,u13 xb,u13 pb',(by show 2<=1000;decide),?_]
 exact q cs _ oc (zl.ls oc (fun i hi=>(zt i hi).1)) (fun i hi=>(zt i hi).2) (Im p0 bx.1) () (fun e=>by rw[hv0,e,qCK])
variable (BH:Cal P w K mg base (CXU P w) 2 "_law_drawn" ["_law_head","_law_cells","_law_start","_law_shape"] Gv)
theorem Dg:Ad ["_law_f","_law_last","_law_corners","_law_slope_here"] ["_law_f","_law_last"] (Ab EZ):=scN
include AM DD in
theorem Kn (F:Fun K "_law_ended" "_law_ended" EZ f fd):Aq P w K mg base CX0 3 f fd ["_law_f","_law_last"] (Ae K mg F7):=by
 refine fn3 F Dg (fun ss R U h=>?_) (fun cdv A outer s H E ss R U hr h=>?_)
 .obtain⟨cs,m,l,rfl,_⟩:=h;rfl
 obtain⟨cs,m,l,rfl,⟨oc,zc,hv,lc,v0⟩,zl,l0,q⟩:=h
 refine#[_,(Aa (AE 2 Dg (vK 0))
  (Cd (B1 (Cm US (DA AM (vN 2)) Ac) (Aa (AE 3 Dg (Al hr DD (a2 (vN 0) (Ar C6 (DA AM (vN 2)) Ac))))
  (Af (B1 (Cm K1 (Ar AF (vK 3) (vK 1)) (Ar AF (vK 1) (vK 3))) (Af (AE 2 Dg (OQ (vN 2) Si (Hk (EO Ac))))) An))) An)
  (Bg (Bl (a2 (vN 2) (vN 1)))))),?_]
 have zc:LS 41 66 68 cs m:=zc.mono ∅ ∅ ∅
 have sc:=zc.szk (n:=242) oc () ∅
 refine#[fun τ=>∃(ds:Cs)(y3:Option S),τ=[some (.d (crv cs m)),some (.d (qd l)),some (.d (.tup (ds.map cd))),y3]/\KH ds l,?_,?_]
 .have stay:KH cs l:=#[oc,Sr zc oc hv zl ∅ ∅,l0,lc,v0]
  refine B9 (fun c=>?_) (fun c=>#[cs,_,rfl,stay])
  rw[qAa] at c
  have l2:1<cs.length:=()
  refine#[cs,m,_,cs.length-2,242,rfl,by rw[qAa];omega,(),oc.up,∅,sc.cs,sc.m,fun A B w=>?_]
  have wl:Wq 66 l.num l.den l:=Wq.of zl
  refine#[AI w.la wl.lb ∅,AI wl.la w.lb ∅,?_]
  refine B9 (fun e=>?_) (fun e=>#[cs,_,rfl,stay])
  obtain⟨e1,e2⟩:=Sl l2
  exact#[e2,cs.dropLast,_,by rw[e1,<-List.dropLast_eq_take];rfl,S5 oc l2,X5 zc oc l2 hv zl ∅ ∅,l0,by rw[qBG];omega,by rw[(GH (by rw[qBG];omega)).2];exact v0]
 rintro τ ⟨ds,y3,rfl,hk⟩
 exact#[(by show 2<=1000;decide),q ds hk]
variable (DM:Cal P w K mg base (CXU P w) 3 "_law_ended" ["_law_f","_law_last"] F7)
theorem Md:Ad ["_law_script","_law_begin","_law_many"] ["_law_script","_law_begin","_law_many"] (Ab Fd):=scN
include AY Am in
theorem Mq (F:Fun K "_law_few" "_law_few" Fd f fd):Aq P w K mg base CX0 2 f fd ["_law_script","_law_begin","_law_many"] (Ae K mg IL):=by
 refine fn3 F Md (fun ss R U h=>?_) (fun cdv A outer s H E ss R U hr h=>?_)
 .obtain⟨ns,b,z,rfl,_⟩:=h;rfl
 obtain⟨ns,b,z,rfl,b0,b1,z0,z1,q⟩:=h
 refine#[_,(Bg (FC (N:=["_law_k","_law_script"]) (idx:=[0]) (AZ.mk' (Ab Fd) ["_law_script","_law_begin","_law_many"] rfl rfl (by decide +kernel)) rfl (CO rfl AY (PA3.out (a2 (vN 1) (Ar Bd (vN 1) (vN 2))))) G0 (fun cl C s₀ H₀ fp=>Cn) (fun cl C s₀ H₀ fp=>(Al hr Am (a2 (vN 1) (vN 0)))))),?_]
 refine#[#[(),(),(),()],?_]
 generalize ec:(b+z-b).toNat=cnt
 have hc:0<cnt/\cnt<=8:=()
 refine#[(List.range cnt).map fun(i:Nat)=>some (D.int (cl ns (b+(i:Int)*1))),by rw[BO,qAa,qAq],?_,?_,?_]
 .intro n x hx
  obtain⟨hn,rfl⟩:=E1 hx
  refine#[ns,b+(n:Int)*1,rfl,(),(),?_]
  show((List.range cnt).map _)[n]? = _
  rw[qAc,qAC hn]
  rfl
 .rw[BO];omega
 rw[Vd]
 exact q _ (by rw[qAa,qAq];omega)
variable (Cv:Cal P w K mg base (CXU P w) 2 "_law_few" ["_law_script","_law_begin","_law_many"] IL)
theorem Jm:Ad ["_law_whole","_law_part"] ["_law_whole","_law_part"] (Ab DZ):=scN
include BF AS in
theorem IP (F:Fun K "_law_no_less" "_law_no_less" DZ f fd):Aq P w K mg base CX0 3 f fd ["_law_whole","_law_part"] (Ae K mg EG):=by
 refine fn3 F Jm (fun ss R U h=>?_) (fun cdv A outer s H E ss R U hr h=>?_)
 .obtain⟨a,b,rfl,_⟩:=h;rfl
 obtain⟨a,b,rfl,za,zb,le,q⟩:=h
 refine#[_,(Aa (B1 (Cm Lf (vN 0) Hh) (Bg (YW (MP Lf (vN 1) Hh (Hx _)) (Sb (Al hr AS (a1 (vN 1)))))) An)
  (Bg (RZ (Al hr AS (a1 (vN 0))) (RZ (Al hr AS (a1 (vN 1))) (Sb (Al hr BF (a2 (vN 1) (vN 0)))))))),?_]
 cases a with
 |none =>
  cases b with
  |none=>exact q
  |some u=>exact#[u,rfl,(zb u rfl).mono ∅,q]
 |some v =>
  obtain⟨u,rfl,l⟩:=le v rfl
  have wu:Wq 5285 u.num u.den u:=Wq.of (zb u rfl)
  have wv:Wq 5285 v.num v.den v:=Wq.of (za v rfl)
  refine#[v,rfl,(za v rfl).mono ∅,u,rfl,(zb u rfl).mono ∅,_,_,_,_,rfl,wu.l4 wv ∅,?_]
  show R (.d (.bl (decide _)))
  rw[decide_eq_true ((wu.le_iff wv).mpr l)]
  exact q
variable (BR:Cal P w K mg base (CXU P w) 3 "_law_no_less" ["_law_whole","_law_part"] EG)
theorem CQ:Ad ["_law_f","_law_one","_law_other","_law_both","_law_first","_law_rest","_law_second","_law_whole"] ["_law_f","_law_one","_law_other","_law_both"] (Ab FO):=scN
include CF H0 Cw BF AS in
theorem L5 (F:Fun K "_law_paid" "_law_paid" FO f fd):Aq P w K mg base CX0 10 f fd ["_law_f","_law_one","_law_other","_law_both"] (Ae K mg HA):=by
 refine fn3 F CQ (fun ss R U h=>?_) (fun cdv A outer s H E ss R U hr h=>?_)
 .obtain⟨fc,fm,gc,gm,hc,hm,jc,jm,S0,rfl,_⟩:=h;rfl
 obtain⟨fc,fm,gc,gm,hc,hm,jc,jm,S0,rfl,⟨rf,zf,nf,kg,kh,zj,ej,ij,nS,sf,sg,s0⟩,q⟩:=h
 refine#[_,(Aa (AE 4 CQ (Al hr CF (a2 (vN 0) (vN 1))))
  (Aa (AE 5 CQ (Al hr H0 (a2 (vN 0) (vN 1))))
  (TX (B1 (PW3.pt (OI (Cm Lf (vN 4) Hh) (Jb (Cm Lf (vN 5) Hh)))) (Bg Q6) An)
  (Aa (AE 6 CQ (Al hr CF (a2 (vN 5) (vN 2))))
  (Aa (B1 (Cm Lf (vN 6) Hh) (Bg Q6) An)
  (Aa (AE 7 CQ (Al hr CF (a2 (vN 0) (vN 3))))
  (P0 (B1 (PW3.pt (OI (w_not (BQ (Al hr AS (a1 (vN 4))))) (OI (w_not (BQ (Al hr AS (a1 (vN 6))))) (Jb (w_not (BQ (Al hr AS (a1 (vN 7))))))))) (Bg Q6) An)
  (Bg (Al hr BF (a2 (vN 7) (Al hr Cw (a2 (vN 4) (vN 6))))))))))))),?_]
 have gf:GZ fc fm:=#[rf,zf.mono ∅ ∅ ∅,()]
 have gg:=kg.gz
 have gh:=kh.gz
 refine#[fc,fm,gc,gm,rfl,gf,gg,fun r1 w1 z1=>?_]
 refine#[fc,fm,gc,gm,41,66,176,418,S0,rfl,#[rf,gg.1,zf,kg.2.1,∅,∅,YM nf kg.2.2.2.1 nS,∅,sf,sg,s0,(),by have:=kg.2.2.2.1;omega],fun c=>?_,fun c O kO iO zO tO lO=>?_]
 .cases r1 with
  |none=>exact#[False,q,fun z=>z.elim]
  |some d=>exact absurd (Or.inl c) w1.1
 cases r1 with
 |none=>exact#[False,q,fun z=>z.elim]
 |some d =>
  refine#[True,#[rfl,trivial],fun _=>?_]
  have gO:GZ O fm:=#[kO.rise,zO.mono ∅ ∅ ∅,()]
  refine#[O,fm,hc,hm,rfl,gO,gh,fun r2 w2 z2=>?_]
  cases r2 with
  |none=>exact q
  |some e =>
   refine#[fc,fm,jc,jm,rfl,gf,zj,fun r3 w3 z3=>?_]
   have ch:fm<=hm:=qAz.mp fun z=>w2.1 (.inl z)
   have cj:fm<=jm:=by rw[ej];split<;>assumption
   have d0:=w1.2.nn
   have e0:=w2.2.nn
   have all:=pay rf gg.1 gh.1 (by rw[BZ kg.1];exact kg.2.2.2.2) d0 e0 ij iO (fun t t0=>Kh rf.o kg.1 c d0 w1.2.ok t0) (fun t t0=>Kh gO.1.o kh.1 ch e0 w2.2.ok t0)
   have de:=qCU d0 e0
   cases r3 with
   |none=>exact absurd w3 (QS rf zj.1 cj de all)
   |some v =>
    have le:=SR rf.o zj.1.o w3.2 de all
    have wv:Wq 5285 v.num v.den v:=Wq.of (z3 v rfl)
    have wd:Wq 5285 d.num d.den d:=Wq.of (z1 d rfl)
    have we:Wq 5285 e.num e.den e:=Wq.of (z2 e rfl)
    refine#[#[d,rfl,(z1 d rfl).mono ∅,e,rfl,(z2 e rfl).mono ∅,v,rfl,(z3 v rfl).mono ∅,rfl],?_]
    have w:=wd.plus we
    refine#[_,_,_,_,rfl,wd.l4 we ∅,_,_,_,_,rfl,#[AU wv.la ∅,AU wv.lb ∅,AU w.la ∅,AU w.lb ∅],?_]
    show R (.d (.bl (decide _)))
    rw[decide_eq_true ((wv.le_iff w).mpr le)]
    exact q
variable (Dm:Cal P w K mg base (CXU P w) 10 "_law_paid" ["_law_f","_law_one","_law_other","_law_both"] HA)
theorem A2:Ad ["_law_script","_law_begin","_law_least_slope","_law_head","_law_many","_law_shape","_law_g","_law_way","_law_more"] ["_law_script","_law_begin","_law_least_slope"] (Ab EB):=scN
include Am A6 Cw BH DM Cv in
theorem KJ (F:Fun K "_law_house" "_law_house" EB f fd):Aq P w K mg base CX0 4 f fd ["_law_script","_law_begin","_law_least_slope"] (Ae K mg Gi):=by
 refine fn3 F A2 (fun ss R U h=>?_) (fun cdv A outer s H E ss R U hr h=>?_)
 .obtain⟨ns,b,m,rfl,_⟩:=h;rfl
 obtain⟨ns,b,m,rfl,b0,b1,zm,m0,q⟩:=h
 refine#[_,(Aa (AE 3 A2 (Al hr Am (a2 (vN 0) (vN 1))))
  (Aa (AE 4 A2 (Ar Bd Ac (Ar Dx (Al hr Am (a2 (vN 0) (Ar Bd (vN 1) Ac))) Ac)))
  (Aa (AE 5 A2 (Ar Dx (Ar C4 (Al hr Am (a2 (vN 0) (Ar Bd (vN 1) Ac))) Ac) Ac))
  (Aa (AE 6 A2 (Al hr BH (AV (Ar Dx (vN 3) Ac) (AV (Al hr Cv (AV (vN 0) (a2 (Ar Bd (vN 1) Ac) (vN 4)))) (a2 Ac (vN 5))))))
  (Aa (AE 7 A2 (Ar Dx (Al hr Am (a2 (vN 0) (Ar Bd (vN 1) Ac))) Ac))
  (Aa (B1 (Cm K1 (vN 7) Ac) (Af (Cj (pv 6))) An)
  (Aa (AE 8 A2 (Bl (a2 Ac Ac)))
  (Cd (B1 (Cm US (vN 7) Ac) (Af (AE 8 A2 (Bl (a2 (Ar Bd Ac (Ar Dx (Ar C4 (Al hr Am (a2 (vN 0) (Ar Bd (vN 1) Ac))) Ac) (Ar SA Ac Ac))) (Ar Bd Ac (Ar Dx (vN 3) Ac)))))) An)
  (Aa (AE 8 A2 (Al hr Cw (a2 (vN 2) (vN 8))))
  (Bg (Al hr DM (a2 (vN 6) (Al hr A6 (a2 (vK 8) (vK 8))))))))))))))),?_]
 refine#[ns,b,rfl,b0,(),?_]
 refine#[ns,b+1,rfl,(),(),∅,?_]
 have f3:=fm (a:=cl ns (b+1)) (show(0:Int)<3 from ∅)
 refine#[ns,b+1,rfl,(),(),#[∅,HJ ∅],∅,?_]
 refine#[∅,ns,b+3,_,rfl,(),(),(),(),fun ms lm=>?_]
 refine#[_,ms,0,_,rfl,(),(),∅,∅,fun cs k oc zc hv k0 lc v0=>?_]
 refine#[ns,b+2,rfl,(),(),∅,?_]
 refine B9 (fun _=>q cs k #[oc,zc.mono ∅ ∅ ∅,k0,(),v0 rfl]) (fun _=>?_)
 refine#[(by show 2<=1000;decide),?_]
 refine#[fun τ=>∃(x y:Int)(y3 y4 y5 y7:Option S),τ=[some (.r (ns.map D.int)),I b,some (.d (qd m)),y3,y4,y5,some (.d (crv cs k)),y7,some (.d (tp x y))]/\0<=x/\x<=1000000/\0<y/\y<=1000,?_,?_]
 .have h6:(0:Int)<10^(6:Int).toNat:=∅
  have h61:(10:Int)^(6:Int).toNat=1000000:=∅
  have g6:=fm (a:=(cl ns (b+2)).fdiv 4) h6
  have g3:=fm (a:=cl ns b) (show(0:Int)<1000 from ∅)
  refine B9 (fun _=>?_) (fun _=>#[0,1,_,_,_,_,rfl,∅,∅,∅,∅])
  exact#[ns,b+2,rfl,(),(),#[∅,HJ ∅],#[∅,∅,∅],qBA h6,∅,(by show 2<=1000;decide),_,_,_,_,_,_,rfl,(),by rw[h61] at g6 ⊢;omega,(),()]
 rintro τ ⟨x,y,y3,y4,y5,y7,rfl,x0,x1,y0,y1⟩
 have wm:Wq 45 m.num m.den m:=Wq.of zm
 have wx:Wq 20 x y (Rat.divInt x y):=VC y0 () ()
 refine#[_,_,_,_,rfl,wm.l4 (wx.mono ∅) ∅,?_]
 have w:=wm.plus wx
 refine#[_,_,rfl,w.pos,AU w.la ∅,AU w.lb ∅,?_]
 rw[L6 w]
 exact#[cs,k,_,rfl,#[oc,zc,hv,(),v0 rfl],w.sz,qCU m0 (Im y0 x0),fun ds h=>q ds _ h]
variable (CP:Cal P w K mg base (CXU P w) 4 "_law_house" ["_law_script","_law_begin","_law_least_slope"] Gi)
theorem G1:Ad ["_law_script","_law_many","_law_side","_law_start","_law_f","_law_one","_law_other","_law_both","_law_house_here"] ["_law_script"] (Ab Mi):=scN
include EW CF Gq Am BH Cv BR Dm CP in
theorem Vl (F:Fun K "law" "law" Mi f fd):Aq P w K mg base CX0 12 f fd ["_law_script"] (Ae K mg Wt):=by
 refine fn3 F G1 (fun ss R U h=>?_) (fun cdv A outer s H E ss R U hr h=>?_)
 .obtain⟨ns,rfl,_⟩:=h;rfl
 obtain⟨ns,rfl,hl,q⟩:=h
 refine#[_,(Aa (AE 1 G1 (Ar Bd Ac (Ar Dx (Al hr Am (a2 (vN 0) Ac)) Ac)))
  (Aa (AE 2 G1 (Al hr Am (a2 (vN 0) Ac)))
  (Aa (AE 3 G1 (Ar AF (Ar Dx (vN 2) Ac) (Ar Dx (Ar C4 (vN 2) Ac) (Ar SA Ac Ac))))
  (Aa (AE 4 G1 (Al hr BH (AV (Al hr Am (a2 (vN 0) Ac)) (AV (Al hr Cv (AV (vN 0) (a2 Ac (vN 1)))) (a2 (vN 3) (Ar Dx (Ar C4 (vN 2) Ac) Ac))))))
  (Aa (AE 5 G1 (Al hr CP (AV (vN 0) (a2 Ac (vK 4)))))
  (Aa (AE 6 G1 (Al hr CP (AV (vN 0) (a2 Ac (vK 4)))))
  (Aa (AE 7 G1 (Al hr Gq (a2 (vN 5) (vN 6))))
  (Aa (B1 (Cm (Sw 4 (hu_ hr ∅)) (Al hr Gq (a2 (vN 6) (vN 5))) (vN 7)) (Bg Q6) An)
  (P0 (B1 (PW3.pt (OI (w_not (BQ (Al hr Dm (AV (vN 4) (AV (vN 5) (a2 (vN 6) (vN 7))))))) (Jb (w_not (BQ (Al hr Dm (AV (vN 4) (AV (vN 6) (a2 (vN 5) (vN 7)))))))))) (Bg Q6) An)
  (Aa (GS (Ch PassesOwn.never rfl (BP (PE3.out (Fm (a2 (vN 5) (vN 6))))) (A3 (i:=8) G1.nd rfl (Or.inl rfl)) (Eg.out (Aa (B1 (w_not (BQ (Al hr BR (a2 (Al hr CF (a2 (vN 4) (vN 7))) (Al hr CF (a2 (vN 4) (vN 8))))))) (Bg Q6) An)
  (Af (B1 (w_not (BQ (Al hr BR (a2 (Al hr EW (a2 (vN 4) (vN 7))) (Al hr EW (a2 (vN 4) (vN 8))))))) (Bg Q6) An))))))
  (Bg Q6))))))))))),?_]
 refine#[ns,0,rfl,∅,∅,∅,?_]
 have f4:=fm (a:=cl ns 0) (show(0:Int)<4 from ∅)
 refine#[ns,1,rfl,∅,∅,?_]
 have h6:(0:Int)<10^(6:Int).toNat:=∅
 have h61:(10:Int)^(6:Int).toNat=1000000:=∅
 have f2:=fm (a:=cl ns 1) (show(0:Int)<2 from ∅)
 have f6:=fm (a:=(cl ns 1).fdiv 2) h6
 refine#[∅,#[∅,HJ ∅],#[∅,∅,∅],qBA h6,AI (m:=2) (n:=21) () (by rw[h61] at f6 ⊢;omega) ∅,?_]
 obtain⟨st,est,s0,s1⟩:∃st:Int,(cl ns 1).fmod 2*((cl ns 1).fdiv 2).fmod (10^(6:Int).toNat)=st/\0<=st/\st<=1000000:=by
  refine#[_,rfl,qB4 f2.1 f6.1,?_]
  rw[h61] at f6 ⊢
  rcases(show(cl ns 1).fmod 2=0\/(cl ns 1).fmod 2=1 from ()) with e|e<;>rw[e]<;>omega
 rw[est]
 refine#[ns,2,rfl,∅,∅,ns,3,_,rfl,∅,∅,(),(),fun ms lm=>?_]
 refine#[#[∅,HJ ∅],∅,_,ms,_,_,rfl,(),(),s0,(),fun fc k of zf hv k0 lf _=>?_]
 refine#[ns,7,k,rfl,∅,∅,zf.m of,k0,fun gc gm kg=>?_]
 refine#[ns,13,k,rfl,∅,∅,zf.m of,k0,fun hc hm kh=>?_]
 have rf:Cg fc k:=#[of,k0]
 have zf6:LS 41 66 176 fc k:=zf.mono ∅ ∅ ∅
 have gf:GZ fc k:=#[rf,zf.mono ∅ ∅ ∅,()]
 obtain⟨S0,nS,sf,sg,sh,s00⟩:∃S0:List Rat,S0.length<=11/\SL S0 fc k/\SL S0 gc gm/\SL S0 hc hm/\(0:Rat)∈S0:=by
  have ng:=kg.2.2.2.1
  have nh:=kh.2.2.2.1
  refine#[0::(slL fc k++slL gc gm++slL hc hm),?_,(Pz of).mono fun x h=>?_,(Pz kg.1).mono fun x h=>?_,(Pz kh.1).mono fun x h=>?_,qA5]
  .rw[qAW,qAw,qAw,MB,MB,MB];omega
  all_goals simp[h]
 have ng:=kg.2.2.2.1
 have nh:=kh.2.2.2.1
 refine#[gc,gm,hc,hm,41,66,176,363,S0,rfl,#[kg.gz.1,kh.gz.1,kg.2.1,kh.2.1,∅,WK ng nh nS,(),∅,sg,sh,(),∅],fun J M kj ej ij zj tj lj=>?_]
 refine#[hc,hm,gc,gm,41,66,176,363,S0,rfl,#[kh.gz.1,kg.gz.1,kh.2.1,kg.2.1,∅,WK nh ng nS,(),∅,sh,sg,(),∅],fun J' M' kj' ej' ij' _ _ _=>?_]
 have eM:M'=M:=by rw[ej,ej'];grind
 subst eM
 have e1:eqN 4 (crv J' M') (crv J M')=true:=Sg (U8 kj' kj (fun t t0=>(Nj (ij' t t0)).uniq (ij t t0)))
 have ne:¬((!eqN 4 (crv J' M') (crv J M'))=true):=by rw[e1];decide
 refine#[Mp _ _,Mp _ _,(if_neg ne).mpr ?_]
 have gj:GZ J M':=#[kj.rise,zj.mono ∅ ∅ ∅,()]
 refine#[#[fc,k,gc,gm,hc,hm,J,M',S0,rfl,#[rf,zf6,(),kg,kh,gj,ej,ij,nS,sf,sg,s00],fc,k,hc,hm,gc,gm,J,M',S0,rfl,#[rf,zf6,(),kh,kg,gj,ej',fun t t0=>Nj (ij t t0),nS,sf,sh,s00],rfl],?_]
 refine#[(by show 2<=1000;decide),fun n τ=>∃y8:Option S,τ=[some (.r (ns.map D.int)),I (1+(cl ns 0).fmod 4),I (cl ns 1),I st,some (.d (crv fc k)),some (.d (crv gc gm)),some (.d (crv hc hm)),some (.d (crv J M')),y8],#[_,rfl],?_,?_]
 .rintro n τ x hx ⟨y8,rfl⟩
  obtain⟨C,mC,rfl,kC,le,cm⟩:∃(C:Cs)(mC:Rat),x=crv C mC/\KH C mC/\(∀t,0<=t->val J M' t<=val C mC t)/\M'<=mC:=by
   match n,hx with
   |0,hx=>cases hx;exact#[gc,gm,rfl,kg,fun t t0=>(ij t t0).1.1,by rw[ej];grind]
   |1,hx=>cases hx;exact#[hc,hm,rfl,kh,fun t t0=>(ij t t0).1.2.1,by rw[ej];grind]
   |n+2,hx=>cases hx
  refine#[fc,k,J,M',rfl,gf,gj,fun r1 w1 z1=>#[fc,k,C,mC,rfl,gf,kC.gz,fun r2 w2 z2=>#[r1,r2,rfl,z1,z2,fun v e=>?_,?_]]]
  .subst e
   have v0:=w1.2.nn
   have cj:k<=M':=qAz.mp fun z=>w1.1 (.inl z)
   have al:∀t,0<=t->val fc k t<=val C mC (t+v):=fun t t0=>qAm (Kh of gj.1.o cj v0 w1.2.ok t0) (le _ (qCU t0 v0))
   cases r2 with
   |none=>exact absurd w2 (QS rf kC.gz.1 (qAm cj cm) v0 al)
   |some u=>exact#[u,rfl,SR of kC.1 w2.2 v0 al]
  refine#[fc,k,J,M',rfl,gf,gj,fun r1 w1 z1=>#[fc,k,C,mC,rfl,gf,kC.gz,fun r2 w2 z2=>#[r1,r2,rfl,fun t e=>(z1 t e).mono ∅,fun t e=>(z2 t e).mono ∅,fun v e=>?_,_,rfl]]]
  subst e
  cases r2 with
  |none =>
   have a:mC<k:=w2
   exact absurd w1.1 (fun z=>z ⋯)
  |some u=>exact#[u,rfl,Wy of kC.1 w1.2 w2.2 le]
 rintro τ ⟨y8,rfl⟩
 exact q
end
abbrev Due (l:W.OpenLaw)(w:World)(K:W.Frag)(mg:Str->Option Value)(fa:Addr):Prop:=∃fd:FuncData,(∀(s:Shared)(v:Value),BindsTo s fd #[[v],[]] [("_law_script",v)])/\∀base:Heap,K.In base->base.Ns mainGlobals mg->∃mg',Aq l.prog w K mg base CX0 12 fa fd ["_law_script"] (Ae K mg' Ny)
theorem all_mk {l:W.OpenLaw}{w:World}{K:W.Frag}{h:Heap}{mg:Str->Option Value}{fa:Addr}(X:K.In h) (G:h.Ns mainGlobals mg) (hfa:mg "law"=some (.ref fa)) (fx:Facts l K):Due l w K mg fa:=by
 obtain @⟨kV,dc,pm,cd,ct,oc,od,an,sl,fL,K_NoCurve,K_NoTime,gt_NOUGHT_0,gt_NOUGHT_1,ga_NOUGHT_2,gd_NOUGHT_3,gn_NOUGHT_3,gs_NOUGHT_3,r0,r1,r2,r3,r4,r5,r6,r7,r8,r9,r10,r11,r12,r13,r14,r15,r16,r17,r18,r19,r20,r21,r22,r23,r24,r25,r26,r27,r28,r29,r30,r31,r32,r33,r34,r35,r36,r37,r38,r39,r40,r41,r42,r43,r44,r45,r46,r47,r48,r49,r50,r51,r52,r53,r54,r55,r56,r57,r58,r59,r60,r61,r62,r63,r64,r65,r66,r67,r68,r69,r70,r71,r72,r73,r74,r75,r76,r77,aL,lL,cL,kL,z0,z1,z2,z3,z4,z5,z6,z7,z8,z9,n_NoCurve,n_NoTime,n_NOUGHT,n_gl_NOUGHT_6,x_NoCurve,x_NoTime,ht_piece_at,hp_piece_at,ht_reached,hp_reached,ht_passed,hp_passed,ht_from_nought,hp_from_nought,ht_side_by_side,hp_side_by_side,ht_lowered,hp_lowered⟩:=fx
 have e:=hfa.symm.trans (qBL X G aL)
 cases e
 have A4:=qA1 X G z0
 have My:=qA1 X G z1
 have Iw:=qA1 X G z2
 have LY:=qA1 X G z3
 have AM:=qA1 X G z4
 have AY:=qA1 X G z5
 have DY:=qA1 X G z6
 have B4:=qA1 X G z7
 have Jw:=qA1 X G z8
 have GN:=qA1 X G z9
 have gc_NOUGHT:GC K mg "NOUGHT" (.tup [(.int 0),(.int 1)]):=KD.of (qBL X G n_NOUGHT) (KD.tup n_gl_NOUGHT_6 (Nat.le_of_ble_eq_true rfl) (.cons KD.int (.cons KD.int .nil)))
 have ec_NoCurve:ExC K "NoCurve" K_NoCurve:=#[n_NoCurve,x_NoCurve]
 have m_NoCurve:=qBL X G n_NoCurve
 have ec_NoTime:ExC K "NoTime" K_NoTime:=#[n_NoTime,x_NoTime]
 have m_NoTime:=qBL X G n_NoTime
 obtain⟨⟨cA_piece_at,cT_piece_at⟩,n_ht_piece_at⟩:=qA4.mp ht_piece_at
 obtain⟨⟨cA_reached,cT_reached⟩,n_ht_reached⟩:=qA4.mp ht_reached
 obtain⟨⟨cA_passed,cT_passed⟩,n_ht_passed⟩:=qA4.mp ht_passed
 obtain⟨⟨cA_from_nought,cT_from_nought⟩,n_ht_from_nought⟩:=qA4.mp ht_from_nought
 obtain⟨⟨cA_side_by_side,cT_side_by_side⟩,n_ht_side_by_side⟩:=qA4.mp ht_side_by_side
 obtain⟨⟨cA_lowered,cT_lowered⟩,n_ht_lowered⟩:=qA4.mp ht_lowered
 refine#[W.fnOf "law" "law" (F3 Mi) (Ce Mi) (Ab Mi) .none kV dc pm an cd ct,fun s v=>.of_eq rfl,fun base _ _=>#[mg,?_]]
 have M:=@mkC l.prog w K mg base h X G
 have Ee:=M r0 (fun F _=>Aq.anyCX (Mk A4 My Iw F))
 have Gm:=M r1 (fun F _=>Aq.anyCX (NX LY F))
 have A9:=M r2 (fun F _=>Aq.anyCX (Ru Ee Gm F))
 have Dr:=M r3 (fun F _=>Aq.anyCX (TH A9 F))
 have Aw:=M r4 (fun F _=>Aq.anyCX (RB A9 F))
 have FP:=M r5 (fun F _=>Aq.anyCX (Sf A9 F))
 have IM:=M r6 (fun F _=>Aq.anyCX (Ve A9 F))
 have Ai:=M r7 (fun F _=>Aq.anyCX (RI F))
 have AO:=M r7 (fun F _=>Aq.anyCX (Mc F))
 have DP:=M r8 (fun F _=>Aq.anyCX (PV Ai F))
 have BU:=M r9 (fun F _=>Aq.anyCX (NZ Ai F))
 have Dh:=M r10 (fun F _=>Jn Ai AM gc_NOUGHT ec_NoCurve m_NoCurve F)
 have DI:=M r11 (fun F _=>Kl Ai AM ec_NoCurve m_NoCurve AY F)
 have AD:=M r12 (fun F _=>Aq.anyCX (HK Aw IM F))
 have Ba:=M r13 (fun F _=>Aq.anyCX (HH AM AY AD F))
 have Ah:=M r13 (fun F _=>Aq.anyCX (FY AM AY AD F))
 have DX:=M r14 (fun F _=>Sj Ai AM gc_NOUGHT ec_NoCurve m_NoCurve Dh AY DI Ba DY F)
 have DK:=M r15 (fun F _=>KA Ai gc_NOUGHT ec_NoTime m_NoTime F)
 have Aj:=mkL (P:=l.prog) (w:=w) (base:=base) X G r16 (fun F _=>Jp AM F)
 have Fh:=M r17 (fun F a=>MR Ai DK Aj F n_ht_piece_at a hp_piece_at)
 have AX:=M r18 (fun F _=>Aq.anyCX (Hd AM AD F))
 have B6:=M r19 (fun F _=>ML Dr Aw FP Fh AX F)
 have AG:=M r20 (fun F _=>Aq.anyCX (Gk Ai AM AY Ah F))
 have AH:=M r21 (fun F _=>Aq.anyCX (GX Ai AM AY Ah F))
 have Bx:=M r22 (fun F _=>Aq.anyCX (Mr Ai F))
 have Du:=M r23 (fun F _=>Aq.anyCX (Og Dr Aw IM F))
 have Dl:=M r24 (fun F _=>Aq.anyCX (N1 gc_NOUGHT AX Du F))
 have CV:=M r25 (fun F a=>Aq.anyCX (Ow Ai gc_NOUGHT Aj Dl F n_ht_reached a hp_reached))
 have GY:=M r26 (fun F a=>Aq.anyCX (O7 Ai Aj Dl F n_ht_passed a hp_passed))
 have Cz:=M r27 (fun F _=>Aq.anyCX (IJ Ai AM F))
 have Bp:=M r28 (fun F _=>Aq.anyCX (Jv B6 Cz F))
 have BI:=M r29 (fun F _=>Aq.anyCX (KO Aw F))
 have Ff:=M r30 (fun F _=>Aq.anyCX (MT F))
 have CD:=M r31 (fun F _=>Aq.anyCX (Iq Aw gc_NOUGHT Ba B6 Du Bp BI Ff B4 F))
 have IE:=M r32 (fun F _=>Aq.anyCX (R6 DP DX CD F))
 have Cc:=M r33 (fun F _=>Aq.anyCX (HI Ai Bp BI F))
 have EW:=M r34 (fun F _=>Aq.anyCX (Oh BU gc_NOUGHT Bx Cc F))
 have EU:=M r35 (fun F _=>Aq.anyCX (N4 Aw gc_NOUGHT F))
 have GG:=M r36 (fun F _=>Aq.anyCX (Oe BU CV GY EU F))
 have CF:=M r37 (fun F _=>Aq.anyCX (OK BU gc_NOUGHT Bx CV GG F))
 have CC:=M r38 (fun F _=>Aq.anyCX (Ip Aw FP F))
 have Bq:=M r39 (fun F _=>Aq.anyCX (LI Ah CC Jw F))
 have Eo:=M r40 (fun F _=>Aq.anyCX (Ls A9 F))
 have Ct:=M r41 (fun F _=>Aq.anyCX (Mv A9 DX Eo F))
 have DJ:=M r42 (fun F _=>Aq.anyCX (JZ F))
 have DN:=M r43 (fun F _=>Aq.anyCX (Kd F))
 have F8:=M r44 (fun F _=>Aq.anyCX (UI DJ DN F))
 have ED:=M r45 (fun F _=>Aq.anyCX (Of F))
 have HX:=M r46 (fun F _=>Aq.anyCX (Qi Aw gc_NOUGHT Jw F))
 have Cb:=M r47 (fun F a=>Aq.anyCX (Jx AO gc_NOUGHT Aj F n_ht_from_nought a hp_from_nought))
 have CA:=M r48 (fun F _=>Aq.anyCX (IQ AO F))
 have CI:=M r49 (fun F a=>Aq.anyCX (Ig AO AM Aj CA F n_ht_side_by_side a hp_side_by_side))
 have Jl:=M r50 (fun F _=>Aq.anyCX (UE F))
 have M9:=M r51 (fun F _=>Aq.anyCX (UH Jl F))
 have M7:=M r52 (fun F _=>Aq.anyCX (Tn Jl F))
 have B5:=mkM (P:=l.prog) (w:=w) (base:=base) X G r53 (fun F _=>LC F)
 have D5:=M r54 (fun F _=>Aq.anyCX (Mt A9 F))
 have Et:=mkM (P:=l.prog) (w:=w) (base:=base) X G r55 (fun F _=>La B5 D5 F)
 have BS:=M r56 (fun F a=>Aq.anyCX (Ov AO Aj B4 CI M9 M7 Et F n_ht_lowered a hp_lowered))
 have Br:=M r57 (fun F _=>Aq.anyCX (Fl AG Bq Ct F8 BS F))
 have Fg:=M r58 (fun F _=>Aq.anyCX (MF Ai AM F))
 have Bk:=M r59 (fun F _=>Aq.anyCX (Ga Aw Ai Ah Jw F))
 have BY:=M r60 (fun F _=>Aq.anyCX (Hq Dr DP gc_NOUGHT DX Fg Bk F))
 have Gq:=M r61 (fun F _=>Aq.anyCX (PB AH IE Br BY F))
 have Bt:=M r62 (fun F _=>Aq.anyCX (Fj AG F))
 have H0:=M r63 (fun F _=>Aq.anyCX (PF Dr Aw gc_NOUGHT AH Bx Bq Ct F8 ED HX Cb BS Bt F))
 have Am:=M r64 (fun F _=>Aq.anyCX (ID AM F))
 have A6:=M r65 (fun F _=>Aq.anyCX (Me LY F))
 have Cw:=M r66 (fun F _=>Aq.anyCX (MA F))
 have Dv:=M r67 (fun F _=>Aq.anyCX (Lj F))
 have BF:=M r68 (fun F _=>Aq.anyCX (KI F))
 have DD:=M r69 (fun F _=>Aq.anyCX (J9 AM Dv F))
 have AS:=M r70 (fun F _=>Aq.anyCX (Ku A4 My Iw AM DY A6 F))
 have De:=M r71 (fun F _=>Aq.anyCX (Jo F))
 have BH:=M r72 (fun F _=>Aq.anyCX (Kk AM AY DY A6 De GN F))
 have DM:=M r73 (fun F _=>Aq.anyCX (Kn AM DD F))
 have Cv:=M r74 (fun F _=>Aq.anyCX (Mq AY Am F))
 have BR:=M r75 (fun F _=>Aq.anyCX (IP BF AS F))
 have Dm:=M r76 (fun F _=>Aq.anyCX (L5 CF H0 Cw BF AS F))
 have CP:=M r77 (fun F _=>Aq.anyCX (KJ Am A6 Cw BH DM Cv F))
 exact Vl EW CF Gq Am BH Cv BR Dm CP (M4 (st:=Mi) lL cL kL)
end CL
theorem PySem.Challenge.cw_curvehouse_k27_paid_once_holds : PySem.Challenge.rw_curvehouse_k27_paid_once.Holds := by
 exact CL.front fun e1 e2 e3 e4 e5 fx=>L3.walk3 (l:=PySem.Challenge.rw_curvehouse_k27_paid_once) (k:=12) (x:="_law_script") rfl e1 #[rfl,∅,∅] e2 e3 e4 fun w mg fa h X G hg=>CL.all_mk X G (e5 ▸ hg) (fx w)
