import PyProof.Rows.All
import PySem.Challenge.RW_curvehouse_k37_whole_one_house
import KE.KItem
import KE.KLam
import KE.KNestM
import KE.KIsAll
import KE.KLcPair
import KE.RegMulBits
import KE.KFromBytes
set_option Elab.async false
set_option linter.all false
set_option maxRecDepth 100000
local macro_rules|`(())=>`(by omega)
local macro_rules|`(∅)=>`(by decide)
local macro_rules|`(⋯)=>`(by grind)
section
open PySem
abbrev qAa:=@List.length_map
abbrev qAb:=@Rat.le_refl
abbrev qAc:=@List.getElem?_eq_getElem
abbrev qAd:=@List.getElem?_map
abbrev qAe:=@List.getD_eq_getElem?_getD
abbrev qAf:=@List.getElem?_eq_some_iff
abbrev qAg:=@Nat.le_refl
abbrev qAh:=@Rat.mul_nonneg
abbrev qAi:=@Heap.get?_push_of_some
abbrev qAj:=@Rat.le_of_lt
abbrev qAk:=@Heap.lt_size
abbrev qAl:=@List.mem_cons
abbrev qAm:=@Rat.le_trans
abbrev qAn:=@Rat.intCast_mul
abbrev qAo:=@Option.some.inj
abbrev qAp:=@List.length_append
abbrev qAq:=@List.mem_append
abbrev qAr:=@Bool.false_ne_true
abbrev qAs:=@Nat.lt_of_lt_of_le
abbrev qAt:=@List.getElem?_append_left
abbrev qAu:=@List.mem_range
abbrev qAv:=@List.size_toArray
abbrev qAw:=@List.getElem?_append_right
abbrev qAx:=@Nat.ne_of_lt
abbrev qAy:=@List.mem_map
abbrev qAz:=@List.length_range
abbrev qAA:=@List.mem_append_right
abbrev qAB:=@List.mem_of_getElem?
abbrev qAC:=@PySem.F.slot_list_append
abbrev qAD:=@PySem.F.type_list_append
abbrev qAE:=@List.mem_cons_of_mem
abbrev qAF:=@Heap.get?_push_size
abbrev qAG:=@Rat.divInt_eq_div
abbrev qAH:=@PySem.F.plainAttrs_list
abbrev qAI:=@Rat.not_lt
abbrev qAJ:=@List.getElem?_range
abbrev qAK:=@List.mem_cons_self
abbrev qAL:=@List.map_append
abbrev qAM:=@List.mem_singleton
abbrev qAN:=@List.all_eq_true
abbrev qAO:=@Nat.le_trans
abbrev qAP:=@List.length_drop
abbrev qAQ:=@List.length_cons
abbrev qAR:=@List.getElem?_eq_none_iff
abbrev qAS:=@List.mem_append_left
abbrev qAT:=@List.eq_nil_of_length_eq_zero
abbrev qAU:=@W.kia_one
abbrev qAV:=@W.mg_none_of
abbrev qAW:=@Bool.and_eq_true
abbrev qAX:=@Nat.lt_irrefl
abbrev qAY:=@Rat.intCast_pos
abbrev qAZ:=@List.length_take
abbrev qA0:=@List.getElem_mem
abbrev qA1:=@Rat.not_le
abbrev qA2:=@Option.isSome_iff_exists
abbrev qA3:=@List.map_map
abbrev qA4:=@Nat.zero_le
abbrev qA5:=@Int.mul_pos
abbrev qA6:=@List.mem_filter
abbrev qA7:=@Rat.div_mul_cancel
abbrev qA8:=@Rat.lt_irrefl
abbrev qA9:=@Rat.mul_pos
abbrev qBa:=@List.mem_iff_getElem
abbrev qBb:=@Nat.mul_le_mul_right
abbrev qBc:=@PyProof.Rows.callWith_type1
abbrev qBd:=@Rat.intCast_add
abbrev qBe:=@Rat.intCast_sub
abbrev qBf:=@Nat.not_lt_zero
abbrev qBg:=@Rat.mul_eq_zero
abbrev qBh:=@List.filterMap_cons
abbrev qBi:=@Nat.lt_trans
abbrev qBj:=@Rat.intCast_lt_intCast
abbrev qBk:=@List.take_of_length_le
abbrev qBl:=@Int.fdiv_eq_ediv_of_nonneg
abbrev qBm:=@List.lookup_cons
abbrev qBn:=@List.filter_cons
abbrev qBo:=@List.getElem?_drop
abbrev qBp:=@Rat.lt_of_le_of_ne
abbrev qBq:=@Nat.eq_zero_or_pos
abbrev qBr:=@List.getElem?_zip_eq_some
abbrev qBs:=@Nat.le_of_lt
abbrev qBt:=@Nat.ne_of_gt
abbrev qBu:=@Int.ne_of_gt
abbrev qBv:=@PyProof.Rows.boot_tuple
abbrev qBw:=@List.length_reverse
abbrev qBx:=@List.getElem?_set_self
abbrev qBy:=@List.filterMap_map
abbrev qBz:=@Nat.add_sub_cancel
abbrev qBA:=@List.append_nil
abbrev qBB:=@List.getElem?_toArray
abbrev qBC:=@List.getElem?_reverse
abbrev qBD:=@Rat.intCast_inj
abbrev qBE:=@List.length_filter_le
abbrev qBF:=@F.slot_tuple_iterator_next
abbrev qBG:=@Int.toNat_natCast
abbrev qBH:=@List.take_add_one
abbrev qBI:=@List.pairwise_iff_getElem
abbrev qBJ:=@List.length_filterMap_le
abbrev qBK:=@List.not_mem_nil
abbrev qBL:=@List.getElem?_cons_succ
abbrev qBM:=@Rat.intCast_eq_zero_iff
abbrev qBN:=@W.mg_of
abbrev qBO:=@Bool.eq_iff_iff
abbrev qBP:=@Nat.min_eq_left
abbrev qBQ:=@W.kitx_list
abbrev qBR:=@Heap.size_push
abbrev qBS:=@Int.mul_nonneg
abbrev qBT:=@List.getElem?_set_ne
abbrev qBU:=@Nat.lt_succ_self
abbrev qBV:=@Nat.le_add_right
abbrev qBW:=@Int.sign_eq_neg_one_of_neg
abbrev qBX:=@List.map_drop
abbrev qBY:=@Nat.le_succ
abbrev qBZ:=@List.mem_filterMap
abbrev qB0:=@List.getElem?_take_of_lt
abbrev qB1:=@Rat.num_divInt_den
abbrev qB2:=@Nat.add_comm
abbrev qB3:=@Int.fmod_lt_of_pos
abbrev qB4:=@W.kla_fn
abbrev qB5:=@W.cellsFrom_some
abbrev qB6:=@Int.sign_eq_one_of_pos
abbrev qB7:=@Int.fmod_nonneg_of_pos
abbrev qB8:=@List.filterMap_eq_map
abbrev qB9:=@PyProof.Rows.boot_int
abbrev qCa:=@PyProof.Rows.boot_abs
abbrev qCb:=@PyProof.Rows.slot_tuple_getitem
abbrev qCc:=@List.nodup_cons
abbrev qCd:=@List.of_mem_zip
abbrev qCe:=@Nat.pow_le_pow_right
abbrev qCf:=@List.getElem?_of_mem
abbrev qCg:=@List.forIn_cons
abbrev qCh:=@List.pairwise_append
abbrev qCi:=@F.slot_zip_next
abbrev qCj:=@Int.mul_fdiv_cancel
abbrev qCk:=@Nat.mul_le_mul_left
abbrev qCl:=@F.args_tuple_iterator_next_1
abbrev qCm:=@W.callWith_K
abbrev qCn:=@F.entry_tuple_iterator_next
abbrev qCo:=@List.map_cons
abbrev qCp:=@Bool.and_true
abbrev qCq:=@Int.fmod_eq_emod_of_nonneg
abbrev qCr:=@List.ext_getElem?
abbrev qCs:=@List.mem_or_eq_of_mem_set
abbrev qCt:=@PySem.F.args_tuple_add_2
abbrev qCu:=@Nat.pow_succ
abbrev qCv:=@Nat.sub_self
abbrev qCw:=@PyProof.Rows.boot_sorted
abbrev qCx:=@List.getElem?_replicate
abbrev qCy:=@PySem.F.entry_tuple_add
abbrev qCz:=@PyProof.Rows.intBits_le
abbrev qCA:=@List.pairwise_singleton
abbrev qCB:=@List.length_set
abbrev qCC:=@Int.mul_ne_zero
abbrev qCD:=@Rat.zero_divInt
abbrev qCE:=@Int.mul_one
abbrev qCF:=@PySem.F.slot_tuple_add
abbrev qCG:=@Heap.get?_update_other
abbrev qCH:=@List.length_pos_of_mem
abbrev qCI:=@Rat.div_def
abbrev qCJ:=@List.drop_eq_nil_of_le
abbrev qCK:=@PyProof.Rows.boot_bool
abbrev qCL:=@List.take_append_drop
abbrev qCM:=@Heap.get?_update_self
abbrev qCN:=@List.filterMap_append
abbrev qCO:=@Rat.num_nonneg
abbrev qCP:=@Int.le_of_lt
end
namespace L2
open PySem
def Gi (s:Stmt):Arguments:=match s with
 |.FunctionDef _ a _ _ _ _ _ _ _ _=>a
 |_=>{ posonlyargs:=[],args:=[],vararg:=none,kwonlyargs:=[],kw_defaults:=[],kwarg:=none,defaults:=[] }
def CC (s:Stmt):List Stmt:=match s with
 |.FunctionDef _ _ b _ _ _ _ _ _ _=>b
 |_=>[]
def Ac (s:Stmt):Scope:=match s with
 |.FunctionDef _ _ _ _ _ _ sc _ _ _=>sc
 |_=>{ kind:=.function,names:=[],isGenerator:=false,isCoroutine:=false }
end L2
namespace L3
open PySem L2
abbrev rA (K:W.Frag)(n:Str)(f:Addr):Prop:=W.nsIn K mainGlobals n=some (some (.ref f))
abbrev rL (K:W.Frag)(f:Addr)(n:Str)(st:Stmt)(oc:Value)(od:Option Addr)(kV dc pm:Value)(an:Option Addr)(cd ct:Value)(sl:Array (Option Value)):Prop:=K.lookup f=some ⟨oc,od,.func (W.fnOf n n (Gi st) (CC st) (Ac st) .none kV dc pm an cd ct),sl⟩
abbrev rC (K:W.Frag)(cd:Value)(n:Str):Prop:=W.codeIn K cd n=true
abbrev rK (K:W.Frag)(f:Addr):Prop:=W.keepIn K (.ref f)=true
inductive Rw (K:W.Frag)(n:Str)(st:Stmt):Prop
 |mk {f:Addr}{oc:Value}{od:Option Addr}{kV dc pm:Value}{an:Option Addr}{cd ct:Value}{sl:Array (Option Value)}(a:rA K n f) (l:rL K f n st oc od kV dc pm an cd ct sl) (c:rC K cd n) (k:rK K f)
end L3
namespace CL
open PySem L2 L3
def top (i:Nat):Stmt:=PySem.Challenge.pw_curvehouse_k37_whole_one_house.main.body.getD i (.Pass ⟨0,0,0,0⟩)
abbrev Hs:Stmt:=top 6
abbrev IU:Stmt:=top 7
abbrev Nc:Stmt:=top 10
abbrev QB:Stmt:=top 11
abbrev Nk:Stmt:=top 12
abbrev Nq:Stmt:=top 13
abbrev Qs:Stmt:=top 14
abbrev Ld:Stmt:=top 15
abbrev LV:Stmt:=top 16
abbrev JC:Stmt:=top 17
abbrev Np:Stmt:=top 19
abbrev El:Stmt:=top 20
abbrev Fh:Stmt:=top 21
abbrev Sx:Stmt:=top 22
abbrev HN:Stmt:=top 23
abbrev FG:Stmt:=top 24
abbrev Fq:Stmt:=top 25
abbrev Dp:Stmt:=top 26
abbrev DJ:Stmt:=top 27
abbrev BA:Stmt:=top 28
abbrev B7:Stmt:=top 29
abbrev B8:Stmt:=top 30
abbrev C4:Stmt:=top 31
abbrev HH:Stmt:=top 32
abbrev JJ:Stmt:=top 33
abbrev Es:Stmt:=top 34
abbrev Lw:Stmt:=top 36
abbrev OK:Stmt:=top 37
abbrev RK:Stmt:=top 38
abbrev DD:Stmt:=top 39
abbrev C6:Stmt:=top 40
abbrev D4:Stmt:=top 41
abbrev C0:Stmt:=top 42
abbrev Hy:Stmt:=top 43
abbrev QC:Stmt:=top 45
abbrev EB:Stmt:=top 46
abbrev LU:Stmt:=top 48
abbrev LY:Stmt:=top 49
abbrev Hl:Stmt:=top 51
abbrev IH:Stmt:=top 52
abbrev JG:Stmt:=top 53
abbrev IQ:Stmt:=top 55
abbrev DI:Stmt:=top 56
abbrev Lj:Stmt:=top 57
abbrev Jx:Stmt:=top 58
abbrev Jz:Stmt:=top 59
abbrev EA:Stmt:=top 61
abbrev Ed:Stmt:=top 62
abbrev FJ:Stmt:=top 63
abbrev Gb:Stmt:=top 64
abbrev O4:Stmt:=top 65
abbrev Fe:Stmt:=top 66
abbrev EO:Stmt:=top 67
abbrev GD:Stmt:=top 68
abbrev Gu:Stmt:=top 69
abbrev DC:Stmt:=top 70
abbrev Ft:Stmt:=top 71
abbrev C5:Stmt:=top 72
abbrev Eb:Stmt:=top 73
abbrev RT:Stmt:=top 74
abbrev Sl:Stmt:=top 75
abbrev Qk:Stmt:=top 76
abbrev Gj:Stmt:=top 77
abbrev Gn:Stmt:=top 78
abbrev HF:Stmt:=top 79
abbrev K3:Stmt:=top 81
abbrev Cp:Stmt:=top 82
abbrev HM:Stmt:=top 84
abbrev K0:Stmt:=top 85
abbrev Lh:Stmt:=top 86
abbrev JW:Stmt:=top 87
abbrev Ea:Stmt:=top 89
abbrev Hx:Stmt:=top 90
abbrev HA:Stmt:=top 91
abbrev Gk:Stmt:=top 92
abbrev Fb:Stmt:=top 93
abbrev EL:Stmt:=top 94
abbrev Jk:Stmt:=top 95
abbrev Fl:Stmt:=top 96
abbrev E5:Stmt:=top 97
abbrev Eo:Stmt:=top 98
abbrev DZ:Stmt:=top 99
abbrev Fv:Stmt:=top 100
abbrev ET:Stmt:=top 101
abbrev Ey:Stmt:=top 102
abbrev E3:Stmt:=top 103
abbrev Ge:Stmt:=top 104
abbrev Et:Stmt:=top 105
abbrev DK:Stmt:=top 106
abbrev DP:Stmt:=top 107
abbrev CV:Stmt:=top 108
abbrev Dn:Stmt:=top 109
abbrev NV:Stmt:=top 110
inductive Facts (l:W.OpenLaw)(K:W.Frag):Prop
 |mk {kV dc pm cd ct oc:Value}{od an:Option Addr}{sl:Array (Option Value)}{fL K_NoCurve K_NoTime:Addr}{gt_NOUGHT_0:Tok}{gt_NOUGHT_1:Tok}{ga_NOUGHT_2:Addr}{gd_NOUGHT_3:Option Addr}{gn_NOUGHT_3:Nat}{gs_NOUGHT_3:Array (Option Value)}
  (r0:Rw K "is_whole" Hs)
  (r1:Rw K "divisor" IU)
  (r2:Rw K "ratio" Nc)
  (r3:Rw K "plus" QB)
  (r4:Rw K "minus" Nk)
  (r5:Rw K "times" Nq)
  (r6:Rw K "over" Qs)
  (r7:Rw K "under" Ld)
  (r8:Rw K "lesser" LV)
  (r9:Rw K "greater" JC)
  (r10:Rw K "check_begin" El)
  (r11:Rw K "check_rise" Fh)
  (r12:Rw K "slope_between" DJ)
  (r13:Rw K "slopes_behind" BA)
  (r14:Rw K "curve" Np)
  (r15:Rw K "heap" Sx)
  (r16:Rw K "check_time" Fq)
  (r17:Rw K "count_while" Es)
  (r18:Rw K "piece_at" FG)
  (r19:Rw K "slope_of_piece" Dp)
  (r20:Rw K "value_at" HN)
  (r21:Rw K "steeper_corners" B7)
  (r22:Rw K "flatter_corners" B8)
  (r23:Rw K "steep_enough" C4)
  (r24:Rw K "outgrows" HH)
  (r25:Rw K "time_of" JJ)
  (r26:Rw K "corner_times" C6)
  (r27:Rw K "corner_rows" DD)
  (r28:Rw K "gap_points" D4)
  (r29:Rw K "opposite" Hy)
  (r30:Rw K "crossed_rows" C0)
  (r31:Rw K "least" Lw)
  (r32:Rw K "most" OK)
  (r33:Rw K "less" RK)
  (r34:Rw K "comes_above" EB)
  (r35:Rw K "left" QC)
  (r36:Rw K "unused" LY)
  (r37:Rw K "served" LU)
  (r38:Rw K "climbed" JG)
  (r39:Rw K "reached" Hl)
  (r40:Rw K "passed" IH)
  (r41:Rw K "tallest_point" DI)
  (r42:Rw K "tallest" IQ)
  (r43:Rw K "between" Jz)
  (r44:Rw K "wide_at" Jx)
  (r45:Rw K "widest" Lj)
  (r46:Rw K "line_through" Ed)
  (r47:Rw K "pieces_of" EA)
  (r48:Rw K "corner_of" Gb)
  (r49:Rw K "curve_of" FJ)
  (r50:Rw K "moved_time" Fe)
  (r51:Rw K "moved_line" EO)
  (r52:Rw K "laid" O4)
  (r53:Rw K "flipped" GD)
  (r54:Rw K "turned" Gu)
  (r55:Rw K "from_nought" DC)
  (r56:Rw K "sooner_begin" Eb)
  (r57:Rw K "side_by_side" C5)
  (r58:Rw K "sign" Qk)
  (r59:Rw K "side" RT)
  (r60:Rw K "lean" Sl)
  (r61:Rw K "add_piece" Gn)
  (r62:Rw K "crossing" HF)
  (r63:Rw K "add_lower" Gj)
  (r64:Rw K "lowered" Ft)
  (r65:Rw K "begin_and_steeper" Cp)
  (r66:Rw K "undone" K3)
  (r67:Rw K "growth" Lh)
  (r68:Rw K "tightest" HM)
  (r69:Rw K "missing" JW)
  (r70:Rw K "surest" K0)
  (r71:Rw K "_law_cell_at" Ea)
  (r72:Rw K "_law_low" Hx)
  (r73:Rw K "_law_add" HA)
  (r74:Rw K "_law_take" Gk)
  (r75:Rw K "_law_up_to" Fb)
  (r76:Rw K "_law_slope" EL)
  (r77:Rw K "_law_at" Jk)
  (r78:Rw K "_law_ratio" Fl)
  (r79:Rw K "_law_curve" E5)
  (r80:Rw K "_law_slopes" Eo)
  (r81:Rw K "_law_drawn" DZ)
  (r82:Rw K "_law_few" Fv)
  (r83:Rw K "_law_grown" ET)
  (r84:Rw K "_law_places" Ey)
  (r85:Rw K "_law_keeps" E3)
  (r86:Rw K "_law_sure" Ge)
  (r87:Rw K "_law_enough" Et)
  (r88:Rw K "_law_steepest" DK)
  (r89:Rw K "_law_flattest" DP)
  (r90:Rw K "_law_pile_up_to" CV)
  (r91:Rw K "_law_curves_by" Dn)
  (aL:rA K "law" fL) (lL:rL K fL "law" NV oc od kV dc pm an cd ct sl) (cL:rC K cd "law") (kL:rK K fL)
  (z0:W.nsIn K mainGlobals "isinstance"=some none)
  (z1:W.nsIn K mainGlobals "int"=some none)
  (z2:W.nsIn K mainGlobals "bool"=some none)
  (z3:W.nsIn K mainGlobals "abs"=some none)
  (z4:W.nsIn K mainGlobals "len"=some none)
  (z5:W.nsIn K mainGlobals "range"=some none)
  (z6:W.nsIn K mainGlobals "tuple"=some none)
  (z7:W.nsIn K mainGlobals "max"=some none)
  (z8:W.nsIn K mainGlobals "enumerate"=some none)
  (z9:W.nsIn K mainGlobals "zip"=some none)
  (z10:W.nsIn K mainGlobals "min"=some none)
  (z11:W.nsIn K mainGlobals "sorted"=some none)
  (n_NoCurve:rA K "NoCurve" K_NoCurve)
  (n_NoTime:rA K "NoTime" K_NoTime)
  (n_NOUGHT:W.nsIn K mainGlobals "NOUGHT"=some (some (.ref ga_NOUGHT_2)))
  (n_gl_NOUGHT_6:K.lookup ga_NOUGHT_2=some ⟨.type "tuple",gd_NOUGHT_3,.seq #[(.int 0 gt_NOUGHT_0),(.int 1 gt_NOUGHT_1)] gn_NOUGHT_3,gs_NOUGHT_3⟩)
  (x_NoCurve:W.excIn K K_NoCurve [.type "ValueError",.type "Exception",.type "BaseException",.type "object"] "ValueError.__new__"=true)
  (x_NoTime:W.excIn K K_NoTime [.type "ValueError",.type "Exception",.type "BaseException",.type "object"] "ValueError.__new__"=true)
  (ht_piece_at:(W.tabIn K "piece_at").isSome=true)
  (hp_piece_at:(PyProof.Rows.recsOf l.prog).any (fun d=>d.name == "piece_at")=true)
  (ht_reached:(W.tabIn K "reached").isSome=true)
  (hp_reached:(PyProof.Rows.recsOf l.prog).any (fun d=>d.name == "reached")=true)
  (ht_passed:(W.tabIn K "passed").isSome=true)
  (hp_passed:(PyProof.Rows.recsOf l.prog).any (fun d=>d.name == "passed")=true)
  (ht_from_nought:(W.tabIn K "from_nought").isSome=true)
  (hp_from_nought:(PyProof.Rows.recsOf l.prog).any (fun d=>d.name == "from_nought")=true)
  (ht_side_by_side:(W.tabIn K "side_by_side").isSome=true)
  (hp_side_by_side:(PyProof.Rows.recsOf l.prog).any (fun d=>d.name == "side_by_side")=true)
  (ht_lowered:(W.tabIn K "lowered").isSome=true)
  (hp_lowered:(PyProof.Rows.recsOf l.prog).any (fun d=>d.name == "lowered")=true)
end CL
section
set_option maxRecDepth 100000
set_option maxHeartbeats 0
open PySem PySem.W PyProof.Rows
theorem HD.ws:OpenLaw.wellSaid PySem.Challenge.rw_curvehouse_k37_whole_one_house=true:=by kernel_rfl
noncomputable abbrev HD.pr:Program:=(OpenLaw.row PySem.Challenge.rw_curvehouse_k37_whole_one_house).toRowW.prog
noncomputable def HD.qv:Program:={ PySem.Challenge.pw_curvehouse_k37_whole_one_house with main:={ PySem.Challenge.pw_curvehouse_k37_whole_one_house.main with body:=[CL.top 1,CL.top 2,CL.top 3,CL.top 4,CL.top 6,CL.top 7,CL.top 9,CL.top 10,CL.top 11,CL.top 12,CL.top 13,CL.top 14,CL.top 15,CL.top 16,CL.top 17,CL.top 19,CL.top 20,CL.top 21,CL.top 22,CL.top 23,CL.top 24,CL.top 25,CL.top 26,CL.top 27,CL.top 28,CL.top 29,CL.top 30,CL.top 31,CL.top 32,CL.top 33,CL.top 34,CL.top 36,CL.top 37,CL.top 38,CL.top 39,CL.top 40,CL.top 41,CL.top 42,CL.top 43,CL.top 45,CL.top 46,CL.top 48,CL.top 49,CL.top 51,CL.top 52,CL.top 53,CL.top 55,CL.top 56,CL.top 57,CL.top 58,CL.top 59,CL.top 61,CL.top 62,CL.top 63,CL.top 64,CL.top 65,CL.top 66,CL.top 67,CL.top 68,CL.top 69,CL.top 70,CL.top 71,CL.top 72,CL.top 73,CL.top 74,CL.top 75,CL.top 76,CL.top 77,CL.top 78,CL.top 79,CL.top 81,CL.top 82,CL.top 84,CL.top 85,CL.top 86,CL.top 87,CL.top 89,CL.top 90,CL.top 91,CL.top 92,CL.top 93,CL.top 94,CL.top 95,CL.top 96,CL.top 97,CL.top 98,CL.top 99,CL.top 100,CL.top 101,CL.top 102,CL.top 103,CL.top 104,CL.top 105,CL.top 106,CL.top 107,CL.top 108,CL.top 109,CL.top 110] } }
structure HD.R where
 o:List Obj
 e:List DictEntry
 p:List Value
 s:List Value
 n:Nat
 k:Nat
 m:Value
def HD.tx:List Str->Nat->List Value
 |[],_=>[]
 |x::l,k=>.str x k::HD.tx l (k+1)
def HD.tu (l:List Value):Obj:=⟨.type "tuple",none,.seq l.toArray 0,#[]⟩
def HD.fo (c:Value)(l:List Value):Obj:=⟨c,none,.fields l.toArray,#[]⟩
def HD.co (x:Str)(k i j f:Nat)(a:Value)(b:Bool)(c d e t:Value)(k':Nat):Obj :=
 HD.fo (.type "code") [.str x k,.str x (k+1),.str "/claim/cut.py" (k+2),.int i 0,.int j 0,.int 0 0,.int 0 0,.int f 0,a,.bool b,.int 181 0,c,.none,d,e,t,.int k' 0,.int i 0,.str "/claim/cut.py" (k'+1)]
def HD.fd (x:Str)(p:Arguments)(b:List Stmt)(s:Scope)(g:Addr)(m c:Value):Data:=.func ⟨x,x,p,.stmts b,s,g,[],.none,.none,.none,m,none,c,.none,0⟩
def HD.en (P:Params)(x:Str)(k:Nat)(v:Value):DictEntry:=⟨PyData.keyHash P x,.str x k,v⟩
def HD.cl (P:Params)(x:Str)(q:Pos)(a k:Nat)(m:Value)(b:List Value)(mro:List Value)(s:List Value)(r:Bool):List Obj :=
 let u (j:Nat):Value:=.ref (a+j)
 let f:=HD.en P "__firstlineno__" (k+11) (.int q.line (k+10))
 let g:=HD.en P "__static_attributes__" (k+12) (u 7)
 let n:=HD.en P "__module__" (k+7) m
 [HD.tu b,HD.fo (.type "builtin_function_or_method") [.builtin "type.__prepare__",.type "type"],
  ⟨.type "dict",none,.dict [n,HD.en P "__qualname__" (k+9) (.str x (k+8)),f,g].toArray 4,#[]⟩,HD.tu [],HD.fo .none [],
  HD.co x (k+2) q.line 0 0 (u 3) false (u 4) .none .none .none (k+5),
  ⟨.type "frame",none,.plain,#[some (u 5),some (.ref 3),some (u 2),none,some m,none,some (.ref 0)]⟩,HD.tu [],
  ⟨.type "dict",none,.dict ([n,f,g]++(match r with|true=>[HD.en P "__weakref__" (k+14) (u 10),HD.en P "__doc__" (k+15) .none]|false=>[HD.en P "__doc__" (k+13) .none])).toArray (match r with|true=>3|false=>2),#[]⟩,
  ⟨.type "type",none,.cls ⟨x,b,u 9::mro,a+8,x,true,[],s,false,none,false⟩,#[some (u 0),none,some (.str x k),some (.str x (k+8)),some (.builtin "ValueError.__new__"),some (.bool true)]⟩] ++
 (match r with|true=>[HD.fo (.type "getset_descriptor") [.str "__weakref__" (k+13),u 9,.builtin "ExceptionGroup.__weakref__",.none]]|false=>[]) ++
 [HD.fo (.type "super") [u 9,u 9,u 9],HD.fo (.type "builtin_function_or_method") [.builtin "object.__init_subclass__",u 9]]
def HD.ve:List Value:=[.type "ValueError",.type "Exception",.type "BaseException",.type "object"]
def HD.cs:List PySem.Expr->Nat->List Value
 |.Constant (.int i) _ _::l,k=>.int i k::HD.cs l (k+1)
 |_,_=>[]
def HD.one (P:Params)(t:Stmt)(a k:Nat)(m:Value)(r:Nat->Nat->Value->HD.R):HD.R:=match t with
 |.FunctionDef x p b _ _ _ s _ _ q=>match localNames p s (.stmts b) with
  |some (y,z)=>match r (a+7) (k+3+y.length+z.length+3) m with
   |⟨o,e,l,u,n,i,j⟩=>⟨HD.tu []::HD.fo .none []::HD.tu (HD.tx y (k+3))::HD.tu (HD.tx z (k+3+y.length)) :: ⟨.none,none,HD.fd x p b s 0 .none .none,#[]⟩ ::
    HD.co x k q.line p.args.length 3 (.ref a) true (.ref (a+1)) (.ref (a+2)) (.ref (a+3)) (.ref (a+4)) (k+3+y.length+z.length) :: ⟨.type "function",none,HD.fd x p b s 3 m (.ref (a+5)),#[]⟩::o,
    HD.en P x (k+3+y.length+z.length+2) (.ref (a+6))::e,.int q.line 0 :: .int q.col 0 :: .ref (a+5)::l,u,n,i,j⟩
  |none=>match r (a+5) (k+6) m with
   |⟨o,e,l,u,n,i,j⟩=>⟨HD.tu []::HD.fo .none [] :: ⟨.none,none,HD.fd x p b s 0 .none .none,#[]⟩ ::
    HD.co x k q.line p.args.length 3 (.ref a) true (.ref (a+1)) .none .none (.ref (a+2)) (k+3) :: ⟨.type "function",none,HD.fd x p b s 3 m (.ref (a+3)),#[]⟩::o,
    HD.en P x (k+5) (.ref (a+4))::e,.int q.line 0 :: .int q.col 0 :: .ref (a+3)::l,u,n,i,j⟩
 |.ClassDef x _ _ _ _ _ _ _ _ _ q=>match Nat.beq a 15 with
  |true=>match r (a+13) (k+18) m with
   |⟨o,e,l,u,n,i,j⟩=>⟨HD.cl P x q a k m [.type "ValueError"] HD.ve u true++o,HD.en P x (k+17) (.ref (a+9))::e,.int q.line 0 :: .int q.col 0 :: .ref (a+5)::l,u,n,i,j⟩
  |false=>match r (a+12) (k+16) m with
   |⟨o,e,l,u,n,i,j⟩=>⟨HD.cl P x q a k m [.ref 24] (.ref 24::HD.ve) [] false++o,HD.en P x (k+15) (.ref (a+9))::e,.int q.line 0 :: .int q.col 0 :: .ref (a+5)::l,.ref (a+9)::u,n,i,j⟩
 |.Assign _ (.Constant (.str x) _ _) _=>r a (k+2) (.str x k)
 |.Assign [.Name x _] (.Tuple b _ _) _=>match r (a+1) (k+b.length+1) m with
  |⟨o,e,l,u,n,i,j⟩=>⟨HD.tu (HD.cs b k)::o,HD.en P x (k+b.length) (.ref a)::e,l,u,n,i,j⟩
 |_=>r a k m
def HD.go (P:Params):List Stmt->Nat->Nat->Value->HD.R
 |[],a,k,m=>⟨[],[],[],[],a,k,m⟩
 |t::l,a,k,m=>HD.one P t a k m (fun a k m=>HD.go P l a k m)
def HD.alt:List Obj->List Obj
 |x::_::l=>x::HD.alt l
 |l=>l
def HD.bt:Nat->List Obj->BT
 |n+1,x::l=>.node x (HD.bt n (HD.alt l)) (HD.bt n (HD.alt l.tail))
 |_,_=>.nil
def HD.bu:Nat->List Obj->BT
 |n+1,x::l=>.node x (HD.bu n (HD.alt l)) (HD.bu n (HD.alt l.tail))
 |_,_=>.nil
noncomputable def HD.ob (P:Params)(r:HD.R):List Obj :=
 boot_o_0 P::boot_o_1 P::boot_o_2 P::(match boot_o_3 P with
  |⟨c,d,.dict es n,s⟩=>(match es.toList with
   |x::l=>⟨c,d,.dict (⟨x.hash,x.key,r.m⟩::(l++r.e)).toArray (n+r.e.length),s⟩
   |[]=>default)
  |o=>o)::boot_o_4 P::boot_o_5 P::boot_o_6 P::boot_o_7 P::boot_o_8 P::boot_o_9 P::boot_o_10 P::HD.tu []::HD.fo .none r.p ::
 HD.co "<module>" 182 1 0 0 (.ref 11) false (.ref 12) .none .none .none 185 :: ⟨.type "frame",none,.plain,#[some (.ref 13),some (.ref 3),some (.ref 3),none,some (.str "__main__" 164),none,some (.ref 0)]⟩::r.o
noncomputable def HD.S (f:Nat->List Obj->BT)(l:List Stmt)(P:Params)(os:OsState):SharedT :=
 match HD.go P l 15 187 (.str "__main__" 164) with
 |r=>⟨f 12 (HD.ob P r),r.n,(boot_heap P).life,Array.mk [],boot_drawn,r.k,os⟩
theorem HD.ap {tb:String->Option Builtin}{p:Program}{w:World}{n₀:Nat}{ann:Option Value}{env:Env}{q:Pos}{n N:Nat}{s s':SharedT}{r:Shared}{l:List Stmt}{c:Code}{pos p':Pos}(i:Nat) (h:segRunT tb p w n₀ ann 1 n s (piecesOf (l.take i) env c pos [topFrame q])=some (.next,s',c,p'))
 (k:topRun tb p w n₀ ann N s'.abs (restOf (l.drop i) env c p' [topFrame q])=some r):topRun tb p w n₀ ann (n+N) s.abs (restOf l env c pos [topFrame q])=some r:=by
 have:=piece_app (segRun_of h) k
 rwa [qCL] at this
theorem HD.ae {tb:String->Option Builtin}{p:Program}{w:World}{n₀:Nat}{ann:Option Value}{env:Env}{q:Pos}{n N:Nat}{s s':SharedT}{r:Shared}{l:List Stmt}{c:Code}{pos p':Pos}(h:segRunT tb p w n₀ ann 1 n s (piecesOf l env c pos [topFrame q])=some (.next,s',c,p'))
 (k:topRun tb p w n₀ ann N s'.abs ⟨doneF .next,c,p',[topFrame q]⟩=some r):topRun tb p w n₀ ann (n+N) s.abs (restOf l env c pos [topFrame q])=some r:=by
 have:=piece_app (rest:=[]) (segRun_of h) (piece_nil k)
 rwa [qBA] at this
noncomputable def HD.ok (p:Program)(w:World)(s:Shared):Bool :=
 staticsOk (importedModules p.main.body) (boot_heap w.params) s.heap&&namesBound p s.heap &&
 gensDone s&&laidKept (boot_heap w.params) s.heap
theorem HD.lo {p q:Program}{Xt:Shared->Bool}{α:Type}{Yf:Shared->α}{Ya:World->α}{N M k:Nat}{H:Params->Heap}(le:Nat.ble M N=true)
 (o:∀w:World,(fencedOpening treeTable p w N).map (fun s=>(s.heap,s.gens,s.drawn,s.toks))=some (boot_heap w.params,Array.mk [],boot_drawn,boot_toks))
 (r:∀(w:World)(os:OsState),topRun treeTable p w 11 (some (.ref 6)) M ⟨boot_heap w.params,Array.mk [],boot_drawn,boot_toks,os⟩ (topStub p)=some ⟨H w.params,Array.mk [],boot_drawn,k,os⟩)
 (a:∀(w:World)(os:OsState),(HD.ok p w ⟨H w.params,Array.mk [],boot_drawn,k,os⟩,openSeen q [] (importedModules p.main.body) Xt true ⟨H w.params,Array.mk [],boot_drawn,k,os⟩)=(true,openGood q []))
 (b:∀(w:World)(os:OsState),Yf ⟨H w.params,Array.mk [],boot_drawn,k,os⟩=Ya w):LeftO p q [] Xt Yf Ya N true :=
 LeftO.of_pieces o (fun w=>by kernel_rfl) r le fun w=>funext fun os=>by
  obtain⟨e,f⟩:=Prod.mk.inj (a w os)
  exact looks_pair e (looks_pair f (b w os))
theorem HD.tri {β γ δ ε ζ η θ ι κ:Type}{b:Bool}{x y:β×γ×δ×ε×ζ×η×θ×ι×κ}(h0:b=true) (h1:x.1=y.1) (h2:x.2.1=y.2.1) (h3:x.2.2.1=y.2.2.1) (h4:x.2.2.2.1=y.2.2.2.1) (h5:x.2.2.2.2.1=y.2.2.2.2.1) (h6:x.2.2.2.2.2.1=y.2.2.2.2.2.1) (h7:x.2.2.2.2.2.2.1=y.2.2.2.2.2.2.1) (h8:x.2.2.2.2.2.2.2.1=y.2.2.2.2.2.2.2.1) (h9:x.2.2.2.2.2.2.2.2=y.2.2.2.2.2.2.2.2):(b,x)=(true,y) :=
 Prod.ext h0 (Prod.ext h1 (Prod.ext h2 (Prod.ext h3 (Prod.ext h4 (Prod.ext h5 (Prod.ext h6 (Prod.ext h7 (Prod.ext h8 h9))))))))
theorem HD.op (w:World):(fencedOpening treeTable HD.pr w 7744).map (fun s=>(s.heap,s.gens,s.drawn,s.toks))=some (boot_heap w.params,Array.mk [],boot_drawn,boot_toks):=boot_open (by kernel_rfl) (by decide +kernel) (fun s=>by kernel_rfl) w
noncomputable def HD.bd:List Stmt:=behindTheImports HD.pr
noncomputable def HD.ev:Env:={ scope:=HD.pr.main.scope,locals:=3,globals:=3,cells:=[],code:=.ref 13,frame:=some 14 }
noncomputable def HD.cE:Code:=.body HD.bd HD.ev
noncomputable def HD.H (P:Params):Heap:=absHeap (HD.S HD.bt HD.bd P default).tree 680 (boot_heap P).life
noncomputable def HD.Z (w:World)(os:OsState):Shared:=⟨HD.H w.params,Array.mk [],boot_drawn,1090,os⟩
theorem HD.pre (w:World)(os:OsState):topGo treeTable HD.pr w 11 (some (.ref 6)) 12 ⟨boot_heap w.params,Array.mk [],boot_drawn,boot_toks,os⟩ (topStub HD.pr)=some ((HD.S HD.bt [] w.params os).abs,⟨denote treeTable HD.cE,HD.cE,⟨0,0,0,0⟩,[topFrame ⟨0,0,0,0⟩]⟩):=by kernel_rfl
theorem HD.blk (w:World)(os:OsState):segRun treeTable HD.pr w 11 (some (.ref 6)) 1 1 (HD.S HD.bt [] w.params os).abs (blockOf HD.bd HD.ev HD.cE ⟨0,0,0,0⟩ [topFrame ⟨0,0,0,0⟩])=some (.next,(HD.S HD.bt [] w.params os).abs,HD.cE,⟨0,0,0,0⟩):=by kernel_rfl
theorem HD.q0 (w:World)(os:OsState):segRunT treeTable HD.pr w 11 (some (.ref 6)) 1 835 (HD.S HD.bt [] w.params os) (piecesOf (HD.bd.take 5) HD.ev HD.cE ⟨0,0,0,0⟩ [topFrame ⟨0,0,0,0⟩])=some (.next,(HD.S HD.bu (HD.bd.take 5) w.params os),HD.cE,⟨8,0,9,8⟩):=by kernel_rfl
theorem HD.q1 (w:World)(os:OsState):segRunT treeTable HD.pr w 11 (some (.ref 6)) 1 698 (HD.S HD.bu (HD.bd.take 5) w.params os) (piecesOf ((HD.bd.drop 5).take 26) HD.ev HD.cE ⟨8,0,9,8⟩ [topFrame ⟨0,0,0,0⟩])=some (.next,(HD.S HD.bt (HD.bd.take 31) w.params os),HD.cE,⟨105,0,107,106⟩):=by kernel_rfl
theorem HD.q2 (w:World)(os:OsState):segRunT treeTable HD.pr w 11 (some (.ref 6)) 1 735 (HD.S HD.bt (HD.bd.take 31) w.params os) (piecesOf (((HD.bd.drop 5).drop 26).take 28) HD.ev HD.cE ⟨105,0,107,106⟩ [topFrame ⟨0,0,0,0⟩])=some (.next,(HD.S HD.bu (HD.bd.take 59) w.params os),HD.cE,⟨222,0,225,37⟩):=by kernel_rfl
theorem HD.q3 (w:World)(os:OsState):segRunT treeTable HD.pr w 11 (some (.ref 6)) 1 771 (HD.S HD.bu (HD.bd.take 59) w.params os) (piecesOf ((((HD.bd.drop 5).drop 26).drop 28).take 28) HD.ev HD.cE ⟨222,0,225,37⟩ [topFrame ⟨0,0,0,0⟩])=some (.next,(HD.S HD.bt (HD.bd.take 87) w.params os),HD.cE,⟨336,0,337,31⟩):=by kernel_rfl
theorem HD.q4 (w:World)(os:OsState):segRunT treeTable HD.pr w 11 (some (.ref 6)) 1 738 (HD.S HD.bt (HD.bd.take 87) w.params os) (piecesOf ((((HD.bd.drop 5).drop 26).drop 28).drop 28) HD.ev HD.cE ⟨336,0,337,31⟩ [topFrame ⟨0,0,0,0⟩])=some (.next,(HD.S HD.bu HD.bd w.params os),HD.cE,⟨526,0,557,98⟩):=by kernel_rfl
theorem HD.fn (w:World)(os:OsState):topRun treeTable HD.pr w 11 (some (.ref 6)) 2 (HD.S HD.bu HD.bd w.params os).abs ⟨doneF .next,HD.cE,⟨526,0,557,98⟩,[topFrame ⟨0,0,0,0⟩]⟩=some (HD.Z w os):=by kernel_rfl
theorem HD.run (w:World)(os:OsState):topRun treeTable HD.pr w 11 (some (.ref 6)) (12+(1+(835+(698+(735+(771+(738+2))))))) ⟨boot_heap w.params,Array.mk [],boot_drawn,boot_toks,os⟩ (topStub HD.pr)=some (HD.Z w os):=go_top (HD.pre w os) (piece_block (HD.blk w os) (HD.ap 5 (HD.q0 w os) (HD.ap 26 (HD.q1 w os) (HD.ap 28 (HD.q2 w os) (HD.ap 28 (HD.q3 w os) (HD.ae (HD.q4 w os) (HD.fn w os)))))))
noncomputable abbrev HD.xt:Shared->Bool:=fun s=>xlAt HD.qv [] s&&recOk (RowW.records (OpenRow.toRowW (OpenLaw.row PySem.Challenge.rw_curvehouse_k37_whole_one_house))) s
noncomputable abbrev HD.sn (w:World)(os:OsState):=openSeen HD.qv [] (importedModules HD.pr.main.body) HD.xt true (HD.Z w os)
theorem HD.l0 (w:World)(os:OsState):HD.ok HD.pr w (HD.Z w os)=true:=by kernel_rfl
theorem HD.l1 (w:World)(os:OsState):(HD.sn w os).1=expectedOf HD.qv:=by kernel_rfl
theorem HD.l2 (w:World)(os:OsState):(HD.sn w os).2.1=bltViewBooted:=by kernel_rfl
theorem HD.l3 (w:World)(os:OsState):(HD.sn w os).2.2.1=true:=by kernel_rfl
theorem HD.l4 (w:World)(os:OsState):(HD.sn w os).2.2.2.1=true:=by kernel_rfl
theorem HD.l5 (w:World)(os:OsState):(HD.sn w os).2.2.2.2.1=pinGoodD (drecsOf HD.qv):=by kernel_rfl
theorem HD.l6 (w:World)(os:OsState):(HD.sn w os).2.2.2.2.2.1=plainGoodE HD.qv (looseW HD.qv []):=by kernel_rfl
theorem HD.l7 (w:World)(os:OsState):(HD.sn w os).2.2.2.2.2.2.1=plainGoodD HD.qv []:=by kernel_rfl
theorem HD.l8 (w:World)(os:OsState):(HD.sn w os).2.2.2.2.2.2.2.1=wideGood HD.qv:=by kernel_rfl
theorem HD.l9 (w:World)(os:OsState):(HD.sn w os).2.2.2.2.2.2.2.2=clsGoodW HD.qv []:=by kernel_rfl
theorem HD.lA (w:World)(os:OsState):(HD.ok HD.pr w (HD.Z w os),HD.sn w os)=(true,openGood HD.qv []):=HD.tri (HD.l0 w os) (HD.l1 w os) (HD.l2 w os) (HD.l3 w os) (HD.l4 w os) (HD.l5 w os) (HD.l6 w os) (HD.l7 w os) (HD.l8 w os) (HD.l9 w os)
end
section
open PySem PySem.W PyProof.Rows
local macro_rules|`(tactic| o_head $H)=>`(tactic| (
 refine holds_open (q:=HD.qv) (loose:=[]) (N:=7744)
  (Xt:=(fun s=>xlAt HD.qv [] s&&recOk (RowW.records (OpenRow.toRowW (OpenLaw.row PySem.Challenge.rw_curvehouse_k37_whole_one_house))) s))
  (XP:=XL HD.qv []) (Yf:=Hook.obs $H) (Ya:=Hook.val $H)
  (YP:=Hook.says $H) ?hl (Hook.of $H) (Hook.keeps $H)
  (fun s e=>xl_of s (Bool.and_eq_true_iff.mp e).1) XL.keeps (by rfl) (by rfl) (by rfl)
  (fun s e=>recFacts_of (Bool.and_eq_true_iff.mp e).2) (by rfl) (by first|assumption|decide +kernel)
  (by decide +kernel) ⟨rfl,rfl,rfl,rfl,rfl,by decide +kernel⟩ ?hw ?hc
 case hl =>
  refine HD.lo (by decide +kernel) HD.op HD.run HD.lA ?_
  intro w os
  kernel_rfl))
set_option maxRecDepth 100000 in
set_option maxHeartbeats 0 in
theorem CL.front (hF:∀{q:Program}{loose:List Str}{XP:(Str->Option Value)->Heap->Prop}{YP:World->Heap->Prop}{d:DefRec}{K:Params->W.Frag},d.params.defaults=[]->(∀y:Str,(recsOf PySem.Challenge.rw_curvehouse_k37_whole_one_house.prog).any (fun d=>d.name==y)=true->(recsOf q).any (fun d=>d.name==y)=true)->(∀(w:World)(h:Heap),YP w h->(K w.params).In h)->(∀w:World,W.noTabs (K w.params)=true)->d.name="law"->(∀w:World,CL.Facts PySem.Challenge.rw_curvehouse_k37_whole_one_house (K w.params))->W.WalkO q loose XP YP PySem.Challenge.rw_curvehouse_k37_whole_one_house.row.toRowW d [] (fun f vs=>PySem.call f vs)):PySem.Challenge.rw_curvehouse_k37_whole_one_house.Holds:=by
 w_on;refine holds_law HD.ws fun said=>?_;k_head;(case hw=>w_witness2)
 k_fill
 refine hF rfl (fun _ h=>h) (fun w h Y=>W.km_in_of Y) (fun w=>?nt) rfl (fun w=>?F)
 case nt=>kernel_rfl
 case F =>
  refine' CL.Facts.mk (.mk ?a0 ?l0 ?c0 ?k0) (.mk ?a1 ?l1 ?c1 ?k1) (.mk ?a2 ?l2 ?c2 ?k2) (.mk ?a3 ?l3 ?c3 ?k3) (.mk ?a4 ?l4 ?c4 ?k4) (.mk ?a5 ?l5 ?c5 ?k5) (.mk ?a6 ?l6 ?c6 ?k6) (.mk ?a7 ?l7 ?c7 ?k7) (.mk ?a8 ?l8 ?c8 ?k8) (.mk ?a9 ?l9 ?c9 ?k9) (.mk ?a10 ?l10 ?c10 ?k10) (.mk ?a11 ?l11 ?c11 ?k11) (.mk ?a12 ?l12 ?c12 ?k12) (.mk ?a13 ?l13 ?c13 ?k13) (.mk ?a14 ?l14 ?c14 ?k14) (.mk ?a15 ?l15 ?c15 ?k15) (.mk ?a16 ?l16 ?c16 ?k16) (.mk ?a17 ?l17 ?c17 ?k17) (.mk ?a18 ?l18 ?c18 ?k18) (.mk ?a19 ?l19 ?c19 ?k19) (.mk ?a20 ?l20 ?c20 ?k20) (.mk ?a21 ?l21 ?c21 ?k21) (.mk ?a22 ?l22 ?c22 ?k22) (.mk ?a23 ?l23 ?c23 ?k23) (.mk ?a24 ?l24 ?c24 ?k24) (.mk ?a25 ?l25 ?c25 ?k25) (.mk ?a26 ?l26 ?c26 ?k26) (.mk ?a27 ?l27 ?c27 ?k27) (.mk ?a28 ?l28 ?c28 ?k28) (.mk ?a29 ?l29 ?c29 ?k29) (.mk ?a30 ?l30 ?c30 ?k30) (.mk ?a31 ?l31 ?c31 ?k31) (.mk ?a32 ?l32 ?c32 ?k32) (.mk ?a33 ?l33 ?c33 ?k33) (.mk ?a34 ?l34 ?c34 ?k34) (.mk ?a35 ?l35 ?c35 ?k35) (.mk ?a36 ?l36 ?c36 ?k36) (.mk ?a37 ?l37 ?c37 ?k37) (.mk ?a38 ?l38 ?c38 ?k38) (.mk ?a39 ?l39 ?c39 ?k39) (.mk ?a40 ?l40 ?c40 ?k40) (.mk ?a41 ?l41 ?c41 ?k41) (.mk ?a42 ?l42 ?c42 ?k42) (.mk ?a43 ?l43 ?c43 ?k43) (.mk ?a44 ?l44 ?c44 ?k44) (.mk ?a45 ?l45 ?c45 ?k45) (.mk ?a46 ?l46 ?c46 ?k46) (.mk ?a47 ?l47 ?c47 ?k47) (.mk ?a48 ?l48 ?c48 ?k48) (.mk ?a49 ?l49 ?c49 ?k49) (.mk ?a50 ?l50 ?c50 ?k50) (.mk ?a51 ?l51 ?c51 ?k51) (.mk ?a52 ?l52 ?c52 ?k52) (.mk ?a53 ?l53 ?c53 ?k53) (.mk ?a54 ?l54 ?c54 ?k54) (.mk ?a55 ?l55 ?c55 ?k55) (.mk ?a56 ?l56 ?c56 ?k56) (.mk ?a57 ?l57 ?c57 ?k57) (.mk ?a58 ?l58 ?c58 ?k58) (.mk ?a59 ?l59 ?c59 ?k59) (.mk ?a60 ?l60 ?c60 ?k60) (.mk ?a61 ?l61 ?c61 ?k61) (.mk ?a62 ?l62 ?c62 ?k62) (.mk ?a63 ?l63 ?c63 ?k63) (.mk ?a64 ?l64 ?c64 ?k64) (.mk ?a65 ?l65 ?c65 ?k65) (.mk ?a66 ?l66 ?c66 ?k66) (.mk ?a67 ?l67 ?c67 ?k67) (.mk ?a68 ?l68 ?c68 ?k68) (.mk ?a69 ?l69 ?c69 ?k69) (.mk ?a70 ?l70 ?c70 ?k70) (.mk ?a71 ?l71 ?c71 ?k71) (.mk ?a72 ?l72 ?c72 ?k72) (.mk ?a73 ?l73 ?c73 ?k73) (.mk ?a74 ?l74 ?c74 ?k74) (.mk ?a75 ?l75 ?c75 ?k75) (.mk ?a76 ?l76 ?c76 ?k76) (.mk ?a77 ?l77 ?c77 ?k77) (.mk ?a78 ?l78 ?c78 ?k78) (.mk ?a79 ?l79 ?c79 ?k79) (.mk ?a80 ?l80 ?c80 ?k80) (.mk ?a81 ?l81 ?c81 ?k81) (.mk ?a82 ?l82 ?c82 ?k82) (.mk ?a83 ?l83 ?c83 ?k83) (.mk ?a84 ?l84 ?c84 ?k84) (.mk ?a85 ?l85 ?c85 ?k85) (.mk ?a86 ?l86 ?c86 ?k86) (.mk ?a87 ?l87 ?c87 ?k87) (.mk ?a88 ?l88 ?c88 ?k88) (.mk ?a89 ?l89 ?c89 ?k89) (.mk ?a90 ?l90 ?c90 ?k90) (.mk ?a91 ?l91 ?c91 ?k91) ?aL ?lL ?cL ?kL ?z0 ?z1 ?z2 ?z3 ?z4 ?z5 ?z6 ?z7 ?z8 ?z9 ?z10 ?z11 ?n_NoCurve ?n_NoTime ?n_NOUGHT ?n_gl_NOUGHT_6 ?x_NoCurve ?x_NoTime ?ht_piece_at ?hp_piece_at ?ht_reached ?hp_reached ?ht_passed ?hp_passed ?ht_from_nought ?hp_from_nought ?ht_side_by_side ?hp_side_by_side ?ht_lowered ?hp_lowered
  case a0|l0|c0|k0|a1|l1|c1|k1|a2|l2|c2|k2|a3|l3|c3|k3|a4|l4|c4|k4|a5|l5|c5|k5|a6|l6|c6|k6|a7|l7|c7|k7|a8|l8|c8|k8|a9|l9|c9|k9|a10|l10|c10|k10|a11|l11|c11|k11|a12|l12|c12|k12|a13|l13|c13|k13|a14|l14|c14|k14|a15|l15|c15|k15|a16|l16|c16|k16|a17|l17|c17|k17|a18|l18|c18|k18|a19|l19|c19|k19|a20|l20|c20|k20|a21|l21|c21|k21|a22|l22|c22|k22|a23|l23|c23|k23|a24|l24|c24|k24|a25|l25|c25|k25|a26|l26|c26|k26|a27|l27|c27|k27|a28|l28|c28|k28|a29|l29|c29|k29|a30|l30|c30|k30|a31|l31|c31|k31|a32|l32|c32|k32|a33|l33|c33|k33|a34|l34|c34|k34|a35|l35|c35|k35|a36|l36|c36|k36|a37|l37|c37|k37|a38|l38|c38|k38|a39|l39|c39|k39|a40|l40|c40|k40|a41|l41|c41|k41|a42|l42|c42|k42|a43|l43|c43|k43|a44|l44|c44|k44|a45|l45|c45|k45|a46|l46|c46|k46|a47|l47|c47|k47|a48|l48|c48|k48|a49|l49|c49|k49|a50|l50|c50|k50|a51|l51|c51|k51|a52|l52|c52|k52|a53|l53|c53|k53|a54|l54|c54|k54|a55|l55|c55|k55|a56|l56|c56|k56|a57|l57|c57|k57|a58|l58|c58|k58|a59|l59|c59|k59|a60|l60|c60|k60|a61|l61|c61|k61|a62|l62|c62|k62|a63|l63|c63|k63|a64|l64|c64|k64|a65|l65|c65|k65|a66|l66|c66|k66|a67|l67|c67|k67|a68|l68|c68|k68|a69|l69|c69|k69|a70|l70|c70|k70|a71|l71|c71|k71|a72|l72|c72|k72|a73|l73|c73|k73|a74|l74|c74|k74|a75|l75|c75|k75|a76|l76|c76|k76|a77|l77|c77|k77|a78|l78|c78|k78|a79|l79|c79|k79|a80|l80|c80|k80|a81|l81|c81|k81|a82|l82|c82|k82|a83|l83|c83|k83|a84|l84|c84|k84|a85|l85|c85|k85|a86|l86|c86|k86|a87|l87|c87|k87|a88|l88|c88|k88|a89|l89|c89|k89|a90|l90|c90|k90|a91|l91|c91|k91|aL|lL|cL|kL|z0|z1|z2|z3|z4|z5|z6|z7|z8|z9|z10|z11|n_NoCurve|n_NoTime|n_NOUGHT|n_gl_NOUGHT_6=>(show _=_;k_is)
  case x_NoCurve|x_NoTime|ht_piece_at|hp_piece_at|ht_reached|hp_reached|ht_passed|hp_passed|ht_from_nought|hp_from_nought|ht_side_by_side|hp_side_by_side|ht_lowered|hp_lowered=>kernel_rfl
end
local macro_rules|`(#[$xs,*])=>`(⟨$xs,*⟩)
local macro_rules|`(↥$x)=>`(($x).length)
namespace L2
open PySem PySem.Spec PyProof.Rows
abbrev Key:=Sum Int Str
def XH:Key->Value->Bool
 |.inl k,v=>Value.isInt k v
 |.inr x,v=>Value.isStrOf x v
def dH (w:World):Key->Int
 |.inl k=>hashInt k
 |.inr x=>hashStr w x
theorem BG:∀{k:Key}{v:Value},XH k v=true->(∃i t,k=Sum.inl i/\v=Value.int i t)\/(∃x t,k=Sum.inr x/\v=Value.str x t)
 |.inl i,v,h=>by
  obtain⟨t,e⟩:=Value.isInt_shape (k:=i) (v:=v) h;exact .inl #[i,t,rfl,e]
 |.inr x,v,h=>by
  obtain⟨t,e⟩:=Value.isStrOf_shape (x:=x) (v:=v) h;exact .inr #[x,t,rfl,e]
theorem XT (a b:Int):decide ((Sum.inl a:Key)=Sum.inl b)=(a==b):=by
 by_cases e:a=b
 .subst e;simp
 .have h:¬(Sum.inl a:Key)=Sum.inl b:=λq=>e (Sum.inl.inj q);rw[decide_eq_false h];exact(beq_eq_false_iff_ne.mpr e).symm
theorem XW (a b:Str):decide ((Sum.inr a:Key)=Sum.inr b)=decide (a=b):=by
 by_cases e:a=b
 .subst e;simp
 .have h:¬(Sum.inr a:Key)=Sum.inr b:=λq=>e (Sum.inr.inj q);rw[decide_eq_false h,decide_eq_false e]
theorem YW (a:Int)(b:Str):decide ((Sum.inl a:Key)=Sum.inr b)=false:=decide_eq_false (λq=>nomatch q)
theorem Xy (a:Str)(b:Int):decide ((Sum.inr a:Key)=Sum.inl b)=false:=decide_eq_false (λq=>nomatch q)
def Ny (prog:Program)(w:World):PySem.KeyKind prog w Key where
 is:=XH
 hash:=dH w
 inj:=λv a b ha hb=>by
  rcases BG ha with⟨i,t,rfl,rfl⟩|⟨x,t,rfl,rfl⟩
  .rcases BG hb with⟨j,u,rfl,e⟩|⟨y,u,rfl,e⟩
   .injection e with e1 _;rw[e1]
   .exact nomatch e
  .rcases BG hb with⟨j,u,rfl,e⟩|⟨y,u,rfl,e⟩
   .exact nomatch e
   .injection e with e1 _;rw[e1]
 byValue:=λk v h=>by
  rcases BG h with⟨i,t,rfl,rfl⟩|⟨x,t,rfl,rfl⟩<;>rfl
 pyHash:=λhv h=>by
  rcases BG hv with⟨i,t,rfl,rfl⟩|⟨x,t,rfl,rfl⟩
  .exact wpAny_pyHash_int h
  .exact wpAny_pyHash_str h
 eqBool:=λhu hv h=>by
  rcases BG hu with⟨i,t,rfl,rfl⟩|⟨x,t,rfl,rfl⟩
  .rcases BG hv with⟨j,u,rfl,rfl⟩|⟨y,u,rfl,rfl⟩
   .rw[XT]at h;exact wpAny_eqBool_int h
   .rw[YW]at h;exact SeqAt.EqAt.int_str i t y u _ _ _ _ h
  .rcases BG hv with⟨j,u,rfl,rfl⟩|⟨y,u,rfl,rfl⟩
   .rw[Xy]at h;exact SeqAt.EqAt.str_int x t j u _ _ _ _ h
   .rw[XW]at h;exact wpAny_eqBool_str h
 «strs»:=λk x t v h=>by
  rcases BG h with⟨i,u,rfl,e⟩|⟨y,u,rfl,e⟩
  .exact nomatch e
  .injection e with e1 _
   subst e1;cases v<;>rfl
inductive V where
 |non|bl (b:Bool)|int (i:Int)|str (x:Str)|byt (b:Array UInt8)|flt (b:UInt64)|ref (a:Addr)|ty (n:String)
 deriving DecidableEq
def CN:V->Value->Prop
 |.non,u=>u=Value.none
 |.bl b,u=>u=Value.bool b
 |.int i,u=>∃t,u=Value.int i t
 |.str x,u=>∃t,u=Value.str x t
 |.byt b,u=>∃t,u=Value.bytes b t
 |.flt b,u=>∃t,u=Value.float b t
 |.ref a,u=>u=Value.ref a
 |.ty n,u=>u=Value.type n
abbrev Cb:List V->List Value->Prop:=Paired CN
theorem Cb.length {xs:List V}{us:List Value}(r:Cb xs us):↥xs=↥us:=Paired.length r
theorem Cb.get:∀{xs:List V}{us:List Value}{i:Nat}{x:V},Cb xs us->xs[i]? = some x->∃u,us[i]? = some u/\CN x u
 |_,_,_,_,.nil,e=>by simp at e
 |_,_,0,_,.cons r _,e=>by simp at e;subst e;exact#[_,rfl,r]
 |_,_,i+1,x,.cons _ t,e=>by
  obtain⟨u,h1,h2⟩:=Cb.get (i:=i) (x:=x) t (by simpa using e);exact#[u,by simpa using h1,h2]
theorem Cb.set {x:V}{u:Value}(r:CN x u):∀{xs:List V}{us:List Value}(i:Nat),Cb xs us->Cb (xs.set i x) (us.set i u)
 |_,_,_,.nil=>.nil
 |_,_,0,.cons _ t=>.cons r t
 |_,_,i+1,.cons q t=>.cons q (Cb.set r i t)
theorem Cb.append:∀{xs ys:List V}{us ws:List Value},Cb xs us->Cb ys ws->Cb (xs++ys) (us++ws)
 |_,_,_,_,.nil,s=>s
 |_,_,_,_,.cons r t,s=>.cons r (Cb.append t s)
theorem Cb.take:∀{xs:List V}{us:List Value}(n:Nat),Cb xs us->Cb (xs.take n) (us.take n)
 |_,_,0,_=>.nil
 |_,_,_+1,.nil=>.nil
 |_,_,n+1,.cons r t=>.cons r (Cb.take n t)
theorem Cb.drop:∀{xs:List V}{us:List Value}(n:Nat),Cb xs us->Cb (xs.drop n) (us.drop n)
 |_,_,0,r=>r
 |_,_,_+1,.nil=>.nil
 |_,_,n+1,.cons _ t=>Cb.drop n t
def Zd:Option V->Option Value->Prop
 |some v,some u=>CN v u
 |none,none=>True
 |_,_=>False
def KV {κ:Type}:List (κ×V)->List (κ×Value)->Prop:=Paired fun(p:κ×V)(q:κ×Value)=>p.1=q.1/\CN p.2 q.2
def kV:Key->V
 |.inl i=>.int i
 |.inr x=>.str x
inductive HO where
 |lst (xs:List V)
 |tup (xs:List V)
 |dK (kvs:List (Key×V))|dT (kvs:List (List Key×V))
 |set (S:Int->Bool) (n:Nat)
 |ins (C dx:Addr) (fs:List (Str×V))
 |own (x:Addr)
 |xd (fs:List (Str×V))
 |met (f x:Addr)
 |rng (lo hi:Int)
 |frz (o:Obj) (u:HO)
 |tbl (ps:Array Value)
 |ext (φ:Heap->Prop)
abbrev Hp:=Addr->Option HO
def upd (H:Hp)(a:Addr)(o:HO):Hp:=λb=>if b=a then some o else H b
theorem Au {H:Hp}{a:Addr}{o:HO}:upd H a o a=some o:=by unfold upd;rw[if_pos rfl]
theorem Ao {H:Hp}{a b:Addr}{o:HO}(h:b≠a):upd H a o b=H b:=by unfold upd;rw[if_neg h]
theorem AJ {H:Hp}{a b:Addr}{o:HO}(h:H a=some o)(h':H b=none):a≠b:=by
 intro e;subst e;rw[h]at h';cases h'
def NP (H:Hp)(h:Heap)(a:Addr):Prop:=∃tab:Array Value,h.get? a=some { cls:=.none,data:=.fields tab }/\TriplesOk tab.toList /\
 ∀(pos:Pos)(cv:Value),codeAmong pos tab.toList=some cv->∃(c:Addr)(oc:Obj)(fs:Array Value)(nm:Str)(t:Nat),cv=.ref c/\H c=some (.frz oc (.own a))/\oc.data=.fields fs/\fs[1]? = some (.str nm t)
theorem NP.stay {H H':Hp}{h h':Heap}{a:Addr}(x:NP H h a)(k:∀o,h.get? a=some o->h'.get? a=some o)(hf:∀b o u,H b=some (.frz o u)->H' b=some (.frz o u)):NP H' h' a:=by
 obtain⟨tab,e,tr,q⟩:=x;refine#[tab,k _ e,tr,λpos cv z=>?_];obtain⟨c,oc,fs,nm,t,z1,z2,z3⟩:=q pos cv z;exact#[c,oc,fs,nm,t,z1,hf _ _ _ z2,z3]
section
variable (P:Program)(w:World)
def DO (H:Hp)(h:Heap)(a:Addr):HO->Prop
 |.lst xs=>↥xs<=sizeLine/\∃(its:List Value)(n:Nat),Cb xs its/\h.get? a=some { cls:=.type "list",data:=.seq its.toArray n }
 |.tup xs=>↥xs<=sizeLine/\∃its:List Value,Cb xs its/\IsTup h a its.toArray
 |.dK kvs=>↥kvs<=sizeLine/\(a==sysModules)=false/\∃vs,KV kvs vs/\h.DictOf (Ny P w) a vs
 |.dT kvs=>↥kvs<=sizeLine/\(a==sysModules)=false/\∃xs:List (List Key×Addr×Value),
  Paired (fun(p:List Key×V)(q:List Key×Addr×Value)=>p.1=q.1/\H q.2.1=some (.tup (p.1.map kV))/\CN p.2 q.2.2) kvs xs /\
  ∃o es ep,h.get? a=some o/\o.ExactDict/\o.data=.dict es ep/\es.toList=xs.map (entryOfKey (tupleKind (Ny P w)))/\(xs.map (·.1)).Nodup
 |.set S n=>h.SetOf (intKind P w) a S n
 |.ins C dx fs=>H dx=some (.own a)/\↥fs<=1000/\dx≠a/\h.get? a=some (W.instObj C dx) /\
  ∃mA,h.Ns1 dx mA/\(∀f,Zd (fs.lookup f) (mA f))/\PySem.Within mA (fs.map (·.1))
 |.own _=>∃o,h.get? a=some o
 |.xd fs=>∃mA,h.Ns1 a mA/\∀f,Zd (fs.lookup f) (mA f)
 |.rng lo hi=>∃t u v,h.get? a=some { cls:=.type "range",data:=.fields (List.toArray [.int lo t,.int hi u,.int 1 v]) }
 |.frz o u=>h.get? a=some o/\DO H h a u
 |.tbl _=>NP H h a
 |.met f x=>h.get? a=some (W.methodObj (.ref f) (.ref x))
 |.ext φ=>φ h/\(∃o,h.get? a=some o)/\∀h1 h2:Heap,φ h1->(∀o,h1.get? a=some o->h2.get? a=some o)->φ h2
def HOk (H:Hp)(h:Heap):Prop:=∀a o,H a=some o->DO P w H h a o
end
section
variable {P:Program}{w:World}{H H':Hp}{h h':Heap}{a:Addr}{o:HO}
theorem DO.lt (x:DO P w H h a o):a<h.objs.size:=by
 cases o with
 |lst xs=>obtain⟨_,_,_,_,e⟩:=x;exact qAk e
 |tup xs=>obtain⟨_,_,_,p⟩:=x;exact p.lt
 |dK kvs=>obtain⟨_,_,_,_,o,_,_,e,_⟩:=x;exact qAk e
 |dT kvs=>obtain⟨_,_,_,_,o,_,_,e,_⟩:=x;exact qAk e
 |set S n=>obtain⟨o,_,_,_,e,_⟩:=x;exact qAk e
 |ins C dx fs=>obtain⟨_,_,_,e,_⟩:=x;exact qAk e
 |own y=>obtain⟨_,e⟩:=x;exact qAk e
 |xd fs=>obtain⟨_,⟨_,_,_,e,_⟩,_⟩:=x;exact qAk e
 |rng lo hi=>obtain⟨_,_,_,e⟩:=x;exact qAk e
 |frz ob u=>obtain⟨e,_⟩:=x;exact qAk e
 |tbl ps=>obtain⟨_,e,_⟩:=x;exact qAk e
 |met f y=>exact qAk (show h.get? a=some _ from x)
 |ext φ=>obtain⟨_,⟨_,e⟩,_⟩:=x;exact qAk e
theorem Paired.mapP {α β:Type}{F G:α->β->Prop}:∀{l₁:List α}{l₂:List β},Paired F l₁ l₂->(∀a b,F a b->G a b)->Paired G l₁ l₂
 |_,_,.nil,_=>.nil
 |_,_,.cons r t,f=>.cons (f _ _ r) (Paired.mapP t f)
theorem DO.stay (x:DO P w H h a o)(k:∀b u,(b=a\/H b=some (.own a))->h.get? b=some u->h'.get? b=some u)
 (ho:∀b,H b=some (.own a)->H' b=some (.own a))(ht:∀b xs,H b=some (.tup xs)->H' b=some (.tup xs))(hf:∀b o u,H b=some (.frz o u)->H' b=some (.frz o u):=by intro _ _ _ q;exact q):DO P w H' h' a o:=by
 induction o with
 |lst xs=>obtain⟨z,its,n,r,e⟩:=x;exact#[z,its,n,r,k _ _ (.inl rfl) e]
 |tup xs=>obtain⟨z,its,r,ob,e,c⟩:=x;exact#[z,its,r,ob,k _ _ (.inl rfl) e,c]
 |dK kvs=>obtain⟨z,y,vs,r,ob,es,ep,e,c⟩:=x;exact#[z,y,vs,r,ob,es,ep,k _ _ (.inl rfl) e,c]
 |dT kvs=>
  obtain⟨z,y,xs,r,ob,es,ep,e,c⟩:=x;exact#[z,y,xs,Paired.mapP r λp q z=>#[z.1,ht _ _ z.2.1,z.2.2],ob,es,ep,k _ _ (.inl rfl) e,c]
 |set S n=>obtain⟨ob,es,ep,t,e,c⟩:=x;exact#[ob,es,ep,t,k _ _ (.inl rfl) e,c]
 |ins C dx fs=>
  obtain⟨d,z,ne,e,mA,⟨od,es,ep,e2,c⟩,r⟩:=x;exact#[ho _ d,z,ne,k _ _ (.inl rfl) e,mA,#[od,es,ep,k _ _ (.inr d) e2,c],r]
 |own y=>obtain⟨ob,e⟩:=x;exact#[ob,k _ _ (.inl rfl) e]
 |xd fs=>obtain⟨mA,⟨od,es,ep,e,c⟩,r⟩:=x;exact#[mA,#[od,es,ep,k _ _ (.inl rfl) e,c],r]
 |rng lo hi=>obtain⟨t,u,v,e⟩:=x;exact#[t,u,v,k _ _ (.inl rfl) e]
 |frz ob u ih=>obtain⟨e,q⟩:=x;exact#[k _ _ (.inl rfl) e,ih q]
 |tbl ps=>exact NP.stay x (λu q=>k _ _ (.inl rfl) q) hf
 |met f y=>
  have e:h.get? a=some (W.methodObj (.ref f) (.ref y)):=x;show h'.get? a=some (W.methodObj (.ref f) (.ref y));exact k a _ (.inl rfl) e
 |ext φ=>obtain⟨p,⟨o,e⟩,st⟩:=x;exact#[st _ _ p λo q=>k _ _ (.inl rfl) q,#[o,k _ _ (.inl rfl) e],st]
theorem HOk.lt (x:HOk P w H h)(e:H a=some o):a<h.objs.size:=(x a o e).lt
theorem HOk.fresh (x:HOk P w H h)(e:h.objs.size<=a):H a=none:=by
 cases q:H a with
 |none=>rfl
 |some u=>exact absurd (qAs (x.lt q) e) (qAX _)
theorem HOk.kept (x:HOk P w H h)(k:∀b u,h.get? b=some u->h'.get? b=some u):HOk P w H h':=λa o e=>
 (x a o e).stay (λb u _ q=>k b u q) (λ_ q=>q) λ_ _ q=>q
theorem HOk.laid (x:HOk P w H h)(k:∀b u,h.get? b=some u->h'.get? b=some u)(hp:h.objs.size<=a)(new:DO P w (upd H a o) h' a o):HOk P w (upd H a o) h':=λb u e=>by
 have hn:=x.fresh hp;by_cases hb:b=a
 .subst hb;rw[Au]at e;cases e;exact new
 .rw[Ao hb]at e;exact(x b u e).stay (hf:=λc w1 w2 q=>by rw[Ao (AJ q hn)];exact q) (λc v _ q=>k c v q) (λc q=>by rw[Ao (AJ q hn)];exact q) λc xs q=>by rw[Ao (AJ q hn)];exact q
end
def Rd (H:Hp)(a:Addr)(u:HO):Prop:=H a=some u\/∃o,H a=some (.frz o u)
theorem Rd.ok {P:Program}{w:World}{H:Hp}{h:Heap}{a:Addr}{u:HO}(r:Rd H a u)(x:HOk P w H h):DO P w H h a u:=by
 rcases r with r|⟨o,r⟩
 .exact x a u r
 .obtain⟨_,q⟩:=x a _ r;exact q
def Mut:Option HO->Prop
 |some (.lst _)=>True
 |some (.dK _)=>True
 |some (.dT _)=>True
 |some (.set _ _)=>True
 |some (.ins _ _ _)=>True
 |some (.ext _)=>True
 |_=>False
section
variable {P:Program}{w:World}{H:Hp}{h h':Heap}{x e:Addr}{o':HO}
theorem HOk.write (ok:HOk P w H h)(mu:Mut (H x))(he:e=x\/H e=some (.own x))(k:∀b u,b≠e->h.get? b=some u->h'.get? b=some u)(heo:∃u,h'.get? e=some u)
 (new:DO P w (upd H x o') h' x o'):HOk P w (upd H x o') h':=λb u q=>by
 have nown:∀c y,H c=some (.own y)->c≠x:=λc y r z=>by subst z;rw[r]at mu;exact mu
 have ntup:∀c xs,H c=some (.tup xs)->c≠x:=λc xs r z=>by subst z;rw[r]at mu;exact mu
 by_cases hb:b=x
 .subst hb;rw[Au]at q;cases q;exact new
 .rw[Ao hb]at q;by_cases hbe:b=e
  .have q':H b=some (.own x):=by
    rcases he with z|z
    .exact absurd (hbe.trans z) hb
    .rw[hbe];exact z
   rw[q]at q';cases q';obtain⟨v,hv⟩:=heo;exact#[v,by rw[hbe];exact hv]
  .refine(ok b u q).stay (hf:=λc w1 w2 r=>by rw[Ao (λz=>by subst z;rw[r]at mu;exact mu)];exact r) (λc v hc r=>k c v ?_ r) (λc r=>by rw[Ao (nown c b r)];exact r) λc xs r=>by rw[Ao (ntup c xs r)];exact r
   rcases hc with rfl|hc
   .exact hbe
   .rintro rfl;rcases he with z|z
    .exact nown c b hc z
    .rw[hc]at z;cases z;exact hb rfl
end
structure Un (fs ex:List Addr)(H H':Hp)(h h':Heap):Prop where
 keep:∀b o,h.get? b=some o->H b=none->b∉fs->b∉ex->h'.get? b=some o
 slot:∀b o,h.get? b=some o->H b=none->b∈fs->b∉ex->∃sl,h'.get? b=some { o with slots:=sl }
 free:∀b o,h.get? b=some o->H b=none->b∉ex->H' b=none
 there:∀b o,h.get? b=some o->b∉ex->∃o',h'.get? b=some o'
 tups:∀b xs,H b=some (.tup xs)->H' b=some (.tup xs)
 frzs:∀b o u,H b=some (.frz o u)->H' b=some (.frz o u)
 tbls:∀b ps,H b=some (.tbl ps)->∃more,H' b=some (.tbl (ps++more))
section
variable {fs fs' ex ex':List Addr}{H H1 H2:Hp}{h h1 h2 h':Heap}{a x e:Addr}{o:HO}
theorem Un.any (u:Un fs ex H H1 h h1){b:Addr}{ob:Obj}(q:h.get? b=some ob)(n:H b=none)(hx:b∉ex):∃sl,h1.get? b=some { ob with slots:=sl }:=by
 by_cases hb:b∈fs
 .exact u.slot b ob q n hb hx
 .exact#[ob.slots,u.keep b ob q n hb hx]
theorem Un.kept (k:∀b u,h.get? b=some u->h'.get? b=some u):Un fs ex H H h h':=
 #[λb ob q _ _ _=>k b ob q,λb ob q _ _ _=>#[ob.slots,k b ob q],λ_ _ _ n _=>n,λb ob q _=>#[ob,k b ob q],λ_ _ q=>q,λ_ _ _ q=>q,λ_ ps q=>#[(List.toArray []),by rw[q];simp]]
theorem Un.refl:Un fs ex H H h h:=Un.kept λ_ _ q=>q
theorem Un.laid (k:∀b u,h.get? b=some u->h'.get? b=some u)(hp:h.objs.size<=a)(hn:H a=none):Un fs ex H (upd H a o) h h' where
 keep:=λb u q _ _ _=>k b u q
 slot:=λb u q _ _ _=>#[u.slots,k b u q]
 free:=λb u q n _=>by rw[Ao (qAx (qAs (qAk q) hp))];exact n
 there:=λb u q _=>#[u,k b u q]
 tups:=λb xs q=>by rw[Ao (AJ q hn)];exact q
 frzs:=λb u xs q=>by rw[Ao (AJ q hn)];exact q
 tbls:=λb ps q=>#[(List.toArray []),by rw[Ao (AJ q hn),q];simp]
theorem Un.write (mu:Mut (H x))(he:e=x\/H e=some (.own x))(k:∀b u,b≠e->h.get? b=some u->h'.get? b=some u)(heo:∃u,h'.get? e=some u):Un fs ex H (upd H x o) h h':=by
 have hx:∀b,H b=none->b≠x:=λb n z=>by subst z;rw[n]at mu;exact mu
 have hb:∀b,H b=none->b≠e:=λb n z=>by
  subst z;rcases he with r|r
  .exact hx b n r
  .rw[n]at r;cases r
 have hm:∀b u,H b=some u->¬Mut (some u)->b≠x:=λb u q nm z=>by subst z;rw[q]at mu;exact nm mu
 refine#[λb u q n _ _=>k b u (hb b n) q,λb u q n _ _=>#[u.slots,k b u (hb b n) q],λb u q n _=>by rw[Ao (hx b n)];exact n,λb u q _=>?_,
  λb xs q=>by rw[Ao (hm b _ q λz=>z)];exact q,λb u xs q=>by rw[Ao (hm b _ q λz=>z)];exact q,λb ps q=>#[(List.toArray []),by rw[Ao (hm b _ q λz=>z),q];simp]]
 by_cases hbe:b=e
 .subst hbe;exact heo
 .exact#[u,k b u hbe q]
end
def trk (h:Heap)(H:Hp):List Addr:=(List.range h.objs.size).filter λa=>(H a).isSome
def SH (h:Heap)(H:Hp):Heap:=W.hideAll h (trk h H)
theorem QZ (h:Heap)(H:Hp):(SH h H).objs.size=h.objs.size:=W.hideAll_size _ _
theorem TZ {h:Heap}{H:Hp}{b:Addr}{o:Obj}(e:h.get? b=some o)(n:H b=none):(SH h H).get? b=some o:=
 W.hideAll_get _ e λhm=>by
  have q:(H b).isSome=true:=(qA6.mp hm).2;rw[n]at q;simp at q
theorem VC {h:Heap}{H:Hp}{b:Addr}{o:Obj}(e:(SH h H).get? b=some o):h.get? b=some o/\H b=none:=by
 have e':h.get? b=some o:=W.of_hideAll (trk h H) e;refine#[e',?_];cases q:H b with
 |none=>rfl
 |some x=>
  have hm:b∈trk h H:=qA6.mpr #[qAu.mpr (qAk e'),by simp[q]];have z:(SH h H).get? b=none:=W.hideAll_none (trk h H) hm;rw[z]at e;cases e
structure Mod (K:W.Frag)(mg:Str->Option Value)(base:Heap):Prop where
 kin:K.In base
 glob:base.Ns mainGlobals mg
 blt:∃mb,base.Ns builtinsNs mb/\∀x:Str,x≠"__name__"->mb x=bootBuiltins x
 nolimit:base.NoLimit
structure Cx where
 prog:Program
 w:World
 K:W.Frag
 mg:Str->Option Value
 base:Heap
 A:Around
 N:List Str
 s₀:Shared
 H₀:Hp
 env:Env
 outer:List Env
 stack:List Env
 ex:List Addr
 fn:Str->Bool
 calm:Bool
 pn:List (Addr×Obj)
 xe:Value->Shared->Prop
 lent:Option (Nat×Addr):=none
def frs (l:List Env):List Addr:=l.filterMap (·.frame)
abbrev Cx.fs (X:Cx):List Addr:=frs X.outer
def Vis (sc:Scope)(x:Str):Prop:=sc.names.lookup x=some .local\/sc.names.lookup x=some .cell\/sc.names.lookup x=some .free
def Loc (sc:Scope)(x:Str):Prop:=sc.names.lookup x=some .local\/sc.names.lookup x=some .cell
def dS (env:Env)(h:Heap)(m:Str->Option Value)(x:Str)(u:Value):Prop:=
 (env.kindOf x=some .local/\m x=some u)\/((env.kindOf x=some .cell\/env.kindOf x=some .free)/\∃c,env.cells.lookup x=some c/\h.IsCell c (some u))
structure TB (P:Program)(K:W.Frag)(mg:Str->Option Value)(base:Heap)(H:Hp):Prop where
 bm:∃(b:Addr)(o:Obj),mg "__builtins__"=some (.ref b)/\b≠builtinsNs/\base.get? b=some o/\o.cls=.type "module"/\o.dict=some builtinsNs/\o.data=.plain
 tab:∀(x:Str)(c T:Addr),W.tabIn K x=some (c,T)->(recsOf P).any (λd=>d.name==x)=true->W.CodeHd base c T/\∃ps,H T=some (.tbl ps)
structure Cx.Ok (X:Cx):Prop where
 mod:Mod X.K X.mg X.base
 kind:X.env.scope.kind=.function
 glob:X.env.globals=mainGlobals
 blt:X.env.builtins=builtinsNs
 above:X.s₀.heap.objs.size<=X.env.locals
 inj:∀x y c,X.env.cells.lookup x=some c->X.env.cells.lookup y=some c->x=y
 has:∀x,(X.env.kindOf x=some .cell\/X.env.kindOf x=some .free)->∃c,X.env.cells.lookup x=some c
 cab:∀x c,X.fn x=true->X.env.cells.lookup x=some c->X.s₀.heap.objs.size<=c
 hd:X.calm=true->X.A.handled=none
 frames:X.A.frames=some X.stack
 stk:X.stack=X.outer\/(X.stack=X.env::X.outer/\X.env.frame=some X.env.locals)
 exf:∀b∈X.ex,b≠X.env.locals/\∀x c,X.env.cells.lookup x=some c->c≠b
 bs:∀b o,X.base.get? b=some o->X.s₀.heap.get? b=some o/\X.H₀ b=none
 bsz:X.base.objs.size<=X.s₀.heap.objs.size
 noex:∀b o,X.base.get? b=some o->b∉X.ex
 exfs:∀b∈X.ex,b∉X.fs
 funs:X.s₀.heap.FunFrames X.base X.outer
 frf:∀b∈X.fs,X.H₀ b=none
 tb:TB X.prog X.K X.mg X.base X.H₀
structure Inv (X:Cx)(pins:List (Addr×Obj))(σ:List (Option V))(H:Hp)(s:Shared):Prop where
 ok:X.Ok
 os:s.os=X.s₀.os
 bare:AllBare s.gens
 base:Un X.fs X.ex X.H₀ H X.s₀.heap s.heap
 loc:∃m,s.heap.Ns X.env.locals m/\∀(i:Nat)(x:Str)(v:V),X.N[i]? = some x->σ[i]? = some (some v)->Vis X.env.scope x->∃u,CN v u/\dS X.env s.heap m x u
 cell:∀x c,X.env.cells.lookup x=some c->∃v,s.heap.IsCell c v
 free:H X.env.locals=none
 freeC:∀x c,X.env.cells.lookup x=some c->H c=none
 pin:∀p∈X.pn++pins,s.heap.get? p.1=some p.2/\H p.1=none/\p.1≠X.env.locals/\p.1∉X.fs/\∀v,p.2.data≠.cell v
 hok:HOk X.prog X.w H s.heap
 len:↥σ=X.N.length
section
variable {X:Cx}{pins:List (Addr×Obj)}{σ:List (Option V)}{H H':Hp}{s:Shared}{h':Heap}
theorem Cx.Ok.nofr (ok:X.Ok){b:Addr}{o:Obj}(e:X.base.get? b=some o):b∉X.fs:=λhb=>by
 have:=(ok.funs.mem hb).1;rw[e]at this;cases this
theorem Inv.bs (I:Inv X pins σ H s):∀b o,X.base.get? b=some o->s.heap.get? b=some o/\H b=none:=λb o e=>
 #[I.base.keep b o (I.ok.bs b o e).1 (I.ok.bs b o e).2 (I.ok.nofr e) (I.ok.noex b o e),I.base.free b o (I.ok.bs b o e).1 (I.ok.bs b o e).2 (I.ok.noex b o e)]
theorem Inv.bk (I:Inv X pins σ H s):∀b o,X.base.get? b=some o->s.heap.get? b=some o:=λb o e=>(I.bs b o e).1
theorem Inv.tb (I:Inv X pins σ H s):TB X.prog X.K X.mg X.base H:=#[I.ok.tb.bm,λx c T h1 h2=>by
 obtain⟨z,ps,e⟩:=I.ok.tb.tab x c T h1 h2;obtain⟨more,e'⟩:=I.base.tbls T ps e;exact#[z,_,e']]
theorem Inv.mod (I:Inv X pins σ H s):Mod X.K X.mg X.base:=I.ok.mod
theorem Inv.kIn (I:Inv X pins σ H s):X.K.In s.heap:=I.ok.mod.kin.keeps I.bk
theorem Inv.lt (I:Inv X pins σ H s):X.env.locals<s.heap.objs.size:=let #[_,hn,_]:=I.loc;hn.lt
theorem Inv.sz (I:Inv X pins σ H s):X.s₀.heap.objs.size<=s.heap.objs.size:=qAO I.ok.above (qBs I.lt)
theorem Inv.nofs (I:Inv X pins σ H s){a:Addr}(h:s.heap.objs.size<=a):a∉X.fs:=λhb=>by
 obtain⟨_,o,ho,_⟩:=I.ok.funs.mem hb;exact absurd (qAs (qAk ho) (qAO I.sz h)) (qAX _)
theorem Inv.cne (I:Inv X pins σ H s):∀x c,X.env.cells.lookup x=some c->c≠X.env.locals:=λx c e z=>by
 obtain⟨v,o,ho,hd⟩:=I.cell x c e;obtain⟨m,⟨o',es,ep,ho',hd',_⟩,_⟩:=I.loc;rw[z,ho']at ho;cases ho;rw[hd']at hd;cases hd
theorem Inv.funs (I:Inv X pins σ H s):s.heap.FunFrames X.base X.outer:=by
 have all:∀(l:List Env),(∀b∈frs l,b∈X.fs)->X.s₀.heap.FunFrames X.base l->s.heap.FunFrames X.base l:=by
  intro l
  induction l with
  |nil=>intro _ _;trivial
  |cons env r ih=>
   intro hs hl;obtain⟨hk,⟨L,o,hf,hn,ho,hd⟩,hr⟩:=hl;have hL:L∈X.fs:=hs L (by unfold frs;rw[qBh,hf];exact qAK);obtain⟨sl,e⟩:=I.base.slot L o ho (I.ok.frf L hL) hL λz=>I.ok.exfs L z hL;exact#[hk,#[L,_,hf,hn,e,hd],ih (λb hb=>hs b (by unfold frs;rw[qBh,hf];exact qAE _ hb)) hr]
 exact all X.outer (λ_ hb=>hb) I.ok.funs
theorem Inv.stack (I:Inv X pins σ H s):s.heap.FunFrames X.base X.stack:=by
 rcases I.ok.stk with e|⟨e,hf⟩
 .rw[e];exact I.funs
 .rw[e];obtain⟨m,hn,_⟩:=I.loc;refine .cons (by rw[I.ok.kind];decide) hf hn ?_ I.funs;exact Heap.get?_none_of_le (qAO I.ok.bsz I.ok.above)
theorem Inv.stkSub (I:Inv X pins σ H s):∀b∈frs X.stack,b∈X.env.locals::X.fs:=λb hb=>by
 rcases I.ok.stk with e|⟨e,hf⟩
 .rw[e]at hb;exact qAE _ hb
 .rw[e]at hb;unfold frs at hb;rw[qBh,hf]at hb;exact hb
theorem Inv.stkFree (I:Inv X pins σ H s):∀b∈frs X.stack,H b=none:=λb hb=>by
 rcases qAl.mp (I.stkSub b hb) with e|hb
 .rw[e];exact I.free
 .obtain⟨_,o,ho,_⟩:=I.ok.funs.mem hb;exact I.base.free b o ho (I.ok.frf b hb) λz=>I.ok.exfs b z hb
theorem Inv.step {g':Array GenState}{t':Nat}{d':Drawn}{ch:List Addr}(I:Inv X pins σ H s)
 (hch:∀b∈ch,(b∈X.ex\/X.s₀.heap.objs.size<=b)/\b≠X.env.locals/\(∀x c,X.env.cells.lookup x=some c->c≠b)/\∀p∈X.pn++pins,p.1≠b)
 (keep:∀b o,b≠X.env.locals->b∉X.fs->b∉ch->s.heap.get? b=some o->H b=none->h'.get? b=some o)
 (slot:∀b o,b≠X.env.locals->b∈X.fs->b∉ch->s.heap.get? b=some o->H b=none->∃sl,h'.get? b=some { o with slots:=sl }) (free:∀b o,b∉ch->s.heap.get? b=some o->H b=none->H' b=none)
 (there:∀b o,b∉ch->s.heap.get? b=some o->∃o',h'.get? b=some o')
 (tups:∀b xs,H b=some (.tup xs)->H' b=some (.tup xs)) (frzs:∀b o u,H b=some (.frz o u)->H' b=some (.frz o u)) (tbls:∀b ps,H b=some (.tbl ps)->∃more,H' b=some (.tbl (ps++more)))
 (ns:∀m,s.heap.Ns X.env.locals m->h'.Ns X.env.locals m) (hok:HOk X.prog X.w H' h') (hg:AllBare g') :
 Inv X pins σ H' { s with heap:=h',gens:=g',drawn:=d',toks:=t' }:=by
 have neL:∀b o,X.s₀.heap.get? b=some o->b≠X.env.locals:=λb o e=>qAx (qAs (qAk e) I.ok.above);have neC:∀b o,X.s₀.heap.get? b=some o->b∉X.ex->b∉ch:=λb o e hx hb=>by
  rcases(hch b hb).1 with z|z
  .exact hx z
  .exact absurd (qAs (qAk e) z) (qAX _)
 have cellK:∀x c,X.env.cells.lookup x=some c->∀v,s.heap.IsCell c v->h'.IsCell c v:=λx c e v hh=>by
  obtain⟨o,ho,hd⟩:=hh;have nch:c∉ch:=λz=>(hch c z).2.2.1 x c e rfl;by_cases hc:c∈X.fs
  .obtain⟨sl,q⟩:=slot c o (I.cne x c e) hc nch ho (I.freeC x c e);exact#[_,q,hd]
  .exact#[o,keep c o (I.cne x c e) hc nch ho (I.freeC x c e),hd]
 refine#[I.ok,I.os,hg,#[λb o e n hb hx=>?_,λb o e n hb hx=>?_,λb o e n hx=>?_,λb o e hx=>?_,λb xs e=>tups b xs (I.base.tups b xs e),λb o xs e=>frzs b o xs (I.base.frzs b o xs e),λb ps e=>?_],?_,λx c e=>?_,?_,λx c e=>?_,λp hp=>?_,hok,I.len]
 .exact keep b o (neL b o e) hb (neC b o e hx) (I.base.keep b o e n hb hx) (I.base.free b o e n hx)
 .obtain⟨sl,e1⟩:=I.base.slot b o e n hb hx;obtain⟨sl',e2⟩:=slot b _ (neL b o e) hb (neC b o e hx) e1 (I.base.free b o e n hx);exact#[sl',e2]
 .obtain⟨o',e1⟩:=I.base.there b o e hx;exact free b o' (neC b o e hx) e1 (I.base.free b o e n hx)
 .obtain⟨o',e1⟩:=I.base.there b o e hx;exact there b o' (neC b o e hx) e1
 .obtain⟨m1,e1⟩:=I.base.tbls b ps e;obtain⟨m2,e2⟩:=tbls b _ e1;exact#[m1++m2,by rw[e2,Array.append_assoc]]
 .obtain⟨m,hn,hl⟩:=I.loc;refine#[m,ns m hn,λi x v e1 e2 e3=>?_];obtain⟨u,r,l⟩:=hl i x v e1 e2 e3;refine#[u,r,?_];rcases l with l|⟨k,c,e,z⟩
  .exact .inl l
  .exact .inr #[k,c,e,cellK x c e _ z]
 .obtain⟨v,z⟩:=I.cell x c e;exact#[v,cellK x c e v z]
 .obtain⟨m,⟨o,_,_,ho,_⟩,_⟩:=I.loc;exact free _ o (λz=>(hch _ z).2.1 rfl) ho I.free
 .obtain⟨v,o,ho,hd⟩:=I.cell x c e;exact free c o (λz=>(hch c z).2.2.1 x c e rfl) ho (I.freeC x c e)
 .obtain⟨e,n,ne,nf,d⟩:=I.pin p hp;have nch:p.1∉ch:=λz=>(hch p.1 z).2.2.2 p hp rfl;exact#[keep p.1 p.2 ne nf nch e n,free p.1 p.2 nch e n,ne,nf,d]
theorem Inv.un {t':Nat}(I:Inv X pins σ H s)(u:Un X.fs [] H H' s.heap h')(hok:HOk X.prog X.w H' h'):Inv X pins σ H' { s with heap:=h',toks:=t' }:=by
 obtain⟨m,⟨o,es,ep,ho,r⟩,_⟩:=id I.loc;obtain⟨sl,hL⟩:=u.any ho I.free (by simp);exact I.step (g':=s.gens) (d':=s.drawn) (ch:=[]) (λ_ z=>nomatch z) (λb o _ hb _ e n=>u.keep b o e n hb (by simp)) (λb o _ hb _ e n=>u.slot b o e n hb (by simp)) (λb o _ e n=>u.free b o e n (by simp)) (λb o _ e=>u.there b o e (by simp)) u.tups u.frzs u.tbls (λm' hm=>by
  obtain⟨o',es',ep',ho',r'⟩:=hm;rw[ho]at ho';cases ho';exact#[_,es',ep',hL,r']) hok I.bare
theorem Inv.call {g':Array GenState}{t':Nat}{d':Drawn}{ch:List Addr}(I:Inv X pins σ H s)(u:Un (frs X.stack) ch H H' s.heap h')(hok:HOk X.prog X.w H' h')(hg:AllBare g')
 (hch:∀b∈ch,(b∈X.ex\/X.s₀.heap.objs.size<=b)/\b≠X.env.locals/\(∀x c,X.env.cells.lookup x=some c->c≠b)/\∀p∈X.pn++pins,p.1≠b) :
 Inv X pins σ H' { s with heap:=h',gens:=g',drawn:=d',toks:=t' }:=by
 obtain⟨m,⟨o,es,ep,ho,r⟩,_⟩:=id I.loc;obtain⟨sl,hL⟩:=u.any ho I.free λz=>(hch _ z).2.1 rfl;exact I.step (ch:=ch) hch (λb o hL hb hc e n=>u.keep b o e n (λz=>(qAl.mp (I.stkSub b z)).elim hL hb) hc) (λb o _ _ hc e n=>u.any e n hc) (λb o hc e n=>u.free b o e n hc) (λb o hc e=>u.there b o e hc) u.tups u.frzs u.tbls (λm' hm=>by
  obtain⟨o',es',ep',ho',r'⟩:=hm;rw[ho]at ho';cases ho';exact#[_,es',ep',hL,r']) hok hg
theorem Inv.turned {t':Nat}{it:Addr}(I:Inv X pins σ H s)(k:∀b o,b≠it->s.heap.get? b=some o->h'.get? b=some o)(hn:H it=none)(hL:it≠X.env.locals)
 (h1:it∈X.ex\/X.s₀.heap.objs.size<=it)(h2:∀x c,X.env.cells.lookup x=some c->c≠it)(h3:∀p∈X.pn++pins,p.1≠it):Inv X pins σ H { s with heap:=h',toks:=t' }:=by
 have nit:∀b u,H b=some u->b≠it:=λb u e z=>by rw[z,hn]at e;cases e
 refine I.step (g':=s.gens) (d':=s.drawn) (ch:=[it]) (λb hb=>?_) (λb o _ _ hc e _=>k b o (λz=>hc (by simp[z])) e) (λb o _ _ hc e _=>#[o.slots,k b o (λz=>hc (by simp[z])) e]) (λ_ _ _ _ n=>n)
  (λb o hc e=>#[o,k b o (λz=>hc (by simp[z])) e]) (λ_ _ e=>e) (λ_ _ _ e=>e) (λb ps e=>#[(List.toArray []),by rw[e];simp]) (λm hm=>?_) (λb u e=>?_) I.bare
 .have e:b=it:=by simpa using hb
  subst e;exact#[h1,hL,h2,h3]
 .obtain⟨o,es,ep,ho,r⟩:=hm;exact#[o,es,ep,k _ o (Ne.symm hL) ho,r]
 .refine(I.hok b u e).stay (λc v hc q=>k c v ?_ q) (λ_ q=>q) λ_ _ q=>q;rcases hc with z|z
  .rw[z];exact nit b u e
  .exact nit c _ z
theorem Inv.tok (I:Inv X pins σ H s)(t:Nat):Inv X pins σ H { s with toks:=t }:=I.un (h':=s.heap) (t':=t) Un.refl I.hok
theorem Inv.kept {t':Nat}(I:Inv X pins σ H s)(k:∀b u,s.heap.get? b=some u->h'.get? b=some u):Inv X pins σ H { s with heap:=h',toks:=t' }:=I.un (Un.kept k) (I.hok.kept k)
theorem Inv.laid {a:Addr}{o:HO}{t':Nat}(I:Inv X pins σ H s)(k:∀b u,s.heap.get? b=some u->h'.get? b=some u)(hp:s.heap.objs.size<=a)(new:DO X.prog X.w (upd H a o) h' a o) :
 Inv X pins σ (upd H a o) { s with heap:=h',toks:=t' }:=I.un (Un.laid k hp (I.hok.fresh hp)) (I.hok.laid k hp new)
theorem Inv.write {x e:Addr}{o:HO}{t':Nat}(I:Inv X pins σ H s)(mu:Mut (H x))(he:e=x\/H e=some (.own x))(k:∀b u,b≠e->s.heap.get? b=some u->h'.get? b=some u)(heo:∃u,h'.get? e=some u)
 (new:DO X.prog X.w (upd H x o) h' x o):Inv X pins σ (upd H x o) { s with heap:=h',toks:=t' }:=I.un (Un.write mu he k heo) (I.hok.write mu he k heo new)
theorem Inv.pins_of {pins':List (Addr×Obj)}(I:Inv X pins σ H s)(h:∀p∈pins',s.heap.get? p.1=some p.2/\H p.1=none/\p.1≠X.env.locals/\p.1∉X.fs/\∀v,p.2.data≠.cell v):Inv X pins' σ H s:=
 #[I.ok,I.os,I.bare,I.base,I.loc,I.cell,I.free,I.freeC,λp hp=>(qAq.mp hp).elim (λz=>I.pin p (qAS _ z)) (h p),I.hok,I.len]
theorem O1 {N:List Str}(hN:N.Nodup){i j:Nat}{x:Str}(a:N[i]? = some x)(b:N[j]? = some x):i=j:=by
 obtain⟨h1,e1⟩:=qAf.mp a;obtain⟨h2,e2⟩:=qAf.mp b;exact(List.getElem_inj hN).mp (e1.trans e2.symm)
theorem JQ {M:Model}{A:Around}{E:Value->Shared->Prop}{i:Nat}{x:Str}{v:V}{u:Value}{Q:Unit->Shared->Prop}(I:Inv X pins σ H s)(hN:X.N.Nodup)(hi:X.N[i]? = some x)(hx:Loc X.env.scope x)(r:CN v u)
 (h:∀s',Inv X pins (σ.set i (some v)) H s'->(∃a,Heap.SameBut a s.heap s'.heap/\(a=X.env.locals\/X.env.cells.lookup x=some a))->Q Unit.unit s')(hf:X.fn x=true\/X.env.scope.names.lookup x=some .local:=by first|exact .inl rfl|exact .inr rfl|assumption):wpAny M A (storeName X.env x u) Q E s:=by
 obtain⟨m,hn,hl⟩:=id I.loc;have hcls:(X.env.scope.kind == .class||(X.env.scope.kind == .module&&X.env.locals != X.env.globals))=false:=by rw[I.ok.kind];rfl
 have hiσ:i<↥σ:=by rw[I.len];exact(qAf.mp hi).1
 have cne:=I.cne;have tracked:∀{a:Addr}{h':Heap},(∃o,s.heap.get? a=some o/\H a=none)->Heap.SameBut a s.heap h'->HOk X.prog X.w H h':=λ{a h'} ha hs b ob e=>by
  obtain⟨_,_,hfree⟩:=ha;refine(I.hok b ob e).stay (λc w' hc q=>(hs.2 c ?_).trans q) (λ_ q=>q) λ_ _ q=>q;rintro rfl;rcases hc with rfl|hc
  .rw[hfree]at e;cases e
  .rw[hfree]at hc;cases hc
 rcases hx with hk|hk
 .refine wpAny_storeName_local hk hn (λh' hn' hs=>?_) hcls;obtain⟨oL,_,_,hoL,_⟩:=id hn;refine h _ #[I.ok,I.os,I.bare,#[λb o e n hb hx=>?_,λb o e n hb hx=>?_,I.base.free,λb o e hx=>?_,I.base.tups,I.base.frzs,I.base.tbls],#[_,hn',λj y v' e1 e2 e3=>?_],λy c e=>?_,I.free,I.freeC,λp hp=>?_,tracked #[oL,hoL,I.free] hs,by simpa using I.len] #[_,hs,.inl rfl]
  .exact(hs.2 b (qAx (qAs (qAk e) I.ok.above))).trans (I.base.keep b o e n hb hx)
  .obtain⟨sl,e1⟩:=I.base.slot b o e n hb hx;exact#[sl,(hs.2 b (qAx (qAs (qAk e) I.ok.above))).trans e1]
  .obtain⟨o',e1⟩:=I.base.there b o e hx;exact#[o',(hs.2 b (qAx (qAs (qAk e) I.ok.above))).trans e1]
  .by_cases hj:j=i
   .subst hj;rw[hi]at e1;cases e1;rw[qBx hiσ]at e2;cases e2;exact#[u,r,.inl #[hk,by simp]]
   .rw[qBT (Ne.symm hj)]at e2;obtain⟨u',r',q⟩:=hl j y v' e1 e2 e3;refine#[u',r',?_];rcases q with⟨k,e⟩|⟨k,c,e,z⟩
    .refine .inl #[k,?_];have:y≠x:=λe=>hj (O1 hN e1 (e ▸ hi));simp[this,e]
    .exact .inr #[k,c,e,z.sameBut hs (cne y c e)]
  .obtain⟨w',z⟩:=I.cell y c e;exact#[w',z.sameBut hs (cne y c e)]
  .obtain⟨e,n,ne,nf,d⟩:=I.pin p hp;exact#[(hs.2 p.1 ne).trans e,n,ne,nf,d]
 .have hfn:X.fn x=true:=by
   rcases hf with z|z
   .exact z
   .rw[z]at hk;cases hk
  obtain⟨c,hc⟩:=I.ok.has x (.inl hk);obtain⟨w',z⟩:=I.cell x c hc;refine wpAny_storeName_cell I.ok.kind hk hc z (λh' hc' hs=>?_);obtain⟨oc,hoc,hocd⟩:=id z;refine h { s with heap:=h' } #[I.ok,I.os,I.bare,#[λb o e n hb hx=>?_,λb o e n hb hx=>?_,I.base.free,λb o e hx=>?_,I.base.tups,I.base.frzs,I.base.tbls],#[m,hn.sameBut hs (Ne.symm (cne x c hc)),λj y v' e1 e2 e3=>?_],λy c' e=>?_,I.free,I.freeC,λp hp=>?_,tracked #[oc,hoc,I.freeC x c hc] hs,by simpa using I.len] #[c,hs,.inr hc]
  .exact(hs.2 b (qAx (qAs (qAk e) (I.ok.cab x c hfn hc)))).trans (I.base.keep b o e n hb hx)
  .obtain⟨sl,e1⟩:=I.base.slot b o e n hb hx;exact#[sl,(hs.2 b (qAx (qAs (qAk e) (I.ok.cab x c hfn hc)))).trans e1]
  .obtain⟨o',e1⟩:=I.base.there b o e hx;exact#[o',(hs.2 b (qAx (qAs (qAk e) (I.ok.cab x c hfn hc)))).trans e1]
  .by_cases hj:j=i
   .subst hj;rw[hi]at e1;cases e1;rw[qBx hiσ]at e2;cases e2;exact#[u,r,.inr #[.inl hk,c,hc,hc']]
   .rw[qBT (Ne.symm hj)]at e2;obtain⟨u',r',q⟩:=hl j y v' e1 e2 e3;refine#[u',r',?_];rcases q with q|⟨k,c',e,z'⟩
    .exact .inl q
    .refine .inr #[k,c',e,z'.sameBut hs ?_];rintro rfl;exact hj (O1 hN e1 (I.ok.inj _ _ _ e hc ▸ hi))
  .by_cases hcc:c'=c
   .subst hcc;exact#[_,hc']
   .obtain⟨w2,z2⟩:=I.cell y c' e;exact#[w2,z2.sameBut hs hcc]
  .obtain⟨e,n,ne,nf,d⟩:=I.pin p hp;refine#[(hs.2 p.1 ?_).trans e,n,ne,nf,d];intro q;rw[q,hoc]at e;have q':oc=p.2:=qAo e;exact d w' (by rw[<-q'];exact hocd)
theorem Iu {M:Model}{A:Around}{E:Value->Shared->Prop}{i:Nat}{x:Str}{v:V}{u:Value}{Q:Unit->Shared->Prop}(I:Inv X pins σ H s)(hN:X.N.Nodup)(hi:X.N[i]? = some x)(hx:Loc X.env.scope x)(r:CN v u)
 (h:∀s',Inv X pins (σ.set i (some v)) H s'->Q Unit.unit s')(hf:X.fn x=true\/X.env.scope.names.lookup x=some .local:=by first|exact .inl rfl|exact .inr rfl|assumption):wpAny M A (storeName X.env x u) Q E s:=
 JQ I hN hi hx r (λs' I' _=>h s' I') hf
theorem Inv.call' {s':Shared}{ch:List Addr}(I:Inv X pins σ H s)(ho:s'.os=s.os)(u:Un (frs X.stack) ch H H' s.heap s'.heap)(hok:HOk X.prog X.w H' s'.heap)(hg:AllBare s'.gens)
 (hch:∀b∈ch,(b∈X.ex\/X.s₀.heap.objs.size<=b)/\b≠X.env.locals/\(∀x c,X.env.cells.lookup x=some c->c≠b)/\∀p∈X.pn++pins,p.1≠b):Inv X pins σ H' s':=by
 obtain⟨h',g',d',t',o'⟩:=s';have e:o'=s.os:=ho;subst e;exact I.call (g':=g') (t':=t') (d':=d') u hok hg hch
end
abbrev XK:=Value->Option Addr->Hp->Prop
abbrev St:=List (Option V)
abbrev VK:=V->Hp->Prop
abbrev TE:=St->Hp->VK->Prop
abbrev TT:=St->Hp->(Bool->Hp->Prop)->Prop
abbrev TA:=St->Hp->(List V->Hp->Prop)->Prop
structure PD where
 nx:St->Hp->Prop
 rt:VK
 bk:St->Hp->Prop:=λ_ _=>False
 ct:St->Hp->Prop:=λ_ _=>False
abbrev TS:=PD->St->Hp->Prop
def EP (X:Cx)(pins:List (Addr×Obj))(σ:St)(Q:VK)(u:Value)(s':Shared):Prop:=∃v H',Inv X pins σ H' s'/\CN v u/\Q v H'
def TP (X:Cx)(pins:List (Addr×Obj))(σ:St)(Q:Bool->Hp->Prop)(b:Bool)(s':Shared):Prop:=∃H',Inv X pins σ H' s'/\Q b H'
def AP (X:Cx)(pins:List (Addr×Obj))(σ:St)(Q:List V->Hp->Prop)(us:List Value)(s':Shared):Prop:=∃vs H',Inv X pins σ H' s'/\Cb vs us/\Q vs H'
def SP (X:Cx)(pins:List (Addr×Obj))(D:PD)(f:Flow)(s':Shared):Prop:=
 match f with
 |.next=>∃σ' H',Inv X pins σ' H' s'/\D.nx σ' H'
 |.brk=>∃σ' H',Inv X pins σ' H' s'/\D.bk σ' H'
 |.cont=>∃σ' H',Inv X pins σ' H' s'/\D.ct σ' H'
 |.ret u=>∃v σ' H',Inv X pins σ' H' s'/\CN v u/\D.rt v H'
def PE (X:Cx)(e:Expr)(t:TE):Prop:=
 ∀(pins:List (Addr×Obj))(s:Shared)(σ:St)(H:Hp)(Q:VK),Inv X pins σ H s->t σ H Q->wpAny (model X.prog X.w) X.A (eval e X.env) (EP X pins σ Q) X.xe s
def PT (X:Cx)(e:Expr)(t:TT):Prop:=
 ∀(pins:List (Addr×Obj))(s:Shared)(σ:St)(H:Hp)(Q:Bool->Hp->Prop),Inv X pins σ H s->t σ H Q->wpAny (model X.prog X.w) X.A (isTrue e X.env (eval e X.env)) (TP X pins σ Q) X.xe s
def PW (X:Cx)(e:Expr)(t:TT):Prop:=
 ∀(whole:Sem Value)(pins:List (Addr×Obj))(s:Shared)(σ:St)(H:Hp)(Q:Bool->Hp->Prop),Inv X pins σ H s->t σ H Q->wpAny (model X.prog X.w) X.A (isTrue e X.env whole) (TP X pins σ Q) X.xe s
def PA (X:Cx)(es:List Expr)(t:TA):Prop:=
 ∀(pos:Pos)(pins:List (Addr×Obj))(s:Shared)(σ:St)(H:Hp)(Q:List V->Hp->Prop),Inv X pins σ H s->t σ H Q->wpAny (model X.prog X.w) X.A (spliced (backTo pos (starEach es X.env))) (AP X pins σ Q) X.xe s
def PS (X:Cx)(st:Stmt)(t:TS):Prop:=
 ∀(pins:List (Addr×Obj))(s:Shared)(σ:St)(H:Hp)(D:PD),Inv X pins σ H s->t D σ H->wpAny (model X.prog X.w) X.A (exec st X.env) (SP X pins D) X.xe s
def PSs (X:Cx)(st:List Stmt)(t:TS):Prop:=
 ∀(pins:List (Addr×Obj))(s:Shared)(σ:St)(H:Hp)(D:PD),Inv X pins σ H s->t D σ H->wpAny (model X.prog X.w) X.A (execs st X.env) (SP X pins D) X.xe s
theorem thn {α:Type}{t:Sem α}{Q Q':α->Shared->Prop}{M:Model}{A:Around}{E:Value->Shared->Prop}{s:Shared}(h:wpAny M A t Q E s)(hQ:∀a s,Q a s->Q' a s):wpAny M A t Q' E s:=wpAny_mono h hQ λ_ _ x=>x
section
variable {X:Cx}
def P7 (i:Nat):TE:=λσ H Q=>∃v,σ[i]? = some (some v)/\Q v H
def tC (v:V):TE:=λ_ H Q=>Q v H
theorem YI {i:Nat}{x:Str}{pos:Pos}(hN:X.N[i]? = some x)(hv:Vis X.env.scope x)(hd:(x==("__debug__":Str))=false:=by decide)(hcd:(x==("__classdict__":Str))=false:=by decide):PE X (.Name x pos) (P7 i):=by
 intro pins s σ H Q I h;obtain⟨v,e,h⟩:=h;obtain⟨m,hn,hl⟩:=I.loc;obtain⟨u,r,l⟩:=hl i x v hN e hv;have fin:EP X pins σ Q u s:=#[v,H,I,r,h];rcases l with⟨hk,hm⟩|⟨hk,c,hc,hcell⟩
 .exact wpAny_Name (wpAny_loadName_local I.ok.kind hk hn hm fin) hd
 .rcases hk with hk|hk
  .exact wpAny_Name (wpAny_loadName_cell I.ok.kind hk hc hcell fin) hd
  .exact wpAny_Name (wpAny_loadName_free I.ok.kind hk hc hcell fin hcd) hd
theorem XN {i j pos}:PE X (.Constant (.int i) j pos) (tC (.int i)):=λ_ _ _ H _ I h=>wpAny_Constant_int #[.int i,H,I.tok _,#[_,rfl],h]
theorem YJ {b j pos}:PE X (.Constant (.bool b) j pos) (tC (.bl b)):=λ_ _ _ H _ I h=>Constant_bool #[.bl b,H,I,rfl,h]
theorem XE {j pos}:PE X (.Constant .none j pos) (tC .non):=λ_ _ _ H _ I h=>Constant_none #[.non,H,I,rfl,h]
theorem Yd {x j pos}:PE X (.Constant (.str x) j pos) (tC (.str x)):=λ_ _ _ H _ I h=>Calls.Constant_str #[.str x,H,I.tok _,#[_,rfl],h]
def Gl (X:Cx)(x:Str):Prop:=X.env.kindOf x=some .globalImplicit
theorem IS {E:Value->Shared->Prop}{pins:List (Addr×Obj)}{s:Shared}{σ:St}{H:Hp}{x:Str}{u:Value}{pos:Pos}{Q:Value->Shared->Prop}(I:Inv X pins σ H s)(hg:Gl X x)(hm:X.mg x=some u)(h:Q u s)
 (hd:(x==("__debug__":Str))=false:=by decide):wpAny (model X.prog X.w) X.A (eval (.Name x pos) X.env) Q E s:=
 Calls.Name_function_global I.ok.kind hg (Calls.loadGlobal_global (by rw[I.ok.glob];exact I.mod.glob.keeps I.bk) hm h) hd
theorem H0 {E:Value->Shared->Prop}{pins:List (Addr×Obj)}{s:Shared}{σ:St}{H:Hp}{x:Str}{u:Value}{pos:Pos}{Q:Value->Shared->Prop}(I:Inv X pins σ H s)(hg:Gl X x)(hm:X.mg x=none)(hv:bootBuiltins x=some u)(h:Q u s)
 (hn:x≠"__name__":=by decide)(hd:(x==("__debug__":Str))=false:=by decide):wpAny (model X.prog X.w) X.A (eval (.Name x pos) X.env) Q E s:=by
 obtain⟨mb,h1,h2⟩:=I.mod.blt;exact Calls.Name_function_global I.ok.kind hg (Calls.loadGlobal_builtin (by rw[I.ok.glob];exact I.mod.glob.keeps I.bk) hm (by rw[I.ok.blt];exact h1.keeps I.bk) ((h2 x hn).trans hv) h) hd
theorem Wj {x:Str}{v:V}{u:Value}{pos:Pos}(hg:Gl X x)(hm:X.mg x=some u)(r:CN v u)(hd:(x==("__debug__":Str))=false:=by decide):PE X (.Name x pos) (tC v):=
 λ_ _ _ H _ I h=>IS I hg hm #[v,H,I,r,h] hd
theorem Vk {x:Str}{v:V}{u:Value}{pos:Pos}(hg:Gl X x)(hm:X.mg x=none)(hv:bootBuiltins x=some u)(r:CN v u)(hn:x≠"__name__":=by decide)(hd:(x==("__debug__":Str))=false:=by decide):PE X (.Name x pos) (tC v):=
 λ_ _ _ H _ I h=>H0 I hg hm hv #[v,H,I,r,h] hn hd
variable {a b:Expr}{ta tb:TE}{pos:Pos}
def tB (t:TE):TT:=λσ H Q=>t σ H λx H1=>∃c,x=.bl c/\Q c H1
theorem Yx {e:Expr}{t:TE}(h:PE X e t)(he:∀whole,isTrue e X.env whole=(do let v <-whole;standAt e.pos;holding [v] (truthy v)):=by intro _;rfl):PT X e (tB t):=by
 intro pins s σ H Q I hw;refine isTrue_plain (thn (h pins s σ H _ I hw) λv s1 #[x,H1,I1,r1,q1]=>?_) (he _);obtain⟨d,rfl,q⟩:=q1;cases r1;exact wpAny_truthy_bool #[H1,I1,q]
variable {tA tB':TT}{rest:List Expr}
def dR (t u:TT):TT:=λσ H Q=>t σ H λc H1=>if c=true then u σ H1 Q else Q false H1
def tOr (t u:TT):TT:=λσ H Q=>t σ H λc H1=>if c=true then Q true H1 else u σ H1 Q
def cW (t:TT):TT:=λσ H Q=>t σ H λc H1=>Q (!c) H1
theorem Vz (ha:PT X a tA):PW X (.BoolOp .And [a] pos) tA:=by
 intro wh pins s σ H Q I h;refine isTrue_and (thn (ha pins s σ H Q I h) λc s1 e=>?_);cases c with
 |true=>exact isTrue_and_nil e
 |false=>exact e
theorem Xk (ha:PT X a tA):PW X (.BoolOp .Or [a] pos) tA:=by
 intro wh pins s σ H Q I h;refine isTrue_or (thn (ha pins s σ H Q I h) λc s1 e=>?_);cases c with
 |false=>exact isTrue_or_nil e
 |true=>exact e
theorem Xa (ha:PT X a tA)(hb:PW X (.BoolOp .And (b::rest) pos) tB'):PW X (.BoolOp .And (a::b::rest) pos) (dR tA tB'):=by
 intro wh pins s σ H Q I h;refine isTrue_and (thn (ha pins s σ H _ I h) λc s1 hh=>?_);obtain⟨H1,I1,q1⟩:=hh;cases c with
 |true=>exact hb wh pins s1 σ H1 Q I1 q1
 |false=>exact#[H1,I1,q1]
theorem aP (ha:PT X a tA)(hb:PW X (.BoolOp .Or (b::rest) pos) tB'):PW X (.BoolOp .Or (a::b::rest) pos) (tOr tA tB'):=by
 intro wh pins s σ H Q I h;refine isTrue_or (thn (ha pins s σ H _ I h) λc s1 hh=>?_);obtain⟨H1,I1,q1⟩:=hh;cases c with
 |true=>exact#[H1,I1,q1]
 |false=>exact hb wh pins s1 σ H1 Q I1 q1
theorem XR (ha:PT X a tA):PT X (.UnaryOp .Not a pos) (cW tA):=by
 intro pins s σ H Q I h;exact isTrue_not (ha pins s σ H (λc H1=>Q (!c) H1) I h)
def Z6 (ta tb:TE):TE:=λσ H Q=>ta σ H λx H1=>∃c,x=.bl c/\if c=true then tb σ H1 Q else Q (.bl false) H1
def bS (ta tb:TE):TE:=λσ H Q=>ta σ H λx H1=>∃c,x=.bl c/\if c=true then Q (.bl true) H1 else tb σ H1 Q
def Z9 (ta:TE):TE:=λσ H Q=>ta σ H λx H1=>∃c,x=.bl c/\Q (.bl (!c)) H1
theorem Xs {op}{t:TE}(h:PE X a t):PE X (.BoolOp op [a] pos) t:=λpins s σ H Q I hw=>BoolOp_one (h pins s σ H Q I hw)
theorem YF (ha:PE X a ta)(hb:PE X (.BoolOp .And (b::rest) pos) tb):PE X (.BoolOp .And (a::b::rest) pos) (Z6 ta tb):=by
 intro pins s σ H Q I h;refine BoolOp_and (thn (ha pins s σ H _ I h) λv s1 hh=>?_);obtain⟨x,H1,I1,r1,q1⟩:=hh;obtain⟨c,rfl,q1⟩:=q1;cases r1;refine wpAny_truthy_bool ?_;cases c with
 |true=>exact hb pins s1 σ H1 Q I1 q1
 |false=>exact#[.bl false,H1,I1,rfl,q1]
theorem aQ (ha:PE X a ta)(hb:PE X (.BoolOp .Or (b::rest) pos) tb):PE X (.BoolOp .Or (a::b::rest) pos) (bS ta tb):=by
 intro pins s σ H Q I h;refine BoolOp_or (thn (ha pins s σ H _ I h) λv s1 hh=>?_);obtain⟨x,H1,I1,r1,q1⟩:=hh;obtain⟨c,rfl,q1⟩:=q1;cases r1;refine wpAny_truthy_bool ?_;cases c with
 |false=>exact hb pins s1 σ H1 Q I1 q1
 |true=>exact#[.bl true,H1,I1,rfl,q1]
theorem YK (ha:PE X a ta):PE X (.UnaryOp .Not a pos) (Z9 ta):=by
 intro pins s σ H Q I h;refine UnaryOp_ (thn (ha pins s σ H _ I h) λv s1 hh=>?_);obtain⟨x,H1,I1,r1,q1⟩:=hh;obtain⟨c,rfl,q1⟩:=q1;cases r1;exact not_of (wpAny_truthy_bool #[.bl (!c),H1,I1,rfl,q1])
end
def SqL (K:W.Frag)(H:Hp)(a:Addr)(xs:List V):Prop:=
 Rd H a (.lst xs) \/
  ∃(o:Obj)(its:Array Value)(n:Nat),K.lookup a=some o/\o.cls=.type "list"/\o.dict=none/\o.data=.seq its n/\its.size<=sizeLine/\Cb xs its.toList
def SqT (K:W.Frag)(H:Hp)(a:Addr)(xs:List V):Prop:=
 Rd H a (.tup xs) \/
  ∃(o:Obj)(its:Array Value)(n:Nat),K.lookup a=some o/\o.cls=.type "tuple"/\o.data=.seq its n/\its.size<=sizeLine/\Cb xs its.toList
def dJ:Value->Option V
 |.none=>some .non
 |.bool b=>some (.bl b)
 |.int i _=>some (.int i)
 |.str x _=>some (.str x)
 |.bytes b _=>some (.byt b)
 |.float b _=>some (.flt b)
 |.ref a=>some (.ref a)
 |.type n=>some (.ty n)
 |_=>none
theorem CN.abs {x:V}{u:Value}(r:CN x u):dJ u=some x:=by
 cases x with
 |non=>cases r;rfl
 |bl _=>cases r;rfl
 |int _=>obtain⟨t,rfl⟩:=r;rfl
 |str _=>obtain⟨t,rfl⟩:=r;rfl
 |byt _=>obtain⟨t,rfl⟩:=r;rfl
 |flt _=>obtain⟨t,rfl⟩:=r;rfl
 |ref _=>cases r;rfl
 |ty _=>cases r;rfl
theorem CN.inj {x y:V}{u:Value}(r:CN x u)(q:CN y u):x=y:=qAo (r.abs.symm.trans q.abs)
theorem Cb.inj:∀{xs ys:List V}{us:List Value},Cb xs us->Cb ys us->xs=ys
 |_,_,_,.nil,.nil=>rfl
 |_,_,_,.cons r t,.cons r' t'=>by rw[r.inj r',Cb.inj t t']
section
variable {X:Cx}{pins:List (Addr×Obj)}{σ:St}{H:Hp}{s:Shared}{a:Addr}{xs ys:List V}
theorem SqL.of {K:W.Frag}(h:H a=some (.lst xs)):SqL K H a xs:=.inl (.inl h)
theorem SqT.of {K:W.Frag}(h:H a=some (.tup xs)):SqT K H a xs:=.inl (.inl h)
theorem Inv.list (I:Inv X pins σ H s)(h:SqL X.K H a xs):∃its:List Value,Cb xs its/\PlainL s.heap a its.toArray/\↥xs<=sizeLine:=by
 rcases h with h|⟨o,its,n,hk,hc,hd,hs,hz,r⟩
 .obtain⟨z,its,n,r,e⟩:=h.ok I.hok;exact#[its,r,#[_,n,e,rfl,rfl,rfl],z]
 .refine#[its.toList,r,#[o,n,I.kIn a o hk,hc,hd,by simpa using hs],?_];have e:=↥r;simp only[Array.length_toList]at e;omega
theorem Inv.tuple (I:Inv X pins σ H s)(h:SqT X.K H a xs):∃its:List Value,Cb xs its/\IsTup s.heap a its.toArray/\↥xs<=sizeLine:=by
 rcases h with h|⟨o,its,n,hk,hc,hs,hz,r⟩
 .obtain⟨z,its,r,p⟩:=h.ok I.hok;exact#[its,r,p,z]
 .refine#[its.toList,r,#[o,I.kIn a o hk,hc,n,by simpa using hs],?_];have e:=↥r;simp only[Array.length_toList]at e;omega
theorem Inv.list_inj (I:Inv X pins σ H s)(h:SqL X.K H a xs)(h':SqL X.K H a ys):xs=ys:=by
 obtain⟨its,r,⟨o,n,e,_,_,d⟩,_⟩:=I.list h;obtain⟨its',r',⟨o',n',e',_,_,d'⟩,_⟩:=I.list h';rw[e]at e';cases e';rw[d]at d';injection d' with d1 _
 have:its=its':=by simpa using congrArg Array.toList d1
 subst this;exact r.inj r'
theorem Inv.tuple_inj (I:Inv X pins σ H s)(h:SqT X.K H a xs)(h':SqT X.K H a ys):xs=ys:=by
 obtain⟨its,r,⟨o,e,_,n,d⟩,_⟩:=I.tuple h;obtain⟨its',r',⟨o',e',_,n',d'⟩,_⟩:=I.tuple h';rw[e]at e';cases e';rw[d]at d';injection d' with d1 _
 have:its=its':=by simpa using congrArg Array.toList d1
 subst this;exact r.inj r'
end
abbrev Cx.wish (X:Cx)(E:Value->Shared->Prop):Cx:={ X with xe:=E }
abbrev Cx.nox (X:Cx):Cx:=X.wish λ_ _=>False
theorem Cx.Ok.wish {X:Cx}(ok:X.Ok)(E:Value->Shared->Prop):(X.wish E).Ok:=
 #[ok.mod,ok.kind,ok.glob,ok.blt,ok.above,ok.inj,ok.has,ok.cab,ok.hd,ok.frames,ok.stk,ok.exf,ok.bs,ok.bsz,ok.noex,ok.exfs,ok.funs,ok.frf,ok.tb]
theorem Cx.Ok.unwish {X:Cx}{E:Value->Shared->Prop}(ok:(X.wish E).Ok):X.Ok:=
 #[ok.mod,ok.kind,ok.glob,ok.blt,ok.above,ok.inj,ok.has,ok.cab,ok.hd,ok.frames,ok.stk,ok.exf,ok.bs,ok.bsz,ok.noex,ok.exfs,ok.funs,ok.frf,ok.tb]
section
variable {X:Cx}{pins:List (Addr×Obj)}{σ:St}{H:Hp}{s:Shared}{E:Value->Shared->Prop}
theorem Inv.wish (I:Inv X pins σ H s)(E:Value->Shared->Prop):Inv (X.wish E) pins σ H s:=#[I.ok.wish E,I.os,I.bare,I.base,I.loc,I.cell,I.free,I.freeC,I.pin,I.hok,I.len]
theorem Inv.unwish (I:Inv (X.wish E) pins σ H s):Inv X pins σ H s:=#[I.ok.unwish,I.os,I.bare,I.base,I.loc,I.cell,I.free,I.freeC,I.pin,I.hok,I.len]
theorem SP.unwish {D:PD}{f:Flow}{s':Shared}(h:SP (X.wish E) pins D f s'):SP X pins D f s':=by
 cases f with
 |next=>obtain⟨σ',H',I,q⟩:=h;exact#[σ',H',I.unwish,q]
 |brk=>obtain⟨σ',H',I,q⟩:=h;exact#[σ',H',I.unwish,q]
 |cont=>obtain⟨σ',H',I,q⟩:=h;exact#[σ',H',I.unwish,q]
 |ret u=>obtain⟨v,σ',H',I,r,q⟩:=h;exact#[v,σ',H',I.unwish,r,q]
theorem PSs.nox {st:List Stmt}{t:TS}(h:PSs X.nox st t):PSs X st t:=λpins s σ H D I hw=>
 wpAny_mono (h pins s σ H D (I.wish _) hw) (λ_ _ q=>q.unwish) λ_ _ z=>False.elim z
end
section
variable {X:Cx}{st:Stmt}{rest:List Stmt}{t u:TS}{e:Expr}{te:TE}{pos:Pos}
def Zw:TS:=λD σ H=>D.nx σ H
def dQ (t u:TS):TS:=λD σ H=>t { D with nx:=u D } σ H
theorem VX:PSs X [] Zw:=λ_ _ σ H _ I h=>wpAny_execs_nil #[σ,H,I,h]
theorem Oq (h1:PS X st t)(h2:PSs X rest u):PSs X (st::rest) (dQ t u):=by
 intro pins s σ H D I h;refine wpAny_execs_cons (thn (h1 pins s σ H { D with nx:=u D } I h) λf s1 q=>?_);cases f with
 |next=>
  obtain⟨σ',H',I',q⟩:=q;exact h2 pins s1 σ' H' D I' q
 |ret v=>exact q
 |brk=>exact q
 |cont=>exact q
theorem WQ (h1:PS X st t):PSs X [st] t:=by
 intro pins s σ H D I h;refine wpAny_execs_cons (thn (h1 pins s σ H D I h) λf s1 q=>?_);cases f with
 |next=>exact wpAny_execs_nil q
 |ret v=>exact q
 |brk=>exact q
 |cont=>exact q
theorem Inv.quiet {pins:List (Addr×Obj)}{σ:St}{H:Hp}{s:Shared}(I:Inv X pins σ H s):interactive X.env=false:=by simp[interactive,I.ok.kind]
def Yc (te:TE):TS:=λD σ H=>te σ H λ_ H1=>D.nx σ H1
theorem BF (he:PE X e te)(hs:swapsWith e none pos.line X.env=pure false:=by rfl):PS X (.Expr e pos) (Yc te):=by
 intro pins s σ H D I h;exact wpAny_Expr_any (thn (he pins s σ H _ I h) λv s1 #[x,H1,I1,r1,q1]=>#[σ,H1,I1,q1]) I.quiet hs
def dM (te:TE):TS:=λD σ H=>te σ H D.rt
theorem UB (he:PE X e te):PS X (.Return (some e) pos) (dM te):=by
 intro pins s σ H D I h;exact wpAny_Return_some (thn (he pins s σ H _ I h) λv s1 #[x,H1,I1,r1,q1]=>#[x,σ,H1,I1,r1,q1])
def dF (c:TT)(t u:TS):TS:=λD σ H=>c σ H λb H1=>if b=true then t D σ H1 else u D σ H1
theorem aC {c:Expr}{a b:List Stmt}{tc:TT}(hc:PT X c tc)(ha:PSs X a t)(hb:PSs X b u):PS X (.If c a b pos) (dF tc t u):=by
 intro pins s σ H D I h;refine wpAny_If (thn (hc pins s σ H _ I h) λd s1 hh=>?_);obtain⟨H1,I1,q1⟩:=hh;cases d with
 |true=>exact ha pins s1 σ H1 D I1 q1
 |false=>exact hb pins s1 σ H1 D I1 q1
def XM:TS:=λ_ _ _=>False
theorem Ti:PS X st XM:=λ_ _ _ _ _ _ h=>h.elim
end
abbrev TG:=V->St->Hp->(St->Hp->Prop)->Prop
abbrev TGs:=List V->St->Hp->(St->Hp->Prop)->Prop
def PG (X:Cx)(target:Expr)(t:TG):Prop:=
 ∀(pins:List (Addr×Obj))(s:Shared)(σ:St)(H:Hp)(v:V)(u:Value)(Q:St->Hp->Prop),Inv X pins σ H s->CN v u->t v σ H Q ->
  wpAny (model X.prog X.w) X.A (assign target X.env u) (λ_ s'=>∃σ' H',Inv X pins σ' H' s'/\Q σ' H') X.xe s
def PGs (X:Cx)(ts:List Expr)(t:TGs):Prop:=
 ∀(pins:List (Addr×Obj))(s:Shared)(σ:St)(H:Hp)(vs:List V)(us:List Value)(Q:St->Hp->Prop),Inv X pins σ H s->Cb vs us->t vs σ H Q ->
  wpAny (model X.prog X.w) X.A (assignInOrder ((assignEach ts X.env).map (·.2)) us) (λ_ s'=>∃σ' H',Inv X pins σ' H' s'/\Q σ' H') X.xe s
abbrev ZX:=V->V->V->Hp->(Hp->Prop)->Prop
def bG (X:Cx)(t:ZX):Prop:=
 ∀(pins:List (Addr×Obj))(s:Shared)(σ:St)(H:Hp)(o i v:V)(ov iv u:Value)(Q:Hp->Prop),Inv X pins σ H s->CN o ov->CN i iv->CN v u->t o i v H Q ->
  wpAny (model X.prog X.w) X.A (setItem ov iv u) (λ_ s'=>∃H',Inv X pins σ H' s'/\Q H') X.xe s
abbrev TIp:=V->V->Hp->VK->Prop
def PIp (X:Cx)(op:Operator)(t:TIp):Prop:=
 ∀(pins:List (Addr×Obj))(s:Shared)(σ:St)(H:Hp)(x y:V)(v u:Value)(Q:VK),Inv X pins σ H s->CN x v->CN y u->t x y H Q ->
  wpAny (model X.prog X.w) X.A (inplaceOp op v u) (EP X pins σ Q) X.xe s
section
variable {X:Cx}{pos:Pos}
def Fo (i:Nat):TG:=λv σ H Q=>Q (σ.set i (some v)) H
theorem AM {i:Nat}{x:Str}(hN:X.N.Nodup)(hi:X.N[i]? = some x)(hx:Loc X.env.scope x)(hf:X.fn x=true\/X.env.scope.names.lookup x=some .local:=by first|exact .inl rfl|exact .inr rfl|assumption):PG X (.Name x pos) (Fo i):=by
 intro pins s σ H v u Q I r h;exact wpAny_assign_Name (Iu I hN hi hx r (λs' I'=>#[_,H,I',h]) hf)
def ZM:TGs:=λvs σ H Q=>vs=[]/\Q σ H
def Qb (t:TG)(u:TGs):TGs:=λvs σ H Q=>∃v r,vs=v::r/\t v σ H λσ' H'=>u r σ' H' Q
theorem KW:PGs X [] ZM:=by
 intro pins s σ H vs us Q I r h;obtain⟨e,h⟩:=h;subst e;cases r;exact assignInOrder_nil #[σ,H,I,h]
theorem DV {e:Expr}{es:List Expr}{t:TG}{u:TGs}(h1:PG X e t)(h2:PGs X es u)
 (hs:(assignEach (e::es) X.env).map (·.2)=assign e X.env::(assignEach es X.env).map (·.2):=by rfl):PGs X (e::es) (Qb t u):=by
 intro pins s σ H vs us Q I r h;obtain⟨v,vr,e1,h⟩:=h;subst e1;cases r with
 |cons r rr=>
  rw[hs];refine assignInOrder_cons (thn (h1 pins s σ H _ _ _ I r h) λ_ s1 hh=>?_);obtain⟨σ1,H1,I1,q1⟩:=hh;exact h2 pins s1 σ1 H1 _ _ Q I1 rr q1
def Zz (K:W.Frag)(n:Nat)(t:TGs):TG:=λv σ H Q=>∃a xs,v=.ref a/\SqT K H a xs/\↥xs=n/\t xs σ H Q
theorem Oh {es:List Expr}{k:Nat}{t:TGs}{n:Nat}(hc:X.calm=true)(h:PGs X es t)
 (hn:(assignEach es X.env).length=n:=by rfl)(hst:(assignEach es X.env).findIdx? (·.1)=none:=by rfl):PG X (.Tuple es k pos) (Zz X.K n t):=by
 intro pins s σ H v u Q I r hw;obtain⟨a,xs,e1,hq,hl,hw⟩:=hw;subst e1;cases r;obtain⟨its,rv,ht,hz⟩:=I.tuple hq;refine assign_Tuple_tuple (I.ok.hd hc) ht (by simp[hn,<-hl,↥rv]) hst λh' hx=>?_;have I1:Inv X pins σ H { s with heap:=h' }:=I.kept (t':=s.toks) λb o e=>hx b o (qAx (qAk e)) e;exact h pins _ σ H xs _ Q I1 (by simpa using rv) hw
def bI (to ti:TE)(t:ZX):TG:=λv σ H Q=>to σ H λo H1=>ti σ H1 λi H2=>t o i v H2 λH3=>Q σ H3
theorem Uo {o i:Expr}{to ti:TE}{t:ZX}(ho:PE X o to)(hi:PE X i ti)(hs:bG X t)
 (ha:∀v,assign (.Subscript o i pos) X.env v=(do
  let ov <-holding [v] (eval o X.env)
  let iv <-holding [v,ov] (eval i X.env)
  standAt pos
  holding [v,ov,iv] (setItem ov iv v)
  release [v,ov,iv] []):=by intro _;rfl):PG X (.Subscript o i pos) (bI to ti t):=by
 intro pins s σ H v u Q I r h;rw[ha];refine wpAny_bind (wpAny_holding (thn (ho pins s σ H _ I h) λov s1 hh=>?_));obtain⟨x,H1,I1,r1,q1⟩:=hh;refine wpAny_bind (wpAny_holding (thn (hi pins s1 σ H1 _ I1 q1) λiv s2 hh=>?_));obtain⟨y,H2,I2,r2,q2⟩:=hh;refine wpAny_bind (wpAny_standAt (wpAny_bind (wpAny_holding (thn (hs pins s2 σ H2 x y v ov iv u _ I2 r1 r2 r q2) λ_ s3 hh=>?_))));obtain⟨H3,I3,q3⟩:=hh;exact wpAny_release #[σ,H3,I3,q3]
def Z8 (te:TE)(g:TG):TS:=λD σ H=>te σ H λx H1=>g x σ H1 D.nx
theorem Ug {tg e:Expr}{te:TE}{g:TG}(he:PE X e te)(hg:PG X tg g)(hs:swapsWithSole [tg] e pos.line X.env=pure false:=by rfl)(hw:swappedStores [tg] e X.env=pure none:=by rfl)
 (h1:(assignEach [tg] X.env).map (·.2)=[assign tg X.env]:=by rfl):PS X (.Assign [tg] e pos) (Z8 te g):=by
 intro pins s σ H D I h;refine wpAny_Assign_stores (thn (he pins s σ H _ I h) λv s1 #[x,H1,I1,r1,q1]=>?_) hs hw;rw[h1];exact thn (hg pins s1 σ H1 x v _ I1 r1 q1) λ_ s2 q=>q
theorem YV {i:Nat}{x:Str}{e:Expr}{te:TE}{pos':Pos}(hN:X.N.Nodup)(hi:X.N[i]? = some x)(hx:Loc X.env.scope x)(he:PE X e te)(hs:swapsWith e (some (.Name x pos')) pos.line X.env=pure false:=by rfl)(hf:X.fn x=true\/X.env.scope.names.lookup x=some .local:=by first|exact .inl rfl|exact .inr rfl|assumption) :
 PS X (.Assign [.Name x pos'] e pos) (Z8 te (Fo i)):=by
 intro pins s σ H D I h;refine wpAny_Assign_Name (thn (he pins s σ H _ I h) λv s1 #[y,H1,I1,r1,q1]=>?_) hs;exact Iu I1 hN hi hx r1 (λs2 I2=>#[_,H1,I2,q1]) hf
def dP (i:Nat)(te:TE)(ti:TIp):TS:=λD σ H=>∃x,σ[i]? = some (some x)/\te σ H λy H1=>ti x y H1 λz H2=>D.nx (σ.set i (some z)) H2
theorem Xi {i:Nat}{x:Str}{e:Expr}{te:TE}{op:Operator}{ti:TIp}{pos':Pos}(hN:X.N.Nodup)(hi:X.N[i]? = some x)(hx:Loc X.env.scope x)(he:PE X e te)(ho:PIp X op ti)(hf:X.fn x=true\/X.env.scope.names.lookup x=some .local:=by first|exact .inl rfl|exact .inr rfl|assumption) :
 PS X (.AugAssign (.Name x pos') op e pos) (dP i te ti):=by
 intro pins s σ H D I h;obtain⟨v,e1,h⟩:=h;obtain⟨m,hn,hl⟩:=I.loc;have vis:Vis X.env.scope x:=by rcases hx with k|k;exact .inl k;exact .inr (.inl k)
 obtain⟨u,r,l⟩:=hl i x v hi e1 vis;refine wpAny_AugAssign_Name ?_;have go:wpAny (model X.prog X.w) X.A (eval e X.env) (λw s₂=>wpAny (model X.prog X.w) X.A (inplaceOp op u w) (λr s₃=>wpAny (model X.prog X.w) X.A (storeName X.env x r) (λ_=>SP X pins D .next) X.xe s₃) X.xe s₂) X.xe s:=by
  refine thn (he pins s σ H _ I h) λw s1 hh=>?_;obtain⟨y,H1,I1,r1,q1⟩:=hh;refine thn (ho pins s1 σ H1 v y u w _ I1 r r1 q1) λz s2 hh=>?_;obtain⟨zv,H2,I2,r2,q2⟩:=hh;exact Iu I2 hN hi hx r2 (λs3 I3=>#[_,H2,I3,q2]) hf
 rcases l with⟨hk,hm⟩|⟨hk,c,hc,hcell⟩
 .exact wpAny_loadName_local I.ok.kind hk hn hm go
 .rcases hk with hk|hk
  .exact wpAny_loadName_cell I.ok.kind hk hc hcell go
  .rcases hx with k|k
   .have:X.env.scope.names.lookup x=some .free:=hk;rw[k]at this;cases this
   .have:X.env.scope.names.lookup x=some .free:=hk;rw[k]at this;cases this
def ipI (f:Int->Int->Int):TIp:=λx y H Q=>∃i j,x=.int i/\y=.int j/\Q (.int (f i j)) H
theorem YG:PIp X .Add (ipI λi j=>i+j):=by
 intro pins s σ H x y v u Q I r1 r2 h;obtain⟨i,j,e1,e2,q⟩:=h;subst e1;subst e2;obtain⟨t,rfl⟩:=r1;obtain⟨t',rfl⟩:=r2;exact iadd_int #[.int _,H,I.tok _,#[_,rfl],q]
end
section
variable {X:Cx}{pos:Pos}
def Yk (c:TT)(tb:TS):TS:=λD σ H=>∃W:Nat->St->Hp->Prop,(∃m,W m σ H)/\∀m σ H,W m σ H ->
 c σ H λb H1=>if b=true then ∃N:St->Hp->Prop,(∀σ' H',N σ' H'->∃m',m'<m/\W m' σ' H')/\tb { D with nx:=N,ct:=N,bk:=D.nx } σ H1 else D.nx σ H1
theorem S5 {c:Expr}{body:List Stmt}{tc:TT}{tb:TS}(hp:PassesOwn (model X.prog X.w) X.A X.env X.xe)(hc:PT X c tc)(hb:PSs X body tb):PS X (.While c body [] pos) (Yk tc tb):=by
 intro pins s σ H D I h;obtain⟨W,⟨m0,w0⟩,turn⟩:=h;refine wpAny_While (codeAny_whileLoop (λn s'=>∃σ' H',Inv X pins σ' H' s'/\W n σ' H') ?_ m0 #[σ,H,I,w0]);rintro n s1 ⟨σ1,H1,I1,w1⟩;refine wpAny_passesOwn hp (thn (hc pins s1 σ1 H1 _ I1 (turn n σ1 H1 w1)) λb s2 hh=>?_);obtain⟨H2,I2,q2⟩:=hh;cases b with
 |true=>
  obtain⟨N,hN,q2⟩:=q2;rw[if_pos rfl];refine wpAny_passesOwn hp (thn (hb pins s2 σ1 H2 _ I2 q2) λf s3 q3=>?_);cases f with
  |next=>
   obtain⟨σ3,H3,I3,n3⟩:=q3;obtain⟨m',hm,w3⟩:=hN σ3 H3 n3;exact#[m',hm,σ3,H3,I3,w3]
  |cont=>
   obtain⟨σ3,H3,I3,n3⟩:=q3;obtain⟨m',hm,w3⟩:=hN σ3 H3 n3;exact#[m',hm,σ3,H3,I3,w3]
  |brk=>exact q3
  |ret v=>exact q3
 |false=>
  rw[if_neg qAr];exact wpAny_execs_nil #[σ1,H2,I2,q2]
end
structure It where
 go:Nat->Hp->Prop
 yld:Nat->Hp->V->Hp->Prop
 stop:Nat->Hp->Prop
def PQ (X:Cx)(pins:List (Addr×Obj))(H:Hp)(b:Addr):Prop:=
 H b=none/\b≠X.env.locals/\b∉X.fs/\(b∈X.ex\/X.s₀.heap.objs.size<=b)/\(∀x c,X.env.cells.lookup x=some c->c≠b)/\∀p∈X.pn++pins,p.1≠b
theorem Inv.fpOk {X:Cx}{pins:List (Addr×Obj)}{σ:St}{H H':Hp}{s:Shared}{b:Addr}(I:Inv X pins σ H s)(hb:s.heap.objs.size<=b)(hn:H' b=none):PQ X pins H' b:=by
 refine#[hn,qBt (qAs I.lt hb),I.nofs hb,.inr (qAO I.sz hb),λx c e z=>?_,λp hp z=>?_]
 .obtain⟨v,q⟩:=I.cell x c e;exact absurd (qAs q.lt (by rw[z];exact hb)) (qAX _)
 .exact absurd (qAs (qAk (I.pin p hp).1) (by rw[z];exact hb)) (qAX _)
structure UX (P:Program)(w:World)(K:W.Frag)(tg:Expr)(J:It)(fp:List Addr)(it:Addr)(tn:Nat->Heap->Prop):Prop where
 mem:it∈fp
 obj:∀i h,tn i h->∀b∈fp,∃o,h.get? b=some o/\∀v,o.data≠.cell v
 keep:∀i h h',tn i h->(∀b∈fp,∀o,h.get? b=some o->h'.get? b=some o)->tn i h'
 item:∀(X:Cx),X.prog=P->X.w=w->X.K=K->X.calm=true->∀(i:Nat)(pins:List (Addr×Obj))(s:Shared)(σ:St)(H:Hp)(E:Value->Shared->Prop),Inv X pins σ H s->(∀b∈fp,PQ X pins H b)->tn i s.heap->J.go i H ->
  wpAny (model P w) X.A (pyNext (.ref it)) (λr s1=>∃u,r=some u /\
   wpAny (model P w) X.A (letOwnedTupleGo tg (.ref it) u) (λ_ s2=>∃x H',Inv X pins σ H' s2/\CN x u/\J.yld i H x H'/\tn (i+1) s2.heap/\∀b∈fp,H' b=none) E s1) E s
 done:∀(X:Cx),X.prog=P->X.w=w->X.K=K->X.calm=true->∀(i:Nat)(pins:List (Addr×Obj))(s:Shared)(σ:St)(H:Hp)(E:Value->Shared->Prop),Inv X pins σ H s->(∀b∈fp,PQ X pins H b)->tn i s.heap->J.stop i H ->
  wpAny (model P w) X.A (pyNext (.ref it)) (λr s1=>r=none/\Inv X pins σ H s1) E s
 self:∀(A:Around)(i:Nat)(s:Shared)(Q:Value->Shared->Prop)(E:Value->Shared->Prop),tn i s.heap->Q (.ref it) s->wpAny (model P w) A (pyIter (.ref it)) Q E s
abbrev TI:=St->Hp->(It->Hp->Prop)->Prop
def PIE (X:Cx)(pins:List (Addr×Obj))(σ:St)(tg:Expr)(R:It->Hp->Prop)(itv:Value)(s2:Shared):Prop:=
 ∃(it:Addr)(fp:List Addr)(tn:Nat->Heap->Prop)(J:It)(H':Hp),itv=.ref it/\Inv X pins σ H' s2/\UX X.prog X.w X.K tg J fp it tn/\tn 0 s2.heap/\(∀b∈fp,PQ X pins H' b)/\R J H'
def PI (X:Cx)(tg iter:Expr)(wi:TI):Prop:=
 ∀(pins:List (Addr×Obj))(s:Shared)(σ:St)(H:Hp)(R:It->Hp->Prop),Inv X pins σ H s->wi σ H R ->
  wpAny (model X.prog X.w) X.A (eval iter X.env) (λv s1=>wpAny (model X.prog X.w) X.A (pyIter v) (PIE X pins σ tg R) X.xe s1) X.xe s
theorem Vw {M:Model}{A:Around}{E:Value->Shared->Prop}{s:Shared}{tg:Expr}{it:Addr}{u:Value}{o:Obj}{n:String}{vs:Array Value}{Q:Unit->Shared->Prop}(ho:s.heap.get? it=some o)(hc:o.cls=.type n)(hd:o.data=.fields vs)
 (hn:["enumerate","zip","dict_itemiterator","dict_reverseitemiterator","odict_iterator","itertools.zip_longest","itertools.pairwise"].contains n=false)(hQ:Q Unit.unit s):wpAny M A (letOwnedTupleGo tg (.ref it) u) Q E s:=by
 unfold letOwnedTupleGo;cases tg<;>first
  |exact wpAny_pure hQ
  |(cases u<;>first
   |exact wpAny_pure hQ
   |(refine wpAny_bind (wpAny_load ho ?_)
     rw[hc,hd];show wpAny M A (if (["enumerate","zip","dict_itemiterator","dict_reverseitemiterator","odict_iterator","itertools.zip_longest","itertools.pairwise"].contains n&&vs[0]? == some (rawInt _))=true then _ else _) Q E s;rw[if_neg (by intro h;rw[hn,Bool.false_and]at h;cases h)];exact wpAny_pure hQ))
def Itl (K:W.Frag)(a:Addr):It:=
 #[λi H=>∃xs x,SqL K H a xs/\xs[i]? = some x,λi H x H'=>H'=H/\∀xs,SqL K H a xs->xs[i]? = some x,λi H=>∃xs,SqL K H a xs/\↥xs<=i]
def Itt (K:W.Frag)(a:Addr):It:=
 #[λi H=>∃xs x,SqT K H a xs/\xs[i]? = some x,λi H x H'=>H'=H/\∀xs,SqT K H a xs->xs[i]? = some x,λi H=>∃xs,SqT K H a xs/\↥xs<=i]
def Itr (lo:Int)(n:Nat):It:=#[λi _=>i<n,λi H x H'=>H'=H/\x=.int (lo+i),λi _=>n<=i]
theorem Rx {P:Program}{w:World}{K:W.Frag}{tg:Expr}(a it:Addr):UX P w K tg (Itl K a) [it] it (λi h=>h.IsListIter it a i) where
 mem:=by simp
 obj:=λi h st b hb=>by
  have e:b=it:=by simpa using hb
  subst e;obtain⟨o,e,c,d⟩:=st;exact#[o,e,λv z=>by rw[d]at z;cases z]
 keep:=λi h h' st k=>st.at λo e=>k it (by simp) o e
 item:=by
  intro X hP hw hK hc i pins s σ H E I hf st hg;subst hP hw hK;obtain⟨xs,x,hq,hx⟩:=hg;obtain⟨its,rv,p,hz⟩:=I.list hq;obtain⟨u,hu,ru⟩:=rv.get hx;obtain⟨f0,f1,f2,f3,f4,f5⟩:=hf it (by simp);refine wpAny_pyNext_list_item st p.isList (x:=u) (by simpa using hu) λh' st' sb=>?_;have I1:Inv X pins σ H { s with heap:=h' }:=I.turned (t':=s.toks) (λb o hb e=>(sb.2 b hb).trans e) f0 f1 f3 f4 f5;obtain⟨o,e,c,d⟩:=id st';exact#[u,rfl,Vw (s:={ s with heap:=h' }) e c d ∅ #[x,H,I1,ru,#[rfl,λys hy=>by rw[I.list_inj hy hq];exact hx],st',λb hb=>(hf b hb).1]]
 done:=by
  intro X hP hw hK hc i pins s σ H E I hf st hg;subst hP hw hK;obtain⟨xs,hq,hx⟩:=hg;obtain⟨its,rv,p,hz⟩:=I.list hq;obtain⟨f0,f1,f2,f3,f4,f5⟩:=hf it (by simp);have hl:=↥rv;exact wpAny_pyNext_list_end (I.ok.hd hc) st p.isList (by simp;omega) λh' eb=>#[rfl,I.turned (t':=s.toks) (λb o hb e=>eb b o hb e) f0 f1 f3 f4 f5]
 self:=λ_ _ _ _ _ st h=>wpAny_pyIter_listiter st h
theorem Pk {P:Program}{w:World}{K:W.Frag}{tg:Expr}(a it:Addr):UX P w K tg (Itt K a) [it] it (λi h=>h.IsTupleIter it a i) where
 mem:=by simp
 obj:=λi h st b hb=>by
  have e:b=it:=by simpa using hb
  subst e;obtain⟨o,e,c,d⟩:=st;exact#[o,e,λv z=>by rw[d]at z;cases z]
 keep:=λi h h' st k=>st.at λo e=>k it (by simp) o e
 item:=by
  intro X hP hw hK hc i pins s σ H E I hf st hg;subst hP hw hK;obtain⟨xs,x,hq,hx⟩:=hg;obtain⟨its,rv,p,hz⟩:=I.tuple hq;obtain⟨u,hu,ru⟩:=rv.get hx;obtain⟨f0,f1,f2,f3,f4,f5⟩:=hf it (by simp);refine wpAny_pyNext_tuple_item st (show s.heap.IsTuple a its.toArray from p) (x:=u) (by simpa using hu) λh' st' sb=>?_;have I1:Inv X pins σ H { s with heap:=h' }:=I.turned (t':=s.toks) (λb o hb e=>(sb.2 b hb).trans e) f0 f1 f3 f4 f5;obtain⟨o,e,c,d⟩:=id st';exact#[u,rfl,Vw (s:={ s with heap:=h' }) e c d ∅ #[x,H,I1,ru,#[rfl,λys hy=>by rw[I.tuple_inj hy hq];exact hx],st',λb hb=>(hf b hb).1]]
 done:=by
  intro X hP hw hK hc i pins s σ H E I hf st hg;subst hP hw hK;obtain⟨xs,hq,hx⟩:=hg;obtain⟨its,rv,p,hz⟩:=I.tuple hq;obtain⟨f0,f1,f2,f3,f4,f5⟩:=hf it (by simp);have hl:=↥rv;exact wpAny_pyNext_tuple_end (I.ok.hd hc) st (show s.heap.IsTuple a its.toArray from p) (by simp;omega) λh' eb=>#[rfl,I.turned (t':=s.toks) (λb o hb e=>eb b o hb e) f0 f1 f3 f4 f5]
 self:=λ_ _ _ _ _ st h=>wpAny_pyIter_tupleiter st h
theorem Pw {P:Program}{w:World}{K:W.Frag}{tg:Expr}(it:Addr)(lo:Int)(n:Nat):UX P w K tg (Itr lo n) [it] it (λi h=>IsRangeIter h it (lo+(i:Nat)*1) ((n:Int)-(i:Nat)) 1) where
 mem:=by simp
 obj:=λi h st b hb=>by
  have e:b=it:=by simpa using hb
  subst e;exact#[_,st,λv z=>by
   have z':Data.fields _=Data.cell v:=z;cases z']
 keep:=λi h h' st k=>k it (by simp) _ st
 item:=by
  intro X hP hw hK hc i pins s σ H E I hf st hg;subst hP hw hK;obtain⟨f0,f1,f2,f3,f4,f5⟩:=hf it (by simp);have W:=Walks.range (prog:=X.prog) (w:=X.w) (I.ok.hd hc) it lo 1 n;refine W.item i s _ _ hg st λv h' tk hv st' kk=>?_;obtain⟨t,rfl⟩:=hv;have I1:Inv X pins σ H { s with heap:=h',toks:=tk }:=I.turned (λb o hb e=>kk b o (by simpa using hb) e) f0 f1 f3 f4 f5;refine#[_,rfl,Vw (s:={ s with heap:=h',toks:=tk }) (n:="range_iterator") st' rfl rfl ∅ #[.int (lo+i),H,I1,#[t,?_],#[rfl,rfl],st',λb hb=>(hf b hb).1]];rw[qCE]
 done:=by
  intro X hP hw hK hc i pins s σ H E I hf st hg;subst hP hw hK;obtain⟨f0,f1,f2,f3,f4,f5⟩:=hf it (by simp);exact wpAny_pyNext_range_end (I.ok.hd hc) st (by have:n<=i:=hg;omega) λh' eb=>#[rfl,I.turned (t':=s.toks) (λb o hb e=>eb b o hb e) f0 f1 f3 f4 f5]
 self:=λ_ _ _ _ _ st h=>wpAny_pyIter_rangeiter st h
section
variable {X:Cx}{tg:Expr}
theorem Oa {pins:List (Addr×Obj)}{σ:St}{H:Hp}{s:Shared}{R:It->Hp->Prop}{E:Value->Shared->Prop}{lo hi:Int}{t u v:Tok}{tk:Nat}(I:Inv X pins σ H s)(h1:-(2^62)<=lo)(h2:lo<2^62)(h3:-(2^62)<=hi)(h4:hi<2^62)
 (q:R (Itr lo (hi-lo).toNat) H):wpAny (model X.prog X.w) X.A (pyIter (.ref s.heap.objs.size)) (PIE X pins σ tg R) E { s with heap:=s.heap.push { cls:=.type "range",data:=.fields (List.toArray [.int lo t,.int hi u,.int 1 v]) },toks:=tk }:=by
 refine wpAny_pyIter_range (IsRange.new ..) (small_one h1 h2 h3 h4) ?_;have I1:Inv X pins σ H { s with heap:=s.heap.push { cls:=.type "range",data:=.fields (List.toArray [.int lo t,.int hi u,.int 1 v]) },toks:=tk }:=I.kept λb o e=>qAi _ e;refine#[(s.heap.push { cls:=.type "range",data:=.fields (List.toArray [.int lo t,.int hi u,.int 1 v]) }).objs.size,[(s.heap.push { cls:=.type "range",data:=.fields (List.toArray [.int lo t,.int hi u,.int 1 v]) }).objs.size],_,_,H,rfl,
  I1.kept (t':=tk) λb o e=>qAi _ e,Pw _ lo (hi-lo).toNat,?_,λb hb=>?_,q]
 .have e1:lo+((0:Nat):Int)*1=lo:=by simp
  have e2:(((hi-lo).toNat:Nat):Int)-((0:Nat):Int)=Builtin.Range.rangeSize lo hi 1:=by rw[rangeSize_one];split<;>omega
  show IsRangeIter _ _ (lo+((0:Nat):Int)*1) ((((hi-lo).toNat:Nat):Int)-((0:Nat):Int)) 1;rw[e1,e2];exact qAF _ rfl
 .have e:b=(s.heap.push { cls:=.type "range",data:=.fields (List.toArray [.int lo t,.int hi u,.int 1 v]) }).objs.size:=by simpa using hb
  subst e;exact I1.fpOk (qAg _) (I1.hok.fresh (qAg _))
def XB (ta:TA):TI:=λσ H R=>ta σ H λvs H1=>∃j:Int,vs=[.int j]/\-(2^62)<=j/\j<2^62/\R (Itr 0 j.toNat) H1
def WK (ta:TA):TI:=λσ H R=>ta σ H λvs H1=>∃i j:Int,vs=[.int i,.int j]/\(-(2^62)<=i/\i<2^62/\-(2^62)<=j/\j<2^62)/\R (Itr i (j-i).toNat) H1
theorem IV {a:Expr}{ta:TA}{p pos:Pos}(hg:Gl X "range")(hm:X.mg "range"=none)(ha:PA X [a] ta)(hs:starEach [a] X.env=[(false,eval a X.env)]:=by rfl):PI X tg (.Call (.Name "range" p) [a] [] pos) (XB ta):=by
 intro pins s σ H R I h;refine Call_ (H0 I hg hm boot_range (qBc (thn (ha pos pins s σ H _ I h) λus s1 #[vs,H1,I1,r1,q1]=>?_) hs rfl));obtain⟨j,e,q1,q2,q⟩:=q1;subst e;cases r1 with
 |cons r rr=>
  cases rr;obtain⟨t,rfl⟩:=r;exact call_range_1 (Oa I1 () () q1 q2 (by simpa using q))
theorem CB {a b:Expr}{ta:TA}{p pos:Pos}(hg:Gl X "range")(hm:X.mg "range"=none)(ha:PA X [a,b] ta)(hs:starEach [a,b] X.env=[(false,eval a X.env),(false,eval b X.env)]:=by rfl)(hs2:starEach [b] X.env=[(false,eval b X.env)]:=by rfl) :
 PI X tg (.Call (.Name "range" p) [a,b] [] pos) (WK ta):=by
 intro pins s σ H R I h;refine Call_ (H0 I hg hm boot_range (qBc (thn (ha pos pins s σ H _ I h) λus s1 #[vs,H1,I1,r1,q1]=>?_) (by rw[hs,hs2]) (by rw[hs2];rfl)));obtain⟨i,j,e,⟨q1,q2,q3,q4⟩,q⟩:=q1;subst e;cases r1 with
 |cons r rr=>
  cases rr with
  |cons r' rr=>
   cases rr;obtain⟨t,rfl⟩:=r;obtain⟨t',rfl⟩:=r';exact call_range_2 (Oa I1 q1 q2 q3 q4 q)
def Va (wi:TI)(g:TG)(tb:TS):TS:=λD σ H=>wi σ H λJ H1=>∃W:Nat->Nat->St->Hp->Prop,(∃m,W 0 m σ H1)/\∀i m σ H,W i m σ H ->
 (J.stop i H/\D.nx σ H)\/(J.go i H/\∃N:St->Hp->Prop,(∀σ' H',N σ' H'->∃m',m'<m/\W (i+1) m' σ' H')/\∀x H',J.yld i H x H'->g x σ H' λσ2 H2=>tb { D with nx:=N,ct:=N,bk:=D.nx } σ2 H2)
def KC (fp:List Addr)(h:Heap):List (Addr×Obj):=fp.filterMap λb=>(h.get? b).map λo=>(b,o)
theorem DE {fp:List Addr}{h:Heap}{b:Addr}{o:Obj}(hb:b∈fp)(e:h.get? b=some o):(b,o)∈KC fp h:=qBZ.mpr #[b,hb,by rw[e];rfl]
theorem Rt {fp:List Addr}{h:Heap}{p:Addr×Obj}(hp:p∈KC fp h):p.1∈fp/\h.get? p.1=some p.2:=by
 obtain⟨b,hb,e⟩:=qBZ.mp hp;cases q:h.get? b with
 |none=>rw[q]at e;cases e
 |some o=>
  rw[q]at e;have e':(b,o)=p:=qAo e;subst e';exact#[hb,q]
theorem Inv.pinned {pins:List (Addr×Obj)}{σ:St}{H:Hp}{s:Shared}{fp:List Addr}(I:Inv X pins σ H s)(hf:∀b∈fp,PQ X pins H b)(ho:∀b∈fp,∃o,s.heap.get? b=some o/\∀v,o.data≠.cell v):Inv X (pins++KC fp s.heap) σ H s:=
 I.pins_of λp hp=>(qAq.mp hp).elim (λz=>I.pin p (qAA _ z)) λz=>by
  obtain⟨hb,e⟩:=Rt z;obtain⟨f0,f1,f2,_⟩:=hf p.1 hb;obtain⟨o,e',d⟩:=ho p.1 hb;rw[e]at e';cases e';exact#[e,f0,f1,f2,d]
theorem Inv.unpinned {pins pl:List (Addr×Obj)}{σ:St}{H:Hp}{s:Shared}(I:Inv X (pins++pl) σ H s):Inv X pins σ H s:=I.pins_of λp hp=>I.pin p (qAA _ (qAS _ hp))
theorem Bx {iter:Expr}{body:List Stmt}{wi:TI}{g:TG}{tb:TS}{pos:Pos}(hp:PassesOwn (model X.prog X.w) X.A X.env X.xe)(hc:X.calm=true)(hi:PI X tg iter wi)(hg:PG X tg g)(hb:PSs X body tb)
 (hs:∀x,foldedSetIterable iter X.env x=pure x:=by intro _;rfl):PS X (.For tg iter body [] pos) (Va wi g tb):=by
 intro pins s σ H D I h;refine wpAny_For (thn (hi pins s σ H _ I h) λv s1 h1=>thn h1 λitv s2 h2=>?_) hs;obtain⟨it,fp,tn,J,H2,e,I2,T,st2,f2,W,⟨m0,w0⟩,turn⟩:=h2;subst e;have stat:∀{H':Hp},(∀b∈fp,H' b=none)->∀b∈fp,PQ X pins H' b:=λhn b hb=>#[hn b hb,(f2 b hb).2];refine codeAny_forLoop_any (λn s'=>∃i σ' H',Inv X pins σ' H' s'/\tn i s'.heap/\(∀b∈fp,H' b=none)/\W i n σ' H') ?_ m0 #[0,σ,H2,I2,st2,λb hb=>(f2 b hb).1,w0];rintro n s3 ⟨i,σ3,H3,I3,st3,fr3,w3⟩;rcases turn i n σ3 H3 w3 with⟨stop,qn⟩|⟨go,N,hN,step⟩
 .refine wpAny_passesOwn hp (thn (T.done X rfl rfl rfl hc i pins s3 σ3 H3 X.xe I3 (stat fr3) st3 stop) λr s4 hh=>?_);obtain⟨hr,I4⟩:=hh;subst hr;exact wpAny_execs_nil #[σ3,H3,I4,qn]
 .refine wpAny_passesOwn hp (thn (T.item X rfl rfl rfl hc i pins s3 σ3 H3 X.xe I3 (stat fr3) st3 go) λr s4 hh=>?_);obtain⟨u,hr,h4⟩:=hh;subst hr;refine wpAny_passesOwn hp (thn h4 λ_ s5 hh=>?_);obtain⟨x,H5,I5,r5,y5,st5,fr5⟩:=hh;have I5':=I5.pinned (stat fr5) (T.obj _ _ st5);refine wpAny_passesOwn hp (thn (hg _ s5 σ3 H5 x u _ I5' r5 (step x H5 y5)) λ_ s6 hh=>?_);obtain⟨σ6,H6,I6,q6⟩:=hh;refine wpAny_passesOwn hp (thn (hb _ s6 σ6 H6 _ I6 q6) λf s7 q7=>?_);have again:∀{σ7:St}{H7:Hp},Inv X (pins++KC fp s5.heap) σ7 H7 s7->N σ7 H7->∃m,m<n/\∃i σ' H',Inv X pins σ' H' s7/\tn i s7.heap/\(∀b∈fp,H' b=none)/\W i m σ' H':=λ{σ7 H7} I7 n7=>by
   obtain⟨m',hm,w7⟩:=hN σ7 H7 n7;refine#[m',hm,i+1,σ7,H7,I7.unpinned,T.keep _ _ _ st5 λb hb o e=>(I7.pin (b,o) (qAA _ (qAA _ (DE hb e)))).1,λb hb=>?_,w7];obtain⟨o,e,d⟩:=T.obj _ _ st5 b hb;exact(I7.pin (b,o) (qAA _ (qAA _ (DE hb e)))).2.1
  cases f with
  |next=>obtain⟨σ7,H7,I7,n7⟩:=q7;exact again I7 n7
  |cont=>obtain⟨σ7,H7,I7,n7⟩:=q7;exact again I7 n7
  |brk=>obtain⟨σ7,H7,I7,q7⟩:=q7;exact#[σ7,H7,I7.unpinned,q7]
  |ret v=>obtain⟨x7,σ7,H7,I7,r7,q7⟩:=q7;exact#[x7,σ7,H7,I7.unpinned,r7,q7]
end
theorem TF {K:W.Frag}{a:Addr}{xs:List V}{g:TG}{tb:TS}{D:PD}{σ:St}{H:Hp}(Pv:Nat->St->Hp->Prop)(h0:Pv 0 σ H)(hl:∀i σ H,i<=↥xs->Pv i σ H->SqL K H a xs)
 (hs:∀i x σ H,xs[i]? = some x->Pv i σ H->g x σ H λσ2 H2=>tb { D with nx:=Pv (i+1),ct:=Pv (i+1),bk:=D.nx } σ2 H2)(hd:∀σ H,Pv ↥xs σ H->D.nx σ H) :
 ∃W:Nat->Nat->St->Hp->Prop,(∃m,W 0 m σ H)/\∀i m σ H,W i m σ H ->
  ((Itl K a).stop i H/\D.nx σ H)\/((Itl K a).go i H/\∃N:St->Hp->Prop,(∀σ' H',N σ' H'->∃m',m'<m/\W (i+1) m' σ' H')/\∀x H',(Itl K a).yld i H x H'->g x σ H' λσ2 H2=>tb { D with nx:=N,ct:=N,bk:=D.nx } σ2 H2):=by
 refine#[λi m σ H=>m=↥xs-i/\i<=↥xs/\Pv i σ H,#[↥xs,by simp,qA4 _,h0],?_];rintro i m σ H ⟨rfl,hi,p⟩;have q:=hl i σ H hi p;by_cases hlt:i<↥xs
 .refine .inr #[#[xs,xs[i],q,by simp[hlt]],Pv (i+1),λσ' H' p'=>#[↥xs-(i+1),(),rfl,hlt,p'],λx H' y=>?_];obtain⟨e,y⟩:=y;subst e;exact hs i x σ _ (y xs q) p
 .have e:i=↥xs:=();subst e;exact .inl #[#[xs,q,qAg _],hd σ H p]
theorem W0 {K:W.Frag}{a:Addr}{xs:List V}{g:TG}{tb:TS}{D:PD}{σ:St}{H:Hp}(Pv:Nat->St->Hp->Prop)(h0:Pv 0 σ H)(hl:∀i σ H,i<=↥xs->Pv i σ H->SqT K H a xs)
 (hs:∀i x σ H,xs[i]? = some x->Pv i σ H->g x σ H λσ2 H2=>tb { D with nx:=Pv (i+1),ct:=Pv (i+1),bk:=D.nx } σ2 H2)(hd:∀σ H,Pv ↥xs σ H->D.nx σ H) :
 ∃W:Nat->Nat->St->Hp->Prop,(∃m,W 0 m σ H)/\∀i m σ H,W i m σ H ->
  ((Itt K a).stop i H/\D.nx σ H)\/((Itt K a).go i H/\∃N:St->Hp->Prop,(∀σ' H',N σ' H'->∃m',m'<m/\W (i+1) m' σ' H')/\∀x H',(Itt K a).yld i H x H'->g x σ H' λσ2 H2=>tb { D with nx:=N,ct:=N,bk:=D.nx } σ2 H2):=by
 refine#[λi m σ H=>m=↥xs-i/\i<=↥xs/\Pv i σ H,#[↥xs,by simp,qA4 _,h0],?_];rintro i m σ H ⟨rfl,hi,p⟩;have q:=hl i σ H hi p;by_cases hlt:i<↥xs
 .refine .inr #[#[xs,xs[i],q,by simp[hlt]],Pv (i+1),λσ' H' p'=>#[↥xs-(i+1),(),rfl,hlt,p'],λx H' y=>?_];obtain⟨e,y⟩:=y;subst e;exact hs i x σ _ (y xs q) p
 .have e:i=↥xs:=();subst e;exact .inl #[#[xs,q,qAg _],hd σ H p]
theorem Mw {lo:Int}{n:Nat}{g:TG}{tb:TS}{D:PD}{σ:St}{H:Hp}(Pv:Nat->St->Hp->Prop)(h0:Pv 0 σ H)
 (hs:∀i σ H,i<n->Pv i σ H->g (.int (lo+i)) σ H λσ2 H2=>tb { D with nx:=Pv (i+1),ct:=Pv (i+1),bk:=D.nx } σ2 H2)(hd:∀σ H,Pv n σ H->D.nx σ H) :
 ∃W:Nat->Nat->St->Hp->Prop,(∃m,W 0 m σ H)/\∀i m σ H,W i m σ H ->
  ((Itr lo n).stop i H/\D.nx σ H)\/((Itr lo n).go i H/\∃N:St->Hp->Prop,(∀σ' H',N σ' H'->∃m',m'<m/\W (i+1) m' σ' H')/\∀x H',(Itr lo n).yld i H x H'->g x σ H' λσ2 H2=>tb { D with nx:=N,ct:=N,bk:=D.nx } σ2 H2):=by
 refine#[λi m σ H=>m=n-i/\i<=n/\Pv i σ H,#[n,by simp,qA4 _,h0],?_];rintro i m σ H ⟨rfl,hi,p⟩;by_cases hlt:i<n
 .refine .inr #[hlt,Pv (i+1),λσ' H' p'=>#[n-(i+1),(),rfl,hlt,p'],λx H' y=>?_];obtain⟨e,y⟩:=y;subst e y;exact hs i σ _ hlt p
 .have e:i=n:=();subst e;exact .inl #[qAg _,hd σ H p]
abbrev R2:=V->V->Hp->VK->Prop
def OpR (X:Cx)(f:Value->Value->Sem Value)(r:R2):Prop:=
 ∀(pins:List (Addr×Obj))(s:Shared)(σ:St)(H:Hp)(x y:V)(v u:Value)(Q:VK),Inv X pins σ H s->CN x v->CN y u->r x y H Q ->
  wpAny (model X.prog X.w) X.A (f v u) (EP X pins σ Q) X.xe s
def UnR (X:Cx)(f:Value->Sem Value)(r:V->Hp->VK->Prop):Prop:=
 ∀(pins:List (Addr×Obj))(s:Shared)(σ:St)(H:Hp)(x:V)(v:Value)(Q:VK),Inv X pins σ H s->CN x v->r x H Q ->
  wpAny (model X.prog X.w) X.A (f v) (EP X pins σ Q) X.xe s
def HE (X:Cx)(f:Value)(r:List V->Hp->VK->Prop):Prop:=
 ∀(pins:List (Addr×Obj))(s:Shared)(σ:St)(H:Hp)(xs:List V)(us:List Value)(Q:VK),Inv X pins σ H s->Cb xs us->r xs H Q ->
  wpAny (model X.prog X.w) X.A (call f us) (EP X pins σ Q) X.xe s
def bU (X:Cx)(r:V->Hp->(Bool->Hp->Prop)->Prop):Prop:=
 ∀(pins:List (Addr×Obj))(s:Shared)(σ:St)(H:Hp)(x:V)(v:Value)(Q:Bool->Hp->Prop),Inv X pins σ H s->CN x v->r x H Q ->
  wpAny (model X.prog X.w) X.A (truthy v) (TP X pins σ Q) X.xe s
def tOp (r:R2)(ta tb:TE):TE:=λσ H Q=>ta σ H λx H1=>tb σ H1 λy H2=>r x y H2 Q
def tUn (r:V->Hp->VK->Prop)(ta:TE):TE:=λσ H Q=>ta σ H λx H1=>r x H1 Q
def rI (C:Int->Int->Prop)(g:Int->Int->V):R2:=λx y H Q=>∃i j,x=.int i/\y=.int j/\C i j/\Q (g i j) H
def rI0 (g:Int->Int->V):R2:=λx y H Q=>∃i j,x=.int i/\y=.int j/\Q (g i j) H
def rU (g:Int->V):V->Hp->VK->Prop:=λx H Q=>∃i,x=.int i/\Q (g i) H
section
variable {X:Cx}{a b c:Expr}{ta tb tc:TE}{pos:Pos}
theorem Z7 (ha:PE X a ta)(hb:PE X b tb){pins:List (Addr×Obj)}{s:Shared}{σ:St}{H:Hp}{R:V->V->Hp->Prop}(I:Inv X pins σ H s)
 (h:ta σ H λx H1=>tb σ H1 λy H2=>R x y H2){Q:Value->Shared->Prop}{f:Value->Value->Sem Value}
 (hf:∀v u s2 x y H2,Inv X pins σ H2 s2->CN x v->CN y u->R x y H2->wpAny (model X.prog X.w) X.A (f v u) Q X.xe s2) :
 wpAny (model X.prog X.w) X.A (eval a X.env) (λv s₁=>wpAny (model X.prog X.w) X.A (eval b X.env) (λu s₂=>wpAny (model X.prog X.w) X.A (f v u) Q X.xe s₂) X.xe s₁) X.xe s:=by
 refine thn (ha pins s σ H _ I h) λv s1 hh=>?_;obtain⟨x,H1,I1,r1,q1⟩:=hh;refine thn (hb pins s1 σ H1 _ I1 q1) λu s2 hh=>?_;obtain⟨y,H2,I2,r2,q2⟩:=hh;exact hf v u s2 x y H2 I2 r1 r2 q2
theorem Xv {op:Operator}{r:R2}(ho:OpR X (binaryOp op) r)(ha:PE X a ta)(hb:PE X b tb):PE X (.BinOp a op b pos) (tOp r ta tb):=by
 intro pins s σ H Q I h;exact wpAny_BinOp (Z7 ha hb I h λv u s2 x y H2 I2 rx ry q=>ho pins s2 σ H2 x y v u Q I2 rx ry q)
theorem Zm {op:UnaryOp}{r:V->Hp->VK->Prop}(ho:UnR X (unaryOp op) r)(ha:PE X a ta):PE X (.UnaryOp op a pos) (tUn r ta):=by
 intro pins s σ H Q I h;exact UnaryOp_ (thn (ha pins s σ H _ I h) λv s1 #[x,H1,I1,r1,q1]=>ho pins s1 σ H1 x v Q I1 r1 q1)
theorem opI {f:Value->Value->Sem Value}{C:Int->Int->Prop}{g:Int->Int->Int}
 (rule:∀(i j:Int)(t u:Tok)(s:Shared)(Q:Value->Shared->Prop)(E:Value->Shared->Prop),C i j->Q (.int (g i j) s.toks) { s with toks:=s.toks+1 }->wpAny (model X.prog X.w) X.A (f (.int i t) (.int j u)) Q E s) :
 OpR X f (rI C λi j=>.int (g i j)):=by
 intro pins s σ H x y v u Q I rx ry h;obtain⟨i,j,rfl,rfl,hc,q⟩:=h;obtain⟨t,rfl⟩:=rx;obtain⟨t',rfl⟩:=ry;exact rule i j t t' s _ _ hc #[.int (g i j),H,I.tok _,#[_,rfl],q]
theorem bD {f:Value->Value->Sem Value}{g:Int->Int->Int}
 (rule:∀(i j:Int)(t u:Tok)(s:Shared)(Q:Value->Shared->Prop)(E:Value->Shared->Prop),Q (.int (g i j) s.toks) { s with toks:=s.toks+1 }->wpAny (model X.prog X.w) X.A (f (.int i t) (.int j u)) Q E s) :
 OpR X f (rI0 λi j=>.int (g i j)):=by
 intro pins s σ H x y v u Q I rx ry h;obtain⟨i,j,rfl,rfl,q⟩:=h;obtain⟨t,rfl⟩:=rx;obtain⟨t',rfl⟩:=ry;exact rule i j t t' s _ _ #[.int (g i j),H,I.tok _,#[_,rfl],q]
theorem Za {f:Value->Value->Sem Value}{g:Int->Int->Bool}
 (rule:∀(i j:Int)(t u:Tok)(s:Shared)(Q:Value->Shared->Prop)(E:Value->Shared->Prop),Q (.bool (g i j)) s->wpAny (model X.prog X.w) X.A (f (.int i t) (.int j u)) Q E s) :
 OpR X f (rI0 λi j=>.bl (g i j)):=by
 intro pins s σ H x y v u Q I rx ry h;obtain⟨i,j,rfl,rfl,q⟩:=h;obtain⟨t,rfl⟩:=rx;obtain⟨t',rfl⟩:=ry;exact rule i j t t' s _ _ #[.bl (g i j),H,I,rfl,q]
def aS (i j:Int):Prop:=0<=j/\j<=1000000/\i.natAbs<2^64
theorem Us:OpR X (binaryOp .Add) (rI0 λi j=>.int (i+j)):=bD λ_ _ _ _ _ _ _ q=>add_int q
theorem YZ:OpR X (binaryOp .Sub) (rI0 λi j=>.int (i-j)):=bD λ_ _ _ _ _ _ _ q=>sub_int q
theorem VO:OpR X (binaryOp .Mod) (rI (λ_ j=>j≠0) λi j=>.int (i.fmod j)):=opI λ_ _ _ _ _ _ _ hc q=>mod_int' hc q
theorem YT:OpR X (binaryOp .Pow) (rI aS λi j=>.int (i^j.toNat)):=opI λ_ _ _ _ _ _ _ hc q=>pow_int_small hc.1 hc.2.1 hc.2.2 q
theorem unI {f:Value->Sem Value}{g:Int->Int}
 (rule:∀(i:Int)(t:Tok)(s:Shared)(Q:Value->Shared->Prop)(E:Value->Shared->Prop),Q (.int (g i) s.toks) { s with toks:=s.toks+1 }->wpAny (model X.prog X.w) X.A (f (.int i t)) Q E s) :
 UnR X f (rU λi=>.int (g i)):=by
 intro pins s σ H x v Q I rx h;obtain⟨i,rfl,q⟩:=h;obtain⟨t,rfl⟩:=rx;exact rule i t s _ _ #[.int (g i),H,I.tok _,#[_,rfl],q]
theorem Yj:UnR X (unaryOp .USub) (rU λi=>.int (-i)):=unI λ_ _ _ _ _ q=>neg_int q
end
def bR:V->V->Bool
 |.non,.non=>true|.non,.int _=>true|.int _,.non=>true|.non,.bl _=>true|.bl _,.non=>true|.non,.str _=>true|.str _,.non=>true
 |.int _,.int _=>true|.bl _,.bl _=>true|.str _,.str _=>true|.byt _,.byt _=>true
 |.int _,.str _=>true|.str _,.int _=>true|.bl _,.str _=>true|.str _,.bl _=>true
 |_,_=>false
def rEq:R2:=λx y H Q=>bR x y=true/\Q (.bl (decide (x=y))) H
def rNe:R2:=λx y H Q=>bR x y=true/\Q (.bl (!decide (x=y))) H
theorem RQ {i j:Int}:decide (V.int i=V.int j)=(i==j):=by
 rw[qBO];simp
theorem UW {i j:Bool}:decide (V.bl i=V.bl j)=(i==j):=by
 rw[qBO];simp
theorem Qp {i j:Str}:decide (V.str i=V.str j)=(i==j):=by
 rw[qBO];simp
theorem RE {i j:Array UInt8}:decide (V.byt i=V.byt j)=(i.toList==j.toList):=by
 rw[qBO];cases i;cases j;simp
section
variable {X:Cx}{a b c:Expr}{ta tb tc:TE}{pos:Pos}
theorem Bi {pins:List (Addr×Obj)}{σ:St}{H:Hp}{s:Shared}{Q:VK}{k k':Bool}(I:Inv X pins σ H s)(q:Q (.bl k) H)(e:k=k'):EP X pins σ Q (.bool k') s:=by
 subst e;exact#[.bl k,H,I,rfl,q]
theorem ZV:OpR X (compareOp .Eq) rEq:=by
 intro pins s σ H x y v u Q I rx ry h;obtain⟨hs,q⟩:=h;cases x with
 |non=>
  cases rx;cases y with
  |non=>cases ry;exact PySem.EqNone.eq_none_none (Bi I q (by simp))
  |bl j=>cases ry;exact PySem.EqNone.eq_none_bool (Bi I q (by simp))
  |int j=>obtain⟨t',rfl⟩:=ry;exact PySem.EqNone.eq_none_int (Bi I q (by simp))
  |str j=>obtain⟨t',rfl⟩:=ry;exact PySem.EqNone.eq_none_str (Bi I q (by simp))
  |_=>exact absurd (show false=true from hs) qAr
 |bl i=>
  cases rx;cases y with
  |non=>cases ry;exact PySem.EqNone.eq_bool_none (Bi I q (by simp))
  |bl j=>cases ry;exact eq_bool (Bi I q UW)
  |str j=>obtain⟨t',rfl⟩:=ry;exact PySem.EqMixed.eq_bool_str (Bi I q (by simp))
  |_=>exact absurd (show false=true from hs) qAr
 |int i=>
  obtain⟨t,rfl⟩:=rx;cases y with
  |non=>cases ry;exact PySem.EqNone.eq_int_none (Bi I q (by simp))
  |int j=>obtain⟨t',rfl⟩:=ry;exact eq_int (Bi I q RQ)
  |str j=>obtain⟨t',rfl⟩:=ry;exact PySem.EqMixed.eq_int_str (Bi I q (by simp))
  |_=>exact absurd (show false=true from hs) qAr
 |str i=>
  obtain⟨t,rfl⟩:=rx;cases y with
  |non=>cases ry;exact PySem.EqNone.eq_str_none (Bi I q (by simp))
  |bl j=>cases ry;exact PySem.EqMixed.eq_str_bool (Bi I q (by simp))
  |int j=>obtain⟨t',rfl⟩:=ry;exact PySem.EqMixed.eq_str_int (Bi I q (by simp))
  |str j=>obtain⟨t',rfl⟩:=ry;exact eq_str (Bi I q Qp)
  |_=>exact absurd (show false=true from hs) qAr
 |byt i=>
  obtain⟨t,rfl⟩:=rx;cases y with
  |byt j=>obtain⟨t',rfl⟩:=ry;exact W.eq_bytes (Bi I q RE)
  |_=>exact absurd (show false=true from hs) qAr
 |_=>cases y<;>exact absurd (show false=true from hs) qAr
theorem ZY:OpR X (compareOp .NotEq) rNe:=by
 intro pins s σ H x y v u Q I rx ry h;obtain⟨hs,q⟩:=h;cases x with
 |non=>
  cases rx;cases y with
  |non=>cases ry;exact PySem.EqNone.ne_none_none (Bi I q (by simp))
  |bl j=>cases ry;exact PySem.EqNone.ne_none_bool (Bi I q (by simp))
  |int j=>obtain⟨t',rfl⟩:=ry;exact PySem.EqNone.ne_none_int (Bi I q (by simp))
  |str j=>obtain⟨t',rfl⟩:=ry;exact PySem.EqNone.ne_none_str (Bi I q (by simp))
  |_=>exact absurd (show false=true from hs) qAr
 |bl i=>
  cases rx;cases y with
  |non=>cases ry;exact PySem.EqNone.ne_bool_none (Bi I q (by simp))
  |bl j=>cases ry;exact ne_bool (Bi I q (congrArg not UW))
  |str j=>obtain⟨t',rfl⟩:=ry;exact PySem.EqMixed.ne_bool_str (Bi I q (by simp))
  |_=>exact absurd (show false=true from hs) qAr
 |int i=>
  obtain⟨t,rfl⟩:=rx;cases y with
  |non=>cases ry;exact PySem.EqNone.ne_int_none (Bi I q (by simp))
  |int j=>obtain⟨t',rfl⟩:=ry;exact ne_int (Bi I q (congrArg not RQ))
  |str j=>obtain⟨t',rfl⟩:=ry;exact PySem.EqMixed.ne_int_str (Bi I q (by simp))
  |_=>exact absurd (show false=true from hs) qAr
 |str i=>
  obtain⟨t,rfl⟩:=rx;cases y with
  |non=>cases ry;exact PySem.EqNone.ne_str_none (Bi I q (by simp))
  |bl j=>cases ry;exact PySem.EqMixed.ne_str_bool (Bi I q (by simp))
  |int j=>obtain⟨t',rfl⟩:=ry;exact PySem.EqMixed.ne_str_int (Bi I q (by simp))
  |str j=>obtain⟨t',rfl⟩:=ry;exact ne_str (Bi I q (congrArg not Qp))
  |_=>exact absurd (show false=true from hs) qAr
 |byt i=>
  obtain⟨t,rfl⟩:=rx;cases y with
  |byt j=>obtain⟨t',rfl⟩:=ry;exact W.ne_bytes (Bi I q (congrArg not RE))
  |_=>exact absurd (show false=true from hs) qAr
 |_=>cases y<;>exact absurd (show false=true from hs) qAr
theorem aM:OpR X (compareOp .Lt) (rI0 λi j=>.bl (decide (i<j))):=Za λ_ _ _ _ _ _ _ q=>lt_int q
theorem Zq:OpR X (compareOp .LtE) (rI0 λi j=>.bl (decide (i<=j))):=Za λ_ _ _ _ _ _ _ q=>le_int q
theorem ZB:OpR X (compareOp .Gt) (rI0 λi j=>.bl (decide (j<i))):=Za λ_ _ _ _ _ _ _ q=>gt_int q
theorem aB:OpR X (compareOp .GtE) (rI0 λi j=>.bl (decide (j<=i))):=Za λ_ _ _ _ _ _ _ q=>ge_int q
theorem Xq:OpR X (compareOp .Is) (λx y H Q=>y=.non/\Q (.bl (decide (x=.non))) H):=by
 intro pins s σ H x y v u Q I rx ry h;obtain⟨rfl,q⟩:=h;cases ry;refine is_none_gen (Bi I q ?_);cases x<;>first
  |(cases rx;rfl)
  |(obtain⟨t,rfl⟩:=rx;rfl)
theorem Wi:OpR X (compareOp .IsNot) (λx y H Q=>y=.non/\Q (.bl (!decide (x=.non))) H):=by
 intro pins s σ H x y v u Q I rx ry h;obtain⟨rfl,q⟩:=h;cases ry;refine isnot_none_gen (Bi I q ?_);cases x<;>first
  |(cases rx;rfl)
  |(obtain⟨t,rfl⟩:=rx;rfl)
theorem OpR.or {f:Value->Value->Sem Value}{r r':R2}(h:OpR X f r)(h':OpR X f r'):OpR X f (λx y H Q=>r x y H Q\/r' x y H Q):=by
 intro pins s σ H x y v u Q I rx ry q;rcases q with q|q
 .exact h pins s σ H x y v u Q I rx ry q
 .exact h' pins s σ H x y v u Q I rx ry q
theorem GK (b:Expr){op:CmpOp}(h:op≠.In:=by decide)(h2:op≠.NotIn:=by decide):behindInMarks op b=false:=by
 have e1:(op==CmpOp.In)=false:=by cases op<;>first|rfl|exact absurd rfl h
 have e2:(op==CmpOp.NotIn)=false:=by cases op<;>first|rfl|exact absurd rfl h2
 cases b<;>simp[behindInMarks,e1,e2]
theorem WH {op:CmpOp}{r:R2}(ho:OpR X (compareOp op) r)(ha:PE X a ta)(hb:PE X b tb)(hm:behindInMarks op b=false):PE X (.Compare a [op] [b] pos) (tOp r ta tb):=by
 intro pins s σ H Q I h;exact wpAny_Compare1 (Z7 ha hb I h λv u s2 x y H2 I2 rx ry q=>ho pins s2 σ H2 x y v u Q I2 rx ry q) hm
def ZP (t:TE):TT:=λσ H Q=>t σ H λx H'=>∃k,x=.bl k/\Q k H'
theorem WX {op:CmpOp}{r:R2}(ho:OpR X (compareOp op) r)(ha:PE X a ta)(hb:PE X b tb)(hm:behindInMarks op b=false):PT X (.Compare a [op] [b] pos) (ZP (tOp r ta tb)):=by
 intro pins s σ H Q I h;refine wpAny_isTrue_Compare1 (thn (ha pins s σ H _ I h) λv s1 #[x,H1,I1,r1,q1]=>thn (hb pins s1 σ H1 _ I1 q1) λu s2 #[y,H2,I2,r2,q2]=>
  thn (ho pins s2 σ H2 x y v u _ I2 r1 r2 q2) λc s3 #[z,H3,I3,r3,k,e,q3]=>?_) hm
 subst e;cases r3;exact wpAny_truthy_bool #[H3,I3,q3]
def aT (K:W.Frag)(x:V)(H:Hp)(k:Bool):Prop:=
 match x with
 |.non=>k=false
 |.bl b=>k=b
 |.int i=>k=(i != 0)
 |.str y=>↥y<=sizeLine/\k=((↥y:Int) != 0)
 |.byt y=>y.size<=sizeLine/\k=((y.size:Int) != 0)
 |.ref p=>(∃xs,SqL K H p xs/\k=!xs.isEmpty)\/(∃xs,SqT K H p xs/\k=!xs.isEmpty)\/∃kvs,H p=some (.dK kvs)/\k=!kvs.isEmpty
 |_=>False
theorem Pq {κ:Type}{kvs:List (κ×V)}{vs:List (κ×Value)}(r:KV kvs vs):(!vs.isEmpty)=!kvs.isEmpty:=by
 cases r<;>rfl
theorem Kl {xs:List V}{its:List Value}(r:Cb xs its):(!its.toArray.isEmpty)=!xs.isEmpty:=by
 cases r<;>simp
theorem Mf:(sizeLine:Nat)<2^63:=by rw[sizeLine_eq];decide
theorem W5:bU X (λx H Q=>∃k,aT X.K x H k/\Q k H):=by
 intro pins s σ H x v Q I rx h;obtain⟨k,e,q⟩:=h;have hl:=Mf;have hs:sizeLine=16777216:=sizeLine_eq;cases x with
 |non=>
  cases rx;have e':k=false:=e;subst e';exact truthy_none #[H,I,q]
 |bl b=>
  cases rx;have e':k=b:=e;subst e';exact wpAny_truthy_bool #[H,I,q]
 |int i=>
  obtain⟨t,rfl⟩:=rx;have e':k=(i != 0):=e;subst e';exact PySem.P.truthy_int #[H,I,q]
 |str y=>
  obtain⟨t,rfl⟩:=rx;obtain⟨hy,e'⟩:↥y<=sizeLine/\k=((↥y:Int) != 0):=e;subst e';exact PySem.P.truthy_str () #[H,I.tok _,q]
 |byt y=>
  obtain⟨t,rfl⟩:=rx;obtain⟨hy,e'⟩:y.size<=sizeLine/\k=((y.size:Int) != 0):=e;subst e';exact W.truthy_bytes () #[H,I.tok _,q]
 |ref p=>
  cases rx;have e':(∃xs,SqL X.K H p xs/\k=!xs.isEmpty)\/(∃xs,SqT X.K H p xs/\k=!xs.isEmpty)\/∃kvs,H p=some (.dK kvs)/\k=!kvs.isEmpty:=e;rcases e' with⟨xs,hx,e'⟩|⟨xs,hx,e'⟩|⟨kvs,hx,e'⟩
  .subst e';obtain⟨its,r,pl,hz⟩:=I.list hx;have hlen:=↥r;exact wpAny_truthy_list pl.isList (by simp only[qAv];omega) #[H,I.tok _,by rw[Kl r];exact q]
  .subst e';obtain⟨its,r,pl,hz⟩:=I.tuple hx;have hlen:=↥r;exact truthy_tuple pl (by simp only[qAv];omega) #[H,I.tok _,by rw[Kl r];exact q]
  .subst e';obtain⟨hz,hS,vs,r,m⟩:↥kvs<=sizeLine/\(p==sysModules)=false/\∃vs,KV kvs vs/\s.heap.DictOf (Ny X.prog X.w) p vs:=I.hok p _ hx;have hlen:↥kvs=↥vs:=Paired.length r;exact wpAny_truthy_dict hS m () #[H,I.tok _,by rw[Pq r];exact q]
 |_=>exact(show False from e).elim
theorem TR (ha:PE X a ta)(he:∀whole,isTrue a X.env whole=(do let v <-whole;standAt a.pos;holding [v] (truthy v))) :
 PT X a (λσ H Q=>ta σ H λx H'=>∃k,aT X.K x H' k/\Q k H'):=by
 intro pins s σ H Q I h;exact isTrue_plain (thn (ha pins s σ H _ I h) λv s1 #[x,H1,I1,r1,q1]=>W5 pins s1 σ H1 x v Q I1 r1 q1) (he _)
theorem Li {x:V}{us:List Value}(r:Cb [x] us):∃u,us=[u]/\CN x u:=by
 cases r with
 |cons r1 r2=>cases r2;exact#[_,rfl,r1]
theorem XZ {x y:V}{us:List Value}(r:Cb [x,y] us):∃u w',us=[u,w']/\CN x u/\CN y w':=by
 cases r with
 |cons r1 r2=>
  cases r2 with
  |cons r3 r4=>cases r4;exact#[_,_,rfl,r1,r3]
theorem Tf:HE X (.builtin "abs") (λxs H Q=>∃i,xs=[.int i]/\Q (.int (if i<0 then -i else i)) H):=by
 intro pins s σ H xs us Q I r h;obtain⟨i,rfl,q⟩:=h;obtain⟨u,rfl,t,rfl⟩:=Li r;exact call_abs_int λu tk=>#[.int (if i<0 then -i else i),H,I.tok _,#[_,rfl],q]
theorem RI (hc:X.calm=true):HE X (.builtin "min") (λxs H Q=>∃i j,xs=[.int i,.int j]/\Q (.int (if j<i then j else i)) H):=by
 intro pins s σ H xs us Q I r h;obtain⟨i,j,rfl,q⟩:=h;obtain⟨u,w',rfl,⟨t,rfl⟩,⟨t',rfl⟩⟩:=XZ r;refine min_two_ints (I.ok.hd hc) λh' tk k=>#[_,H,I.kept k,?_,q];by_cases hj:j<i
 .rw[if_pos hj,if_pos hj];exact#[_,rfl]
 .rw[if_neg hj,if_neg hj];exact#[_,rfl]
theorem QX:HE X (.type "int") (λxs H Q=>(∃i,xs=[.int i]/\Q (.int i) H)\/∃k,xs=[.bl k]/\Q (.int (if k then 1 else 0)) H):=by
 intro pins s σ H xs us Q I r h;rcases h with⟨i,rfl,q⟩|⟨k,rfl,q⟩
 .obtain⟨u,rfl,t,rfl⟩:=Li r;exact call_int_int #[.int i,H,I,#[_,rfl],q]
 .obtain⟨u,rfl,r1⟩:=Li r;cases r1;exact call_int_bool #[.int (if k then 1 else 0),H,I.tok _,#[_,rfl],q]
end
structure aH (h:Heap)(x dx C:Addr)(mA:Str->Option Value):Prop where
 obj:h.get? x=some (W.instObj C dx)
 ns:h.Ns1 dx mA
 ne:dx≠x
theorem Q8 {h:Heap}{dx:Addr}{mA:Str->Option Value}(n:h.Ns1 dx mA):∃od,h.get? dx=some od/\∀name,W.lookIn name od=some (mA name):=by
 obtain⟨o,es,ep,ho,hd,hk,_,hm⟩:=n;refine#[o,ho,λname=>?_];have e:=hm name;unfold nsFind findBy at e;rw[<-Array.find?_toList]at e;unfold W.lookIn;rw[hd];dsimp only;split
 .rename_i y q;rw[q]at e;exact congrArg some e
 .rename_i q;rw[q]at e;have a:es.toList.any (·.refKey)=false:=by
   rw[List.any_eq_false];intro y hy;obtain⟨z,t,hkey⟩:=hk y (Array.mem_toList_iff.mp hy);simp[DictEntry.refKey,hkey]
  have a':¬es.toList.any (·.refKey)=true:=by rw[a];exact qAr
  rw[if_neg a'];exact congrArg some e
theorem aH.look {h:Heap}{x dx C:Addr}{mA:Str->Option Value}(I:aH h x dx C mA):∃od,W.InstAt h x (W.instObj C dx) C (some od)/\∀name,W.lookIn name od=some (mA name):=
 let #[od,ho,hl]:=Q8 I.ns
 #[od,#[I.obj,rfl,rfl,ho],hl]
section
variable {prog:Program}{w:World}{A:Around}{E:Value->Shared->Prop}{s:Shared}{K:W.Frag}{x dx C f:Addr}{mA:Str->Option Value}{name:Str}{v:Value}
end
section
variable {P:Program}{w:World}{H H':Hp}{h h':Heap}{a C dx:Addr}{fs fs':List (Str×V)}
theorem Vg (hok:HOk P w H h)(e:H a=some (.ins C dx fs)):∃mA,aH h a dx C mA/\(∀f,Zd (fs.lookup f) (mA f))/\PySem.Within mA (fs.map (·.1))/\↥fs<=1000/\H dx=some (.own a):=by
 obtain⟨d,z,ne,ob,mA,n,r,q⟩:=(show DO P w H h a (.ins C dx fs) from hok a _ e);exact#[mA,#[ob,n,ne],r,q,z,d]
end
structure Cls (K:W.Frag)(C:Addr):Prop where
 pg:W.plainGet K C Str.empty=true
 hd:W.hasDictIn K C=true
 po:W.plainOver K C=true
 sa:W.findIn K (.ref C) "__setattr__"=some (some (.builtin "object.__setattr__"))
theorem Cls.get {K:W.Frag}{C:Addr}(c:Cls K C)(f:Str):W.plainGet K C f=true:=c.pg
section
variable {X:Cx}{pins:List (Addr×Obj)}{σ:St}{H:Hp}{s:Shared}{a C dx:Addr}{fs:List (Str×V)}{f:Str}{v:V}{A:Around}{E:Value->Shared->Prop}
end
section
variable {X:Cx}{o e value:Expr}{f:Str}{pos pos' tpos:Pos}{ta tv:TE}
end
section
variable {X:Cx}{pins:List (Addr×Obj)}{σ:St}{H:Hp}{s:Shared}{A:Around}{E:Value->Shared->Prop}{Q:Value->Shared->Prop}{c:Value}{b:Bool}
inductive P9 (K:W.Frag)(H:Hp):V->Value->Prop where
 |non:P9 K H .non (.type "NoneType")
 |bl (x:Bool):P9 K H (.bl x) (.type "bool")
 |int (i:Int):P9 K H (.int i) (.type "int")
 |str (x:Str):P9 K H (.str x) (.type "str")
 |flt (x:UInt64):P9 K H (.flt x) (.type "float")
 |lst {a:Addr}{xs:List V}(e:H a=some (.lst xs)):P9 K H (.ref a) (.type "list")
 |frz {a:Addr}{o:Obj}{xs:List V}(e:H a=some (.frz o (.lst xs))):P9 K H (.ref a) (.type "list")
 |tup {a:Addr}{xs:List V}(e:H a=some (.tup xs)):P9 K H (.ref a) (.type "tuple")
 |dK {a:Addr}{kvs:List (Key×V)}(e:H a=some (.dK kvs)):P9 K H (.ref a) (.type "dict")
 |dT {a:Addr}{kvs:List (List Key×V)}(e:H a=some (.dT kvs)):P9 K H (.ref a) (.type "dict")
 |ins {a C dx:Addr}{fs:List (Str×V)}(e:H a=some (.ins C dx fs)) (cl:Cls K C) (ha:W.findIn K (.ref C) "__class__"=some (some (.builtin "object.__class__")))
  (hn:W.specialIn K (.builtin "object.__class__") "__get__"=some (some (.builtin "getset_descriptor.__get__"))) (htk:W.takesIn K (.builtin "object.__class__")=some true)
  (hm:W.mroIn K C (.type "object")=some true):P9 K H (.ref a) (.ref C)
theorem GW {x:V}{u t:Value}(I:Inv X pins σ H s)(rx:CN x u)(ty:P9 X.K H x t)(e:W.kitOne X.K t c=some b)(h:∀tk,Q (.bool b) { s with toks:=tk }) :
 wpAny (model X.prog X.w) A (call (.builtin "isinstance") [u,c]) Q E s:=by
 cases ty with
 |non=>cases (show u=Value.none from rx);exact qAU W.kitx_none I.kIn True.intro e (λz=>nomatch z) h
 |bl y=>cases (show u=Value.bool y from rx);exact qAU W.kitx_bool I.kIn True.intro e (λz=>nomatch z) h
 |int i=>obtain⟨t,q⟩:=(show ∃t,u=Value.int i t from rx);cases q;exact qAU W.kitx_int I.kIn True.intro e (λz=>nomatch z) h
 |str y=>obtain⟨t,q⟩:=(show ∃t,u=Value.str y t from rx);cases q;exact qAU W.kitx_str I.kIn True.intro e (λz=>nomatch z) h
 |flt y=>obtain⟨t,q⟩:=(show ∃t,u=Value.float y t from rx);cases q;exact qAU W.kitx_float I.kIn True.intro e (λz=>nomatch z) h
 |@lst a xs ea=>
  cases (show u=Value.ref a from rx);obtain⟨_,_,n,_,h1⟩:=(show DO X.prog X.w H s.heap a (.lst xs) from I.hok a _ ea);exact qAU qBQ I.kIn #[_,h1,rfl] e (λz=>nomatch z) h
 |@frz a ob xs ea=>
  cases (show u=Value.ref a from rx);obtain⟨_,_,_,n,_,h1⟩:=(show DO X.prog X.w H s.heap a (.frz ob (.lst xs)) from I.hok a _ ea);exact qAU qBQ I.kIn #[_,h1,rfl] e (λz=>nomatch z) h
 |@tup a xs ea=>
  cases (show u=Value.ref a from rx);obtain⟨_,_,_,p⟩:=(show DO X.prog X.w H s.heap a (.tup xs) from I.hok a _ ea);obtain⟨o,h1,h2,_⟩:=p;exact qAU W.kitx_tuple I.kIn #[o,h1,h2] e (λz=>nomatch z) h
 |@dK a kvs ea=>
  cases (show u=Value.ref a from rx);obtain⟨_,_,vs,_,p⟩:=(show DO X.prog X.w H s.heap a (.dK kvs) from I.hok a _ ea);obtain⟨o,es,ep,h1,h2,_⟩:=p;exact qAU W.kitx_dict I.kIn #[o,h1,h2.1] e (λz=>nomatch z) h
 |@dT a kvs ea=>
  cases (show u=Value.ref a from rx);obtain⟨_,_,xs,_,o,es,ep,h1,h2,_⟩:=(show DO X.prog X.w H s.heap a (.dT kvs) from I.hok a _ ea);exact qAU W.kitx_dict I.kIn #[o,h1,h2.1] e (λz=>nomatch z) h
 |@ins a C dx fs ea cl ha hn htk hm=>
  cases (show u=Value.ref a from rx);obtain⟨mA,O,_⟩:=Vg I.hok ea;obtain⟨od,J,_⟩:=O.look;exact qAU (W.kitx_own (cl.get _) cl.hd ha hn htk hm) I.kIn J e (λz=>nomatch z) h
end
structure FI (k:Nat)(A:Around):Prop where
 hd:A.handled=none
 dp:A.depth+3*k+5<recursionLimit
 un:A.units+16*k+200<cLine
theorem FI.mono {j k:Nat}{A:Around}(r:FI k A)(h:j<=k):FI j A:=#[r.hd,by have:=r.dp;omega,by have:=r.un;omega]
theorem FI.deeper {k:Nat}{A:Around}(r:FI (k+1) A)(env:Env):FI k (A.deeper env):=
 #[r.hd,by have:=r.dp;show A.depth+1+3*k+5<_;omega,by have:=r.un;show A.units+3+16*k+200<_;omega]
theorem FI.depth {k:Nat}{A:Around}(r:FI k A):A.depth<recursionLimit:=by have:=r.dp;omega
def ZG:TA:=λ_ H Q=>Q [] H
def Ww (ta:TE)(tr:TA):TA:=λσ H Q=>ta σ H λx H1=>tr σ H1 λxs H2=>Q (x::xs) H2
section
variable {X:Cx}{e:Expr}{es:List Expr}{te:TE}{t:TA}{pos:Pos}
theorem BL:PA X [] ZG:=λ_ _ _ _ H Q I h=>Calls.spliced_nil #[[],H,I,.nil,h]
theorem A7 (ha:PE X e te)(hr:PA X es t)(hs:starEach (e::es) X.env=(false,eval e X.env)::starEach es X.env:=by rfl):PA X (e::es) (Ww te t):=by
 intro pos pins s σ H Q I h;rw[hs];show wpAny _ _ (spliced ((false,eval e X.env)::backTo pos (starEach es X.env))) _ _ s;refine Calls.spliced_cons (thn (ha pins s σ H _ I h) λu s1 hh=>?_);obtain⟨x,H1,I1,r1,q1⟩:=hh;exact thn (hr pos pins s1 σ H1 _ I1 q1) λus s2 #[xs,H2,I2,r2,q2]=>#[x::xs,H2,I2,.cons r1 r2,q2]
def dW (t:TA):TE:=λσ H Q=>t σ H λxs H1=>↥xs<=sizeLine/\∀p,H1 p=none->Q (.ref p) (upd H1 p (.tup xs))
theorem YN {x1}(h:PA X es t):PE X (.Tuple es x1 pos) (dW t):=by
 intro pins s σ H Q I hq;refine wpAny_Tuple_spliced (thn (h pos pins s σ H _ I hq) λus s1 #[xs,H1,I1,r,z,q]=>#[by rw[<-↥r];exact z,?_]);have hf:H1 s1.heap.objs.size=none:=I1.hok.fresh (qAg _);refine#[.ref s1.heap.objs.size,upd H1 s1.heap.objs.size (.tup xs),I1.laid (t':=s1.toks) (λb u e=>qAi _ e) (qAg _) ?_,rfl,q _ hf];exact#[z,us,r,#[_,qAF _ rfl,rfl,_,rfl]]
end
abbrev Sp:=List V->Hp->VK->XK->Prop
abbrev CXT:=List Env->Hp->Shared->XK->Value->Shared->Prop
structure Wg (P:Program)(w:World)(K:W.Frag)(mg:Str->Option Value)(base:Heap)(A:Around)(outer:List Env)(s:Shared)(H:Hp):Prop where
 frames:A.frames=some outer
 mod:Mod K mg base
 bs:∀b o,base.get? b=some o->s.heap.get? b=some o/\H b=none
 bsz:base.objs.size<=s.heap.objs.size
 funs:s.heap.FunFrames base outer
 frf:∀b∈frs outer,H b=none
 hok:HOk P w H s.heap
 bare:AllBare s.gens
 tb:TB P K mg base H
def CE (outer:List Env)(P:Program)(w:World)(H:Hp)(s:Shared)(Q:VK)(u:Value)(s':Shared):Prop:=
 ∃v H',s'.os=s.os/\AllBare s'.gens/\Un (frs outer) [] H H' s.heap s'.heap/\HOk P w H' s'.heap/\CN v u/\Q v H'
def CR (CX:CXT)(outer:List Env)(P:Program)(w:World)(H:Hp)(s:Shared)(Q:VK)(E:XK)(r:Result)(s':Shared):Prop:=
 match r with
 |.ok (.ret u)=>CE outer P w H s Q u s'
 |.ok _=>False
 |.error e=>CX outer H s E e s'
structure Ap (P:Program)(w:World)(K:W.Frag)(mg:Str->Option Value)(base:Heap)(CX:CXT)(k:Nat)(f:Addr)(fd:FuncData)(ps:List Str)(sp:Sp):Prop where
 len:∀vs H Q E,sp vs H Q E->↥vs=↥ps
 run:∀(A:Around)(outer:List Env)(s:Shared)(H:Hp)(args:Args)(us:List Value)(vs:List V)(Q:VK)(E:XK),FI k A->Wg P w K mg base A outer s H->BindsTo s fd args (ps.zip us)->Cb vs us->sp vs H Q E ->
  codeAny (model P w) A (.call (.ref f) args) (CR CX outer P w H s Q E) s
theorem Ap.imp {P:Program}{w:World}{K:W.Frag}{mg:Str->Option Value}{base:Heap}{CX:CXT}{k:Nat}{f:Addr}{fd:FuncData}{ps:List Str}{sp sp':Sp}(F:Ap P w K mg base CX k f fd ps sp)
 (h:∀vs H Q E,sp' vs H Q E->sp vs H Q E):Ap P w K mg base CX k f fd ps sp':=
 #[λvs H Q E q=>F.len vs H Q E (h _ _ _ _ q),λA outer s H args us vs Q E hr he hb hv hs=>F.run A outer s H args us vs Q E hr he hb hv (h _ _ _ _ hs)]
section
variable {X:Cx}{pins:List (Addr×Obj)}{σ:St}{H:Hp}{s s':Shared}
theorem Inv.env0 (I:Inv X pins σ H s):Wg X.prog X.w X.K X.mg X.base X.A X.stack s H:=
 #[I.ok.frames,I.ok.mod,I.bs,qAO I.ok.bsz I.sz,I.stack,I.stkFree,I.hok,I.bare,I.tb]
theorem Inv.after {Q:VK}{u:Value}(I:Inv X pins σ H s)(h:CE X.stack X.prog X.w H s Q u s'):EP X pins σ Q u s':=by
 obtain⟨v,H',os,bare,un,hok,r,q⟩:=h;obtain⟨hh,g,d,t,os'⟩:=s';obtain rfl:os'=s.os:=os;exact#[v,H',I.call (h':=hh) (g':=g) (d':=d) (t':=t) (ch:=[]) un hok bare (λb z=>absurd z (by simp)),r,q]
end
def ZN (sp:Sp)(dvs:List V)(E:XK)(t:TA):TE:=λσ H Q=>t σ H λvs H1=>sp (vs++dvs) H1 Q E
def Binds (K:W.Frag)(fd:FuncData)(ps:List Str)(ds:List Value):Prop:=
 ∀(s:Shared)(us:List Value),K.In s.heap->(us++ds).length=↥ps->BindsTo s fd #[us,[]] (ps.zip (us++ds))
theorem Binds.all {K:W.Frag}{fd:FuncData}{ps:List Str}(h:∀us:List Value,↥us=↥ps->bindArgs fd #[us,[]]=pure (ps.zip us)):Binds K fd ps []:=λs us _ hl=>by
 rw[qBA]at hl ⊢;exact .of_eq (h us hl)
def Rl (CX:CXT)(X:Cx)(E:XK):Prop:=∀(pins:List (Addr×Obj))(σ:St)(H:Hp)(s:Shared)(e:Value)(s':Shared),Inv X pins σ H s->CX X.stack H s E e s'->X.xe e s'
section
variable {X:Cx}{CX:CXT}{k:Nat}{f C:Addr}{fd:FuncData}{ps:List Str}{sp:Sp}{dvs:List V}{ds:List Value}{E:XK}{x m:Str}{p pos apos:Pos}{e o:Expr}{es:List Expr}{ta:TE}{t:TA}
theorem Xz {pins:List (Addr×Obj)}{σ:St}{H:Hp}{s:Shared}{Q:VK}{us:List Value}{vs:List V}(F:Ap X.prog X.w X.K X.mg X.base CX k f fd ps sp)(hr:FI k X.A)(hb:Binds X.K fd ps ds)(hd:Cb dvs ds)(hx:Rl CX X E)
 (I:Inv X pins σ H s) (r:Cb vs us) (h:sp (vs++dvs) H Q E):wpAny (model X.prog X.w) X.A (call (.ref f) us) (EP X pins σ Q) X.xe s:=by
 have r2:Cb (vs++dvs) (us++ds):=r.append hd;have hl:(us++ds).length=↥ps:=by rw[<-↥r2];exact F.len _ _ _ _ h
 refine wpAny_call (codeAny_mono (F.run X.A X.stack s H #[us,[]] (us++ds) (vs++dvs) Q E hr I.env0 (hb s us I.kIn hl) r2 h) λr s' hq=>?_);cases r with
 |error e=>exact hx pins σ H s e s' I hq
 |ok fl=>
  cases fl with
  |ret u=>exact I.after hq
  |next=>exact False.elim hq
  |brk=>exact False.elim hq
  |cont=>exact False.elim hq
theorem Rb (F:Ap X.prog X.w X.K X.mg X.base CX k f fd ps sp)(hr:FI k X.A)(hg:Gl X x)(hm:X.mg x=some (.ref f))(hk:W.keepIn X.K (.ref f)=true)(hb:Binds X.K fd ps ds)(hd:Cb dvs ds)(hx:Rl CX X E)
 (ha:PA X (e::es) t)(hdb:(x==("__debug__":Str))=false:=by decide)(he:starEach (e::es) X.env=(false,eval e X.env)::starEach es X.env:=by rfl)(hpl:(backTo pos (starEach es X.env)).any (·.1)=false:=by rfl) :
 PE X (.Call (.Name x p) (e::es) [] pos) (ZN sp dvs E t):=by
 intro pins s σ H Q I h;refine wpAny_Call_Name_kw (IS I hg hm ?_ hdb);refine qCm (h₀:=X.base) I.ok.mod.kin hk (thn (ha pos pins s σ H _ I h) λus s1 #[vs,H1,I1,r,q]=>#[I1.kIn,?_]) he hpl;exact Xz F hr hb hd hx I1 r q
end
def PK (X:Cx)(kws:List Keyword)(t:TA):Prop:=
 ∀(pos:Pos)(pins:List (Addr×Obj))(s:Shared)(σ:St)(H:Hp)(Q:List V->Hp->Prop),Inv X pins σ H s->t σ H Q->wpAny (model X.prog X.w) X.A (evalAll ((backToKw pos (keywordEach kws X.env)).map (·.2))) (AP X pins σ Q) X.xe s
section
variable {X:Cx}{CX:CXT}{k:Nat}{f C:Addr}{fd:FuncData}{ps ks:List Str}{sp:Sp}{E:XK}{x m:Str}{p pos apos kpos:Pos}{e o:Expr}{es:List Expr}{kws:List Keyword}{te ta:TE}{t tk:TA}{nm:Option Str}
theorem XY:PK X [] ZG:=λ_ _ _ _ H Q I h=>wpAny_evalAll_nil #[[],H,I,.nil,h]
theorem Vo (ha:PE X e te)(hr:PK X kws t):PK X (#[nm,e,kpos]::kws) (Ww te t):=by
 intro pos pins s σ H Q I h;show wpAny _ _ (evalAll ((do let v <-eval e X.env;standAt pos;pure v)::(backToKw pos (keywordEach kws X.env)).map (·.2))) _ _ s;refine wpAny_evalAll_cons (wpAny_bind (thn (ha pins s σ H _ I h) λu s1 #[x,H1,I1,r1,q1]=>wpAny_bind (wpAny_standAt (wpAny_pure ?_))));exact thn (hr pos pins s1 σ H1 _ I1 q1) λus s2 #[xs,H2,I2,r2,q2]=>#[x::xs,H2,I2,.cons r1 r2,q2]
variable {g:List Value->List Value->List Value}{gV:List V->List V->List V}
end
structure Ae (N P:List Str)(sc:Scope):Prop where
 kind:sc.kind=.function
 co:sc.isCoroutine=false
 gen:sc.isGenerator=false
 nd:N.Nodup
 pre:N.take ↥P=P
 par:∀x∈P,sc.names.lookup x=some .local\/sc.names.lookup x=some .cell
 nofree:∀y∈sc.names,y.2≠.free
theorem MW {kindOf:Str->Option NameKind}{x:Str}:∀{binds:List (Str×Value)}{m:Str->Option Value},(∀v,(x,v)∉binds)->bindL kindOf binds m x=m x
 |[],_,_=>rfl
 |(n,v)::r,m,h=>by
  unfold bindL;rw[MW λw hw=>h w (qAE _ hw)];split
  .have:x≠n:=by rintro rfl;exact h v qAK
   simp[this]
  .rfl
theorem Mg {kindOf:Str->Option NameKind}{x:Str}:∀{binds:List (Str×Value)}{m:Str->Option Value},(∀v,(x,v)∉binds)->bindC kindOf binds m x=m x
 |[],_,_=>rfl
 |(n,v)::r,m,h=>by
  unfold bindC;rw[Mg λw hw=>h w (qAE _ hw)];split
  .rfl
  .have:x≠n:=by rintro rfl;exact h v qAK
   simp[this]
theorem Ms {kindOf:Str->Option NameKind}{x:Str}{v:Value}:∀{P:List Str}{vs:List Value}{i:Nat}{m:Str->Option Value},P.Nodup->P[i]? = some x->vs[i]? = some v->kindOf x=some .local ->
 bindL kindOf (P.zip vs) m x=some v
 |[],_,_,_,_,h,_,_=>by simp at h
 |_::_,[],_,_,_,_,h,_=>by simp at h
 |p::P,w::vs,0,m,nd,h1,h2,hk=>by
  simp at h1 h2;subst h1;subst h2;show bindL kindOf ((p,w)::P.zip vs) m p=_;unfold bindL;rw[MW λv hv=>(qCc.mp nd).1 (qCd hv).1,if_pos hk];simp
 |p::P,w::vs,i+1,m,nd,h1,h2,hk=>by
  show bindL kindOf ((p,w)::P.zip vs) m x=_;unfold bindL;exact Ms (i:=i) (qCc.mp nd).2 (by simpa using h1) (by simpa using h2) hk
theorem Mx {kindOf:Str->Option NameKind}{x:Str}{v:Value}:∀{P:List Str}{vs:List Value}{i:Nat}{m:Str->Option Value},P.Nodup->P[i]? = some x->vs[i]? = some v->kindOf x≠some .local ->
 bindC kindOf (P.zip vs) m x=some v
 |[],_,_,_,_,h,_,_=>by simp at h
 |_::_,[],_,_,_,_,h,_=>by simp at h
 |p::P,w::vs,0,m,nd,h1,h2,hk=>by
  simp at h1 h2;subst h1;subst h2;show bindC kindOf ((p,w)::P.zip vs) m p=_;unfold bindC;rw[Mg λv hv=>(qCc.mp nd).1 (qCd hv).1,if_neg hk];simp
 |p::P,w::vs,i+1,m,nd,h1,h2,hk=>by
  show bindC kindOf ((p,w)::P.zip vs) m x=_;unfold bindC;exact Mx (i:=i) (qCc.mp nd).2 (by simpa using h1) (by simpa using h2) hk
def start (N:List Str)(vs:List V):St:=vs.map some++List.replicate (↥N-↥vs) none
def Md (CX:CXT)(P:Program)(w:World)(K:W.Frag)(mg:Str->Option Value)(base:Heap)(N:List Str)(qual:Str)(scope:Scope)(f:Addr)(cd:Value)(A:Around)(outer:List Env)(s:Shared)(H:Hp)(E:XK):Cx where
 prog:=P
 w:=w
 K:=K
 mg:=mg
 base:=base
 A:=A.deeper (envOfC qual scope s.heap.objs.size f cd)
 N:=N
 s₀:=s
 H₀:=H
 env:=envOfC qual scope s.heap.objs.size f cd
 outer:=outer
 stack:=envOfC qual scope s.heap.objs.size f cd::outer
 ex:=[]
 calm:=true
 fn:=λ_=>true
 pn:=[]
 xe:=λe s'=>wpAny (model P w) (A.deeper (envOfC qual scope s.heap.objs.size f cd)) (leaving (envOfC qual scope s.heap.objs.size f cd) e) (λ_ s''=>CX outer H s E e s'') (λe' s''=>CX outer H s E e' s'') s'
theorem O5 {sc:Scope}{n:Nat}{x:Str}(h:sc.names.lookup x=some .cell):∃c,(cellsFrom n sc.names []).lookup x=some c:=by
 have q:=qB5 sc.names n [] (.inl h);exact qA2.mp q
theorem MC {CX:CXT}{P:Program}{w:World}{K:W.Frag}{mg:Str->Option Value}{base:Heap}{N ps:List Str}{qual:Str}{scope:Scope}{f:Addr}{cd:Value}{A:Around}{outer:List Env}{s s1:Shared}{H:Hp}{E:XK}{us:List Value}{vs:List V}
 (S:Ae N ps scope) (hd:A.handled=none) (e0:Wg P w K mg base A outer s H) (hl:↥vs=↥ps) (r:Cb vs us)
 (x:InCallC s s.heap.objs.size (bindL (envOfC qual scope s.heap.objs.size f cd).kindOf (ps.zip us) λ_=>none) (cellsFrom (s.heap.objs.size+1) scope.names []) (bindC (envOfC qual scope s.heap.objs.size f cd).kindOf (ps.zip us) λ_=>none) s1) :
 Inv (Md CX P w K mg base N qual scope f cd A outer s H E) [] (start N vs) H s1:=by
 have hpl:↥ps<=↥N:=by have:=congrArg List.length S.pre;rw[qAZ]at this;omega
 obtain⟨h1,tk,rfl,hk⟩:=x.done;have noA:∀b:Addr,b∉(Md CX P w K mg base N qual scope f cd A outer s H E).ex:=λb z=>absurd (show b∈([]:List Addr) from z) (by simp);refine#[#[e0.mod,S.kind,rfl,rfl,qAg _,λy z c h1 h2=>?_,λy hy=>?_,λy c _ h=>?_,λ_=>hd,Around.frames_deeper e0.frames,.inr #[rfl,rfl],λb z=>absurd z (noA b),e0.bs,e0.bsz,λb _ _=>noA b,λb z=>absurd z (noA b),e0.funs,e0.frf,e0.tb],
  rfl,e0.bare,Un.kept hk,#[_,x.toInCall.ns,λi y v h1 h2 h3=>?_],λy c h=>#[_,x.cell y c h],e0.hok.fresh (qAg _),λy c h=>?_,λp hp=>absurd (show p∈([]:List (Addr×Obj)) from hp) (by simp),e0.hok.kept hk,?_]
 .exact name_of_addr x.apart (PySem.mem_of_lookup h1) (PySem.mem_of_lookup h2)
 .have hy:scope.names.lookup y=some .cell\/scope.names.lookup y=some .free:=hy;rcases hy with hy|hy
  .exact O5 hy
  .exact absurd rfl (S.nofree _ (PySem.mem_of_lookup hy))
 .exact qBs (x.above y c (PySem.mem_of_lookup h))
 .have hi:i<↥vs:=by
   unfold start at h2;by_cases hi:i<↥vs
   .exact hi
   .rw[qAw (by simpa using hi)]at h2;rw[qCx]at h2;split at h2<;>cases h2
  have ha:vs[i]? = some v:=by
   unfold start at h2;rw[qAt (by simpa using hi),qAd]at h2;cases e:vs[i]? with
   |none=>rw[e]at h2;cases h2
   |some a=>rw[e]at h2;cases h2;rfl
  obtain⟨u,hu,rv⟩:=r.get ha;have hp:ps[i]? = some y:=by
   rw[<-S.pre,qB0 ()];exact h1
  have ndP:ps.Nodup:=by rw[<-S.pre];exact S.nd.sublist (List.take_sublist _ _)
  refine#[u,rv,?_];rcases S.par y (qAB hp) with k|k
  .exact .inl #[k,Ms ndP hp hu k]
  .obtain⟨c,e⟩:=O5 (n:=s.heap.objs.size+1) k;refine .inr #[.inl k,c,e,?_];have q:=x.cell y c e;rw[Mx ndP hp hu (by show scope.names.lookup y≠_;rw[k];decide)]at q;exact q
 .exact e0.hok.fresh (qBs (x.above y c (PySem.mem_of_lookup h)))
 .unfold start;show _=↥N;rw[qAp,qAa,List.length_replicate];omega
theorem T5 {CX:CXT}{P:Program}{w:World}{K:W.Frag}{mg:Str->Option Value}{base:Heap}{k:Nat}{f:Addr}{name qual:Str}{params:Arguments}{body:List Stmt}{scope:Scope}{dV kV doc pm cdv ct oc:Value}{an od:Option Addr}
 {osl:Array (Option Value)}{N ps:List Str}{sp:Sp}(lk:K.lookup f=some #[oc,od,.func (W.fnOf name qual params body scope dV kV doc pm an cdv ct),osl]) (hcd:W.codeIn K cdv qual=true) (S:Ae N ps scope)
 (len:∀vs H Q E,sp vs H Q E->↥vs=↥ps)
 (hbody:∀(A:Around)(outer:List Env)(s:Shared)(H:Hp)(vs:List V)(Q:VK)(E:XK),FI k (A.deeper (envOfC qual scope s.heap.objs.size f cdv))->sp vs H Q E ->
  ∃t,PSs (Md CX P w K mg base N qual scope f cdv A outer s H E) body t/\t { nx:=λ_ H'=>Q .non H',rt:=Q } (start N vs) H) :
 Ap P w K mg base CX (k+1) f (W.fnOf name qual params body scope dV kV doc pm an cdv ct) ps sp:=by
 refine#[len,λA outer s H args us vs Q E hr e0 hb r hsp=>?_];have hl:=len _ _ _ _ hsp;have KX:K.In s.heap:=e0.mod.kin.keeps λb o e=>(e0.bs b o e).1;have lim:s.heap.NoLimit:=e0.mod.nolimit.keeps λb o e=>(e0.bs b o e).1;have hkind:∀y∈ps.zip us,scope.names.lookup y.1=some .local\/(scope.names.lookup y.1=some .cell/\((cellsFrom (s.heap.objs.size+1) scope.names []).lookup y.1).isSome=true):=fun#[n,v] hy=>by
  rcases S.par n (qCd hy).1 with q|q
  .exact .inl q
  .exact .inr #[q,qB5 _ _ _ (.inl q)]
 refine codeAny_call_function hr.depth (KX _ _ lk) rfl S.co S.gen rfl (W.codeRec_of KX hcd) (hb _ _ _ _ ?_);refine wpAny_newFunctionEnv_cells S.kind hkind λenv he s1 x=>?_;subst he;refine#[lim.keeps x.toInCall.keep,codeAny_func ?_];obtain⟨t,ht,hq⟩:=hbody A outer s H vs Q E (hr.deeper _) hsp;have I:Inv (Md CX P w K mg base N qual scope f cdv A outer s H E) [] (start N vs) H s1:=MC S hr.hd e0 hl r x;refine wpAny_mono (ht [] s1 (start N vs) H _ I hq) (λfl s' hs=>?_) λe s' hs=>hs;have fin:∀{σ':St}{H':Hp}{v:V}{u:Value},Inv (Md CX P w K mg base N qual scope f cdv A outer s H E) [] σ' H' s'->CN v u->Q v H'->CE outer P w H s Q u s':=
  λ{σ' H' v u} J rv q=>#[v,H',J.os,J.bare,J.base,J.hok,rv,q]
 cases fl with
 |ret u=>
  obtain⟨v,σ',H',J,rv,q⟩:=hs;exact fin J rv q
 |next=>
  obtain⟨σ',H',J,q⟩:=hs;exact fin (v:=V.non) (u:=Value.none) J rfl q
 |brk=>
  obtain⟨_,_,_,q⟩:=hs;exact False.elim q
 |cont=>
  obtain⟨_,_,_,q⟩:=hs;exact False.elim q
section
variable {X:Cx}{x:Str}{p pos:Pos}{e:Expr}{es:List Expr}{t:TA}{id T:String}{r:List V->Hp->VK->Prop}
def tCB (r:List V->Hp->VK->Prop)(t:TA):TE:=λσ H Q=>t σ H λvs H1=>r vs H1 Q
theorem Io (hc:HE X (.builtin id) r)(hg:Gl X x)(hm:X.mg x=none)(hv:bootBuiltins x=some (.builtin id))(ha:PA X (e::es) t)(hn:x≠"__name__":=by decide)(hdb:(x==("__debug__":Str))=false:=by decide)
 (he:starEach (e::es) X.env=(false,eval e X.env)::starEach es X.env:=by rfl)(hpl:(backTo pos (starEach es X.env)).any (·.1)=false:=by rfl):PE X (.Call (.Name x p) (e::es) [] pos) (tCB r t):=by
 intro pins s σ H Q I h;refine wpAny_Call_Name_kw (H0 I hg hm hv ?_ hn hdb);exact PyProof.Rows.callWith_builtin1 (thn (ha pos pins s σ H _ I h) λus s1 #[vs,H1,I1,r1,q1]=>hc pins s1 σ H1 vs us Q I1 r1 q1) he hpl
theorem MI (hc:HE X (.type T) r)(hg:Gl X x)(hm:X.mg x=none)(hv:bootBuiltins x=some (.type T))(ha:PA X (e::es) t)(hn:x≠"__name__":=by decide)(hdb:(x==("__debug__":Str))=false:=by decide)
 (he:starEach (e::es) X.env=(false,eval e X.env)::starEach es X.env:=by rfl)(hpl:(backTo pos (starEach es X.env)).any (·.1)=false:=by rfl):PE X (.Call (.Name x p) (e::es) [] pos) (tCB r t):=by
 intro pins s σ H Q I h;refine wpAny_Call_Name_kw (H0 I hg hm hv ?_ hn hdb);exact qBc (thn (ha pos pins s σ H _ I h) λus s1 #[vs,H1,I1,r1,q1]=>hc pins s1 σ H1 vs us Q I1 r1 q1) he hpl
end
end L2
namespace HT
open PySem PyProof.Rows
section
open PySem.SeqAt
open PySem.AutoSeq1 (wpAny_loadPart')
open PySem.MeetsSeq PySem.MeetsSeq2 PySem.MeetsSeq3
end
section
variable {prog:Program}{w:World}{A:Around}{E:Value->Shared->Prop}{s:Shared}
theorem cat_tup {t b:Addr}{vs ws:List Value}{Q:Value->Shared->Prop}(ht:IsTup s.heap t vs.toArray)(hb:IsTup s.heap b ws.toArray)(hv:vs≠[])
 (h1:ws=[]->Q (.ref t) s)(h2:ws≠[]->Q (.ref s.heap.objs.size) { s with heap:=s.heap.push { cls:=.type "tuple",data:=.seq (vs++ws).toArray } })
 (hsz:↥vs+↥ws<=sizeLine):wpAny (model prog w) A (binaryOp .Add (.ref t) (.ref b)) Q E s:=by
 obtain⟨⟨cls,dd,data,sl⟩,ho,hc,n,hd⟩:=id ht;obtain⟨⟨cls2,dd2,data2,sl2⟩,ho2,hc2,n2,hd2⟩:=id hb;simp only at hc hd hc2 hd2;subst hc hd hc2 hd2;have e:vs.toArray++ws.toArray=(vs++ws).toArray:=by simp
 by_cases hw:ws=[]
 .exact concat_meets #[_,ho,rfl] #[_,ho2,rfl] noFill_tuple_add seq_tuple_add qCF qCy (qCt _ _)
   (tuple_addW1 t b vs.toArray ws.toArray n n2 dd dd2 sl sl2 (by simpa using hv) (by simp[hw])) #[ho,ho2,h1 hw]
 .refine concat_meets #[_,ho,rfl] #[_,ho2,rfl] noFill_tuple_add seq_tuple_add qCF qCy (qCt _ _)
   (tuple_addW2 t b vs.toArray ws.toArray n n2 dd dd2 sl sl2 (by simpa using hv) (by simpa using hw) (by rw[qAv,qAv];exact hsz)) #[ho,ho2,?_]
  rw[e];exact h2 hw
def sIx (n d:Nat):Option Int->Nat
 |none=>d
 |some v=>if v<0 then (v+(n:Int)).toNat else min v.toNat n
theorem sIx_none (n d:Nat):sIx n d none=d:=rfl
theorem sIx_nat (n d k:Nat):sIx n d (some (k:Int))=min k n:=by
 show(if (k:Int)<0 then ((k:Int)+(n:Int)).toNat else min (k:Int).toNat n)=min k n;rw[if_neg (),qBG]
theorem XS (n d:Nat)(hd:d<=n)(o:Option Int):sIx n d o<=n:=by
 cases o with
 |none=>exact hd
 |some v=>
  show(if v<0 then (v+(n:Int)).toNat else min v.toNat n)<=n;by_cases hv:v<0
  .rw[if_pos hv];omega
  .rw[if_neg hv];exact Nat.min_le_right _ _
theorem Ri (v:Int)(n d:Nat):(if v<0 then max (v+(n:Int)) 0 else min v (n:Int))=((sIx n d (some v):Nat):Int):=by
 show(if v<0 then max (v+(n:Int)) 0 else min v (n:Int))=(((if v<0 then (v+(n:Int)).toNat else min v.toNat n):Nat):Int);by_cases hv:v<0
 .simp only[if_pos hv];omega
 .simp only[if_neg hv];omega
theorem Pb (lo hi:Option Int)(n:Nat):Builtin.Slice.sliceAdjust lo hi 1 (n:Int)=(((sIx n 0 lo:Nat):Int),((sIx n n hi:Nat):Int)):=by
 have h1:¬((1:Int)<0):=();unfold Builtin.Slice.sliceAdjust;simp only[h1,if_false];refine Prod.ext ?_ ?_
 .cases lo with
  |none=>rfl
  |some v=>exact Ri v n 0
 .cases hi with
  |none=>rfl
  |some v=>exact Ri v n n
theorem P2 (i j:Nat):Builtin.Slice.slicePlaces (i:Int) (j:Int) 1=j-i:=by
 unfold Builtin.Slice.slicePlaces;have h1:(1:Int)>0:=();simp only[h1,if_true,Int.ediv_one];split<;>omega
theorem Ks {v:Value}{o:Option Int}{Q:Option Int->Shared->Prop}(p:IsPart v o)(h:Q o s):wpAny (model prog w) A (Builtin.Slice.slicePartIndex v) Q E s:=by
 cases p with
 |none=>exact slicePart_none h
 |int i t=>exact slicePart_int h
theorem Ie {sl:Addr}{vl vu:Value}{lo hi:Option Int}{n:Nat}{Q:Int×Int×Nat->Shared->Prop}(hs:s.heap.IsSliceOf sl vl vu .none)(pl:IsPart vl lo)(pu:IsPart vu hi)
 (h:Q (((sIx n 0 lo:Nat):Int),1,sIx n n hi-sIx n 0 lo) s):wpAny (model prog w) A (Builtin.Slice.sliceApplied (.ref sl) (pure (n:Int))) Q E s:=by
 obtain⟨os,hos,hcs,hds⟩:=id hs;unfold Builtin.Slice.sliceApplied Builtin.Slice.sliceFields;refine wpAny_bind (wpAny_bind (wpAny_field hos hds (x:=vl) rfl (wpAny_bind (wpAny_field hos hds (x:=vu) rfl (wpAny_bind (wpAny_field hos hds (x:=.none) rfl (wpAny_pure ?_)))))));refine wpAny_bind (slicePart_none ?_);show wpAny _ _ (if ((1:Int)==0)=true then _ else _) _ _ s;rw[if_neg ∅];refine wpAny_bind (Ks pl (wpAny_bind (Ks pu (wpAny_bind (wpAny_pure ?_)))));show wpAny _ _ (match Builtin.Slice.sliceAdjust lo hi 1 (n:Int) with|(lo,hi)=>pure (lo,(1:Int),Builtin.Slice.slicePlaces lo hi 1)) _ _ s;rw[Pb lo hi n];show wpAny _ _ (pure (((sIx n 0 lo:Nat):Int),(1:Int),Builtin.Slice.slicePlaces ((sIx n 0 lo:Nat):Int) ((sIx n n hi:Nat):Int) 1)) _ _ s;rw[P2];exact wpAny_pure h
theorem T3 (xs:Array Value)(i k:Nat):((List.range k).filterMap fun(m:Nat)=>xs[((i:Int)+(m:Int)*1).toNat]?).toArray=((xs.toList.drop i).take k).toArray:=by
 have e:(fun(m:Nat)=>xs[((i:Int)+(m:Int)*1).toNat]?)=λm=>xs[i+m]? := by
  funext m
  have:((i:Int)+(m:Int)*1).toNat=i+m:=();rw[this]
 rw[e];have:=pick_run xs i k;rw[qBy]at this;have e2:((λx=>xs[x]?) ∘ λx=>i+x)=λm=>xs[i+m]? := rfl;rw[e2]at this;rw[this]
theorem getItem_tuple_cut {t sl:Addr}{items:Array Value}{vl vu:Value}{lo hi:Option Int}{Q:Value->Shared->Prop}(ht:IsTup s.heap t items)(hs:s.heap.IsSliceOf sl vl vu .none)(pl:IsPart vl lo)(pu:IsPart vu hi)
 (hw:¬(sIx items.size 0 lo=0/\sIx items.size items.size hi=items.size))
 (h:Q (.ref s.heap.objs.size) { s with heap:=s.heap.push { cls:=.type "tuple",data:=.seq ((items.toList.drop (sIx items.size 0 lo)).take (sIx items.size items.size hi-sIx items.size 0 lo)).toArray } })
 (hsz:items.size<=sizeLine):wpAny (model prog w) A (getItem (.ref t) (.ref sl)) Q E s:=by
 have htake:sizeOk (.seq ((items.toList.drop (sIx items.size 0 lo)).take (sIx items.size items.size hi-sIx items.size 0 lo)).toArray):=by
  show((items.toList.drop (sIx items.size 0 lo)).take (sIx items.size items.size hi-sIx items.size 0 lo)).toArray.size<=sizeLine;rw[qAv,qAZ,qAP,Array.length_toList];omega
 have hj:sIx items.size items.size hi<=items.size:=XS _ _ (qAg _) hi;obtain⟨os,hos,hcs,hds⟩:=id hs;have hTs:s.TypeIs (.ref sl) "slice":=#[os,hos,hcs];unfold getItem
 try with_reducible refine wpAny_holding ?_
 first|refine wpAny_bind (wpAny_pure ?_)|skip
 refine wpAny_bind (wpAny_sequenceKey ht.typeIs ∅ ?_);refine wpAny_bind (wpAny_callSpecial?_slot (name:=Str.ofString "__getitem__") ht.typeIs qCb
  (wpAny_call_entry qCb ht.typeIs entry_tuple_getitem ?_ (args_tuple_getitem _ _)))
 show wpAny _ _ (Builtin.Tuple.tupleItemsOf (.ref t) >>= _) _ _ s;refine wpAny_bind (tupleItemsOf_ ht ?_);refine wpAny_bind (wpAny_typeOf hTs ?_);rw[if_pos ∅];refine wpAny_bind (Ie hs pl pu ?_);have hno:¬((((sIx items.size 0 lo:Nat):Int)==0&&(1:Int)==1&&(sIx items.size items.size hi-sIx items.size 0 lo)==items.size)=true):=by
  intro q;rw[qAW,qAW]at q;have q1:((sIx items.size 0 lo:Nat):Int)=0:=eq_of_beq q.1.1;have q2:sIx items.size items.size hi-sIx items.size 0 lo=items.size:=eq_of_beq q.2;exact hw #[(),()]
 show wpAny _ _ (if (((sIx items.size 0 lo:Nat):Int)==0&&(1:Int)==1&&(sIx items.size items.size hi-sIx items.size 0 lo)==items.size)=true then _ else _) _ _ s;rw[if_neg hno,T3]
 first
  |exact wpAny_bind (m:=Builtin.Tuple.tupleExact _) (wpAny_newObj_type (wpAny_pure #[_,rfl,wpAny_pure h]) htake)
  |exact wpAny_bind (m:=Builtin.Tuple.tupleExact _) (wpAny_newObj_type (wpAny_bind (wpAny_pure (wpAny_pure #[_,rfl,wpAny_pure h]))) htake)
  |exact wpAny_bind (wpAny_bind (m:=Builtin.Tuple.tupleExact _) (wpAny_newObj_type (wpAny_pure (wpAny_pure #[_,rfl,wpAny_pure h])) htake))
  |exact wpAny_bind (wpAny_bind (m:=Builtin.Tuple.tupleExact _) (wpAny_newObj_type (wpAny_pure #[_,rfl,wpAny_pure h]) htake))
end
end HT
namespace L2
open PySem PySem.Spec PyProof.Rows
abbrev TO:=St->Hp->(Option Int->Hp->Prop)->Prop
def PO (X:Cx)(e:Option Expr)(t:TO):Prop:=
 ∀(pins:List (Addr×Obj))(s:Shared)(σ:St)(H:Hp)(Q:Option Int->Hp->Prop),Inv X pins σ H s->t σ H Q ->
  wpAny (model X.prog X.w) X.A (evalPart e X.env) (λu s'=>∃o H',Inv X pins σ H' s'/\IsPart u o/\Q o H') X.xe s
def V3:TO:=λ_ H Q=>Q none H
def Zi (t:TE):TO:=λσ H Q=>t σ H λx H1=>∃i,x=.int i/\Q (some i) H1
section
variable {X:Cx}{e:Expr}{te:TE}{lo hi:Option Expr}{tl th:TO}{pos p2:Pos}
theorem V1:PO X none V3:=by
 intro pins s σ H Q I h;rw[evalPart_none];exact wpAny_pure #[none,H,I,.none,h]
theorem V0 (h:PE X e te):PO X (some e) (Zi te):=by
 intro pins s σ H Q I hw;rw[evalPart_some];refine thn (h pins s σ H _ I hw) λu s1 hh=>?_;obtain⟨x,H1,I1,r1,q1⟩:=hh;obtain⟨i,rfl,q⟩:=q1;obtain⟨t,rfl⟩:=r1;exact#[some i,H1,I1,.int i t,q]
def SlR (X:Cx)(r:V->Option Int->Option Int->Hp->VK->Prop):Prop:=
 ∀(pins:List (Addr×Obj))(s:Shared)(σ:St)(H:Hp)(x:V)(v vl vu:Value)(lo hi:Option Int)(sl:Addr)(Q:VK),Inv X pins σ H s->CN x v->s.heap.IsSliceOf sl vl vu .none->IsPart vl lo->IsPart vu hi->r x lo hi H Q ->
  ∃T id,typeLookup (.type T) "__getitem__"=pure (some (.builtin id))/\s.TypeIs v T/\wpAny (model X.prog X.w) X.A (getItem v (.ref sl)) (EP X pins σ Q) X.xe s
theorem SlR.or {r r':V->Option Int->Option Int->Hp->VK->Prop}(h:SlR X r)(h':SlR X r'):SlR X (λx lo hi H Q=>r x lo hi H Q\/r' x lo hi H Q):=by
 intro pins s σ H x v vl vu lo hi sl Q I rx hs pl pu q;rcases q with q|q
 .exact h pins s σ H x v vl vu lo hi sl Q I rx hs pl pu q
 .exact h' pins s σ H x v vl vu lo hi sl Q I rx hs pl pu q
def tSl (r:V->Option Int->Option Int->Hp->VK->Prop)(te:TE)(tl th:TO):TE:=λσ H Q=>te σ H λx H1=>tl σ H1 λl H2=>th σ H2 λu H3=>r x l u H3 Q
theorem Tj {r:V->Option Int->Option Int->Hp->VK->Prop}(hr:SlR X r)(he:PE X e te)(hl:PO X lo tl)(hu:PO X hi th):PE X (.Subscript e (.Slice lo hi none p2) pos) (tSl r te tl th):=by
 intro pins s σ H Q I h;refine Subscript_ (thn (he pins s σ H _ I h) λv s1 hh=>?_);obtain⟨x,H1,I1,r1,q1⟩:=hh;refine wpAny_Slice (thn (hl pins s1 σ H1 _ I1 q1) λvl s2 #[l,H2,I2,pl,q2]=>thn (hu pins s2 σ H2 _ I2 q2) λvu s3 hh=>?_);obtain⟨u,H3,I3,pu,q3⟩:=hh;rw[evalPart_none];refine wpAny_pure ?_;have I4:Inv X pins σ H3 { s3 with heap:=s3.heap.push { cls:=.type "slice",data:=.fields (List.toArray [vl,vu,.none]) } }:=I3.kept (t':=s3.toks) λb ob q=>qAi _ q;obtain⟨T,id,hT,ht,hg⟩:=hr pins { s3 with heap:=s3.heap.push { cls:=.type "slice",data:=.fields (List.toArray [vl,vu,.none]) } } σ H3 x v vl vu l u s3.heap.objs.size Q I4 r1 (Heap.IsSliceOf.new ..) pl pu q3;show wpAny (model X.prog X.w) X.A (subscriptTail e (.Slice lo hi none p2) v (.ref s3.heap.objs.size)) (EP X pins σ Q) X.xe { s3 with heap:=s3.heap.push { cls:=.type "slice",data:=.fields (List.toArray [vl,vu,.none]) } };exact tail_any (ops:=[.ref s3.heap.objs.size,v]) ht hT hg (by with_unfolding_all rfl)
def P8 (xs:List V)(lo hi:Option Int):List V:=(xs.drop (HT.sIx ↥xs 0 lo)).take (HT.sIx ↥xs ↥xs hi-HT.sIx ↥xs 0 lo)
theorem IX (xs:List V)(lo hi:Option Int):(P8 xs lo hi).length<=↥xs:=by
 unfold P8;rw[qAZ,qAP];omega
def cJ (K:W.Frag):V->Option Int->Option Int->Hp->VK->Prop:=λx lo hi H Q=>∃a xs,x=.ref a/\SqT K H a xs /\
 ¬(HT.sIx ↥xs 0 lo=0/\HT.sIx ↥xs ↥xs hi=↥xs)/\∀p,H p=none->Q (.ref p) (upd H p (.tup (P8 xs lo hi)))
theorem XA:SlR X (cJ X.K):=by
 intro pins s σ H x v vl vu lo hi sl Q I rx hs pl pu h;obtain⟨a,xs,rfl,hx,hw,q⟩:=h;cases rx;obtain⟨its,r,ht,hz⟩:=I.tuple hx;have hlen:its.toArray.size=↥xs:=by rw[qAv];exact r.length.symm
 refine#["tuple",_,PyProof.Rows.slot_tuple_getitem.lookup,ht.typeIs,?_];refine HT.getItem_tuple_cut ht hs pl pu (by rw[hlen];exact hw) ?_ (by rw[hlen];exact hz);rw[hlen];refine#[.ref s.heap.objs.size,_,I.laid (t':=s.toks) (o:=.tup (P8 xs lo hi)) (λb ob q=>qAi _ q) (qAg _) ?_,rfl,q _ (I.hok.fresh (qAg _))];exact#[qAO (IX xs lo hi) hz,_,(r.drop (HT.sIx ↥xs 0 lo)).take (HT.sIx ↥xs ↥xs hi-HT.sIx ↥xs 0 lo),IsTup.new _ _]
def aG (K:W.Frag):R2:=λx y H Q=>∃a b xs ys,x=.ref a/\y=.ref b/\SqT K H a xs/\SqT K H b ys/\xs≠[]/\↥xs+↥ys<=sizeLine /\
 (ys=[]->Q (.ref a) H)/\(ys≠[]->∀p,H p=none->Q (.ref p) (upd H p (.tup (xs++ys))))
theorem Cb.nil_iff {xs:List V}{us:List Value}(r:Cb xs us):us=[] ↔ xs=[]:=by
 cases r with
 |nil=>simp
 |cons _ _=>simp
theorem VL:OpR X (binaryOp .Add) (aG X.K):=by
 intro pins s σ H x y v u Q I rx ry h;obtain⟨a,b,xs,ys,rfl,rfl,ha,hb,hx,hz,q1,q2⟩:=h;cases rx;cases ry;obtain⟨its,r1,p1,_⟩:=I.tuple ha;obtain⟨its2,r2,p2,_⟩:=I.tuple hb;refine HT.cat_tup p1 p2 (λz=>hx (r1.nil_iff.mp z)) (λz=>#[.ref a,H,I,rfl,q1 (r2.nil_iff.mp z)]) (λz=>?_) (by rw[<-↥r1,<-↥r2];exact hz);refine#[.ref s.heap.objs.size,_,I.laid (t':=s.toks) (o:=.tup (xs++ys)) (λb ob q=>qAi _ q) (qAg _) ?_,rfl,q2 (λw=>z (r2.nil_iff.mpr w)) _ (I.hok.fresh (qAg _))];exact#[by rw[qAp];exact hz,_,r1.append r2,IsTup.new _ _]
end
def ixN (n:Nat)(i:Int):Option Nat:=if 0<=i then (if i<n then some i.toNat else none) else if -(n:Int)<=i then some (i+n).toNat else none
def atI {α:Type}(xs:List α)(i:Int):Option α:=(ixN ↥xs i).bind λj=>xs[j]?
theorem Ry {n:Nat}{i:Int}{j:Nat}(h:ixN n i=some j):seqIndex? i n=some j/\j<n/\-(n:Int)<=i/\i<n:=by
 unfold ixN at h;by_cases h0:0<=i
 .rw[if_pos h0]at h;by_cases h1:i<n
  .rw[if_pos h1]at h;have e:i.toNat=j:=qAo h;exact#[by rw[seqIndex_of h0 h1,e],(),(),h1]
  .rw[if_neg h1]at h;cases h
 .rw[if_neg h0]at h;by_cases h1:-(n:Int)<=i
  .rw[if_pos h1]at h;have e:(i+n).toNat=j:=qAo h;exact#[by rw[seqIndex_neg () h1,e],(),h1,()]
  .rw[if_neg h1]at h;cases h
theorem Q7 {α:Type}{xs:List α}{i:Int}{v:α}(h:atI xs i=some v):∃j,seqIndex? i ↥xs=some j/\xs[j]? = some v/\j<↥xs/\-(↥xs:Int)<=i/\i<↥xs:=by
 unfold atI at h;cases e:ixN ↥xs i with
 |none=>rw[e]at h;cases h
 |some j=>
  rw[e]at h;obtain⟨h1,h2,h3,h4⟩:=Ry e;exact#[j,h1,h,h2,h3,h4]
theorem atI_nat {α:Type}{xs:List α}{j:Nat}{v:α}(h:xs[j]? = some v):atI xs (j:Int)=some v:=by
 have hj:j<↥xs:=(qAf.mp h).1;have e:ixN ↥xs (j:Int)=some j:=by
  unfold ixN;rw[if_pos (),if_pos ()];simp
 unfold atI;rw[e];exact h
def R5 (b:Expr):Prop:=∀o i,subscripted b false o i=operate [o,i] (getItem o i)
def IxR (X:Cx)(r:R2):Prop:=
 ∀(value slice:Expr)(pins:List (Addr×Obj))(s:Shared)(σ:St)(H:Hp)(x y:V)(v u:Value)(Q:VK),Inv X pins σ H s->CN x v->CN y u->r x y H Q ->
  subscripted slice false v u=operate [v,u] (getItem v u)->wpAny (model X.prog X.w) X.A (subscriptTail value slice v u) (EP X pins σ Q) X.xe s
def MtR (X:Cx)(id:String)(r:V->List V->Hp->VK->Prop):Prop:=
 ∀(pins:List (Addr×Obj))(s:Shared)(σ:St)(H:Hp)(x:V)(xs:List V)(v:Value)(us:List Value)(Q:VK),Inv X pins σ H s->CN x v->Cb xs us->r x xs H Q ->
  wpAny (model X.prog X.w) X.A (call (.builtin id) (v::us)) (EP X pins σ Q) X.xe s
section
variable {X:Cx}{a b:Expr}{ta tb:TE}{pos:Pos}
theorem IxR.or {r r':R2}(h:IxR X r)(h':IxR X r'):IxR X (λx y H Q=>r x y H Q\/r' x y H Q):=by
 intro value slice pins s σ H x y v u Q I rx ry q hs;rcases q with q|q
 .exact h value slice pins s σ H x y v u Q I rx ry q hs
 .exact h' value slice pins s σ H x y v u Q I rx ry q hs
theorem aO {r:R2}(hr:IxR X r)(ha:PE X a ta)(hb:PE X b tb)(hs:R5 b):PE X (.Subscript a b pos) (tOp r ta tb):=by
 intro pins s σ H Q I h;exact Subscript_ (Z7 ha hb I h λv u s2 x y H2 I2 rx ry q=>hr a b pins s2 σ H2 x y v u Q I2 rx ry q (hs _ _))
def cU (K:W.Frag):R2:=λx y H Q=>∃p xs i v,x=.ref p/\y=.int i/\SqL K H p xs/\atI xs i=some v/\Q v H
def dA (K:W.Frag):R2:=λx y H Q=>∃p xs i v,x=.ref p/\y=.int i/\SqT K H p xs/\atI xs i=some v/\Q v H
theorem Vq:IxR X (cU X.K):=by
 intro value slice pins s σ H x y v u Q I rx ry h hs;obtain⟨p,xs,i,z,rfl,rfl,hq,he,q⟩:=h;cases rx;obtain⟨t,rfl⟩:=ry;obtain⟨its,r,pl,hz⟩:=I.list hq;obtain⟨j,h1,h2,h3,h4,h5⟩:=Q7 he;obtain⟨w,ew,rw'⟩:=r.get h2;have hl:=↥r;have hn:=Mf;have fin:EP X pins σ Q w s:=#[z,H,I,rw',q];by_cases h0:0<=i
 .have hj:i.toNat=j:=by
   rw[seqIndex_of h0 h5]at h1;exact qAo h1
  exact item_listR pl.isList h0 () (by rw[hj];simpa using ew) fin hs
 .have hj:(i+(its.toArray.size:Int)).toNat=j:=by
   rw[seqIndex_neg () h4]at h1;rw[qAv,<-hl];exact qAo h1
  exact subscriptTail_builtinR (x:=w) pl.isList.typeIs slot_list_getitem.lookup
   (wpAny_getItem_list_neg (Q:=λr s'=>r=w/\EP X pins σ Q r s') pl.isList () (by rw[qAv]<;>omega) () (by rw[hj];simpa using ew) #[rfl,fin]) hs
theorem Xx:IxR X (dA X.K):=by
 intro value slice pins s σ H x y v u Q I rx ry h hs;obtain⟨p,xs,i,z,rfl,rfl,hq,he,q⟩:=h;cases rx;obtain⟨t,rfl⟩:=ry;obtain⟨its,r,pl,hz⟩:=I.tuple hq;obtain⟨j,h1,h2,h3,h4,h5⟩:=Q7 he;obtain⟨w,ew,rw'⟩:=r.get h2;have hl:=↥r;have hn:=Mf;have fin:EP X pins σ Q w s:=#[z,H,I,rw',q];exact subscriptTail_builtinR (x:=w) pl.typeIs slot_tuple_getitem.lookup
  (getItem_tuple (j:=j) (Q:=λr s'=>r=w/\EP X pins σ Q r s') pl () () (by rw[qAv,<-hl];exact h1) (by simpa using ew) #[rfl,fin]) hs
theorem P5 (its:List Value)(n j:Nat)(u:Value):Obj.mapSeq (·.setIfInBounds j u) { cls:=.type "list",data:=.seq its.toArray n }={ cls:=.type "list",data:=.seq (its.set j u).toArray n }:=by
 simp[Obj.mapSeq]
theorem Inv.lst {pins:List (Addr×Obj)}{σ:St}{H:Hp}{s:Shared}{p:Addr}{xs:List V}(I:Inv X pins σ H s)(h:H p=some (.lst xs)) :
 ∃(its:List Value)(n:Nat),Cb xs its/\s.heap.get? p=some { cls:=.type "list",data:=.seq its.toArray n }/\↥xs<=sizeLine:=by
 obtain⟨z,its,n,r,e⟩:=I.hok p _ h;exact#[its,n,r,e,z]
theorem Inv.lstUpd {pins:List (Addr×Obj)}{σ:St}{H:Hp}{s:Shared}{p:Addr}{xs ys:List V}{its its':List Value}{n n':Nat}{f:Obj->Obj}(I:Inv X pins σ H s)(h:H p=some (.lst xs))
 (ho:s.heap.get? p=some { cls:=.type "list",data:=.seq its.toArray n })(hf:f { cls:=.type "list",data:=.seq its.toArray n }={ cls:=.type "list",data:=.seq its'.toArray n' })(r:Cb ys its')(hz:↥ys<=sizeLine)(t:Nat) :
 Inv X pins σ (upd H p (.lst ys)) { s with heap:=s.heap.update p f,toks:=t }:=by
 have e:(s.heap.update p f).get? p=some { cls:=.type "list",data:=.seq its'.toArray n' }:=by
  rw[qCM f ho (by rw[hf]<;>rfl),hf]
 refine I.write (x:=p) (e:=p) (by rw[h];trivial) (.inl rfl) (λb u hb q=>(qCG _ _ (Ne.symm hb)).trans q) #[_,e] ?_;exact#[hz,its',n',r,e]
def YL:V->V->V->Hp->(Hp->Prop)->Prop:=λo i v H Q=>∃p xs k j,o=.ref p/\i=.int k/\H p=some (.lst xs)/\ixN ↥xs k=some j/\Q (upd H p (.lst (xs.set j v)))
theorem OB:bG X YL:=by
 intro pins s σ H o i v ov iv u Q I ro ri rv h;obtain⟨p,xs,k,j,rfl,rfl,hp,hj,q⟩:=h;cases ro;obtain⟨t,rfl⟩:=ri;obtain⟨its,n,r,ho,hz⟩:=I.lst hp;obtain⟨h1,h2,h3,h4⟩:=Ry hj;have hl:=↥r;have hn:=Mf;have I':Inv X pins σ (upd H p (.lst (xs.set j v))) { s with heap:=s.heap.update p (Obj.mapSeq (·.setIfInBounds j u)) }:=
  I.lstUpd hp ho (P5 its n j u) (r.set rv j) (by rw[qCB];exact hz) s.toks
 by_cases h0:0<=k
 .have hk:k.toNat=j:=by
   rw[seqIndex_of h0 h4]at h1;exact qAo h1
  exact W.ki_setAt ho h0 () (by rw[qAv,<-hl];exact h4) (by rw[hk];exact#[_,I',q])
 .have hk:(k+(its.toArray.size:Int)).toNat=j:=by
   rw[seqIndex_neg () h3]at h1;rw[qAv,<-hl];exact qAo h1
  exact W.ki_setBack ho () (by rw[qAv,<-hl];exact h3) () (by rw[hk];exact#[_,I',q])
theorem MO (lo hi:Option Int)(n:Nat):(sliceBounds lo hi none n).1=((HT.sIx n 0 lo:Nat):Int)/\(sliceBounds lo hi none n).2.1=((HT.sIx n n hi:Nat):Int)/\(sliceBounds lo hi none n).2.2=1:=by
 refine#[?_,?_,rfl]
 .cases lo with
  |none=>simp[sliceBounds,HT.sIx]
  |some i=>
   simp only[sliceBounds,HT.sIx,Option.getD_none,show(1:Int)>0 from ∅,if_true];by_cases h:i<0
   .simp only[h,if_true]<;>omega
   .simp only[h,if_false]<;>omega
 .cases hi with
  |none=>simp[sliceBounds,HT.sIx]
  |some i=>
   simp only[sliceBounds,HT.sIx,Option.getD_none,show(1:Int)>0 from ∅,if_true];by_cases h:i<0
   .simp only[h,if_true]<;>omega
   .simp only[h,if_false]<;>omega
theorem K8 (its:List Value)(lo hi:Option Int):slicePick its.toArray lo hi none=((its.drop (HT.sIx ↥its 0 lo)).take (HT.sIx ↥its ↥its hi-HT.sIx ↥its 0 lo)).toArray:=by
 obtain⟨h1,h2,h3⟩:=MO lo hi its.toArray.size;unfold slicePick;rw[h1,h2,h3];simp only[sliceRange_one,pick_run,qAv]<;>rfl
def dD (K:W.Frag):V->Option Int->Option Int->Hp->VK->Prop:=λx lo hi H Q=>∃a xs,x=.ref a/\SqL K H a xs/\∀p,H p=none->Q (.ref p) (upd H p (.lst (P8 xs lo hi)))
theorem WJ:SlR X (dD X.K):=by
 intro pins s σ H x v vl vu lo hi sl Q I rx hs pl pu h;obtain⟨a,xs,rfl,hx,q⟩:=h;cases rx;obtain⟨its,r,ht,hz⟩:=I.list hx;have hlen:=↥r;refine#["list",_,slot_list_getitem.lookup,ht.isList.typeIs,?_];refine wpAny_getItem_list_slice ht.isList hs pl pu .none (by simp) ?_ (by rw[qAv]<;>omega);rw[K8,<-hlen];refine#[.ref s.heap.objs.size,_,I.laid (t':=s.toks) (o:=.lst (P8 xs lo hi)) (λb ob q=>qAi _ q) (qAg _) ?_,rfl,q _ (I.hok.fresh (qAg _))];exact#[qAO (IX xs lo hi) hz,_,0,(r.drop (HT.sIx ↥xs 0 lo)).take (HT.sIx ↥xs ↥xs hi-HT.sIx ↥xs 0 lo),qAF _ rfl]
def flatV:V->Bool
 |.non=>true
 |.bl _=>true
 |.int _=>true
 |.str _=>true
 |_=>false
def eqV:V->V->Bool
 |.non,.non=>true
 |.bl a,.bl b=>a==b
 |.bl a,.int b=>(if a then 1 else 0)==b
 |.int a,.bl b=>a==(if b then 1 else 0)
 |.int a,.int b=>a==b
 |.str a,.str b=>a==b
 |_,_=>false
theorem Uk {A:Around}{s:Shared}{y x:V}{u v:Value}(ry:CN y u)(rx:CN x v)(fy:flatV y=true)(fx:flatV x=true):SeqAt.EqAt A s u v (eqV y x):=by
 cases y with
 |non=>
  cases ry;cases x with
  |non=>cases rx;exact SeqAt.EqAt.same _
  |bl b=>cases rx;exact SeqAt.EqAt.none_bool b
  |int b=>obtain⟨t,rfl⟩:=rx;exact SeqAt.EqAt.none_int b t
  |str b=>obtain⟨t,rfl⟩:=rx;exact SeqAt.EqAt.none_str b t
  |_=>exact absurd (show false=true from fx) qAr
 |bl a=>
  cases ry;cases x with
  |non=>cases rx;exact SeqAt.EqAt.bool_none a
  |bl b=>cases rx;exact SeqAt.EqAt.bool_bool a b
  |int b=>obtain⟨t,rfl⟩:=rx;exact SeqAt.EqAt.bool_int a b t
  |str b=>obtain⟨t,rfl⟩:=rx;exact SeqAt.EqAt.bool_str a b t
  |_=>exact absurd (show false=true from fx) qAr
 |int a=>
  obtain⟨t',rfl⟩:=ry;cases x with
  |non=>cases rx;exact SeqAt.EqAt.int_none a t'
  |bl b=>cases rx;exact SeqAt.EqAt.int_bool a t' b
  |int b=>obtain⟨t,rfl⟩:=rx;exact SeqAt.EqAt.int_int a t' b t
  |str b=>obtain⟨t,rfl⟩:=rx;exact SeqAt.EqAt.int_str a t' b t
  |_=>exact absurd (show false=true from fx) qAr
 |str a=>
  obtain⟨t',rfl⟩:=ry;cases x with
  |non=>cases rx;exact SeqAt.EqAt.str_none a t'
  |bl b=>cases rx;exact SeqAt.EqAt.str_bool a t' b
  |int b=>obtain⟨t,rfl⟩:=rx;exact SeqAt.EqAt.str_int a t' b t
  |str b=>obtain⟨t,rfl⟩:=rx;exact SeqAt.EqAt.str_str a t' b t
  |_=>exact absurd (show false=true from fx) qAr
 |_=>exact absurd (show false=true from fy) qAr
theorem Ml:HE X (.builtin "len") (λxs H Q=>∃p ys,xs=[.ref p]/\(SqL X.K H p ys\/SqT X.K H p ys)/\Q (.int ↥ys) H):=by
 intro pins s σ H xs us Q I r h;obtain⟨p,ys,rfl,hq,q⟩:=h;obtain⟨u,rfl,rx⟩:=Li r;cases rx;have hn:=Mf;rcases hq with hq|hq
 .obtain⟨its,r',pl,hz⟩:=I.list hq;have hlen:=↥r';exact Calls.call_len_list pl.isList (by simp only[qAv]<;>omega) #[.int ↥ys,H,I.tok _,#[s.toks+1,by rw[qAv,hlen]],q]
 .obtain⟨its,r',pl,hz⟩:=I.tuple hq;have hlen:=↥r';exact len_tuple pl (by simp only[qAv]<;>omega) #[.int ↥ys,H,I.tok _,#[s.toks+1,by rw[qAv,hlen]],q]
theorem LR:HE X (.type "tuple") (λxs H Q=>∃p ys,xs=[.ref p]/\((SqL X.K H p ys/\∀l,H l=none->Q (.ref l) (upd H l (.tup ys)))\/(SqT X.K H p ys/\Q (.ref p) H))):=by
 intro pins s σ H xs us Q I r h;obtain⟨p,ys,rfl,h⟩:=h;obtain⟨u,rfl,rx⟩:=Li r;cases rx;rcases h with⟨hq,q⟩|⟨hq,q⟩
 .obtain⟨its,r',pl,hz⟩:=I.list hq;have hlen:=↥r';refine call_tuple_list pl.isList (λh' kp=>?_) (by simp only[qAv]<;>omega);have I1:Inv X pins σ H { s with heap:=h' }:=I.kept (t':=s.toks) kp;have I2:Inv X pins σ (upd H h'.objs.size (.tup ys)) { s with heap:=h'.push { cls:=.type "tuple",data:=.seq its.toArray } }:=
   I1.laid (t':=s.toks) (λb o e=>qAi _ e) (qAg _) (show DO X.prog X.w _ _ _ (.tup ys) from #[hz,its,r',IsTup.new _ _])
  exact#[.ref h'.objs.size,_,I2,rfl,q _ (I1.hok.fresh (qAg _))]
 .obtain⟨its,r',pl,hz⟩:=I.tuple hq;exact call_tuple_same pl #[.ref p,H,I,rfl,q]
def tyV (K:W.Frag)(T:String)(x:V)(H:Hp):Prop:=match x with
 |.str _=>T="str"
 |.int _=>T="int"
 |.ref p=>(T="list"/\∃xs,SqL K H p xs)\/(T="tuple"/\∃o,K.lookup p=some o/\o.cls=.type "tuple"/\o.dict=none) \/
  (T="dict"/\((∃kvs,H p=some (.dK kvs))\/∃kvs,H p=some (.dT kvs)))\/(T="set"/\∃S n,H p=some (.set S n))
 |_=>False
theorem XI {pins:List (Addr×Obj)}{σ:St}{H:Hp}{s:Shared}{T:String}{x:V}{v:Value}(I:Inv X pins σ H s)(r:CN x v)(ty:tyV X.K T x H) :
 s.TypeIs v T/\∀a,v=.ref a->∃ob,s.heap.get? a=some ob/\ob.dict=none:=by
 cases x with
 |str z=>
  obtain⟨t,rfl⟩:=r;cases (show T="str" from ty);exact#[typeIs_str s z t,λ_ e=>nomatch e]
 |int i=>
  obtain⟨t,rfl⟩:=r;cases (show T="int" from ty);exact#[typeIs_int s i t,λ_ e=>nomatch e]
 |ref p=>
  cases r;rcases ty with⟨rfl,xs,hq⟩|⟨rfl,o,hk,hc,hd⟩|⟨rfl,hk⟩|⟨rfl,S,n,hk⟩
  .obtain⟨its,_,pl,_⟩:=I.list hq;refine#[pl.isList.typeIs,λa e=>?_];cases e;obtain⟨o,n,e,c,hd,_⟩:=pl;exact#[o,e,hd]
  .refine#[#[o,I.kIn p o hk,hc],λa e=>?_];cases e;exact#[o,I.kIn _ o hk,hd]
  .have z:∃o,s.heap.get? p=some o/\o.ExactDict:=by
    rcases hk with⟨kvs,hk⟩|⟨kvs,hk⟩
    .obtain⟨_,_,_,_,o,_,_,e,ex,_⟩:=I.hok p _ hk;exact#[o,e,ex]
    .obtain⟨_,_,_,_,o,_,_,e,ex,_⟩:=I.hok p _ hk;exact#[o,e,ex]
   obtain⟨o,e,ex⟩:=z;refine#[#[o,e,ex.1],λa e2=>?_];cases e2;exact#[o,e,ex.2.1]
  .obtain⟨o,_,_,_,e,ex,_⟩:=I.hok p _ hk;refine#[#[o,e,ex.1],λa e2=>?_];cases e2;exact#[o,e,ex.2.1]
 |_=>exact False.elim ty
def tBM (K:W.Frag)(T:String)(r:V->List V->Hp->VK->Prop)(to:TE)(t:TA):TE:=λσ H Q=>to σ H λx H1=>tyV K T x H1/\t σ H1 λxs H2=>r x xs H2 Q
variable {o e:Expr}{es:List Expr}{to:TE}{t:TA}{name:Str}{apos cpos:Pos}{T id:String}{r:V->List V->Hp->VK->Prop}
theorem Fn (pa:PlainAttrs T)(slot:Slot T name id)(hty:typeOf (.builtin id)=pure (.type "method_descriptor"))(hm:MtR X id r)(ho:PE X o to)(ha:PA X (e::es) t)
 (hbase:attributeBase o name X.env (eval o X.env)=eval o X.env:=by rfl)
 (hfew:((backTo cpos (starEach (e::es) X.env)).all (λx=>!x.1)&&(backToKw cpos (keywordEach [] X.env)).all (λx=>x.1.isSome)
  && decide ((e::es).length+([]:List Keyword).length+(if ([]:List Keyword).isEmpty then 0 else 1)<30))=true:=by rfl)
 (hline:(apos.endLine==cpos.line)=true:=by rfl)(hs:starEach (e::es) X.env=(false,eval e X.env)::starEach es X.env:=by rfl)(hplain:(backTo cpos (starEach es X.env)).any (·.1)=false:=by rfl) :
 PE X (.Call (.Attribute o name apos) (e::es) [] cpos) (tBM X.K T r to t):=by
 intro pins s σ H Q I h;refine wpAny_Call_method_late hbase hfew hline rfl (thn (ho pins s σ H _ I h) λv s1 hh=>?_);obtain⟨x,H1,I1,r1,ty,q1⟩:=hh;obtain⟨h1,h2⟩:=XI I1 r1 ty;refine#[T,id,pa,slot,hty,h1,h2,?_];have hA:=ha cpos pins s1 σ H1 _ I1 q1;rw[hs]at hA ⊢;refine Calls.callWith_builtin (by show(false||(backTo cpos (starEach es X.env)).any (·.1))=false;rw[hplain]<;>rfl) (Calls.evalArgs_plain ?_);exact thn hA λus s2 #[vs,H2,I2,r2,q2]=>hm pins s2 σ H2 x vs v us Q I2 r1 r2 q2
end
def MtM (X:Cx)(id:String)(r:V->List V->Hp->VK->Prop):Prop:=
 ∀(pins:List (Addr×Obj))(s:Shared)(σ:St)(H:Hp)(x:V)(xs:List V)(v:Value)(us:List Value)(Q:VK),Inv X pins σ H s->CN x v->Cb xs us->r x xs H Q ->
  wpAny (model X.prog X.w) X.A (call (.builtin id) (v::us)) (EP X pins σ Q) X.xe s
theorem Cb.one:∀{x:V}{us:List Value},Cb [x] us->∃u,us=[u]/\CN x u
 |_,_,.cons r .nil=>#[_,rfl,r]
theorem Cb.reverse {xs:List V}{us:List Value}(h:Cb xs us):Cb xs.reverse us.reverse:=by
 induction h with
 |nil=>exact .nil
 |cons r t ih=>rw[List.reverse_cons,List.reverse_cons];exact Cb.append ih (.cons r .nil)
section
variable {X:Cx}{pins:List (Addr×Obj)}{σ:St}{H:Hp}{s:Shared}{l b:Addr}{xs ys zs:List V}
theorem Inv.lset {its its':List Value}{n:Nat}{f:Array Value->Array Value}{t':Nat}(I:Inv X pins σ H s)(hH:H l=some (.lst xs))
 (e:s.heap.get? l=some { cls:=.type "list",data:=.seq its.toArray n }) (hf:f its.toArray=its'.toArray) (hv:Cb ys its') (hz:↥ys<=sizeLine) :
 Inv X pins σ (upd H l (.lst ys)) { s with heap:=s.heap.update l (Obj.mapSeq f),toks:=t' }:=by
 have q:=PySem.IsL.update e f;rw[hf]at q;refine I.write (x:=l) (e:=l) (by rw[hH];exact trivial) (.inl rfl) (λb' u hb hu=>(qCG s.heap (Obj.mapSeq f) (Ne.symm hb)).trans hu) #[_,q] ?_;exact#[hz,its',_,hv,q]
theorem Inv.lnew {its:List Value}{t':Nat}(I:Inv X pins σ H s)(hv:Cb ys its)(hz:↥ys<=sizeLine) :
 Inv X pins σ (upd H s.heap.objs.size (.lst ys)) { s with heap:=s.heap.push { cls:=.type "list",data:=.seq its.toArray },toks:=t' }:=
 I.laid (λ_ _ q=>qAi _ q) (qAg _) #[hz,its,0,hv,qAF _ rfl]
theorem Inv.fresh (I:Inv X pins σ H s):H s.heap.objs.size=none:=I.hok.fresh (qAg _)
theorem Inv.lstM (I:Inv X pins σ H s)(hH:H l=some (.lst xs)):↥xs<=sizeLine/\∃(its:List Value)(n:Nat),Cb xs its/\↥xs=↥its/\s.heap.get? l=some { cls:=.type "list",data:=.seq its.toArray n }:=by
 obtain⟨z,its,n,r,e⟩:=I.hok l _ hH;exact#[z,its,n,r,↥r,e]
end
section
variable {X:Cx}
def QV:V->List V->Hp->VK->Prop:=λx vs H Q=>∃l xs y,x=.ref l/\vs=[y]/\H l=some (.lst xs)/\↥xs<sizeLine/\Q .non (upd H l (.lst (xs++[y])))
theorem AY:MtM X "list.append" QV:=by
 intro pins s σ H x vs v us Q I rx rv h;obtain⟨l,xs,y,rfl,rfl,hH,hz,q⟩:=h;cases rx;obtain⟨u,rfl,ru⟩:=rv.one;obtain⟨z,its,n,r,hl,e⟩:=I.lstM hH;refine call_meets F.slot_list_append #[_,e,rfl] F.entry_list_append (F.args_list_append_2 _ _) (PySem.list_append l its.toArray n u (by rw[qAv];omega)) #[e,?_];refine#[.non,_,I.lset (its':=its++[u]) hH e (by simp) (r.append (.cons ru .nil)) ?_,rfl,q];rw[qAp,List.length_singleton];omega
def eE:R2:=λx y H Q=>∃l b xs zs,x=.ref l/\y=.ref b/\H l=some (.lst xs)/\H b=some (.lst zs)/\↥xs+↥zs<=sizeLine/\∀p,H p=none->Q (.ref p) (upd H p (.lst (xs++zs)))
theorem Xn:OpR X (binaryOp .Add) eE:=by
 intro pins s σ H x y v u Q I rx ry h;obtain⟨l,b,xs,zs,rfl,rfl,hH,hB,hz,q⟩:=h;cases rx;cases ry;obtain⟨z,its,n,r,hl,e⟩:=I.lstM hH;obtain⟨z2,its2,n2,r2,hl2,e2⟩:=I.lstM hB;refine PySem.P.add_list e e2 ?_ (by rw[qAv,qAv];omega);have ea:its.toArray++its2.toArray=(its++its2).toArray:=by simp
 rw[ea];exact#[.ref _,_,I.lnew (t':=s.toks) (r.append r2) (by rw[qAp];omega),rfl,q _ I.fresh]
end
section
variable {prog:Program}{w:World}{A:Around}{E:Value->Shared->Prop}{s:Shared}
end
section
variable {X:Cx}
end
end L2
namespace Att
open PySem PySem.W PySem.Calls PyProof.Rows
theorem IY {P:Params}{h:Heap}:∀(ns:List Int)(vs:List Value),WellAll P h vs (ns.map WData.int)->IntsAre vs ns:=by
 intro ns
 induction ns with
 |nil=>
  intro vs w;rw[List.map_nil]at w;cases w;exact .nil
 |cons n ns ih=>
  intro vs w;rw[qCo]at w;cases w with
  |cons a b=>
   cases a;exact .cons _ _ (ih _ b)
theorem Su {l:OpenLaw}{n:Nat}(hn:l.most=some n){P:Params}{h:Heap}{args:List WData}{vals:List Value}
 (hpre:l.row.toRowW.claim.pre args=true)(hwl:WellAll P h vals args) :
 ∃a vs ns,vals=[Value.ref a]/\args=[WData.list (ns.map WData.int)]/\h.get? a=some { cls:=.type "list",data:=.seq vs.toArray }/\IntsAre vs ns/\↥ns<=n:=by
 have hsh:WShape.hasAll [] args [.list .int]=true:=(pre_splitW hpre).1;have hc:l.pre.holds [] { args:=args }=true:=(pre_splitW hpre).2;obtain⟨d,r,rfl,h1,h2⟩:=hasAllW_cons hsh;obtain rfl:=hasAllW_nil h2;obtain⟨xs,rfl,h3⟩:=hasW_list h1;obtain⟨ns,rfl⟩:=items_int h3;have hlen:↥ns<=n:=by
  unfold OpenLaw.pre at hc;have h4:(WTm.not (.lt (.lit (.int (n:Int))) (.len (.arg 0)))).holds [] { args:=[.list (ns.map .int)] }=true:=by
   have h4:=(holds_andW hc).1;rw[hn]at h4;exact h4
  have h5:=condW_of h4 (w_not (w_lt w_lit (w_len_list (w_arg rfl))));rw[qAa]at h5;refine Nat.le_of_not_lt λq=>?_;have q':(n:Int)<((↥ns:Nat):Int):=()
  first
   |(rw[decide_eq_true q']at h5;exact absurd h5 ∅)
   |(simp at h5;omega)
 cases hwl with
 |cons w1 w2=>
  cases w2;cases w1 with
  |list ho hall=>exact#[_,_,ns,rfl,rfl,ho,IY ns _ hall,hlen]
theorem Qi (l:OpenLaw)(args:List WData):l.row.toRowW.claim.post args (.bool true) args=true:=
 postW_of (r:=l.row.toRowW) (X:=(true==true))
  (show WShape.has [] (.bool true) .bool=true by first|rfl|decide|simp[WShape.has,WShape.arms,WShape.armsAll])
  (show(WTm.eq .res (.lit (.bool true))).value [] { args:=args,res:=some (.bool true),after:=args }=some (.bool (true==true)) from w_eq_bool (w_res rfl) w_lit) rfl
theorem attach_call {l:OpenLaw}{n:Nat}{q:Program}{loose:List Str}{XP:(Str->Option Value)->Heap->Prop}{YP:World->Heap->Prop}{d:DefRec}
 (hn:l.most=some n)(hdf:d.params.defaults=[])
 (call:∀(w:World)(s₀ s₁:Shared)(mg mb:Str->Option Value)(fa:Addr)(o:Obj)(pm cd doc:Value)(a:Addr)(vs:List Value)(ns:List Int),
  Ground q loose [] XP w s₀ mg mb s₁.heap->YP w s₁.heap ->
  s₁.heap.get? fa=some o->o.data=.func (docDef d.name d.params d.body d.scope pm cd doc)->s₁.heap.CodeRec cd d.name->mg d.name=some (.ref fa) ->
  s₁.heap.get? a=some { cls:=.type "list",data:=.seq vs.toArray }->IntsAre vs ns->↥ns<=n->s₁.gens=(List.toArray []) ->
  codeAny (model l.prog w) callerA (.call (.ref fa) #[[.ref a],[]]) (λr s'=>r=.ok (.ret (.bool true))/\OldK s₁.heap s'.heap/\s'.os=s₁.os/\AllBare s'.gens) s₁) :
 WalkO q loose XP YP l.row.toRowW d [] (λf vs=>PySem.call f vs):=by
 intro w s₀ s₁ mg mb G Y fa o pm cd doc dV kV ho hd hcd hD hmg hg args vals as hpre hlay hrd hwl hlo;obtain rfl:dV=.none:=Dflts.none hD hdf;obtain rfl:kV=.none:=Dflts.noKw hD;obtain⟨a,vs,ns,rfl,rfl,hobj,hints,hlen⟩:=Su hn hpre hwl;refine enter_call (codeAny_mono (call w s₀ s₁ mg mb fa o pm cd doc a vs ns G Y ho (fd_plain hd) hcd hmg hobj hints hlen hg) λr s' hq=>?_);obtain⟨rfl,h2,h3,h4⟩:=hq;exact#[.inl #[.bool true,.bool true,[],rfl,λ_=>rfl,.bool true,Qi l _,λ_=>#[List.Pairwise.nil,λ_ hm=>(nomatch hm)]],h2,h3,h4]
section
variable {prog:Program}{w:World}{A:Around}{E:Value->Shared->Prop}{s:Shared}{K:Frag}
end
end Att
namespace L2
open PySem PySem.Spec PyProof.Rows
theorem G3:∀{vs:List Value}{ns:List Int},IntsAre vs ns->Cb (ns.map V.int) vs
 |_,_,.nil=>.nil
 |_,_,.cons n t h=>.cons #[t,rfl] (G3 h)
abbrev CX0:CXT:=λ_ _ _ _ _ _=>False
abbrev E0:XK:=λ_ _ _=>False
theorem aD {X:Cx}:Rl CX0 X E0:=λ_ _ _ _ _ _ _ h=>h.elim
structure Fun (K:W.Frag)(x qual:Str)(st:Stmt)(f:Addr)(fd:FuncData):Prop where
 ex:∃(oc:Value)(od:Option Addr)(kV doc pm:Value)(an:Option Addr)(cdv ct:Value)(osl:Array (Option Value)),
  fd=W.fnOf x qual (Gi st) (CC st) (Ac st) .none kV doc pm an cdv ct/\K.lookup f=some #[oc,od,.func fd,osl]/\W.codeIn K cdv qual=true
 kp:W.keepIn K (.ref f)=true
section
variable {P:Program}{w:World}{K:W.Frag}{mg:Str->Option Value}{base:Heap}
theorem Fun.ok {x qual:Str}{st:Stmt}{f:Addr}{fd:FuncData}{N ps:List Str}{k:Nat}{sp:Sp}(F:Fun K x qual st f fd)(S:Ae N ps (Ac st))(len:∀vs H Q E,sp vs H Q E->↥vs=↥ps)
 (hbody:∀(cdv:Value)(A:Around)(outer:List Env)(s:Shared)(H:Hp)(vs:List V)(Q:VK)(E:XK),FI k (A.deeper (envOfC qual (Ac st) s.heap.objs.size f cdv))->sp vs H Q E ->
  ∃t,PSs (Md CX0 P w K mg base N qual (Ac st) f cdv A outer s H E).nox (CC st) t/\t { nx:=λ_ H'=>Q .non H',rt:=Q } (start N vs) H):Ap P w K mg base CX0 (k+1) f fd ps sp:=by
 obtain⟨oc,od,kV,doc,pm,an,cdv,ct,osl,rfl,lk,hcd⟩:=F.ex;refine T5 lk hcd S len λA outer s H vs Q E hr hsp=>?_;obtain⟨t,h,q⟩:=hbody cdv A outer s H vs Q E hr hsp;exact#[t,h.nox,q]
theorem Fun.binds {x qual:Str}{st:Stmt}{f:Addr}{fd:FuncData}{ps:List Str}(F:Fun K x qual st f fd)
 (h:∀(kV doc pm:Value)(an:Option Addr)(cdv ct:Value)(us:List Value),↥us=↥ps->bindArgs (W.fnOf x qual (Gi st) (CC st) (Ac st) .none kV doc pm an cdv ct) #[us,[]]=pure (ps.zip us)):Binds K fd ps []:=by
 obtain⟨oc,od,kV,doc,pm,an,cdv,ct,osl,rfl,lk,hcd⟩:=F.ex;exact .all (h kV doc pm an cdv ct)
theorem Oz {x qual:Str}{st:Stmt}{f:Addr}{oc:Value}{od an:Option Addr}{osl:Array (Option Value)}{kV doc pm cdv ct:Value}(l:K.lookup f=some #[oc,od,.func (W.fnOf x qual (Gi st) (CC st) (Ac st) .none kV doc pm an cdv ct),osl])
 (c:W.codeIn K cdv qual=true) (k:W.keepIn K (.ref f)=true):Fun K x qual st f (W.fnOf x qual (Gi st) (CC st) (Ac st) .none kV doc pm an cdv ct):=#[#[oc,od,kV,doc,pm,an,cdv,ct,osl,rfl,l,c],k]
end
theorem Qu {n:Nat}(h:n<=1000):n<sizeLine:=Nat.lt_of_le_of_lt h ∅
section
variable {X:Cx}
theorem pv (i:Nat){x:Str}{pos:Pos}(hN:X.N[i]? = some x:=by rfl)(hv:Vis X.env.scope x:=by first|exact Or.inl rfl|exact Or.inr (Or.inl rfl)|exact Or.inr (Or.inr rfl))(hd:(x==("__debug__":Str))=false:=by decide)
 (hcd:(x==("__classdict__":Str))=false:=by decide):PE X (.Name x pos) (P7 i):=YI hN hv hd hcd
end
def BQ (H H':Hp):Prop:=∀b o,H b=some o->H' b=some o
theorem BQ.refl (H:Hp):BQ H H:=λ_ _ h=>h
theorem BQ.trans {H H1 H2:Hp}(a:BQ H H1)(b:BQ H1 H2):BQ H H2:=λc o h=>b c o (a c o h)
theorem BQ.free {H H':Hp}(e:BQ H H'){l:Addr}(h:H' l=Option.none):H l=Option.none:=by
 cases q:H l with
 |none=>rfl
 |some o=>
  rw[e l o q]at h;cases h
theorem BQ.seq {K:W.Frag}{H H':Hp}{a:Addr}{xs:List V}(e:BQ H H')(h:SqL K H a xs):SqL K H' a xs:=by
 rcases h with (h|⟨o,h⟩)|h
 .exact .inl (.inl (e _ _ h))
 .exact .inl (.inr #[o,e _ _ h])
 .exact .inr h
end L2
set_option maxHeartbeats 4000000
namespace CH
def g (a b:Int):Int:=(Int.gcd a b:Int)
theorem XF {a b:Int}(h:b≠0):0<g a b:=by
 have:=Int.gcd_pos_of_ne_zero_right a h;unfold g;omega
theorem UA {x y:Int}(hy:0<y):g y (x%y)=g x y:=by
 unfold g;have e:x%y=x-y*(x/y):=Int.emod_def x y;rw[e,Int.gcd_sub_mul_left_right,Int.gcd_comm]
theorem Yh {x:Int}(hx:0<=x):g x 0=x:=by
 unfold g;rw[Int.gcd_zero];omega
theorem Yo (a b:Int):g (if a<0 then -a else a) (if b<0 then -b else b)=g a b:=by
 unfold g;split<;>split<;>simp
theorem QP (a b:Int):g a b ∣ a:=Int.gcd_dvd_left a b
theorem RG (a b:Int):g a b ∣ b:=Int.gcd_dvd_right a b
def cm (a b:Int):Int:=if b<0 then -(g a b) else g a b
theorem Kw {a c:Int}(h:c ∣ a)(hc:c≠0):Int.fdiv a c*c=a:=by
 obtain⟨k,rfl⟩:=h;rw[Int.mul_comm c k,qCj _ hc]
theorem JB {a b:Int}(hb:b≠0):Int.fdiv a (cm a b)=(Rat.divInt a b).num/\Int.fdiv b (cm a b)=((Rat.divInt a b).den:Int):=by
 have hg:=XF (a:=a) hb;have d1:=QP a b;have d2:=RG a b;rw[Rat.num_divInt,Rat.den_divInt,if_neg hb];have eg:((b.gcd a:Nat):Int)=g a b:=by unfold g;rw[Int.gcd_comm]
 rw[Int.natCast_ediv,eg];unfold cm;split
 .rename_i h;rw[qBW h];have e1:(-1*a)/g a b=Int.fdiv a (-(g a b)):=by
   obtain⟨k,hk⟩:=d1;have:-1*a=(-k)*g a b:=⋯;rw[this,Int.mul_ediv_cancel _ ()];have:a=(-k)*(-(g a b)):=⋯;have q:=qCj (-k) (show -(g a b)≠0 from ());rw[<-this]at q;exact q.symm
  have e2:((b.natAbs:Nat):Int)/g a b=Int.fdiv b (-(g a b)):=by
   obtain⟨k,hk⟩:=d2;have hn:((b.natAbs:Nat):Int)=-b:=();rw[hn];have:-b=(-k)*g a b:=⋯;rw[this,Int.mul_ediv_cancel _ ()];have:b=(-k)*(-(g a b)):=⋯;have q:=qCj (-k) (show -(g a b)≠0 from ());rw[<-this]at q;exact q.symm
  exact#[e1.symm,e2.symm]
 .rename_i h;have hp:0<b:=();rw[qB6 hp,Int.one_mul];have hn:((b.natAbs:Nat):Int)=b:=();rw[hn,qBl _ (),qBl _ ()];exact#[rfl,rfl]
theorem PX {a b:Int}(hb:b≠0):cm a b≠0:=by
 have:=XF (a:=a) hb;unfold cm;split<;>omega
theorem den_pos (q:Rat):1<=(q.den:Int):=by have:=q.den_pos;omega
theorem Hg (q:Rat):(q.num:Rat)=q*q.den:=by
 have h:=qB1 q;rw[qAG]at h;have hd:((q.den:Int):Rat)≠0:=by
  have:=q.den_nz;simp[this]
 have e:((q.den:Int):Rat)=(q.den:Rat):=rfl;rw[e]at h hd;grind
theorem den_ne (q:Rat):(q.den:Rat)≠0:=by have:=q.den_nz;simp[this]
theorem lt_iff (p q:Rat):p.num*(q.den:Int)<q.num*(p.den:Int) ↔ p<q:=(Rat.lt_iff p q).symm
theorem RO (p q:Rat):Rat.divInt (p.num*q.den+q.num*p.den) ((p.den:Int)*q.den)=p+q:=by
 rw[qAG,qBd,qAn,qAn,qAn,Hg p,Hg q];have h1:=den_ne p;have h2:=den_ne q;have e1:((p.den:Int):Rat)=(p.den:Rat):=rfl;have e2:((q.den:Int):Rat)=(q.den:Rat):=rfl;rw[e1,e2];grind
theorem OQ (p q:Rat):Rat.divInt (p.num*q.den-q.num*p.den) ((p.den:Int)*q.den)=p-q:=by
 rw[qAG,qBe,qAn,qAn,qAn,Hg p,Hg q];have h1:=den_ne p;have h2:=den_ne q;have e1:((p.den:Int):Rat)=(p.den:Rat):=rfl;have e2:((q.den:Int):Rat)=(q.den:Rat):=rfl;rw[e1,e2];grind
theorem OH (p q:Rat):Rat.divInt (p.num*q.num) ((p.den:Int)*q.den)=p*q:=by
 rw[qAG,qAn,qAn,Hg p,Hg q];have h1:=den_ne p;have h2:=den_ne q;have e1:((p.den:Int):Rat)=(p.den:Rat):=rfl;have e2:((q.den:Int):Rat)=(q.den:Rat):=rfl;rw[e1,e2];grind
theorem R0 (p q:Rat)(hq:q≠0):Rat.divInt (p.num*q.den) ((p.den:Int)*q.num)=p/q:=by
 rw[qAG,qAn,qAn,Hg p,Hg q];have h1:=den_ne p;have h2:=den_ne q;have e1:((p.den:Int):Rat)=(p.den:Rat):=rfl;have e2:((q.den:Int):Rat)=(q.den:Rat):=rfl;rw[e1,e2];grind
def Sz (k:Nat)(q:Rat):Prop:=q.num.natAbs<2^k/\q.den<2^k
theorem R6 {k m:Nat}(h:k<=m):2^k<=2^m:=qCe ∅ h
theorem Sz.mono {k m:Nat}{q:Rat}(h:Sz k q)(hk:k<=m):Sz m q:=#[qAs h.1 (R6 hk),qAs h.2 (R6 hk)]
theorem Hi {a c x:Int}(h:x*c=a)(hc:c≠0):x.natAbs<=a.natAbs:=by
 rw[<-h,Int.natAbs_mul];exact Nat.le_mul_of_pos_right _ ()
theorem DH {a b:Int}{k:Nat}(hb:b≠0)(h1:a.natAbs<2^k)(h2:b.natAbs<2^k):Sz k (Rat.divInt a b):=by
 have p:=JB (a:=a) hb;have d1:cm a b ∣ a:=by
  unfold cm;split
  .exact Int.neg_dvd.mpr (QP a b)
  .exact QP a b
 have d2:cm a b ∣ b:=by
  unfold cm;split
  .exact Int.neg_dvd.mpr (RG a b)
  .exact RG a b
 have e1:=Hi (Kw d1 (PX hb)) (PX hb);have e2:=Hi (Kw d2 (PX hb)) (PX hb);rw[p.1]at e1;rw[p.2]at e2;have e3:(((Rat.divInt a b).den:Int)).natAbs=(Rat.divInt a b).den:=Int.natAbs_natCast _;rw[e3]at e2;exact#[(),()]
theorem Aq {a b:Int}{k m:Nat}(h1:a.natAbs<2^k)(h2:b.natAbs<2^m):(a*b).natAbs<2^(k+m):=by
 rw[Int.natAbs_mul,Nat.pow_add];exact Nat.mul_lt_mul'' h1 h2
theorem HU {a b:Int}{k:Nat}(h1:a.natAbs<2^k)(h2:b.natAbs<2^k):(a+b).natAbs<2^(k+1):=by
 rw[qCu];generalize 2^k=p at *
 omega
theorem GI {a b:Int}{k:Nat}(h1:a.natAbs<2^k)(h2:b.natAbs<2^k):(a-b).natAbs<2^(k+1):=by
 rw[qCu];generalize 2^k=p at *
 omega
theorem AG {k:Nat}{q:Rat}(h:Sz k q):((q.den:Int)).natAbs<2^k:=by rw[Int.natAbs_natCast];exact h.2
theorem O8 (p q:Rat):(p.den:Int)*(q.den:Int)≠0:=by
 have h1:=den_pos p;have h2:=den_pos q;exact qCC () ()
theorem Bc {k m:Nat}{x:Nat}(h:x<2^k)(e:k<=m):x<2^m:=qAs h (R6 e)
theorem Sz.add {k m:Nat}{p q:Rat}(hp:Sz k p)(hq:Sz m q):Sz (k+m+1) (p+q):=by
 rw[<-RO];have a1:=Aq hp.1 (AG hq);have a2:=Aq hq.1 (AG hp);have a3:=Aq (AG hp) (AG hq);rw[qB2 m k]at a2;exact DH (O8 p q) (HU a1 a2) (Bc a3 (qBY _))
theorem Sz.sub {k m:Nat}{p q:Rat}(hp:Sz k p)(hq:Sz m q):Sz (k+m+1) (p-q):=by
 rw[<-OQ];have a1:=Aq hp.1 (AG hq);have a2:=Aq hq.1 (AG hp);have a3:=Aq (AG hp) (AG hq);rw[qB2 m k]at a2;exact DH (O8 p q) (GI a1 a2) (Bc a3 (qBY _))
theorem Sz.mul {k m:Nat}{p q:Rat}(hp:Sz k p)(hq:Sz m q):Sz (k+m) (p*q):=by
 rw[<-OH];exact DH (O8 p q) (Aq hp.1 hq.1) (Aq (AG hp) (AG hq))
theorem Sz.neg {k:Nat}{p:Rat}(hp:Sz k p):Sz k (-p):=#[by rw[Rat.neg_num,Int.natAbs_neg];exact hp.1,hp.2]
theorem Sz.zero:Sz 1 0:=#[∅,∅]
theorem Sz.den_ne {k:Nat}{p q:Rat}(hq:q≠0):(p.den:Int)*q.num≠0:=by
 have h1:=den_pos p;have h2:q.num≠0:=λz=>hq (Rat.num_eq_zero.mp z);exact qCC () h2
theorem Sz.div {k m:Nat}{p q:Rat}(hp:Sz k p)(hq:Sz m q)(h0:q≠0):Sz (k+m) (p/q):=by
 rw[<-R0 p q h0];exact DH (Sz.den_ne (k:=0) h0) (Aq hp.1 (AG hq)) (Aq (AG hp) hq.1)
end CH
namespace L3
open PySem PySem.Spec PyProof.Rows L2
abbrev St:=L2.St
def O3:Expr->Bool
 |.Starred .. => true
 |_=>false
theorem Dv {e:Expr}{es:List Expr}{env:Env}(h:O3 e=false):starEach (e::es) env=(false,eval e env)::starEach es env:=by
 cases e<;>first|rfl|cases h
theorem FZ {pos:Pos}{env:Env}:∀{es:List Expr},es.all (λe=>!O3 e)=true->(backTo pos (starEach es env)).any (·.1)=false
 |[],_=>rfl
 |e::es,h=>by
  rw[List.all_cons,qAW]at h;have h1:O3 e=false:=by
   cases q:O3 e with
   |false=>rfl
   |true=>rw[q]at h;exact absurd h.1 ∅
  rw[Dv h1];show(false||(backTo pos (starEach es env)).any (·.1))=false;rw[FZ h.2];rfl
inductive D where
 |non|bl (b:Bool)|int (i:Int)|str (x:Str)|ty (n:String)|tup (xs:List D)|lst (xs:List D)|ref (a:Addr)
inductive S where
 |d (x:D)|l (xs:List D)|r (xs:List D)
def S.isL:S->Bool
 |.d _=>false
 |_=>true
def S.share:S->S
 |.l xs=>.r xs
 |s=>s
def S.own:S->Bool
 |.l _=>true
 |_=>false
inductive Is (K:W.Frag)(H:Hp):V->D->Prop where
 |non:Is K H .non .non
 |bl (b:Bool):Is K H (.bl b) (.bl b)
 |int (i:Int):Is K H (.int i) (.int i)
 |str (x:Str):Is K H (.str x) (.str x)
 |ty (n:String):Is K H (.ty n) (.ty n)
 |ref (a:Addr):Is K H (.ref a) (.ref a)
 |tup {a:Addr}{vs:List V}{xs:List D}(h:SqT K H a vs) (hl:↥vs=↥xs) (r:∀(i:Nat)(v:V)(x:D),vs[i]? = some v->xs[i]? = some x->Is K H v x):Is K H (.ref a) (.tup xs)
 |lst {a:Addr}{vs:List V}{xs:List D}(h:H a=some (.lst vs)) (hl:↥vs=↥xs) (r:∀(i:Nat)(v:V)(x:D),vs[i]? = some v->xs[i]? = some x->Is K H v x):Is K H (.ref a) (.lst xs)
def Iss (K:W.Frag)(H:Hp)(vs:List V)(xs:List D):Prop:=
 ↥vs=↥xs/\∀(i:Nat)(v:V)(x:D),vs[i]? = some v->xs[i]? = some x->Is K H v x
structure HZ where
 h:Hp
 z:Hp
structure Ext (p q:HZ):Prop where
 hh:BQ p.h q.h
 zz:BQ p.z q.z
 sub:BQ q.z q.h
 new:∀a o,q.z a=some o->p.z a=some o\/p.h a=none
theorem Ext.refl {p:HZ}(h:BQ p.z p.h):Ext p p:=#[BQ.refl _,BQ.refl _,h,λ_ _ e=>.inl e]
theorem Ext.trans {p q r:HZ}(a:Ext p q)(b:Ext q r):Ext p r:=#[a.hh.trans b.hh,a.zz.trans b.zz,b.sub,λc o e=>by
 rcases b.new c o e with e|e
 .exact a.new c o e
 .exact .inr (a.hh.free e)]
theorem Ext.grow {H H' z:Hp}(h:BQ z H)(e:BQ H H'):Ext #[H,z] #[H',z]:=#[e,BQ.refl _,h.trans e,λ_ _ e=>.inl e]
theorem Cn {H:Hp}{p:Addr}(h:H p=none)(o:HO):BQ H (upd H p o):=λb u q=>by rw[Ao (AJ q h)];exact q
theorem Ext.freeze {p q:HZ}{a:Addr}{o:HO}(e:Ext p q)(n:p.h a=none)(nz:q.z a=none)(h:q.h a=some o):Ext p #[q.h,upd q.z a o]:=by
 refine#[e.hh,e.zz.trans (Cn nz o),λb u hb=>?_,λb u hb=>?_]
 .by_cases z:b=a
  .subst z;have hb':upd q.z b o b=some u:=hb;rw[Au]at hb';cases hb';exact h
  .have hb':upd q.z a o b=some u:=hb;rw[Ao z]at hb';exact e.sub b u hb'
 .by_cases z:b=a
  .subst z;exact .inr n
  .have hb':upd q.z a o b=some u:=hb;rw[Ao z]at hb';exact e.new b u hb'
theorem Ext.own {H z:Hp}{a:Addr}(h:BQ z H)(n:H a=none)(o:HO):Ext #[H,z] #[upd H a o,z]:=Ext.grow h (Cn n o)
theorem Ext.lay {H z:Hp}{a:Addr}(h:BQ z H)(n:H a=none)(o:HO):Ext #[H,z] #[upd H a o,upd z a o]:=
 (Ext.own h n o).freeze n (h.free n) Au
def IsS (K:W.Frag)(p:HZ)(v:V):S->Prop
 |.d x=>Is K p.z v x
 |.l xs=>∃a vs,v=.ref a/\p.h a=some (.lst vs)/\Iss K p.z vs xs
 |.r xs=>∃a vs,v=.ref a/\SqL K p.h a vs/\Iss K p.z vs xs
section
variable {K:W.Frag}{H H':Hp}{p q:HZ}{a:Addr}{v:V}{x:D}{vs:List V}{xs:List D}
theorem SqT.same (e:BQ H H')(h:SqT K H a vs):SqT K H' a vs:=by
 rcases h with (h|⟨o,h⟩)|h
 .exact .inl (.inl (e _ _ h))
 .exact .inl (.inr #[o,e _ _ h])
 .exact .inr h
theorem Is.mono (e:BQ H H')(h:Is K H v x):Is K H' v x:=by
 induction h with
 |non=>exact .non
 |bl b=>exact .bl b
 |int i=>exact .int i
 |str y=>exact .str y
 |ty n=>exact .ty n
 |ref a=>exact .ref a
 |tup h hl r ih=>exact .tup (SqT.same e h) hl ih
 |lst h hl r ih=>exact .lst (e _ _ h) hl ih
theorem Iss.mono (e:BQ H H')(h:Iss K H vs xs):Iss K H' vs xs:=#[h.1,λi v x h1 h2=>(h.2 i v x h1 h2).mono e]
theorem Iss.nil:Iss K H [] []:=#[rfl,λi v x h=>by simp at h]
theorem Iss.snoc (t:Iss K H vs xs)(h:Is K H v x):Iss K H (vs++[v]) (xs++[x]):=by
 refine#[by simp[t.1],λi w y h1 h2=>?_];by_cases hi:i<↥vs
 .rw[qAt hi]at h1;rw[qAt (by have:=t.1;omega)]at h2;exact t.2 i w y h1 h2
 .rw[qAw ()]at h1;rw[qAw (by have:=t.1;omega)]at h2;have e:i-↥vs=0:=by
   have:=(qAf.mp h1).1;simp at this;omega
  have e2:i-↥xs=0:=by have:=t.1;omega
  rw[e]at h1;rw[e2]at h2;simp at h1 h2;subst h1;subst h2;exact h
theorem IsS.mono {s:S}(e:Ext p q)(h:IsS K p v s):IsS K q v s:=by
 cases s with
 |d x=>exact Is.mono e.zz h
 |l xs=>
  obtain⟨a,vs,e1,h1,h2⟩:=h;exact#[a,vs,e1,e.hh _ _ h1,h2.mono e.zz]
 |r xs=>
  obtain⟨a,vs,e1,h1,h2⟩:=h;exact#[a,vs,e1,e.hh.seq h1,h2.mono e.zz]
theorem IsS.share {s:S}(h:IsS K p v s):IsS K p v s.share:=by
 cases s with
 |d x=>exact h
 |l xs=>
  obtain⟨a,vs,e1,h1,h2⟩:=h;exact#[a,vs,e1,SqL.of h1,h2]
 |r xs=>exact h
theorem Is.tup_inv {xs:List D}(h:Is K H v (.tup xs)):∃a vs,v=.ref a/\SqT K H a vs/\Iss K H vs xs:=by
 cases h with
 |tup h hl r=>exact#[_,_,rfl,h,hl,r]
theorem Is.lst_inv {xs:List D}(h:Is K H v (.lst xs)):∃a vs,v=.ref a/\SqL K H a vs/\Iss K H vs xs:=by
 cases h with
 |lst h hl r=>exact#[_,_,rfl,SqL.of h,hl,r]
theorem Is.lst_own {xs:List D}(h:Is K H v (.lst xs)):∃a vs,v=.ref a/\H a=some (.lst vs)/\Iss K H vs xs:=by
 cases h with
 |lst h hl r=>exact#[_,_,rfl,h,hl,r]
theorem Is.int_inv {i:Int}(h:Is K H v (.int i)):v=.int i:=by cases h;rfl
theorem Is.bl_inv {i:Bool}(h:Is K H v (.bl i)):v=.bl i:=by cases h;rfl
theorem Is.non_inv (h:Is K H v .non):v=.non:=by cases h;rfl
theorem Is.str_inv {i:Str}(h:Is K H v (.str i)):v=.str i:=by cases h;rfl
end
abbrev Tau:=List (Option S)
def Fr3 (K:W.Frag)(p q:HZ)(v:V)(s:S):Prop:=∀xs a,s=.l xs->v=.ref a->p.h a=none/\K.lookup a=none/\q.z a=none
structure Rep (X:Cx)(b:HZ)(τ:Tau)(σ:St)(p:HZ):Prop where
 len:↥σ=↥τ
 ext:Ext b p
 val:∀(i:Nat)(s:S),τ[i]? = some (some s)->∃v,σ[i]? = some (some v)/\IsS X.K p v s
 own:∀(i:Nat)(xs:List D)(a:Addr),τ[i]? = some (some (.l xs))->σ[i]? = some (some (.ref a))->b.h a=none/\X.K.lookup a=none/\p.z a=none
 sep:∀(i j:Nat)(xs:List D)(s:S)(a:Addr),i≠j->τ[i]? = some (some (.l xs))->τ[j]? = some (some s)->s.isL=true->σ[i]? = some (some (.ref a))->σ[j]?≠some (some (.ref a))
 top:X.lent=none->BQ X.H₀ b.h
 pin:∀i a,X.lent=some (i,a)->σ[i]? = some (some (.ref a))
def E9 (X:Cx)(i:Nat):Prop:=∀k a,X.lent=some (k,a)->k≠i
theorem Fj {X:Cx}{i:Nat}(h:X.lent=none):E9 X i:=λk a e=>by rw[h]at e;cases e
theorem E8 {X:Cx}{i k:Nat}{a:Addr}(h:X.lent=some (k,a))(n:k≠i):E9 X i:=λk' a' e=>by rw[h]at e;cases e;exact n
section
variable {X:Cx}{b b' p q:HZ}{τ τ':Tau}{σ:St}{v:V}{s:S}
theorem Rep.all (r:Rep X b τ σ p)(hl:X.lent=none):BQ X.H₀ p.h:=(r.top hl).trans r.ext.hh
theorem Rep.own_list {i:Nat}{xs:List D}{a:Addr}(r:Rep X b τ σ p)(h1:τ[i]? = some (some (.l xs)))(h2:σ[i]? = some (some (.ref a))):∃vs,p.h a=some (.lst vs)/\Iss X.K p.z vs xs:=by
 obtain⟨v,e,c,vs,e1,h3,h4⟩:=r.val i _ h1;rw[h2]at e;cases e;cases e1;exact#[vs,h3,h4]
theorem Rep.mono (r:Rep X b τ σ p)(e:Ext p q):Rep X b τ σ q:=
 #[r.len,r.ext.trans e,λi s h=>let #[v,h1,h2]:=r.val i s h;#[v,h1,h2.mono e],(λi xs a h1 h2=>by
  obtain⟨o1,o2,o3⟩:=r.own i xs a h1 h2;obtain⟨vs,hv,_⟩:=r.own_list h1 h2;refine#[o1,o2,?_];cases z:q.z a with
  |none=>rfl
  |some o=>
   rcases e.new a o z with x|x
   .rw[o3]at x;cases x
   .rw[hv]at x;cases x),r.sep,r.top,r.pin]
theorem K7 {K:W.Frag}(e:Ext b p)(f:Fr3 K p q v s):Fr3 K b q v s:=λxs a h1 h2=>#[e.hh.free (f xs a h1 h2).1,(f xs a h1 h2).2]
theorem Ay {α:Type}{l:List (Option α)}{i j:Nat}{x y:α}(h:(l.set i (some x))[j]? = some (some y)):(j=i/\y=x)\/(j≠i/\l[j]? = some (some y)):=by
 rw[List.getElem?_set]at h;by_cases hij:i=j
 .rw[if_pos hij]at h;split at h
  .cases h;exact .inl #[hij.symm,rfl]
  .cases h
 .rw[if_neg hij]at h;exact .inr #[λz=>hij z.symm,h]
theorem Rep.set {i:Nat}(r:Rep X b τ σ p)(e:Ext p q)(h:IsS X.K q v s)(f:Fr3 X.K p q v s)(hr:s.isL=s.own)(hp:E9 X i):Rep X b (τ.set i (some s)) (σ.set i (some v)) q:=by
 have r':=r.mono e;refine#[by simp[r.len],r'.ext,λj s' hj=>?_,λj xs a hj ha=>?_,λj k xs s' a hjk hj hk hs ha=>?_,r.top,λk a hk=>by rw[qBT (λz=>hp k a hk z.symm)];exact r.pin k a hk]
 .rcases Ay hj with⟨rfl,rfl⟩|⟨hn,hj⟩
  .have hl:j<↥σ:=by
    rw[r.len];have:=(qAf.mp hj).1;simpa using this
   exact#[v,by rw[qBx hl],h]
  .obtain⟨w,h1,h2⟩:=r'.val j s' hj;exact#[w,by rw[qBT (λz=>hn z.symm)];exact h1,h2]
 .rcases Ay hj with⟨rfl,e1⟩|⟨hn,hj⟩
  .rcases Ay ha with⟨_,e2⟩|⟨hn,_⟩
   .exact(K7 r.ext f) xs a e1.symm e2.symm
   .exact absurd rfl hn
  .rcases Ay ha with⟨e2,_⟩|⟨_,ha⟩
   .exact absurd e2 hn
   .exact r'.own j xs a hj ha
 .
  have fresh:∀(m:Nat)(t:S),τ[m]? = some (some t)->t.isL=true->s.own=true->v=.ref a->σ[m]?≠some (some (.ref a)):=by
   intro m t hm ht ho hv hσ;obtain⟨w,h1,h2⟩:=r.val m t hm;rw[hσ]at h1;cases h1;cases s with
   |d _=>cases ho
   |r _=>cases ho
   |l ys=>
    obtain⟨f1,f2,_⟩:=f ys a rfl hv;cases t with
    |d _=>cases ht
    |l zs=>
     obtain⟨c,vs,e1,h3,_⟩:=h2;cases e1;rw[f1]at h3;cases h3
    |r zs=>
     obtain⟨c,vs,e1,h3,_⟩:=h2;cases e1;rcases h3 with (h3|⟨o,h3⟩)|⟨o,its,n,h3,_⟩
     .rw[f1]at h3;cases h3
     .rw[f1]at h3;cases h3
     .rw[f2]at h3;cases h3
  intro hσk;rcases Ay hj with⟨rfl,e1⟩|⟨hn,hj'⟩
  .rcases Ay ha with⟨_,e2⟩|⟨hn,_⟩
   .rcases Ay hk with⟨e3,_⟩|⟨_,hk⟩
    .exact hjk e3.symm
    .rcases Ay hσk with⟨e4,_⟩|⟨_,hσk⟩
     .exact hjk e4.symm
     .exact fresh k s' hk hs (by rw[<-e1];rfl) e2.symm hσk
   .exact absurd rfl hn
  .rcases Ay ha with⟨e2,_⟩|⟨_,ha'⟩
   .exact absurd e2 hn
   .rcases Ay hk with⟨e3,e4⟩|⟨hkn,hk'⟩
    .rcases Ay hσk with⟨_,e5⟩|⟨hx,_⟩
     .subst e4;exact fresh j (.l xs) hj' rfl (by rw[<-hr];exact hs) e5.symm ha'
     .exact absurd e3 hx
    .rcases Ay hσk with⟨e5,_⟩|⟨_,hσk'⟩
     .exact absurd e5 hkn
     .exact r.sep j k xs s' a hjk hj' hk' hs ha' hσk'
theorem Rep.freeze {i:Nat}{xs:List D}(r:Rep X b τ σ p)(h:τ[i]? = some (some s))(e:s.share=.r xs):Rep X b (τ.set i (some (.r xs))) σ p:=by
 have hs:s.isL=true:=by
  cases s with
  |d _=>cases e
  |l _=>rfl
  |r _=>rfl
 refine#[by simp[r.len],r.ext,λj s' hj=>?_,λj ys a hj ha=>?_,λj k ys s' a hjk hj hk hs' ha=>?_,r.top,r.pin]
 .rcases Ay hj with⟨rfl,rfl⟩|⟨hn,hj⟩
  .obtain⟨v,h1,h2⟩:=r.val j s h;exact#[v,h1,by rw[<-e];exact h2.share]
  .exact r.val j s' hj
 .rcases Ay hj with⟨rfl,e1⟩|⟨hn,hj⟩
  .cases e1
  .exact r.own j ys a hj ha
 .rcases Ay hj with⟨rfl,e1⟩|⟨hn,hj'⟩
  .cases e1
  .rcases Ay hk with⟨rfl,e4⟩|⟨hkn,hk'⟩
   .exact r.sep j k ys s a hjk hj' h hs ha
   .exact r.sep j k ys s' a hjk hj' hk' hs' ha
theorem Rep.data {i:Nat}{xs:List D}{h z:Hp}(r:Rep X b τ σ #[h,z])(hi:τ[i]? = some (some (.l xs))):∃z',Rep X b (τ.set i (some (.d (.lst xs)))) σ #[h,z']:=by
 obtain⟨v,h1,a,vs,rfl,h2,h3⟩:=r.val i _ hi;obtain⟨o1,o2,o3⟩:=r.own i xs a hi h1;have zz:BQ z (upd z a (.lst vs)):=Cn o3 _;refine#[upd z a (.lst vs),by simp[r.len],r.ext.freeze o1 o3 h2,λj s' hj=>?_,λj ys c hj hc=>?_,λj k ys s' c hjk hj hk hs' hc=>?_,r.top,r.pin]
 .rcases Ay hj with⟨rfl,rfl⟩|⟨hn,hj⟩
  .have h3':=h3.mono zz;exact#[.ref a,h1,Is.lst Au h3'.1 h3'.2]
  .obtain⟨w,w1,w2⟩:=r.val j s' hj;refine#[w,w1,?_];cases s' with
   |d x=>exact Is.mono zz w2
   |l zs=>obtain⟨c,us,e1,q1,q2⟩:=w2;exact#[c,us,e1,q1,q2.mono zz]
   |r zs=>obtain⟨c,us,e1,q1,q2⟩:=w2;exact#[c,us,e1,q1,q2.mono zz]
 .rcases Ay hj with⟨rfl,e1⟩|⟨hn,hj'⟩
  .cases e1
  .obtain⟨q1,q2,q3⟩:=r.own j ys c hj' hc;refine#[q1,q2,?_];show upd z a (.lst vs) c=none;have hca:c≠a:=by
    rintro rfl;exact r.sep j i ys (.l xs) c hn hj' hi rfl hc h1
   rw[Ao hca];exact q3
 .rcases Ay hj with⟨rfl,e1⟩|⟨hn,hj'⟩
  .cases e1
  .rcases Ay hk with⟨rfl,e4⟩|⟨hkn,hk'⟩
   .subst e4;cases hs'
   .exact r.sep j k ys s' c hjk hj' hk' hs' hc
open Classical in
noncomputable def Nj (τ:Tau)(σ:St)(H:Hp):Hp:=λb=>if ∃(i:Nat)(xs:List D),τ[i]? = some (some (S.l xs))/\σ[i]? = some (some (V.ref b)) then none else H b
theorem Vx {H:Hp}:BQ (Nj τ σ H) H:=λb o h=>by
 unfold Nj at h;split at h
 .cases h
 .exact h
theorem IB {H:Hp}{c:Addr}(h:∀(i:Nat)(xs:List D),τ[i]? = some (some (S.l xs))->σ[i]?≠some (some (V.ref c))):Nj τ σ H c=H c:=by
 unfold Nj;rw[if_neg];rintro⟨i,xs,h1,h2⟩;exact h i xs h1 h2
theorem Rep.baseB (r:Rep X b τ σ p):BQ b.h (Nj τ σ p.h):=λc o h=>by
 rw[IB]
 .exact r.ext.hh c o h
 .intro i xs h1 h2;have:=(r.own i xs c h1 h2).1;rw[h]at this;cases this
theorem Rep.inB (r:Rep X b τ σ p):Rep X #[Nj τ σ p.h,p.z] τ σ p:=
 #[r.len,#[Vx,BQ.refl _,r.ext.sub,λ_ _ e=>.inl e],r.val,λi xs a h1 h2=>#[by show Nj τ σ p.h a=none;unfold Nj;rw[if_pos #[i,xs,h1,h2]],(r.own i xs a h1 h2).2],r.sep,λh=>(r.top h).trans r.baseB,r.pin]
structure LeB (X:Cx)(b b':HZ):Prop where
 hh:BQ b.h b'.h
 zz:BQ b.z b'.z
 new:∀a o,b'.z a=some o->b.z a=some o\/b.h a=none
 top:X.lent=none->BQ X.H₀ b.h
theorem LeB.ext (e:LeB X b b')(f:Ext b' p):Ext b p:=#[e.hh.trans f.hh,e.zz.trans f.zz,f.sub,λa o h=>by
 rcases f.new a o h with x|x
 .exact e.new a o x
 .exact .inr (e.hh.free x)]
theorem Rep.outB (e:LeB X b b')(r:Rep X b' τ σ p):Rep X b τ σ p:=
 #[r.len,e.ext r.ext,r.val,λi xs a h1 h2=>#[e.hh.free (r.own i xs a h1 h2).1,(r.own i xs a h1 h2).2],r.sep,e.top,r.pin]
theorem Rep.leB (r:Rep X b τ σ p):LeB X b #[Nj τ σ p.h,p.z]:=#[r.baseB,r.ext.zz,r.ext.new,r.top]
theorem Rep.leR (r:Rep X b τ σ p):LeB X b b:=#[BQ.refl _,BQ.refl _,λ_ _ e=>.inl e,r.top]
end
abbrev TE3:=Tau->(S->Prop)->Prop
abbrev TT3:=Tau->(Bool->Prop)->Prop
abbrev TA3:=Tau->(List S->Prop)->Prop
structure MT where
 nx:Tau->Prop
 rt:S->Prop
 bk:Tau->Prop:=λ_=>False
 ct:Tau->Prop:=λ_=>False
abbrev TS3:=MT->Tau->Prop
def Args (K:W.Frag)(p:HZ)(vs:List V)(ss:List S):Prop:=
 ↥vs=↥ss/\∀(i:Nat)(v:V)(s:S),vs[i]? = some v->ss[i]? = some s->IsS K p v s/\s.own=false
def FE (X:Cx)(t:TE3):TE:=λσ H Q=>∃B z τ R,Rep X B τ σ #[H,z]/\t τ R/\∀s v q,Ext #[H,z] q->IsS X.K q v s->Fr3 X.K #[H,z] q v s->R s->Q v q.h
def FT (X:Cx)(t:TT3):TT:=λσ H Q=>∃B z τ R,Rep X B τ σ #[H,z]/\t τ R/\∀c q,Ext #[H,z] q->R c->Q c q.h
def FA (X:Cx)(t:TA3):TA:=λσ H Q=>∃B z τ R,Rep X B τ σ #[H,z]/\t τ R/\∀ss vs q,Ext #[H,z] q->Args X.K q vs ss->R ss->Q vs q.h
structure W2 (X:Cx)(B:HZ)(D3:MT)(D2:PD):Prop where
 nx:∀τ σ p,Rep X B τ σ p->D3.nx τ->D2.nx σ p.h
 bk:∀τ σ p,Rep X B τ σ p->D3.bk τ->D2.bk σ p.h
 ct:∀τ σ p,Rep X B τ σ p->D3.ct τ->D2.ct σ p.h
 rt:∀s v q,Ext B q->IsS X.K q v s->Fr3 X.K B q v s->D3.rt s->D2.rt v q.h
def FS (X:Cx)(t:TS3):TS:=λD2 σ H=>∃B z τ D3,Rep X B τ σ #[H,z]/\t D3 τ/\W2 X B D3 D2
structure PE3 (X:Cx)(e:Expr)(t:TE3):Prop where
 out:PE X e (FE X t)
structure PT3 (X:Cx)(e:Expr)(t:TT3):Prop where
 out:PT X e (FT X t)
structure PW3 (X:Cx)(e:Expr)(t:TT3):Prop where
 out:PW X e (FT X t)
structure PA3 (X:Cx)(es:List Expr)(t:TA3):Prop where
 out:PA X es (FA X t)
structure PS3 (X:Cx)(st:Stmt)(t:TS3):Prop where
 out:PS X st (FS X t)
structure Dt (X:Cx)(st:List Stmt)(t:TS3):Prop where
 out:PSs X st (FS X t)
theorem PW3.pt {X:Cx}{e:Expr}{t:TT3}(h:PW3 X e t):PT3 X e t:=#[h.out _]
section
variable {X:Cx}{e a b:Expr}{ta tb:TE3}{pos:Pos}
theorem BJ {t t':TE}(h:PE X e t)(f:∀σ H Q,t' σ H Q->t σ H Q):PE X e t':=λpins s σ H Q I q=>h pins s σ H Q I (f σ H Q q)
theorem OT {t t':TT}(h:PT X e t)(f:∀σ H Q,t' σ H Q->t σ H Q):PT X e t':=λpins s σ H Q I q=>h pins s σ H Q I (f σ H Q q)
theorem UT {t t':TT}(h:PW X e t)(f:∀σ H Q,t' σ H Q->t σ H Q):PW X e t':=λwh pins s σ H Q I q=>h wh pins s σ H Q I (f σ H Q q)
theorem U0 {es:List Expr}{t t':TA}(h:PA X es t)(f:∀σ H Q,t' σ H Q->t σ H Q):PA X es t':=λpos pins s σ H Q I q=>h pos pins s σ H Q I (f σ H Q q)
theorem CQ {st:Stmt}{t t':TS}(h:PS X st t)(f:∀D σ H,t' D σ H->t D σ H):PS X st t':=λpins s σ H D I q=>h pins s σ H D I (f D σ H q)
theorem HK {st:List Stmt}{t t':TS}(h:PSs X st t)(f:∀D σ H,t' D σ H->t D σ H):PSs X st t':=λpins s σ H D I q=>h pins s σ H D I (f D σ H q)
def Y7 (i:Nat):TE3:=λτ R=>match τ[i]? with
 |some (some s)=>R s.share
 |_=>False
def vC (d:D):TE3:=λ_ R=>R (.d d)
theorem T7 {K:W.Frag}{p q:HZ}{v:V}{s:S}:Fr3 K p q v s.share:=by
 intro xs a h;cases s<;>cases h
theorem Ga {K:W.Frag}{p q:HZ}{v:V}{d:D}:Fr3 K p q v (.d d):=by
 intro xs a h;cases h
theorem aK {i:Nat}{x:Str}(h:PE X (.Name x pos) (P7 i)):PE3 X (.Name x pos) (Y7 i):=by
 refine#[?_];refine BJ h λσ H Q hh9=>?_;obtain⟨B,z,τ,R,r,ht,q⟩:=hh9;unfold Y7 at ht;split at ht
 .rename_i s hs;obtain⟨v,h1,h2⟩:=r.val i s hs;exact#[v,h1,q _ v #[H,z] (Ext.refl r.ext.sub) h2.share T7 ht]
 .exact ht.elim
theorem K2 {v:V}{d:D}(h:PE X e (tC v))(hd:∀K H,Is K H v d):PE3 X e (vC d):=#[BJ h λσ H Q hh=>by obtain⟨B,z,τ,R,r,ht,q⟩:=hh;exact q (.d d) v #[H,z] (Ext.refl r.ext.sub) (hd _ _) Ga ht]
theorem Ad {i j}:PE3 X (.Constant (.int i) j pos) (vC (.int i)):=K2 XN λ_ _=>.int i
theorem Hf {i j}:PE3 X (.Constant (.bool i) j pos) (vC (.bl i)):=K2 YJ λ_ _=>.bl i
theorem Jq {j}:PE3 X (.Constant .none j pos) (vC .non):=K2 XE λ_ _=>.non
theorem NQ {x j}:PE3 X (.Constant (.str x) j pos) (vC (.str x)):=K2 Yd λ_ _=>.str x
abbrev R3:=D->D->(D->Prop)->Prop
def lft (K:W.Frag)(r3:R3):R2:=λx y H Q=>∃z dx dy R,BQ z H/\Is K z x dx/\Is K z y dy/\r3 dx dy R/\∀d v q,Ext #[H,z] q->Is K q.z v d->R d->Q v q.h
def Ij (X:Cx)(f:Value->Value->Sem Value)(r3:R3):Prop:=OpR X f (lft X.K r3)
theorem Fm {f:Value->Value->Sem Value}{r r':R2}(h:OpR X f r)(i:∀x y H Q,r' x y H Q->r x y H Q):OpR X f r':=λpins s σ H x y v u Q I rx ry q=>h pins s σ H x y v u Q I rx ry (i x y H Q q)
def oI (C:Int->Int->Prop)(g:Int->Int->Int):R3:=λdx dy R=>match dx,dy with
 |.int i,.int j=>C i j/\R (.int (g i j))
 |_,_=>False
def oI0 (g:Int->Int->Int):R3:=λdx dy R=>match dx,dy with
 |.int i,.int j=>R (.int (g i j))
 |_,_=>False
def oB0 (g:Int->Int->Bool):R3:=λdx dy R=>match dx,dy with
 |.int i,.int j=>R (.bl (g i j))
 |_,_=>False
theorem SX {f:Value->Value->Sem Value}{C:Int->Int->Prop}{g:Int->Int->Int}(h:OpR X f (rI C λi j=>.int (g i j))):Ij X f (oI C g):=
 Fm h λx y H Q hh=>by
  obtain⟨z,dx,dy,R,hz,hx,hy,h3,q⟩:=hh;unfold oI at h3;split at h3
  .rename_i i j;exact#[i,j,hx.int_inv,hy.int_inv,h3.1,q _ _ #[H,z] (Ext.refl hz) (.int _) h3.2]
  .exact h3.elim
theorem Ul {f:Value->Value->Sem Value}{g:Int->Int->Int}(h:OpR X f (rI0 λi j=>.int (g i j))):Ij X f (oI0 g):=
 Fm h λx y H Q hh=>by
  obtain⟨z,dx,dy,R,hz,hx,hy,h3,q⟩:=hh;unfold oI0 at h3;split at h3
  .rename_i i j;exact#[i,j,hx.int_inv,hy.int_inv,q _ _ #[H,z] (Ext.refl hz) (.int _) h3]
  .exact h3.elim
theorem Tb {f:Value->Value->Sem Value}{g:Int->Int->Bool}(h:OpR X f (rI0 λi j=>.bl (g i j))):Ij X f (oB0 g):=
 Fm h λx y H Q hh=>by
  obtain⟨z,dx,dy,R,hz,hx,hy,h3,q⟩:=hh;unfold oB0 at h3;split at h3
  .rename_i i j;exact#[i,j,hx.int_inv,hy.int_inv,q _ _ #[H,z] (Ext.refl hz) (.bl _) h3]
  .exact h3.elim
theorem V9:OpR X (binaryOp .Mult) (rI IntMulOk λi j=>.int (i*j)):=opI λ_ _ _ _ _ _ _ hc q=>mul_int q hc
def CDv (i j:Int):Prop:=j≠0/\Builtin.divisionGoesByPylong i j=false
theorem T6:OpR X (binaryOp .FloorDiv) (rI CDv λi j=>.int (i.fdiv j)):=opI λ_ _ _ _ _ _ _ hc q=>floordiv_int hc.1 q (.inl hc.2)
def dY:R3:=λdx dy R=>match dx,dy with
 |.int i,.int j=>R (.int (i+j))
 |_,_=>False
theorem Bf:Ij X (binaryOp .Add) dY:=Ul Us
def dC:R3:=λdx dy R=>match dx,dy with
 |.int i,.int j=>R (.int (i-j))
 |_,_=>False
theorem CW:Ij X (binaryOp .Sub) dC:=Ul YZ
def cG:R3:=λdx dy R=>match dx,dy with
 |.int i,.int j=>IntMulOk i j/\R (.int (i*j))
 |_,_=>False
theorem AL:Ij X (binaryOp .Mult) cG:=SX V9
def Z2:R3:=λdx dy R=>match dx,dy with
 |.int i,.int j=>CDv i j/\R (.int (i.fdiv j))
 |_,_=>False
theorem Bo:Ij X (binaryOp .FloorDiv) Z2:=SX T6
def eH:R3:=λdx dy R=>match dx,dy with
 |.int i,.int j=>j≠0/\R (.int (i.fmod j))
 |_,_=>False
theorem BI:Ij X (binaryOp .Mod) eH:=SX VO
def dZ:R3:=λdx dy R=>match dx,dy with
 |.int i,.int j=>aS i j/\R (.int (i^j.toNat))
 |_,_=>False
theorem Sj:Ij X (binaryOp .Pow) dZ:=SX YT
def oLt:R3:=λdx dy R=>match dx,dy with
 |.int i,.int j=>R (.bl (decide (i<j)))
 |_,_=>False
theorem Ku:Ij X (compareOp .Lt) oLt:=Tb aM
def oLe:R3:=λdx dy R=>match dx,dy with
 |.int i,.int j=>R (.bl (decide (i<=j)))
 |_,_=>False
theorem cH:Ij X (compareOp .LtE) oLe:=Tb Zq
def oGt:R3:=λdx dy R=>match dx,dy with
 |.int i,.int j=>R (.bl (decide (j<i)))
 |_,_=>False
theorem YD:Ij X (compareOp .Gt) oGt:=Tb ZB
def oGe:R3:=λdx dy R=>match dx,dy with
 |.int i,.int j=>R (.bl (decide (j<=i)))
 |_,_=>False
theorem dX:Ij X (compareOp .GtE) oGe:=Tb aB
def oEq:R3:=λdx dy R=>match dx,dy with
 |.int i,.int j=>R (.bl (decide (i=j)))
 |.bl i,.bl j=>R (.bl (decide (i=j)))
 |.str i,.str j=>R (.bl (decide (i=j)))
 |_,_=>False
def oNe:R3:=λdx dy R=>match dx,dy with
 |.int i,.int j=>R (.bl (!decide (i=j)))
 |.bl i,.bl j=>R (.bl (!decide (i=j)))
 |.str i,.str j=>R (.bl (!decide (i=j)))
 |_,_=>False
theorem Pp {α β:Type}{i j:α}{f:α->β} [DecidableEq α] [DecidableEq β] (h:∀a b,f a=f b->a=b):decide (f i=f j)=decide (i=j):=by
 by_cases e:i=j
 .rw[decide_eq_true e,decide_eq_true (by rw[e])]
 .rw[decide_eq_false e,decide_eq_false λz=>e (h _ _ z)]
theorem Im:Ij X (compareOp .Eq) oEq:=
 Fm ZV λx y H Q hh=>by
  obtain⟨z,dx,dy,R,hz,hx,hy,h3,q⟩:=hh;unfold oEq at h3;split at h3
  .rename_i i j;cases hx.int_inv;cases hy.int_inv;exact#[rfl,by rw[Pp (f:=V.int) (λ_ _ z=>by cases z;rfl)];exact q _ _ #[H,z] (Ext.refl hz) (.bl _) h3]
  .rename_i i j;cases hx.bl_inv;cases hy.bl_inv;exact#[rfl,by rw[Pp (f:=V.bl) (λ_ _ z=>by cases z;rfl)];exact q _ _ #[H,z] (Ext.refl hz) (.bl _) h3]
  .rename_i i j;cases hx.str_inv;cases hy.str_inv;exact#[rfl,by rw[Pp (f:=V.str) (λ_ _ z=>by cases z;rfl)];exact q _ _ #[H,z] (Ext.refl hz) (.bl _) h3]
  .exact h3.elim
theorem Yl:Ij X (compareOp .NotEq) oNe:=
 Fm ZY λx y H Q hh=>by
  obtain⟨z,dx,dy,R,hz,hx,hy,h3,q⟩:=hh;unfold oNe at h3;split at h3
  .rename_i i j;cases hx.int_inv;cases hy.int_inv;exact#[rfl,by rw[Pp (f:=V.int) (λ_ _ z=>by cases z;rfl)];exact q _ _ #[H,z] (Ext.refl hz) (.bl _) h3]
  .rename_i i j;cases hx.bl_inv;cases hy.bl_inv;exact#[rfl,by rw[Pp (f:=V.bl) (λ_ _ z=>by cases z;rfl)];exact q _ _ #[H,z] (Ext.refl hz) (.bl _) h3]
  .rename_i i j;cases hx.str_inv;cases hy.str_inv;exact#[rfl,by rw[Pp (f:=V.str) (λ_ _ z=>by cases z;rfl)];exact q _ _ #[H,z] (Ext.refl hz) (.bl _) h3]
  .exact h3.elim
def dd (x:S)(k:D->Prop):Prop:=match x with
 |.d d=>k d
 |_=>False
def vOp (r3:R3)(ta tb:TE3):TE3:=λτ R=>ta τ λx=>tb τ λy=>dd x λdx=>dd y λdy=>r3 dx dy λd=>R (.d d)
theorem EY {x:S}{k:D->Prop}(h:dd x k):∃d,x=.d d/\k d:=by
 cases x with
 |d d=>exact#[d,rfl,h]
 |l _=>exact h.elim
 |r _=>exact h.elim
theorem two {r3:R3}{σ:St}{H:Hp}{Q:VK}(h:FE X (vOp r3 ta tb) σ H Q):tOp (lft X.K r3) (FE X ta) (FE X tb) σ H Q:=by
 obtain⟨B,z,τ,R,r,ht,q⟩:=h;refine#[B,_,τ,_,r,ht,λx v H1 e1 i1 f1 h1=>?_];refine#[B,_,τ,_,r.mono e1,h1,λy u H2 e2 i2 f2 h2=>?_];obtain⟨dx,rfl,h4⟩:=EY h2;obtain⟨dy,rfl,h5⟩:=EY h4;exact#[H2.z,dx,dy,_,e2.sub,Is.mono e2.zz i1,i2,h5,λd w H3 e3 i3 h3=>q (.d d) w H3 (e1.trans (e2.trans e3)) i3 Ga h3]
theorem Ak {op:Operator}{r3:R3}(ho:Ij X (binaryOp op) r3)(ha:PE3 X a ta)(hb:PE3 X b tb):PE3 X (.BinOp a op b pos) (vOp r3 ta tb):=#[BJ (Xv ho ha.out hb.out) λ_ _ _ h=>two h]
theorem Ma {op:CmpOp}{r3:R3}(ho:Ij X (compareOp op) r3)(ha:PE3 X a ta)(hb:PE3 X b tb)(hm:behindInMarks op b=false):PE3 X (.Compare a [op] [b] pos) (vOp r3 ta tb):=#[BJ (WH ho ha.out hb.out hm) λ_ _ _ h=>two h]
def bb (x:S)(k:Bool->Prop):Prop:=match x with
 |.d (.bl c)=>k c
 |_=>False
theorem MV {x:S}{k:Bool->Prop}(h:bb x k):∃c,x=.d (.bl c)/\k c:=by
 unfold bb at h;split at h
 .exact#[_,rfl,h]
 .exact h.elim
def VA (t:TE3):TT3:=λτ R=>t τ λx=>bb x R
theorem Zs {op:CmpOp}{r3:R3}(ho:Ij X (compareOp op) r3)(ha:PE3 X a ta)(hb:PE3 X b tb)(hm:behindInMarks op b=false):PT3 X (.Compare a [op] [b] pos) (VA (vOp r3 ta tb)):=#[OT (WX ho ha.out hb.out hm) λσ H Q hh=>by obtain⟨B,z,τ,R,r,ht,q⟩:=hh;exact two #[B,_,τ,_,r,ht,λs v H' e i f h=>by
 obtain⟨c,rfl,h⟩:=MV h;cases Is.bl_inv i;exact#[c,rfl,q c H' e h]]]
theorem A6 {t:TE3}(h:PE3 X e t)(he:∀whole,isTrue e X.env whole=(do let v <-whole;standAt e.pos;holding [v] (truthy v)):=by intro _;rfl):PT3 X e (VA t):=#[OT (Yx h.out he) λσ H Q hh=>by obtain⟨B,z,τ,R,r,ht,q⟩:=hh;exact#[B,_,τ,_,r,ht,λs v H' e i f hz=>by
 obtain⟨c,rfl,hz⟩:=MV hz;cases Is.bl_inv i;exact#[c,rfl,q c H' e hz]]]
def bV (ta:TE3):TE3:=λτ R=>ta τ λx=>match x with
 |.d (.int i)=>R (.d (.int (-i)))
 |_=>False
theorem Gg (ha:PE3 X a ta):PE3 X (.UnaryOp .USub a pos) (bV ta):=#[BJ (Zm Yj ha.out) λσ H Q hh=>by obtain⟨B,z,τ,R,r,ht,q⟩:=hh;exact#[B,_,τ,_,r,ht,λs v H' e i f h=>by
 split at h
 .rename_i i';exact#[i',Is.int_inv i,q (.d _) _ H' e (Is.int _) Ga h]
 .exact h.elim]]
variable {tA tB':TT3}{rest:List Expr}
def dG (t u:TT3):TT3:=λτ R=>t τ λc=>if c=true then u τ R else R false
def wOr (t u:TT3):TT3:=λτ R=>t τ λc=>if c=true then R true else u τ R
def bZ (t:TT3):TT3:=λτ R=>t τ λc=>R (!c)
theorem EI (ha:PT3 X a tA):PW3 X (.BoolOp .And [a] pos) tA:=#[Vz ha.out]
theorem FR (ha:PT3 X a tA):PW3 X (.BoolOp .Or [a] pos) tA:=#[Xk ha.out]
theorem Ib (ha:PT3 X a tA)(hb:PW3 X (.BoolOp .And (b::rest) pos) tB'):PW3 X (.BoolOp .And (a::b::rest) pos) (dG tA tB'):=#[UT (Xa ha.out hb.out) λσ H Q hh=>by obtain⟨B,z,τ,R,r,ht,q⟩:=hh;exact#[B,_,τ,_,r,ht,λc H1 e h=>by
 cases c with
 |true=>rw[if_pos rfl]at h ⊢;exact#[B,_,τ,R,r.mono e,h,λd H2 e2 h2=>q d H2 (e.trans e2) h2]
 |false=>rw[if_neg qAr]at h ⊢;exact q _ _ e h]]
theorem L8 (ha:PT3 X a tA)(hb:PW3 X (.BoolOp .Or (b::rest) pos) tB'):PW3 X (.BoolOp .Or (a::b::rest) pos) (wOr tA tB'):=#[UT (aP ha.out hb.out) λσ H Q hh=>by obtain⟨B,z,τ,R,r,ht,q⟩:=hh;exact#[B,_,τ,_,r,ht,λc H1 e h=>by
 cases c with
 |false=>rw[if_neg qAr]at h ⊢;exact#[B,_,τ,R,r.mono e,h,λd H2 e2 h2=>q d H2 (e.trans e2) h2]
 |true=>rw[if_pos rfl]at h ⊢;exact q _ _ e h]]
theorem w_not (ha:PT3 X a tA):PT3 X (.UnaryOp .Not a pos) (bZ tA):=#[OT (XR ha.out) λσ H Q hh=>by obtain⟨B,z,τ,R,r,ht,q⟩:=hh;exact#[B,_,τ,_,r,ht,λc H1 e h=>q _ _ e h]]
def cX (ta tb:TE3):TE3:=λτ R=>ta τ λx=>bb x λc=>if c=true then tb τ R else R (.d (.bl false))
def vOr (ta tb:TE3):TE3:=λτ R=>ta τ λx=>bb x λc=>if c=true then R (.d (.bl true)) else tb τ R
def cQ (ta:TE3):TE3:=λτ R=>ta τ λx=>bb x λc=>R (.d (.bl (!c)))
theorem T8 {op}{t:TE3}(h:PE3 X a t):PE3 X (.BoolOp op [a] pos) t:=#[Xs h.out]
theorem WN (ha:PE3 X a ta)(hb:PE3 X (.BoolOp .And (b::rest) pos) tb):PE3 X (.BoolOp .And (a::b::rest) pos) (cX ta tb):=#[BJ (YF ha.out hb.out) λσ H Q hh=>by obtain⟨B,z,τ,R,r,ht,q⟩:=hh;exact#[B,_,τ,_,r,ht,λs v H1 e i f h=>by
 obtain⟨c,rfl,h'⟩:=MV h;cases Is.bl_inv i;refine#[c,rfl,?_];cases c with
 |true=>rw[if_pos rfl]at h' ⊢;exact#[B,_,τ,R,r.mono e,h',λs2 v2 H2 e2 i2 f2 h2=>q _ _ _ (e.trans e2) i2 (K7 e f2) h2]
 |false=>rw[if_neg qAr]at h' ⊢;exact q (.d _) _ _ e (Is.bl _) Ga h']]
theorem dE (ha:PE3 X a ta)(hb:PE3 X (.BoolOp .Or (b::rest) pos) tb):PE3 X (.BoolOp .Or (a::b::rest) pos) (vOr ta tb):=#[BJ (aQ ha.out hb.out) λσ H Q hh=>by obtain⟨B,z,τ,R,r,ht,q⟩:=hh;exact#[B,_,τ,_,r,ht,λs v H1 e i f h=>by
 obtain⟨c,rfl,h'⟩:=MV h;cases Is.bl_inv i;refine#[c,rfl,?_];cases c with
 |false=>rw[if_neg qAr]at h' ⊢;exact#[B,_,τ,R,r.mono e,h',λs2 v2 H2 e2 i2 f2 h2=>q _ _ _ (e.trans e2) i2 (K7 e f2) h2]
 |true=>rw[if_pos rfl]at h' ⊢;exact q (.d _) _ _ e (Is.bl _) Ga h']]
theorem QG (ha:PE3 X a ta):PE3 X (.UnaryOp .Not a pos) (cQ ta):=#[BJ (YK ha.out) λσ H Q hh=>by obtain⟨B,z,τ,R,r,ht,q⟩:=hh;exact#[B,_,τ,_,r,ht,λs v H1 e i f h=>by
 obtain⟨c,rfl,h'⟩:=MV h;cases Is.bl_inv i;exact#[c,rfl,q (.d _) _ _ e (Is.bl _) Ga h']]]
def items:S->Option (List D)
 |.d (.tup xs)=>some xs
 |.d (.lst xs)=>some xs
 |.l xs=>some xs
 |.r xs=>some xs
 |_=>none
def vIx (ta tb:TE3):TE3:=λτ R=>ta τ λx=>tb τ λy=>match items x,y with
 |some xs,.d (.int i)=>match atI xs i with
  |some d=>R (.d d)
  |none=>False
 |_,_=>False
theorem KZ {K:W.Frag}{H:Hp}{vs:List V}{xs:List D}{i:Int}{d:D}(h:Iss K H vs xs)(e:atI xs i=some d):∃v,atI vs i=some v/\Is K H v d:=by
 unfold atI at e ⊢;rw[h.1];cases q:ixN ↥xs i with
 |none=>rw[q]at e;cases e
 |some j=>
  rw[q]at e;have e':xs[j]? = some d:=e;have hj:=(qAf.mp e').1;have hl:j<↥vs:=by rw[h.1];exact hj
  have hv:vs[j]? = some vs[j]:=qAc hl;exact#[vs[j],hv,h.2 j _ _ hv e']
theorem A4 (ha:PE3 X a ta)(hb:PE3 X b tb)(hs:R5 b:=by exact λ_ _=>rfl):PE3 X (.Subscript a b pos) (vIx ta tb):=#[BJ (aO (Vq.or Xx) ha.out hb.out hs) λσ H Q hh=>by
 obtain⟨B,z,τ,R,r,ht,q⟩:=hh;refine#[B,_,τ,_,r,ht,λx v H1 e1 i1 f1 h1=>?_];refine#[B,_,τ,_,r.mono e1,h1,λy u H2 e2 i2 f2 h2=>?_];split at h2
 .rename_i xs i hx;split at h2
  .rename_i d hd;cases Is.int_inv i2;have i1':=IsS.mono e2 i1;cases x with
   |d z=>
    cases z with
    |tup zs=>
     cases hx;obtain⟨p,vs,rfl,h3,h4⟩:=Is.tup_inv i1';obtain⟨w,hw,iw⟩:=KZ h4 hd;exact .inr #[p,vs,i,w,rfl,rfl,SqT.same e2.sub h3,hw,q (.d _) _ _ (e1.trans e2) iw Ga h2]
    |lst zs=>
     cases hx;obtain⟨p,vs,rfl,h3,h4⟩:=Is.lst_inv i1';obtain⟨w,hw,iw⟩:=KZ h4 hd;exact .inl #[p,vs,i,w,rfl,rfl,e2.sub.seq h3,hw,q (.d _) _ _ (e1.trans e2) iw Ga h2]
    |_=>cases hx
   |l zs=>
    cases hx;obtain⟨p,vs,rfl,h3,h4⟩:=i1';obtain⟨w,hw,iw⟩:=KZ h4 hd;exact .inl #[p,vs,i,w,rfl,rfl,SqL.of h3,hw,q (.d _) _ _ (e1.trans e2) iw Ga h2]
   |r zs=>
    cases hx;obtain⟨p,vs,rfl,h3,h4⟩:=i1';obtain⟨w,hw,iw⟩:=KZ h4 hd;exact .inl #[p,vs,i,w,rfl,rfl,h3,hw,q (.d _) _ _ (e1.trans e2) iw Ga h2]
  .exact h2.elim
 .exact h2.elim]
variable {es:List Expr}{tr:TA3}{te:TE3}
def Y9:TA3:=λ_ R=>R []
def S.arg:S->S
 |.l xs=>.d (.lst xs)
 |s=>s
def RS (ta:TE3)(tr:TA3):TA3:=λτ R=>ta τ λx=>tr τ λxs=>R (x.arg::xs)
theorem MJ:PA3 X [] Y9:=#[U0 BL λσ H Q hh=>by obtain⟨B,z,τ,R,r,ht,q⟩:=hh;exact q [] [] #[H,z] (Ext.refl r.ext.sub) #[rfl,λi v s h=>by simp at h] ht]
theorem Sk (s:S):s.arg.own=false:=by cases s<;>rfl
theorem EW {K:W.Frag}{p q:HZ}{v:V}{s:S}(e:Ext p q)(i:IsS K q v s)(f:Fr3 K p q v s):∃z',Ext p #[q.h,z']/\IsS K #[q.h,z'] v s.arg:=by
 cases s with
 |d x=>exact#[q.z,e,i]
 |r xs=>exact#[q.z,e,i]
 |l xs=>
  obtain⟨a,vs,rfl,h1,h2⟩:=i;obtain⟨f1,f2,f3⟩:=f xs a rfl rfl;have h3:=h2.mono (Cn f3 (.lst vs));exact#[upd q.z a (.lst vs),e.freeze f1 f3 h1,Is.lst Au h3.1 h3.2]
theorem AQ (ha:PE3 X e te)(hr:PA3 X es tr)(hs:starEach (e::es) X.env=(false,eval e X.env)::starEach es X.env:=by exact Dv rfl):PA3 X (e::es) (RS te tr):=
 #[U0 (A7 ha.out hr.out hs) λσ H Q hh=>by
  obtain⟨B,z,τ,R,r,ht,q⟩:=hh;refine#[B,_,τ,_,r,ht,λx v H1 e1 i1 f1 h1=>?_];obtain⟨z1,e1',i1'⟩:=EW e1 i1 f1;refine#[B,z1,τ,_,r.mono e1',h1,λss vs H2 e2 i2 h2=>?_];refine q _ _ _ (e1'.trans e2) #[by simp[i2.1],λi w s hw hs=>?_] h2;cases i with
  |zero=>
   simp at hw hs;subst hw;subst hs;exact#[IsS.mono e2 i1',Sk x]
  |succ i=>exact i2.2 i w s (by simpa using hw) (by simpa using hs)]
def U8:List S->Option (List D)
 |[]=>some []
 |.d x::r=>(U8 r).map (x :: ·)
 |_::_=>none
theorem Iq:∀{ss:List S}{ds:List D},U8 ss=some ds->ss=ds.map S.d
 |[],ds,h=>by cases h;rfl
 |.d x::r,ds,h=>by
  unfold U8 at h;cases q:U8 r with
  |none=>rw[q]at h;cases h
  |some ys=>
   rw[q]at h;cases h;rw[Iq q];rfl
 |.l _::_,_,h=>by cases h
 |.r _::_,_,h=>by cases h
theorem L1 {K:W.Frag}{p:HZ}{vs:List V}{ds:List D}(h:Args K p vs (ds.map S.d)):Iss K p.z vs ds:=by
 refine#[by simpa using h.1,λi v x h1 h2=>?_];exact(h.2 i v (.d x) h1 (by rw[qAd,h2];rfl)).1
def cM (t:TA3):TE3:=λτ R=>t τ λss=>match U8 ss with
 |some ds=>↥ds<=1000/\R (.d (.tup ds))
 |none=>False
theorem Uu {n:Nat}(h:n<=1000):n<=sizeLine:=qBs (Qu h)
theorem A9 {x1}(h:PA3 X es tr):PE3 X (.Tuple es x1 pos) (cM tr):=
 #[BJ (YN h.out) λσ H Q hh=>by obtain⟨B,z,τ,R,r,ht,q⟩:=hh;exact#[B,_,τ,_,r,ht,λss vs H1 e1 i1 h1=>by
  try dsimp only at h1
  split at h1
  .rename_i ds hd;rw[Iq hd]at i1;have j:=L1 i1;refine#[by rw[j.1];exact Uu h1.1,λp hp=>?_];have el:=Ext.lay (o:=.tup vs) e1.sub hp;have j':=j.mono (Cn (e1.sub.free hp) (.tup vs));exact q (.d _) _ _ (e1.trans el) (Is.tup (SqT.of Au) j'.1 j'.2) Ga h1.2
  .exact h1.elim]]
theorem Vi {t:TA}(h:PA X es t):PE X (.List es pos) (λσ H Q=>t σ H λxs H1=>↥xs<=sizeLine/\∀p,H1 p=none->X.K.lookup p=none->Q (.ref p) (upd H1 p (.lst xs))):=by
 intro pins s σ H Q I hq;refine wpAny_List_spliced (thn (h pos pins s σ H _ I hq) λus s1 #[xs,H1,I1,r,z,q]=>#[by rw[<-↥r];exact z,?_]);have hf:H1 s1.heap.objs.size=none:=I1.hok.fresh (qAg _);have hk:X.K.lookup s1.heap.objs.size=none:=by
  cases e:X.K.lookup s1.heap.objs.size with
  |none=>rfl
  |some o=>exact absurd (qAk (I1.kIn _ _ e)) (qAX _)
 refine#[.ref s1.heap.objs.size,upd H1 s1.heap.objs.size (.lst xs),I1.laid (t':=s1.toks) (λb u e=>qAi _ e) (qAg _) ?_,rfl,q _ hf hk];exact#[z,us,0,r,qAF _ rfl]
def cN (t:TA3):TE3:=λτ R=>t τ λss=>match U8 ss with
 |some ds=>↥ds<=1000/\R (.l ds)
 |none=>False
theorem FO (h:PA3 X es tr):PE3 X (.List es pos) (cN tr):=
 #[BJ (Vi h.out) λσ H Q hh=>by obtain⟨B,z,τ,R,r,ht,q⟩:=hh;exact#[B,_,τ,_,r,ht,λss vs H1 e1 i1 h1=>by
  try dsimp only at h1
  split at h1
  .rename_i ds hd;rw[Iq hd]at i1;have j:=L1 i1;refine#[by rw[j.1];exact Uu h1.1,λp hp hk=>q (.l ds) _ #[_,H1.z] (e1.trans (Ext.own e1.sub hp _)) #[p,vs,rfl,Au,j] (λxs a _ h2=>?_) h1.2];cases h2;exact#[e1.hh.free hp,hk,e1.sub.free hp]
  .exact h1.elim]]
def vCB (r:List S->(S->Prop)->Prop)(t:TA3):TE3:=λτ R=>t τ λss=>r ss R
def Kp (X:Cx)(f:Value)(r3:List S->(S->Prop)->Prop):Prop:=
 HE X f (λxs H Q=>∃z ss R,BQ z H/\Args X.K #[H,z] xs ss/\r3 ss R/\∀s v q,Ext #[H,z] q->IsS X.K q v s->Fr3 X.K #[H,z] q v s->R s->Q v q.h)
theorem Gx {f:Value}{r r':List V->Hp->VK->Prop}(h:HE X f r)(i:∀xs H Q,r' xs H Q->r xs H Q):HE X f r':=λpins s σ H xs us Q I rs q=>h pins s σ H xs us Q I rs (i xs H Q q)
theorem JF {x:Str}{p:Pos}{id:String}{r:List S->(S->Prop)->Prop}(hc:Kp X (.builtin id) r)(hg:Gl X x)(hm:X.mg x=none)(hv:bootBuiltins x=some (.builtin id))(ha:PA3 X (e::es) tr)(hn:x≠"__name__":=by decide)
 (hdb:(x==("__debug__":Str))=false:=by decide)(he:starEach (e::es) X.env=(false,eval e X.env)::starEach es X.env:=by exact Dv rfl)(hpl:(backTo pos (starEach es X.env)).any (·.1)=false:=by exact FZ rfl) :
 PE3 X (.Call (.Name x p) (e::es) [] pos) (vCB r tr):=#[BJ (Io hc hg hm hv ha.out hn hdb he hpl) λσ H Q hh=>by obtain⟨B,z,τ,R,r,ht,q⟩:=hh;exact#[B,_,τ,_,r,ht,λss vs H1 e1 i1 h1=>#[H1.z,ss,R,e1.sub,i1,h1,λs v H2 e2 i2 f2 h2=>q s v H2 (e1.trans e2) i2 (K7 e1 f2) h2]]]
theorem bP {α:Type}{l:List α}(h:↥l=1):∃a,l=[a]:=by
 cases l with
 |nil=>cases h
 |cons a t=>exact#[a,by rw[List.length_eq_zero_iff.mp (Nat.succ.inj h)]]
theorem bX {α:Type}{l:List α}(h:↥l=2):∃a b,l=[a,b]:=by
 cases l with
 |nil=>cases h
 |cons a t=>
  obtain⟨b,e⟩:=bP (Nat.succ.inj h);exact#[a,b,by rw[e]]
theorem Uc {K:W.Frag}{H:HZ}{vs:List V}{s:S}(h:Args K H vs [s]):∃v,vs=[v]/\IsS K H v s:=by
 obtain⟨hl,hv⟩:=h;obtain⟨v,rfl⟩:=bP hl;exact#[v,rfl,(hv 0 v s rfl rfl).1]
theorem Vu {K:W.Frag}{H:HZ}{vs:List V}{s t:S}(h:Args K H vs [s,t]):∃v u,vs=[v,u]/\IsS K H v s/\IsS K H u t:=by
 obtain⟨hl,hv⟩:=h;obtain⟨v,u,rfl⟩:=bX hl;exact#[v,u,rfl,(hv 0 v s rfl rfl).1,(hv 1 u t rfl rfl).1]
def bF:List S->(S->Prop)->Prop:=λss R=>match ss with
 |[.d (.int i)]=>R (.d (.int (if i<0 then -i else i)))
 |_=>False
def bC:List S->(S->Prop)->Prop:=λss R=>match ss with
 |[.d (.int i),.d (.int j)]=>R (.d (.int (if j<i then j else i)))
 |_=>False
theorem Vm:Kp X (.builtin "abs") bF:=
 Gx Tf λxs H Q hh=>by
  obtain⟨z,ss,R,hz,ha,h3,q⟩:=hh;unfold bF at h3;split at h3
  .rename_i i;obtain⟨v,rfl,h⟩:=Uc ha;cases Is.int_inv h;exact#[i,rfl,q (.d _) _ #[H,z] (Ext.refl hz) (Is.int _) Ga h3]
  .exact h3.elim
theorem Zc (hc:X.calm=true):Kp X (.builtin "min") bC:=
 Gx (RI hc) λxs H Q hh=>by
  obtain⟨z,ss,R,hz,ha,h3,q⟩:=hh;unfold bC at h3;split at h3
  .rename_i i j;obtain⟨v,u,rfl,h,h'⟩:=Vu ha;cases Is.int_inv h;cases Is.int_inv h';exact#[i,j,rfl,q (.d _) _ #[H,z] (Ext.refl hz) (Is.int _) Ga h3]
  .exact h3.elim
def aN:List S->(S->Prop)->Prop:=λss R=>match ss with
 |[s]=>match items s with
  |some xs=>R (.d (.int ↥xs))
  |none=>False
 |_=>False
theorem aR:Kp X (.builtin "len") aN:=
 Gx Ml λxs H Q hh=>by
  obtain⟨z,ss,R,hz,ha,h3,q⟩:=hh;unfold aN at h3;split at h3
  .rename_i s;split at h3
   .rename_i ys hy;obtain⟨v,rfl,h⟩:=Uc ha;cases s with
    |d z=>
     cases z with
     |tup zs=>
      cases hy;obtain⟨p,vs,rfl,h1,h2⟩:=Is.tup_inv h;exact#[p,vs,rfl,.inr (SqT.same hz h1),by rw[h2.1];exact q (.d _) _ #[H,z] (Ext.refl hz) (Is.int _) Ga h3]
     |lst zs=>
      cases hy;obtain⟨p,vs,rfl,h1,h2⟩:=Is.lst_inv h;exact#[p,vs,rfl,.inl (hz.seq h1),by rw[h2.1];exact q (.d _) _ #[H,z] (Ext.refl hz) (Is.int _) Ga h3]
     |_=>cases hy
    |l zs=>
     cases hy;obtain⟨p,vs,rfl,h1,h2⟩:=h;exact#[p,vs,rfl,.inl (SqL.of h1),by rw[h2.1];exact q (.d _) _ #[H,z] (Ext.refl hz) (Is.int _) Ga h3]
    |r zs=>
     cases hy;obtain⟨p,vs,rfl,h1,h2⟩:=h;exact#[p,vs,rfl,.inl h1,by rw[h2.1];exact q (.d _) _ #[H,z] (Ext.refl hz) (Is.int _) Ga h3]
   .exact h3.elim
  .exact h3.elim
inductive Ty where
 |int|bool|tuple|str|list
def Wo:Ty->String
 |.int=>"int"
 |.bool=>"bool"
 |.tuple=>"tuple"
 |.str=>"str"
 |.list=>"list"
def Zr:Ty->S->Bool
 |.int,.d (.int _)=>true
 |.int,.d (.bl _)=>true
 |.bool,.d (.bl _)=>true
 |.tuple,.d (.tup _)=>true
 |.str,.d (.str _)=>true
 |.list,.l _=>true
 |.list,.r _=>true
 |.list,.d (.lst _)=>true
 |_,_=>false
def bO:S->Prop
 |.d (.ty _)=>False
 |.d (.ref _)=>False
 |_=>True
theorem To (k:Ty):HE X (.builtin "isinstance") (λxs H Q=>∃z x s,BQ z H/\xs=[x,.ty (Wo k)]/\IsS X.K #[H,z] x s/\bO s/\Q (.bl (Zr k s)) H):=by
 intro pins s σ H xs us Q I rs h;obtain⟨zz,x,z,hz,rfl,h1,h2,q⟩:=h;obtain⟨v',u',rfl,r1,r2⟩:=XZ rs;cases r2;have fin:∀tk,EP X pins σ Q (.bool (Zr k z)) { s with toks:=tk }:=λtk=>#[.bl _,H,I.tok tk,rfl,q];cases z with
 |d z=>
  cases z with
  |non=>cases Is.non_inv h1;exact GW I r1 .non (by cases k<;>kernel_rfl) fin
  |bl y=>cases Is.bl_inv h1;exact GW I r1 (.bl y) (by cases k<;>kernel_rfl) fin
  |int y=>cases Is.int_inv h1;exact GW I r1 (.int y) (by cases k<;>kernel_rfl) fin
  |str y=>cases Is.str_inv h1;exact GW I r1 (.str y) (by cases k<;>kernel_rfl) fin
  |ty y=>exact h2.elim
  |ref y=>exact h2.elim
  |lst y=>
   obtain⟨p,vs,rfl,g1,g2⟩:=Is.lst_inv h1;cases r1;obtain⟨its,_,pl,_⟩:=I.list (hz.seq g1);obtain⟨o,n',e1,e2,_⟩:=pl;exact qAU qBQ I.kIn #[o,e1,e2] (by cases k<;>kernel_rfl) (λz=>nomatch z) fin
  |tup y=>
   obtain⟨p,vs,rfl,g1,g2⟩:=Is.tup_inv h1;cases r1;obtain⟨its,_,pl,_⟩:=I.tuple (SqT.same hz g1);obtain⟨o,e1,e2,_⟩:=pl;exact qAU W.kitx_tuple I.kIn #[o,e1,e2] (by cases k<;>kernel_rfl) (λz=>nomatch z) fin
 |l y=>
  obtain⟨p,vs,rfl,g1,g2⟩:=h1;cases r1;obtain⟨its,_,pl,_⟩:=I.list (SqL.of g1);obtain⟨o,n',e1,e2,_⟩:=pl;exact qAU qBQ I.kIn #[o,e1,e2] (by cases k<;>kernel_rfl) (λz=>nomatch z) fin
 |r y=>
  obtain⟨p,vs,rfl,g1,g2⟩:=h1;cases r1;obtain⟨its,_,pl,_⟩:=I.list g1;obtain⟨o,n',e1,e2,_⟩:=pl;exact qAU qBQ I.kIn #[o,e1,e2] (by cases k<;>kernel_rfl) (λz=>nomatch z) fin
def cK (k:Ty)(te:TE3):TE3:=λτ R=>te τ λx=>bO x/\R (.d (.bl (Zr k x)))
theorem ML (k:Ty){y:Str}{p p2:Pos}(ha:PE3 X e te)(hg:Gl X "isinstance")(hm:X.mg "isinstance"=none)(hg2:Gl X y)(hm2:X.mg y=none)(hv:bootBuiltins y=some (.type (Wo k)))
 (hn:y≠"__name__":=by decide)(hd:(y==("__debug__":Str))=false:=by decide)
 (he:starEach [e,.Name y p2] X.env=(false,eval e X.env)::starEach [.Name y p2] X.env:=by exact Dv rfl)(he2:starEach [.Name y p2] X.env=(false,eval (.Name y p2) X.env)::starEach [] X.env:=by exact Dv rfl)(hpl:(backTo pos (starEach [.Name y p2] X.env)).any (·.1)=false:=by exact FZ rfl) :
 PE3 X (.Call (.Name "isinstance" p) [e,.Name y p2] [] pos) (cK k te):=#[BJ (Io (To k) hg hm PyProof.Rows.boot_isinstance (A7 ha.out (A7 (Vk (v:=.ty (Wo k)) hg2 hm2 hv rfl hn hd) BL he2) he) (he:=he) (hpl:=hpl)) λσ H Q #[B,z,τ,R,r,ht,q]=>
 #[B,_,τ,_,r,ht,λs v H1 e1 i1 f1 h1=>#[H1.z,v,s,e1.sub,rfl,i1,h1.1,q (.d _) _ H1 e1 (Is.bl _) Ga h1.2]]]
abbrev Sp3:=List S->(S->Prop)->(Str->Prop)->Prop
def Ag (K:W.Frag)(mg:Str->Option Value)(sp:Sp3):Sp:=λvs H Q E=>∃z ss R U,BQ z H/\Args K #[H,z] vs ss/\sp ss R U/\(∀s v q,Ext #[H,z] q->IsS K q v s->Fr3 K #[H,z] q v s->R s->Q v q.h) /\
 ∀x C H',BQ H H'->mg x=some (.ref C)->U x->E (.ref C) none H'
structure Cal (P:Program)(w:World)(K:W.Frag)(mg:Str->Option Value)(base:Heap)(CX:CXT)(k:Nat)(x:Str)(ps:List Str)(sp:Sp3):Prop where
 ex:∃f fd,Ap P w K mg base CX k f fd ps (Ag K mg sp)/\mg x=some (.ref f)/\W.keepIn K (.ref f)=true/\Binds K fd ps []
def NoU:Str->Prop:=λ_=>False
variable {st:Stmt}{rest':List Stmt}{t u:TS3}
def ZS:TS3:=λD3 τ=>D3.nx τ
def cI (t u:TS3):TS3:=λD3 τ=>t { D3 with nx:=u D3 } τ
def eF (t u:TS3):TS3:=λD3 τ=>∃mid:Tau->Prop,t { D3 with nx:=mid } τ/\∀τ',mid τ'->u D3 τ'
theorem Aj:Dt X [] ZS:=#[HK VX λ_ _ _ #[_,_,_,_,r,ht,c]=>c.nx _ _ _ r ht]
theorem Ah (h:PS3 X st t):Dt X [st] t:=#[WQ h.out]
theorem Aa (h1:PS3 X st t)(h2:Dt X rest' u):Dt X (st::rest') (cI t u):=#[HK (Oq h1.out h2.out) λD2 σ H hh=>by obtain⟨B,z,τ,D3,r,ht,c⟩:=hh;exact#[B,_,τ,{ D3 with nx:=u D3 },r,ht,#[λτ' σ' p' r' h'=>#[B,_,τ',D3,r',h',c],c.bk,c.ct,c.rt]]]
theorem Cy (h1:PS3 X st t)(h2:Dt X rest' u):Dt X (st::rest') (eF t u):=#[HK (Oq h1.out h2.out) λD2 σ H #[B,z,τ,D3,r,#[mid,ht,hm],c]=>#[B,_,τ,{ D3 with nx:=mid },r,ht,#[λτ' σ' p' r' h'=>#[B,_,τ',D3,r',hm τ' h',c],c.bk,c.ct,c.rt]]]
def sGd (t u:TS3):TS3:=λD3 τ=>t { D3 with nx:=λτ'=>τ'=τ } τ/\u D3 τ
theorem LZ (h1:PS3 X st t)(h2:Dt X rest' u):Dt X (st::rest') (sGd t u):=#[HK (Cy h1 h2).out λD2 σ H #[B,z,τ,D3,r,#[ht,hu],c]=>#[B,_,τ,D3,r,#[λτ'=>τ'=τ,ht,λτ' e=>by subst e;exact hu],c]]
def Xg:TS3:=λ_ _=>False
theorem SA:PS3 X st Xg:=#[CQ Ti λ_ _ _ #[_,_,_,_,_,h,_]=>h.elim]
def Z1 (te:TE3):TS3:=λD3 τ=>te τ λ_=>D3.nx τ
theorem Rc (he:PE3 X e te)(hs:swapsWith e none pos.line X.env=pure false:=by rfl):PS3 X (.Expr e pos) (Z1 te):=#[CQ (BF he.out hs) λD2 σ H hh=>by obtain⟨B,z,τ,D3,r,ht,c⟩:=hh;exact#[B,_,τ,_,r,ht,λs v H' e i f h=>c.nx _ _ _ (r.mono e) h]]
def bN (te:TE3):TS3:=λD3 τ=>te τ D3.rt
theorem Z0 (he:PE3 X e te):PS3 X (.Return (some e) pos) (bN te):=#[CQ (UB he.out) λD2 σ H hh=>by obtain⟨B,z,τ,D3,r,ht,c⟩:=hh;exact#[B,_,τ,_,r,ht,λs v H' e i f h=>c.rt s v H' (r.ext.trans e) i (K7 r.ext f) h]]
def Yv (i:Nat):TS3:=λD3 τ=>match τ[i]? with
 |some (some s)=>D3.rt s
 |_=>False
theorem Di {i:Nat}{x:Str}{pos':Pos}(h:PE X (.Name x pos') (P7 i)):PS3 X (.Return (some (.Name x pos')) pos) (Yv i):=#[CQ (UB h) λD2 σ H hh=>by
 obtain⟨B,z,τ,D3,r,ht,c⟩:=hh;unfold Yv at ht;split at ht
 .rename_i s hs;obtain⟨v,h1,h2⟩:=r.val i s hs;exact#[v,h1,c.rt s v #[H,z] r.ext h2 (λxs a e1 e2=>r.own i xs a (by rw[<-e1];exact hs) (by rw[<-e2];exact h1)) ht]
 .exact ht.elim]
def sIf (c:TT3)(t u:TS3):TS3:=λD3 τ=>c τ λb=>if b=true then t D3 τ else u D3 τ
theorem BB {c:Expr}{as bs:List Stmt}{tc:TT3}(hc:PT3 X c tc)(ha:Dt X as t)(hb:Dt X bs u):PS3 X (.If c as bs pos) (sIf tc t u):=#[CQ (aC hc.out ha.out hb.out) λD2 σ H hh=>by obtain⟨B,z,τ,D3,r,ht,c⟩:=hh;exact#[B,_,τ,_,r,ht,λb H1 e h=>by
 cases b with
 |true=>rw[if_pos rfl]at h ⊢;exact#[B,_,τ,D3,r.mono e,h,c]
 |false=>rw[if_neg qAr]at h ⊢;exact#[B,_,τ,D3,r.mono e,h,c]]]
def Y4 (i:Nat)(te:TE3):TS3:=λD3 τ=>te τ λs=>match s with
 |.r _=>False
 |.d x=>D3.nx (τ.set i (some (.d x)))
 |.l xs=>D3.nx (τ.set i (some (.l xs)))
theorem ZR {i:Nat}{x:Str}{pos':Pos}(hN:X.N.Nodup)(hi:X.N[i]? = some x)(hx:Loc X.env.scope x)(he:PE3 X e te)(hs:swapsWith e (some (.Name x pos')) pos.line X.env=pure false:=by rfl)(hf:X.fn x=true\/X.env.scope.names.lookup x=some .local:=by first|exact .inl rfl|exact .inr rfl|assumption)(hp:E9 X i:=by first|exact Fj rfl|exact E8 rfl ∅|assumption) :
 PS3 X (.Assign [.Name x pos'] e pos) (Y4 i te):=#[CQ (YV hN hi hx he.out hs hf) λD2 σ H hh=>by obtain⟨B,z,τ,D3,r,ht,c⟩:=hh;exact#[B,_,τ,_,r,ht,λs v H' e i f h=>by
 cases s with
 |r _=>exact h.elim
 |d y=>exact c.nx _ _ _ (r.set e i f rfl hp) h
 |l ys=>exact c.nx _ _ _ (r.set e i f rfl hp) h]]
theorem Rep.push {B:HZ}{H z:Hp}{τ:Tau}{σ:St}{i:Nat}{xs:List D}{l:Addr}{vs:List V}{w:V}{d:D}(r:Rep X B τ σ #[H,z])(hi:τ[i]? = some (some (.l xs)))(hσ:σ[i]? = some (some (.ref l)))
 (hl:H l=some (.lst vs))(hv:Iss X.K z vs xs)(iw:Is X.K z w d):Rep X B (τ.set i (some (.l (xs++[d])))) σ #[upd H l (.lst (vs++[w])),z]:=by
 obtain⟨o1,o2,o3⟩:=r.own i xs l hi hσ;refine#[by simp[r.len],#[λb o h=>?_,r.ext.zz,λb o h=>?_,r.ext.new],λj s hj=>?_,λj ys a hj ha=>?_,λj k ys s a hjk hj hk hs ha=>?_,r.top,r.pin]
 .have hb:b≠l:=by
   rintro rfl;rw[h]at o1;cases o1
  show upd H l _ b=some o;rw[Ao hb];exact r.ext.hh b o h
 .have hb:b≠l:=by
   rintro rfl;have h':z b=some o:=h;rw[show z b=none from o3]at h';cases h'
  show upd H l _ b=some o;rw[Ao hb];exact r.ext.sub b o h
 .rcases Ay hj with⟨rfl,rfl⟩|⟨hn,hj⟩
  .exact#[.ref l,hσ,l,_,rfl,Au,hv.snoc iw]
  .obtain⟨v,h1,h2⟩:=r.val j s hj;refine#[v,h1,?_];cases s with
   |d x=>exact h2
   |l ys=>
    obtain⟨b,ws,rfl,h3,h4⟩:=h2;have hb:b≠l:=by
     rintro rfl;exact r.sep i j xs (.l ys) b (λz=>hn z.symm) hi hj rfl hσ h1
    exact#[b,ws,rfl,by show upd H l _ b=_;rw[Ao hb];exact h3,h4]
   |r ys=>
    obtain⟨b,ws,rfl,h3,h4⟩:=h2;have hb:b≠l:=by
     rintro rfl;exact r.sep i j xs (.r ys) b (λz=>hn z.symm) hi hj rfl hσ h1
    refine#[b,ws,rfl,?_,h4];rcases h3 with (h3|⟨o,h3⟩)|h3
    .exact .inl (.inl (by show upd H l _ b=_;rw[Ao hb];exact h3))
    .exact .inl (.inr #[o,by show upd H l _ b=_;rw[Ao hb];exact h3])
    .exact .inr h3
 .rcases Ay hj with⟨rfl,_⟩|⟨hn,hj⟩
  .exact r.own j xs a hi ha
  .exact r.own j ys a hj ha
 .rcases Ay hj with⟨rfl,_⟩|⟨hn,hj'⟩
  .rcases Ay hk with⟨e3,_⟩|⟨hkn,hk'⟩
   .exact absurd e3.symm hjk
   .exact r.sep j k xs s a hjk hi hk' hs ha
  .rcases Ay hk with⟨rfl,rfl⟩|⟨hkn,hk'⟩
   .exact r.sep j k ys (.l xs) a hjk hj' hi rfl ha
   .exact r.sep j k ys s a hjk hj' hk' hs ha
def aX (i:Nat)(te:TE3):TS3:=λD3 τ=>match τ[i]? with
 |some (some (.l xs))=>te τ λs=>dd s.arg λd=>↥xs<1000000/\D3.nx (τ.set i (some (.l (xs++[d]))))
 |_=>False
theorem EU {i:Nat}{o:Expr}{apos cpos:Pos}(h:PS X (.Expr (.Call (.Attribute o "append" apos) [e] [] cpos) pos) (Yc (tBM X.K "list" QV (P7 i) (Ww (FE X te) ZG)))) :
 PS3 X (.Expr (.Call (.Attribute o "append" apos) [e] [] cpos) pos) (aX i te):=#[CQ h λD2 σ H hh=>by
 obtain⟨B,z,τ,D3,r,ht,c⟩:=hh;unfold aX at ht;split at ht
 .rename_i xs hs;obtain⟨v,h1,a,vs,rfl,h2,h3⟩:=r.val i _ hs;refine#[.ref a,h1,.inl #[rfl,vs,SqL.of h2],B,_,τ,_,r,ht,λs v H' e i' f h=>?_];obtain⟨d,hd,h4,h5⟩:=EY h;obtain⟨z',e',i''⟩:=EW e i' f;rw[hd]at i'';have sz:(1000000:Nat)<sizeLine:=∅;exact#[a,vs,v,rfl,rfl,e.hh _ _ h2,by rw[h3.1];omega,c.nx _ _ _ ((r.mono e').push hs h1 (e.hh _ _ h2) (h3.mono e'.zz) i'') h5]
 .exact ht.elim]
def X5 (c:TT3)(tb:TS3):TS3:=λD3 τ=>∃W:Nat->Tau->Prop,(∃m,W m τ)/\∀m τ,W m τ ->
 c τ λb=>if b=true then tb { D3 with nx:=λτ'=>∃m',m'<m/\W m' τ',ct:=λτ'=>∃m',m'<m/\W m' τ',bk:=D3.nx } τ else D3.nx τ
theorem Hr {c:Expr}{body:List Stmt}{tc:TT3}{tb:TS3}(hp:PassesOwn (model X.prog X.w) X.A X.env X.xe)(hc:PT3 X c tc)(hb:Dt X body tb):PS3 X (.While c body [] pos) (X5 tc tb):=#[CQ (S5 hp hc.out hb.out) λD2 σ H hh=>by
 obtain⟨B,z,τ,D3,r,⟨W,⟨m0,w0⟩,turn⟩,c⟩:=hh;refine#[λm σ H=>∃z τ,Rep X B τ σ #[H,z]/\W m τ,#[m0,z,τ,r,w0],?_];rintro m σ1 H1 ⟨z1,τ1,r1,w1⟩;refine#[B,_,τ1,_,r1,turn m τ1 w1,λb H2 e h=>?_];cases b with
 |true=>
  rw[if_pos rfl]at h ⊢;refine#[λσ' H'=>∃m',m'<m/\∃z τ,Rep X B τ σ' #[H',z]/\W m' τ,λσ' H' #[m',h1,h2]=>#[m',h1,h2],B,_,τ1,_,r1.mono e,h,#[?_,c.nx,?_,c.rt]]
  .rintro τ' σ' p' r' ⟨m',h1,h2⟩;exact#[m',h1,p'.z,τ',r',h2]
  .rintro τ' σ' p' r' ⟨m',h1,h2⟩;exact#[m',h1,p'.z,τ',r',h2]
 |false=>
  rw[if_neg qAr]at h ⊢;exact c.nx _ _ _ (r1.mono e) h]
def JX (i:Nat)(xs:List D)(tb:TS3)(D3:MT)(τ0:Tau):Prop:=∃I:Nat->Tau->Prop,I 0 τ0 /\
 (∀n τ x,xs[n]? = some x->I n τ->tb { D3 with nx:=I (n+1),ct:=I (n+1),bk:=D3.nx } (τ.set i (some (.d x))))/\∀τ,I ↥xs τ->D3.nx τ
theorem Rep.setd {B p:HZ}{τ:Tau}{σ:St}{i:Nat}{v:V}{x:D}(r:Rep X B τ σ p)(h:Is X.K p.z v x)(hp:E9 X i):Rep X B (τ.set i (some (.d x))) (σ.set i (some v)) p:=
 r.set (s:=.d x) (Ext.refl r.ext.sub) h Ga rfl hp
theorem W2.inB {B B':HZ}{D3:MT}{D2:PD}{I:Tau->Prop}{N:St->Hp->Prop}(e:LeB X B B')(c:W2 X B D3 D2)(hN:∀τ σ p,Rep X B' τ σ p->I τ->N σ p.h) :
 W2 X B' { D3 with nx:=I,ct:=I,bk:=D3.nx } { D2 with nx:=N,ct:=N,bk:=D2.nx }:=
 #[hN,λτ σ H r h=>c.nx τ σ H (r.outB e) h,hN,λs v q h1 h2 h3 h4=>c.rt s v q (e.ext h1) h2 (λxs a x1 x2=>#[e.hh.free (h3 xs a x1 x2).1,(h3 xs a x1 x2).2]) h4]
theorem EC {K:W.Frag}{H:Hp}{vs:List V}{xs:List D}{n:Nat}{v:V}(h:Iss K H vs xs)(e:vs[n]? = some v):∃x,xs[n]? = some x/\Is K H v x:=by
 have hn:=(qAf.mp e).1;have hx:xs[n]? = some (xs[n]'(by rw[<-h.1];exact hn)):=qAc (by rw[<-h.1];exact hn);exact#[_,hx,h.2 n v _ e hx]
theorem Lv {B:HZ}{τ:Tau}{σ:St}{H z:Hp}{D2:PD}{D3:MT}{a:Addr}{vs:List V}{xs:List D}{i:Nat}{tb:TS3}(r:Rep X B τ σ #[H,z])(c:W2 X B D3 D2)(hs:SqL X.K H a vs)(hv:Iss X.K z vs xs)
 (hno:∀(j:Nat)(ys:List D),τ[j]? = some (some (S.l ys))->σ[j]?≠some (some (V.ref a)))(h:JX i xs tb D3 τ)(hp:E9 X i) :
 ∃W:Nat->Nat->St->Hp->Prop,(∃m,W 0 m σ H)/\∀n m σ H,W n m σ H ->
  ((Itl X.K a).stop n H/\D2.nx σ H)\/((Itl X.K a).go n H/\∃N:St->Hp->Prop,(∀σ' H',N σ' H'->∃m',m'<m/\W (n+1) m' σ' H')/\∀x H',(Itl X.K a).yld n H x H'->Fo i x σ H' λσ2 H2=>FS X tb { D2 with nx:=N,ct:=N,bk:=D2.nx } σ2 H2):=by
 obtain⟨I,i0,turn,out⟩:=h;have hB:SqL X.K (Nj τ σ H) a vs:=by
  rcases hs with (hs|⟨o,hs⟩)|hs
  .exact .inl (.inl (by rw[IB hno];exact hs))
  .exact .inl (.inr #[o,by rw[IB hno];exact hs])
  .exact .inr hs
 refine TF (K:=X.K) (a:=a) (xs:=vs) (g:=Fo i) (tb:=FS X tb) (D:=D2) (λn σ1 H1=>∃z1 τ1,Rep X #[Nj τ σ H,z] τ1 σ1 #[H1,z1]/\I n τ1) #[z,τ,r.inB,i0] (λn σ1 H1 _ #[z1,τ1,r1,_]=>r1.ext.hh.seq hB) ?_ ?_
 .rintro n v σ1 H1 hn ⟨z1,τ1,r1,i1⟩;obtain⟨x,hx,ix⟩:=EC hv hn;exact#[_,_,_,_,r1.setd (ix.mono r1.ext.zz) hp,turn n τ1 x hx i1,c.inB r.leB λτ' σ' p' r' h'=>#[p'.z,τ',r',h']]
 .rintro σ1 H1 ⟨z1,τ1,r1,i1⟩;exact c.nx _ _ _ (r1.outB r.leB) (out τ1 (by rw[<-hv.1];exact i1))
theorem UI {B:HZ}{τ:Tau}{σ:St}{H z:Hp}{D2:PD}{D3:MT}{a:Addr}{vs:List V}{xs:List D}{i:Nat}{tb:TS3}(r:Rep X B τ σ #[H,z])(c:W2 X B D3 D2)(hs:SqT X.K z a vs)(hv:Iss X.K z vs xs)
 (h:JX i xs tb D3 τ)(hp:E9 X i) :
 ∃W:Nat->Nat->St->Hp->Prop,(∃m,W 0 m σ H)/\∀n m σ H,W n m σ H ->
  ((Itt X.K a).stop n H/\D2.nx σ H)\/((Itt X.K a).go n H/\∃N:St->Hp->Prop,(∀σ' H',N σ' H'->∃m',m'<m/\W (n+1) m' σ' H')/\∀x H',(Itt X.K a).yld n H x H'->Fo i x σ H' λσ2 H2=>FS X tb { D2 with nx:=N,ct:=N,bk:=D2.nx } σ2 H2):=by
 obtain⟨I,i0,turn,out⟩:=h;refine W0 (K:=X.K) (a:=a) (xs:=vs) (g:=Fo i) (tb:=FS X tb) (D:=D2) (λn σ1 H1=>∃z1 τ1,Rep X #[Nj τ σ H,z] τ1 σ1 #[H1,z1]/\I n τ1) #[z,τ,r.inB,i0] (λn σ1 H1 _ #[z1,τ1,r1,_]=>SqT.same (r1.ext.zz.trans r1.ext.sub) hs) ?_ ?_
 .rintro n v σ1 H1 hn ⟨z1,τ1,r1,i1⟩;obtain⟨x,hx,ix⟩:=EC hv hn;exact#[_,_,_,_,r1.setd (ix.mono r1.ext.zz) hp,turn n τ1 x hx i1,c.inB r.leB λτ' σ' p' r' h'=>#[p'.z,τ',r',h']]
 .rintro σ1 H1 ⟨z1,τ1,r1,i1⟩;exact c.nx _ _ _ (r1.outB r.leB) (out τ1 (by rw[<-hv.1];exact i1))
def Xb (K:W.Frag)(tl:TE):TI:=λσ H R=>tl σ H λx H1=>∃a,x=.ref a/\(((∃xs,SqL K H1 a xs)/\R (Itl K a) H1)\/((∃xs,SqT K H1 a xs)/\R (Itt K a) H1))
theorem Bl {tg l:Expr}{tl:TE}(hl:PE X l tl):PI X tg l (Xb X.K tl):=by
 intro pins s σ H R I h;refine thn (hl pins s σ H _ I h) λv s1 hh9=>?_;obtain⟨x,H1,I1,r1,q1⟩:=hh9;obtain⟨a,e,⟨⟨xs,hq⟩,q⟩|⟨⟨xs,hq⟩,q⟩⟩:=q1
 .subst e;cases r1;obtain⟨its,rv,p,hz⟩:=I1.list hq;refine wpAny_pyIter_list p.isList ?_;refine#[s1.heap.objs.size,[s1.heap.objs.size],_,_,H1,rfl,I1.kept (t':=s1.toks) λb o e=>qAi _ e,Rx a _,#[_,qAF _ rfl,rfl,rfl],λb hb=>?_,q];have e:b=s1.heap.objs.size:=by simpa using hb
  subst e;exact I1.fpOk (qAg _) (I1.hok.fresh (qAg _))
 .subst e;cases r1;obtain⟨its,rv,p,hz⟩:=I1.tuple hq;refine wpAny_pyIter_tuple (show s1.heap.IsTuple a its.toArray from p) ?_;refine#[s1.heap.objs.size,[s1.heap.objs.size],_,_,H1,rfl,I1.kept (t':=s1.toks) λb o e=>qAi _ e,Pk a _,#[_,qAF _ rfl,rfl,rfl],λb hb=>?_,q];have e:b=s1.heap.objs.size:=by simpa using hb
  subst e;exact I1.fpOk (qAg _) (I1.hok.fresh (qAg _))
theorem Rep.notown {B:HZ}{τ:Tau}{σ:St}{p:HZ}{a:Addr}{o:HO}(r:Rep X B τ σ p)(h:p.z a=some o):∀(j:Nat)(ys:List D),τ[j]? = some (some (S.l ys))->σ[j]?≠some (some (V.ref a)):=λj ys h1 h2=>by
 have:=(r.own j ys a h1 h2).2.2;rw[h]at this;cases this
theorem Kk {B:HZ}{τ:Tau}{σ:St}{p:HZ}{a:Addr}{vs:List V}(r:Rep X B τ σ p)(h:SqL X.K p.z a vs):∀(j:Nat)(ys:List D),τ[j]? = some (some (S.l ys))->σ[j]?≠some (some (V.ref a)):=by
 rcases h with (h|⟨o,h⟩)|⟨o,its,n,h,_⟩
 .exact r.notown h
 .exact r.notown h
 .intro j ys h1 h2;have:=(r.own j ys a h1 h2).2.1;rw[h]at this;cases this
def Xr (j i:Nat)(tb:TS3):TS3:=λD3 τ=>match τ[j]? with
 |some (some (.d (.tup xs)))=>JX i xs tb D3 τ
 |some (some (.d (.lst xs)))=>JX i xs tb D3 τ
 |some (some (.l xs))=>JX i xs tb D3 (τ.set j (some (.r xs)))
 |some (some (.r xs))=>JX i xs tb D3 (τ.set j (some (.r xs)))
 |_=>False
theorem Uh {j i:Nat}{x y:Str}{px py:Pos}{body:List Stmt}{tb:TS3}(h:PS X (.For (.Name x px) (.Name y py) body [] pos) (Va (Xb X.K (P7 j)) (Fo i) (FS X tb)))(hp:E9 X i:=by first|exact Fj rfl|exact E8 rfl ∅|assumption):PS3 X (.For (.Name x px) (.Name y py) body [] pos) (Xr j i tb):=#[CQ h λD2 σ H hh=>by
 obtain⟨B,z,τ,D3,r,ht,c⟩:=hh;have lists:∀(s:S)(xs:List D),τ[j]? = some (some s)->s.share=.r xs->JX i xs tb D3 (τ.set j (some (.r xs)))->Va (Xb X.K (P7 j)) (Fo i) (FS X tb) D2 σ H:=λs xs hs hx ht=>by
  obtain⟨v,h1,h2⟩:=r.val j s hs;have h2':=h2.share;rw[hx]at h2';obtain⟨a,vs,rfl,h3,h4⟩:=h2';have r':=r.freeze hs hx;refine#[.ref a,h1,a,rfl,.inl #[#[vs,h3],Lv r' c h3 h4 (λm ys hm hσ=>?_) ht hp]];rcases Ay hm with⟨rfl,z⟩|⟨hn,hm'⟩
  .cases z
  .have hl:j<↥τ:=(qAf.mp hs).1;exact r'.sep m j ys (.r xs) a hn hm (by rw[qBx hl]) rfl hσ h1
 unfold Xr at ht;split at ht
 .rename_i xs hs;obtain⟨v,h1,h2⟩:=r.val j _ hs;obtain⟨a,vs,rfl,h3,h4⟩:=Is.tup_inv h2;exact#[.ref a,h1,a,rfl,.inr #[#[vs,SqT.same r.ext.sub h3],UI r c h3 h4 ht hp]]
 .rename_i xs hs;obtain⟨v,h1,h2⟩:=r.val j _ hs;obtain⟨a,vs,rfl,h3,h4⟩:=Is.lst_inv h2;exact#[.ref a,h1,a,rfl,.inl #[#[vs,r.ext.sub.seq h3],Lv r c (r.ext.sub.seq h3) h4 (Kk r h3) ht hp]]
 .rename_i xs hs;exact lists _ xs hs rfl ht
 .rename_i xs hs;exact lists _ xs hs rfl ht
 .exact ht.elim]
def Zn (i:Nat)(te:TE3)(tb:TS3):TS3:=λD3 τ=>te τ λs=>match s with
 |.l xs=>JX i xs tb D3 τ
 |.d (.tup xs)=>JX i xs tb D3 τ
 |.d (.lst xs)=>JX i xs tb D3 τ
 |_=>False
theorem Ds {i:Nat}{x:Str}{px:Pos}{body:List Stmt}{tb:TS3}(h:PS X (.For (.Name x px) e body [] pos) (Va (Xb X.K (FE X te)) (Fo i) (FS X tb)))(hp:E9 X i:=by first|exact Fj rfl|exact E8 rfl ∅|assumption):PS3 X (.For (.Name x px) e body [] pos) (Zn i te tb):=#[CQ h λD2 σ H hh=>by
 obtain⟨B,z,τ,D3,r,ht,c⟩:=hh;refine#[B,_,τ,_,r,ht,λs v H1 e1 i1 f1 h1=>?_];split at h1
 .rename_i xs;obtain⟨a,vs,rfl,h3,h4⟩:=i1;refine#[a,rfl,.inl #[#[vs,SqL.of h3],Lv (r.mono e1) c (SqL.of h3) h4 (λm ys hm hσ=>?_) h1 hp]];obtain⟨ws,hw,_⟩:=r.own_list hm hσ;have:=(f1 xs a rfl rfl).1;rw[hw]at this;cases this
 .rename_i xs;obtain⟨a,vs,rfl,h3,h4⟩:=Is.tup_inv i1;exact#[a,rfl,.inr #[#[vs,SqT.same e1.sub h3],UI (r.mono e1) c h3 h4 h1 hp]]
 .rename_i xs;obtain⟨a,vs,rfl,h3,h4⟩:=Is.lst_inv i1;exact#[a,rfl,.inl #[#[vs,e1.sub.seq h3],Lv (r.mono e1) c (e1.sub.seq h3) h4 (Kk (r.mono e1) h3) h1 hp]]
 .exact h1.elim]
def bA (i:Nat)(t:TS3):TS3:=λD3 τ=>match τ[i]? with
 |some (some (.l xs))=>t D3 (τ.set i (some (.d (.lst xs))))
 |_=>False
theorem Xu {sts:List Stmt}(i:Nat)(h:Dt X sts t):Dt X sts (bA i t):=#[HK h.out λD2 σ H hh=>by
 obtain⟨B,z,τ,D3,r,ht,c⟩:=hh;unfold bA at ht;split at ht
 .rename_i xs hs;obtain⟨z',r'⟩:=r.data hs;exact#[B,z',_,D3,r',ht,c]
 .exact ht.elim]
def bH (i:Nat)(lo st:Int)(cnt:Nat)(tb:TS3)(D3:MT)(τ0:Tau):Prop:=∃I:Nat->Tau->Prop,I 0 τ0 /\
 (∀(n:Nat) τ,n<cnt->I n τ->tb { D3 with nx:=I (n+1),ct:=I (n+1),bk:=D3.nx } (τ.set i (some (.d (.int (lo+n*st))))))/\∀τ,I cnt τ->D3.nx τ
def Z5 (i:Nat)(ta:TA3)(tb:TS3):TS3:=λD3 τ=>ta τ λss=>match ss with
 |[.d (.int j)]=>(-(2^62)<=j/\j<2^62)/\bH i 0 1 j.toNat tb D3 τ
 |_=>False
theorem QM {i:Nat}{x:Str}{px:Pos}{body:List Stmt}{tb:TS3}{ta:TA3}(h:PS X (.For (.Name x px) e body [] pos) (Va (XB (FA X ta)) (Fo i) (FS X tb)))(hp:E9 X i:=by first|exact Fj rfl|exact E8 rfl ∅|assumption):PS3 X (.For (.Name x px) e body [] pos) (Z5 i ta tb):=#[CQ h λD2 σ H hh=>by
 obtain⟨B,z,τ,D3,r,ht,c⟩:=hh;refine#[B,_,τ,_,r,ht,λss vs H1 e1 i1 h1=>?_];split at h1
 .rename_i j;obtain⟨v,rfl,hv⟩:=Uc i1;cases Is.int_inv hv;obtain⟨⟨q1,q2⟩,I,i0,turn,out⟩:=h1;refine#[j,rfl,q1,q2,Mw (lo:=0) (n:=j.toNat) (g:=Fo i) (tb:=FS X tb) (D:=D2) (λn σ1 H1=>∃z1 τ1,Rep X B τ1 σ1 #[H1,z1]/\I n τ1) #[_,τ,r.mono e1,i0] ?_ ?_]
  .rintro n σ1 H1 hn ⟨z1,τ1,r1,i1⟩;have tt:=turn n τ1 hn i1;rw[qCE]at tt;exact#[B,_,_,_,r1.setd (.int _) hp,tt,c.inB r.leR λτ' σ' p' r' h'=>#[p'.z,τ',r',h']]
  .rintro σ1 H1 ⟨z1,τ1,r1,i1⟩;exact c.nx _ _ _ r1 (out τ1 i1)
 .exact h1.elim]
def Zu (i:Nat)(ta:TA3)(tb:TS3):TS3:=λD3 τ=>ta τ λss=>match ss with
 |[.d (.int a),.d (.int j)]=>(-(2^62)<=a/\a<2^62/\-(2^62)<=j/\j<2^62)/\bH i a 1 (j-a).toNat tb D3 τ
 |_=>False
theorem Ol {i:Nat}{x:Str}{px:Pos}{body:List Stmt}{tb:TS3}{ta:TA3}(h:PS X (.For (.Name x px) e body [] pos) (Va (WK (FA X ta)) (Fo i) (FS X tb)))(hp:E9 X i:=by first|exact Fj rfl|exact E8 rfl ∅|assumption):PS3 X (.For (.Name x px) e body [] pos) (Zu i ta tb):=#[CQ h λD2 σ H hh=>by
 obtain⟨B,z,τ,D3,r,ht,c⟩:=hh;refine#[B,_,τ,_,r,ht,λss vs H1 e1 i1 h1=>?_];split at h1
 .rename_i a j;obtain⟨v,u,rfl,hv,hu⟩:=Vu i1;cases Is.int_inv hv;cases Is.int_inv hu;obtain⟨q1,I,i0,turn,out⟩:=h1;refine#[a,j,rfl,q1,Mw (lo:=a) (n:=(j-a).toNat) (g:=Fo i) (tb:=FS X tb) (D:=D2) (λn σ1 H1=>∃z1 τ1,Rep X B τ1 σ1 #[H1,z1]/\I n τ1) #[_,τ,r.mono e1,i0] ?_ ?_]
  .rintro n σ1 H1 hn ⟨z1,τ1,r1,i1⟩;have tt:=turn n τ1 hn i1;rw[qCE]at tt;exact#[B,_,_,_,r1.setd (.int _) hp,tt,c.inB r.leR λτ' σ' p' r' h'=>#[p'.z,τ',r',h']]
  .rintro σ1 H1 ⟨z1,τ1,r1,i1⟩;exact c.nx _ _ _ r1 (out τ1 i1)
 .exact h1.elim]
end
def CP (N:List Str)(ss:List S):Tau:=ss.map some++List.replicate (↥N-↥ss) none
theorem Ji {α:Type}{ss:List α}{m i:Nat}{s:α}(h:(ss.map some++List.replicate m (none:Option α))[i]? = some (some s)):ss[i]? = some s:=by
 by_cases hi:i<↥ss
 .rw[qAt (by simpa using hi),qAd]at h;cases e:ss[i]? with
  |none=>rw[e]at h;cases h
  |some a=>rw[e]at h;cases h;rfl
 .rw[qAw (by simpa using hi),qCx]at h;split at h<;>cases h
theorem EZ {X:Cx}{p:HZ}{N:List Str}{vs:List V}{ss:List S}(h:Args X.K p vs ss)(hz:BQ p.z p.h)(ht:BQ X.H₀ p.h)(hl:X.lent=none:=by rfl):Rep X p (CP N ss) (L2.start N vs) p:=by
 have no:∀(i:Nat)(xs:List D),¬(CP N ss)[i]? = some (some (.l xs)):=λi xs z=>by
  have z':=Ji z;have hi:=(qAf.mp z').1;have hv:vs[i]? = some (vs[i]'(by rw[h.1];exact hi)):=qAc (by rw[h.1];exact hi);have:=(h.2 i _ _ hv z').2;cases this
 refine#[by unfold L2.start CP;simp[h.1],Ext.refl hz,λi s hs=>?_,λi xs a z _=>absurd z (no i xs),λi j xs s a _ z _ _ _=>absurd z (no i xs),λ_=>ht,λk a hk=>by rw[hl]at hk;cases hk];have z':=Ji hs;have hi:=(qAf.mp z').1;have hl:i<↥vs:=by rw[h.1];exact hi
 have hv:vs[i]? = some vs[i]:=qAc hl;refine#[vs[i],?_,(h.2 i _ _ hv z').1];unfold L2.start;rw[qAt (by simpa using hl),qAd,hv];rfl
section
variable {P:Program}{w:World}{K:W.Frag}{mg:Str->Option Value}{base:Heap}
theorem fn3 {x qual:Str}{st:Stmt}{f:Addr}{fd:FuncData}{N ps:List Str}{k:Nat}{sp:Sp3}(F:Fun K x qual st f fd)(Sc:Ae N ps (Ac st))(len:∀ss R U,sp ss R U->↥ss=↥ps)
 (hbody:∀(cdv:Value)(A:Around)(outer:List Env)(s:Shared)(H:Hp)(E:XK)(ss:List S)(R:S->Prop)(U:Str->Prop),FI k (A.deeper (envOfC qual (Ac st) s.heap.objs.size f cdv))->sp ss R U ->
  ∃t,Dt (Md CX0 P w K mg base N qual (Ac st) f cdv A outer s H E).nox (CC st) t/\t { nx:=λ_=>R (.d .non),rt:=R } (CP N ss)):Ap P w K mg base CX0 (k+1) f fd ps (Ag K mg sp):=by
 refine F.ok Sc (λvs H Q E hh=>by obtain⟨z,ss,R,U,hz,ha,h3,_⟩:=hh;exact ha.1.trans (len ss R U h3)) λcdv A outer s H vs Q E hr hh9=>?_;obtain⟨z,ss,R,U,hz,ha,h3,q,qe⟩:=hh9;obtain⟨t,ht,hq⟩:=hbody cdv A outer s H E ss R U hr h3;exact#[_,ht.out,#[H,z],z,CP N ss,_,EZ ha hz (BQ.refl H),hq,#[λτ σ p r h=>q (.d .non) _ p r.ext Is.non Ga h,λ_ _ _ _ z=>z.elim,λ_ _ _ _ z=>z.elim,λs v p e i f h=>q s v p e i f h]]
end
def OP:Sp3:=λss R _=>∃ns:List Int,ss=[.r (ns.map D.int)]/\↥ns<=63/\R (.d (.bl true))
theorem LB {K:W.Frag}{H:Hp}(ns:List Int):Iss K H (ns.map V.int) (ns.map D.int):=by
 refine#[by simp,λi v x h1 h2=>?_];rw[qAd]at h1 h2;cases e:ns[i]? with
 |none=>rw[e]at h1;cases h1
 |some n=>
  rw[e]at h1 h2;cases h1;cases h2;exact .int n
section
variable {X:Cx}{tg:Expr}
variable {e:Expr}{pos:Pos}
end
def NM:D->Bool
 |.non=>true
 |.bl _=>true
 |.int _=>true
 |.str _=>true
 |_=>false
def ED:Nat->D->Bool
 |0,x=>NM x
 |n+1,.tup xs=>xs.all (ED n)
 |_+1,x=>NM x
def eqF:D->D->Bool
 |.non,.non=>true
 |.bl a,.bl b=>a==b
 |.bl a,.int b=>(if a then 1 else 0)==b
 |.int a,.bl b=>a==(if b then 1 else 0)
 |.int a,.int b=>a==b
 |.str a,.str b=>a==b
 |_,_=>false
def eqN:Nat->D->D->Bool
 |0,x,y=>eqF x y
 |n+1,.tup xs,.tup ys=>(xs.zip ys).all (λp=>eqN n p.1 p.2)&&↥xs==↥ys
 |_+1,.tup _,_=>false
 |_+1,_,.tup _=>false
 |_+1,x,y=>eqF x y
theorem IF:∀(n:Nat)(x:D),ED n x=true->eqN n x x=true
 |0,x,h=>by cases x<;>first|rfl|(exact beq_self_eq_true _)|cases h
 |n+1,x,h=>by
  cases x with
  |tup xs=>
   have h':xs.all (ED n)=true:=h;show((xs.zip xs).all (λp=>eqN n p.1 p.2)&&↥xs==↥xs)=true;rw[beq_self_eq_true,qCp,qAN];rintro⟨a,b⟩ hp;obtain⟨i,hi⟩:=qCf hp;rw[qBr]at hi;obtain⟨h1,h2⟩:=hi;have e:a=b:=qAo (h1.symm.trans h2);subst e;exact IF n a (qAN.mp h' a (qAB h1))
  |_=>first|rfl|(exact beq_self_eq_true _)|cases h
theorem Is.flatV {K:W.Frag}{H:Hp}{v:V}{x:D}(h:Is K H v x)(f:NM x=true):flatV v=true:=by
 cases h<;>first|rfl|cases f
theorem W8 {K:W.Frag}{H:Hp}{v u:V}{x y:D}(h:Is K H v x)(h':Is K H u y)(f:NM x=true)(f':NM y=true):eqV v u=eqF x y:=by
 cases h<;>first|(cases f;done)|(cases h'<;>first|(cases f';done)|rfl)
theorem FL {its:List Value}{j:Nat}(h:j<its.toArray.size){u:Value}(e:its[j]? = some u):its.toArray[j]=u:=by
 have hj:j<↥its:=by simpa using h
 rw[qAc hj]at e;have e':=qAo e;rw[<-e'];simp
section
variable {X:Cx}{pins:List (Addr×Obj)}{σ:St}{H:Hp}{s:Shared}
theorem UL (I:Inv X pins σ H s):∀(n:Nat){v:V}{x y:D},ED n x=true->ED n y=true->Is X.K H v x->Is X.K H v y->x=y
 |0,v,x,y,fx,fy,hx,hy=>by
  cases hx<;>first|(cases fx;done)|(cases hy<;>first|rfl|(cases fy;done))
 |n+1,v,x,y,fx,fy,hx,hy=>by
  cases hx with
  |@tup a vs xs h hl r=>
   cases hy with
   |@tup _ ws ys h2 hl2 r2=>
    have e:=I.tuple_inj h h2;subst e
    congr 1
    apply qCr;intro i;cases hv:vs[i]? with
    |none=>
     have hi:=qAR.mp hv;rw[qAR.mpr (),qAR.mpr ()]
    |some v=>
     have hi:=(qAf.mp hv).1;have hx:xs[i]? = some (xs[i]' ()):=qAc ();have hy:ys[i]? = some (ys[i]' ()):=qAc ();rw[hx,hy]
     congr 1
     exact UL I n (qAN.mp (show xs.all (ED n)=true from fx) _ (qAB hx)) (qAN.mp (show ys.all (ED n)=true from fy) _ (qAB hy)) (r i v _ hv hx) (r2 i v _ hv hy)
   |lst=>cases fy
   |ref=>cases fy
  |lst=>cases fx
  |ref=>cases fx
  |ty=>cases fx
  |_=>cases hy<;>first|rfl|(cases fy;done)
theorem MF (I:Inv X pins σ H s){n:Nat}{A:Around}{a b:Addr}{vs ws:List V}{xs ys:List D}(ha:SqT X.K H a vs)(hb:SqT X.K H b ws)(hx:Iss X.K H vs xs)(hy:Iss X.K H ws ys)(hu:A.units<cLine)
 (ih:∀(x y:D)(v u:V)(v' u':Value),x∈xs->y∈ys->Is X.K H v x->Is X.K H u y->CN v v'->CN u u'->SeqAt.EqAt A.in1 s v' u' (eqN n x y)):SeqAt.RcAt A s (.ref a) (.ref b) (eqN (n+1) (.tup xs) (.tup ys)):=by
 obtain⟨its,r1,p1,_⟩:=I.tuple ha;obtain⟨its2,r2,p2,_⟩:=I.tuple hb;have l1:=↥r1;have l2:=↥r2;have k1:=hx.1;have k2:=hy.1;have key:=SeqAt.RcAt.tuples (A:=A) (s:=s) (l:=a) (b:=b) (items:=its.toArray) (items2:=its2.toArray) (e:=λj=>match xs[j]?,ys[j]? with|some x,some y=>eqN n x y|_,_=>true) p1 p2 hu (λj h1 h2=>by
  have h1':j<↥its:=by simpa using h1
  have h2':j<↥its2:=by simpa using h2
  have gx:xs[j]? = some (xs[j]' ()):=qAc ();have gy:ys[j]? = some (ys[j]' ()):=qAc ();have gv:vs[j]? = some (vs[j]' ()):=qAc ();have gw:ws[j]? = some (ws[j]' ()):=qAc ();obtain⟨u1,e1,q1⟩:=r1.get gv;obtain⟨u2,e2,q2⟩:=r2.get gw;rw[FL h1 e1,FL h2 e2];rw[gx,gy];exact ih _ _ _ _ _ _ (qAB gx) (qAB gy) (hx.2 j _ _ gv gx) (hy.2 j _ _ gw gy) q1 q2)
 have e:eqN (n+1) (.tup xs) (.tup ys)=((List.range (min its.toArray.size its2.toArray.size)).all (λj=>match xs[j]?,ys[j]? with|some x,some y=>eqN n x y|_,_=>true)&&its.toArray.size==its2.toArray.size):=by
  show((xs.zip ys).all (λp=>eqN n p.1 p.2)&&↥xs==↥ys)=_;have s1:its.toArray.size=↥xs:=by simp;omega
  have s2:its2.toArray.size=↥ys:=by simp;omega
  rw[s1,s2]
  congr 1
  rw[qBO,qAN,qAN];constructor
  .intro h j hj;rw[qAu]at hj;have gx:xs[j]? = some (xs[j]' ()):=qAc ();have gy:ys[j]? = some (ys[j]' ()):=qAc ();rw[gx,gy];exact h (_,_) (qAB (qBr.mpr #[gx,gy]))
  .rintro h ⟨x,y⟩ hp;obtain⟨j,hj⟩:=qCf hp;obtain⟨gx,gy⟩:=qBr.mp hj;have h1:=(qAf.mp gx).1;have h2:=(qAf.mp gy).1;have:=h j (by rw[qAu];omega);simp only[]at gx gy;rw[gx,gy]at this;exact this
 rw[e];exact key
theorem RW (I:Inv X pins σ H s):∀(n:Nat)(A:Around)(x y:D)(v u:V)(v' u':Value),A.units+n<cLine->ED n x=true->ED n y=true->Is X.K H v x->Is X.K H u y->CN v v'->CN u u'->SeqAt.EqAt A s v' u' (eqN n x y)
 |0,A,x,y,v,u,v',u',_,fx,fy,hx,hy,rv,ru=>by
  show SeqAt.EqAt A s v' u' (eqF x y);rw[<-W8 hx hy fx fy];exact Uk rv ru (hx.flatV fx) (hy.flatV fy)
 |n+1,A,x,y,v,u,v',u',hu,fx,fy,hx,hy,rv,ru=>by
  have flat:NM x=true->NM y=true->eqN (n+1) x y=eqF x y->SeqAt.EqAt A s v' u' (eqN (n+1) x y):=λf1 f2 e=>by
   rw[e,<-W8 hx hy f1 f2];exact Uk rv ru (hx.flatV f1) (hy.flatV f2)
  have hu0:A.units<cLine:=();cases hx with
  |@tup a vs xs ha hl r=>
   cases rv;obtain⟨its,r1,p1,_⟩:=I.tuple ha;have t1:s.heap.IsTuple a its.toArray:=p1;cases hy with
   |@tup b ws ys hb hl2 r2=>
    cases ru;by_cases hab:a=b
    .subst hab;have e:=UL I (n+1) fx fy (.tup ha hl r) (.tup hb hl2 r2);rw[e,IF (n+1) _ fy];exact SeqAt.EqAt.same _
    .refine SeqAt.EqAt.of_refs hab (MF I ha hb #[hl,r] #[hl2,r2] hu0 λx y v u v' u' mx my ix iy rv ru=>?_);exact RW I n A.in1 x y v u v' u' (by show A.units+1+n<cLine;omega) (qAN.mp (show xs.all (ED n)=true from fx) x mx) (qAN.mp (show ys.all (ED n)=true from fy) y my) ix iy rv ru
   |non=>cases ru;exact SeqAt.EqAt.tuple_none t1 hu0
   |bl c=>cases ru;exact SeqAt.EqAt.tuple_bool c t1 hu0
   |int c=>obtain⟨t,rfl⟩:=ru;exact SeqAt.EqAt.tuple_int c t t1 hu0
   |str c=>obtain⟨t,rfl⟩:=ru;exact SeqAt.EqAt.tuple_str c t t1 hu0
   |ty c=>cases fy
   |lst=>cases fy
   |ref=>cases fy
  |non=>
   cases hy with
   |@tup b ws ys hb hl2 r2=>
    cases ru;cases rv;obtain⟨its,r1,p1,_⟩:=I.tuple hb;exact SeqAt.EqAt.none_tuple (show s.heap.IsTuple b its.toArray from p1) hu0
   |ty c=>cases fy
   |lst=>cases fy
   |ref=>cases fy
   |_=>exact flat rfl rfl rfl
  |bl c=>
   cases hy with
   |@tup b ws ys hb hl2 r2=>
    cases ru;cases rv;obtain⟨its,r1,p1,_⟩:=I.tuple hb;exact SeqAt.EqAt.bool_tuple c (show s.heap.IsTuple b its.toArray from p1) hu0
   |ty c=>cases fy
   |lst=>cases fy
   |ref=>cases fy
   |_=>exact flat rfl rfl rfl
  |int c=>
   cases hy with
   |@tup b ws ys hb hl2 r2=>
    obtain⟨t,rfl⟩:=rv;cases ru;obtain⟨its,r1,p1,_⟩:=I.tuple hb;exact SeqAt.EqAt.int_tuple c t (show s.heap.IsTuple b its.toArray from p1) hu0
   |ty c=>cases fy
   |lst=>cases fy
   |ref=>cases fy
   |_=>exact flat rfl rfl rfl
  |str c=>
   cases hy with
   |@tup b ws ys hb hl2 r2=>
    obtain⟨t,rfl⟩:=rv;cases ru;obtain⟨its,r1,p1,_⟩:=I.tuple hb;exact SeqAt.EqAt.str_tuple c t (show s.heap.IsTuple b its.toArray from p1) hu0
   |ty c=>cases fy
   |lst=>cases fy
   |ref=>cases fy
   |_=>exact flat rfl rfl rfl
  |ty c=>cases fx
  |lst=>cases fx
  |ref=>cases fx
def bK (n:Nat):R3:=λdx dy R=>match dx,dy with
 |.tup xs,.tup ys=>ED n (.tup xs)=true/\ED n (.tup ys)=true/\R (.bl (eqN n (.tup xs) (.tup ys)))
 |_,_=>False
theorem S7 (n:Nat)(hu:X.A.units+n<cLine):Ij X (compareOp .Eq) (bK n):=by
 intro pins s σ H x y v u Q I rx ry h;obtain⟨z,dx,dy,R,hz,hx,hy,h3,q⟩:=h;replace hx:=hx.mono hz;replace hy:=hy.mono hz;unfold bK at h3;split at h3
 .rename_i xs ys;obtain⟨fx,fy,h3⟩:=h3;cases n with
  |zero=>cases fx
  |succ n=>
   obtain⟨a,vs,rfl,ha,ia⟩:=Is.tup_inv hx;obtain⟨b,ws,rfl,hb,ib⟩:=Is.tup_inv hy;cases rx;cases ry;refine MF (A:=X.A) (n:=n) I ha hb ia ib () (λx y v u v' u' mx my ix iy rv ru=>?_) X.prog X.w X.xe _ #[.bl _,H,I,rfl,q _ _ #[H,z] (Ext.refl hz) (.bl _) h3];exact RW I n X.A.in1 x y v u v' u' (by show X.A.units+1+n<cLine;omega) (qAN.mp (show xs.all (ED n)=true from fx) x mx) (qAN.mp (show ys.all (ED n)=true from fy) y my) ix iy rv ru
 .exact h3.elim
end
theorem DO.there {P:Program}{w:World}{H:Hp}{h:Heap}{a:Addr}{o:HO}(x:DO P w H h a o):∃u,h.get? a=some u:=by
 cases o with
 |lst xs=>obtain⟨_,_,_,_,e⟩:=x;exact#[_,e]
 |tup xs=>obtain⟨_,_,_,_,e,_⟩:=x;exact#[_,e]
 |dK kvs=>obtain⟨_,_,_,_,o,_,_,e,_⟩:=x;exact#[_,e]
 |dT kvs=>obtain⟨_,_,_,_,o,_,_,e,_⟩:=x;exact#[_,e]
 |set S n=>obtain⟨o,_,_,_,e,_⟩:=x;exact#[_,e]
 |ins C dx fs=>obtain⟨_,_,_,e,_⟩:=x;exact#[_,e]
 |own y=>obtain⟨_,e⟩:=x;exact#[_,e]
 |xd fs=>obtain⟨_,⟨_,_,_,e,_⟩,_⟩:=x;exact#[_,e]
 |rng lo hi=>obtain⟨_,_,_,e⟩:=x;exact#[_,e]
 |frz ob u=>obtain⟨e,_⟩:=x;exact#[_,e]
 |tbl ps=>obtain⟨_,e,_⟩:=x;exact#[_,e]
 |met f y=>exact#[_,show h.get? a=some _ from x]
 |ext φ=>obtain⟨_,⟨_,e⟩,_⟩:=x;exact#[_,e]
structure Fly (P:Program)(w:World)(l:List Env)(H H':Hp)(h h':Heap)(ea C:Addr)(a0:Value)(B:Heap):Prop where
 fl:Heap.FlyingW B l ea (.ref C) a0 h'
 un:Un (frs l) [] H H' h h'
 hok:HOk P w H' h'
 kb:∀b o,h.get? b=some o->H b=none->b∉frs l->B.get? b=some o
 tr:∀b o,H' b=some o->∃ob,B.get? b=some ob
 old:∀b o,h.get? b=some o->b∉frs l->∃ob,B.get? b=some ob
section
variable {P:Program}{w:World}{l:List Env}{H H':Hp}{h h' h'':Heap}{ea C:Addr}{a0:Value}{B:Heap}
theorem Ov {l:List Env}{b:Addr}{B h:Heap}(F:h.FunFrames B l)(hb:b∈frs l):∃o,h.get? b=some o/\∀vs,o.data≠.fields vs:=(F.mem hb).2
theorem YX {H':Hp}{h' h'':Heap}{B:Heap}(ok:HOk P w H' h')(tr:∀b o,H' b=some o->∃ob,B.get? b=some ob)(s1:B.StaysIn h')(s2:B.StaysIn h''):HOk P w H' h'':=λa o e=>by
 refine(ok a o e).stay (λb u hb q=>?_) (λ_ q=>q) λ_ _ q=>q;have hB:∃ob,B.get? b=some ob:=by
  rcases hb with rfl|hb
  .exact tr _ _ e
  .exact tr _ _ hb
 obtain⟨ob,eb⟩:=hB;have:=s1 b ob eb;rw[q]at this;cases this;exact s2 b _ eb
end
def CXU (P:Program)(w:World):CXT:=λouter H s E e s'=>∃(ea C:Addr)(a0:Value)(B:Heap)(H':Hp),e=.ref ea/\s'.os=s.os/\AllBare s'.gens/\Fly P w outer H H' s.heap s'.heap ea C a0 B/\E (.ref C) none H'
theorem GO {env:Env}{l:List Env}{L:Addr}(h:env.frame=some L):frs (env::l)=L::frs l:=by
 unfold frs;rw[qBh,h]
section
variable {X:Cx}{pins:List (Addr×Obj)}{σ:St}{H H':Hp}{s s':Shared}{ea C:Addr}{a0:Value}{B:Heap}{h1:Heap}{vs:List Value}
theorem VQ (I:Inv X pins σ H s)(hst:X.stack=X.env::X.outer)(hf:X.env.frame=some X.env.locals)(hex:X.ex=[])(hx:Heap.MadeExcOf s.heap h1 ea (.ref C) vs){Q:Unit->Shared->Prop}{E:Value->Shared->Prop}
 (hQ:∀(h':Heap)(t:Addr)(B:Heap),Fly X.prog X.w X.outer X.H₀ H X.s₀.heap h' ea C (.ref t) B->Q Unit.unit { s with heap:=h' }) :
 wpAny (model X.prog X.w) X.A (leaving X.env (.ref ea)) Q E { s with heap:=h1 }:=by
 have hfr:X.A.frames=some (X.env::X.outer):=by rw[<-hst];exact I.ok.frames
 have hstk:=I.stack;rw[hst]at hstk;have hin:∀env∈(X.env::X.outer),∀b,env.frame=some b->b∈frs (X.env::X.outer):=λenv he b hb=>qBZ.mpr #[env,he,hb];have hB:∀b o,s.heap.get? b=some o->b∉frs (X.env::X.outer)->(W.hideAll s.heap (frs (X.env::X.outer))).get? b=some o:=λb o e hb=>W.hideAll_get _ e hb;have ho:∀b o,(W.hideAll s.heap (frs (X.env::X.outer))).get? b=some o->s.heap.get? b=some o:=λb o e=>W.of_hideAll _ e;refine wpAny_leaves_madeW (base:=W.hideAll s.heap (frs (X.env::X.outer))) (h:=s.heap) (s:={ s with heap:=h1 }) hfr hf ho (W.funFrames_hide hstk hin) hx λh' t fl _ _ up=>?_;refine hQ h' t (W.hideAll s.heap (frs (X.env::X.outer))) ?_;have up0:s.heap.UpToSlots h':=(Heap.UpToSlots.of_keeps hx.keeps).trans up;have old:∀b o,X.s₀.heap.get? b=some o->b∉frs X.outer->b∉frs (X.env::X.outer):=λb o e hb hm=>by
  rw[GO hf]at hm;rcases qAl.mp hm with rfl|hm
  .exact absurd (qAs (qAk e) I.ok.above) (qAX _)
  .exact hb hm
 have nex:∀b:Addr,b∉X.ex:=λb z=>by rw[hex]at z;cases z
 have tfr:∀b o,H b=some o->b∉frs (X.env::X.outer):=λb o e hm=>by
  have:=I.stkFree b (by rw[hst];exact hm);rw[e]at this;cases this
 have tr:∀b o,H b=some o->∃ob,(W.hideAll s.heap (frs (X.env::X.outer))).get? b=some ob:=λb o e=>by
  obtain⟨u,eu⟩:=DO.there (I.hok b o e);exact#[u,hB b u eu (tfr b o e)]
 refine#[fl,#[λb o e n hb _=>?_,λb o e n hb _=>?_,λb o e n _=>I.base.free b o e n (nex b),λb o e _=>?_,I.base.tups,I.base.frzs,I.base.tbls],YX I.hok tr ho fl.1,λb o e n hb=>?_,tr,λb o e hb=>?_]
 .exact fl.1 b o (hB b o (I.base.keep b o e n hb (nex b)) (old b o e hb))
 .obtain⟨sl,e1⟩:=I.base.slot b o e n hb (nex b);obtain⟨o2,e2,d⟩:=Ov hstk (by rw[GO hf];exact qAE _ hb);rw[e1]at e2;cases e2;obtain⟨sl2,e3⟩:=up0 b _ e1 d;exact#[sl2,e3]
 .obtain⟨o1,e1⟩:=I.base.there b o e (nex b);by_cases hb:b∈frs X.outer
  .obtain⟨o2,e2,d⟩:=Ov hstk (by rw[GO hf];exact qAE _ hb);obtain⟨sl2,e3⟩:=up0 b _ e2 d;exact#[_,e3]
  .exact#[o1,fl.1 b o1 (hB b o1 e1 (old b o e hb))]
 .exact hB b o (I.base.keep b o e n hb (nex b)) (old b o e hb)
 .obtain⟨o1,e1⟩:=I.base.there b o e (nex b);exact#[o1,hB b o1 e1 (old b o e hb)]
theorem Yb (I:Inv X pins σ H s)(hst:X.stack=X.env::X.outer)(hf:X.env.frame=some X.env.locals)(hex:X.ex=[])(f:Fly X.prog X.w X.stack H H' s.heap s'.heap ea C a0 B){Q:Unit->Shared->Prop}{E:Value->Shared->Prop}
 (hQ:∀h':Heap,Fly X.prog X.w X.outer X.H₀ H' X.s₀.heap h' ea C a0 B->Q Unit.unit { s' with heap:=h' }):wpAny (model X.prog X.w) X.A (leaving X.env (.ref ea)) Q E s':=by
 have hfr:X.A.frames=some (X.env::X.outer):=by rw[<-hst];exact I.ok.frames
 rw[hst]at f;refine wpAny_leaves_onW hfr hf f.fl λh' fl up=>hQ h' ?_;have old:∀b o,X.s₀.heap.get? b=some o->b∉frs X.outer->b∉frs (X.env::X.outer):=λb o e hb hm=>by
  rw[GO hf]at hm;rcases qAl.mp hm with rfl|hm
  .exact absurd (qAs (qAk e) I.ok.above) (qAX _)
  .exact hb hm
 have nex:∀b:Addr,b∉X.ex:=λb z=>by rw[hex]at z;cases z
 have up_:∀b,b∈frs X.outer->b∈frs (X.env::X.outer):=λb hb=>by rw[GO hf];exact qAE _ hb
 have kb:∀b o,X.s₀.heap.get? b=some o->X.H₀ b=none->b∉frs X.outer->B.get? b=some o:=λb o e n hb=>
  f.kb b o (I.base.keep b o e n hb (nex b)) (I.base.free b o e n (nex b)) (old b o e hb)
 have ol:∀b o,X.s₀.heap.get? b=some o->b∉frs X.outer->∃ob,B.get? b=some ob:=λb o e hb=>by
  obtain⟨o1,e1⟩:=I.base.there b o e (nex b);exact f.old b o1 e1 (old b o e hb)
 refine#[fl,#[λb o e n hb _=>fl.1 b o (kb b o e n hb),λb o e n hb _=>?_,λb o e n _=>?_,λb o e _=>?_,λb xs e=>f.un.tups b xs (I.base.tups b xs e),λb o u e=>f.un.frzs b o u (I.base.frzs b o u e),λb ps e=>?_],YX f.hok f.tr f.fl.1 fl.1,kb,f.tr,ol]
 .obtain⟨sl,e1⟩:=I.base.slot b o e n hb (nex b);obtain⟨sl1,e2⟩:=f.un.slot b _ e1 (I.base.free b o e n (nex b)) (up_ b hb) (by simp);obtain⟨o3,e3,d⟩:=Ov f.fl.2.2.1 (up_ b hb);rw[e2]at e3;cases e3;obtain⟨sl2,e4⟩:=up b _ e2 d;exact#[sl2,e4]
 .obtain⟨o1,e1⟩:=I.base.there b o e (nex b);exact f.un.free b o1 e1 (I.base.free b o e n (nex b)) (by simp)
 .by_cases hb:b∈frs X.outer
  .obtain⟨o3,e3,d⟩:=Ov f.fl.2.2.1 (up_ b hb);obtain⟨sl2,e4⟩:=up b _ e3 d;exact#[_,e4]
  .obtain⟨ob,eb⟩:=ol b o e hb;exact#[ob,fl.1 b ob eb]
 .obtain⟨m1,e1⟩:=I.base.tbls b ps e;obtain⟨m2,e2⟩:=f.un.tbls b _ e1;exact#[m1++m2,by rw[e2,Array.append_assoc]]
end
structure ExC (K:W.Frag)(x:Str)(C:Addr):Prop where
 ns:W.nsIn K mainGlobals x=some (some (.ref C))
 ex:W.excIn K C [.type "ValueError",.type "Exception",.type "BaseException",.type "object"] "ValueError.__new__"=true
theorem Tp {K:W.Frag}{mg:Str->Option Value}{base:Heap}(M:Mod K mg base)(p:Program):∃loose mb,W.TopRead p loose mg mb base:=by
 obtain⟨o,es,ep,ho,hd,hk,hm⟩:=M.glob;obtain⟨mb,h1,h2⟩:=M.blt;refine#[es.toList.filterMap λe=>match e.key with|.str x _=>some x|_=>none,mb,M.glob,h1,M.nolimit,h2,λx _ hx _ _ _=>?_];rw[<-hm x];unfold nsFind findBy;cases q:es.find? (λe=>e.key.isStr x) with
 |none=>rfl
 |some e=>
  exfalso
  have h3:=Array.find?_some q;have h4:=Array.mem_of_find?_eq_some q;apply hx;rw[qBZ];refine#[e,by simpa using h4,?_];obtain⟨kh,key,val⟩:=e;cases key with
  |str y t=>
   have h5:(Value.str y t).isStr x=true:=h3;have h6:y=x:=by simpa [Value.isStr] using h5
   show some y=some x;rw[h6]
  |_=>cases h3
structure WO (X:Cx)(U:Str->Prop):Prop where
 raise:∀(pins:List (Addr×Obj))(σ:St)(H:Hp)(s:Shared)(h1:Heap)(ea C:Addr)(x:Str)(vs:List Value),Inv X pins σ H s->BQ X.H₀ H->X.mg x=some (.ref C)->U x->Heap.MadeExcOf s.heap h1 ea (.ref C) vs->X.xe (.ref ea) { s with heap:=h1 }
 pass:∀(pins:List (Addr×Obj))(σ:St)(H:Hp)(s:Shared)(e:Value)(s':Shared),Inv X pins σ H s->CXU X.prog X.w X.stack H s (λcls _ H'=>∃x,X.mg x=some cls/\U x/\BQ X.H₀ H') e s'->X.xe e s'
theorem Qj {P:Program}{w:World}{K:W.Frag}{mg:Str->Option Value}{base:Heap}{N:List Str}{qual:Str}{scope:Scope}{f:Addr}{cd:Value}{A:Around}{outer:List Env}{s:Shared}{H:Hp}{E:XK}{U:Str->Prop}
 (hE:∀x C H',BQ H H'->mg x=some (.ref C)->U x->E (.ref C) none H'):WO (Md (CXU P w) P w K mg base N qual scope f cd A outer s H E) U where
 raise:=λpins σ H1 s1 h1 ea C x vs I hs hm hu hx=>VQ I rfl rfl rfl hx λh' t B fl=>#[ea,C,.ref t,B,H1,rfl,I.os,I.bare,fl,hE x C H1 hs hm hu]
 pass:=λpins σ H1 s1 e s' I h=>by
  obtain⟨ea,C,a0,B,H',rfl,ho,hg,fl,x,hm,hu,hs⟩:=h;exact Yb I rfl rfl rfl fl λh' fl'=>#[ea,C,a0,B,H',rfl,ho.trans I.os,hg,fl',hE x C H' hs hm hu]
section
variable {X:Cx}{U:Str->Prop}{e:Expr}{es:List Expr}{te:TE3}{tr:TA3}{pos:Pos}
def X9 (U:Str->Prop)(x:Str)(te:TE3):TS3:=λ_ τ=>te τ λ_=>U x
theorem Go {x:Str}{C:Addr}{np cpos:Pos}(xo:WO X U)(hc:X.calm=true)(he:PE3 X e te)(hg:Gl X x)(ec:ExC X.K x C)(hm:X.mg x=some (.ref C))
 (hs:starEach [e] X.env=(false,eval e X.env)::starEach [] X.env:=by exact Dv rfl)(hplain:(backTo cpos (starEach [e] X.env)).any (·.1)=false:=by exact FZ rfl)(hd:(x==("__debug__":Str))=false:=by decide)(hl:X.lent=none:=by rfl) :
 PS3 X (.Raise (some (.Call (.Name x np) [e] [] cpos)) none pos) (X9 U x te):=by
 refine#[?_];intro pins s σ H D2 I h;obtain⟨B,z,τ,D3,r,ht,c⟩:=h;obtain⟨loose,mb,T⟩:=Tp I.mod X.prog;obtain⟨tl,N,nm,q,bs,hdct,sn,sub,ab,col,dd,k0,k1,k2,k3,k5,mN,hC,hN,hni,TL⟩:=(W.own_of_in I.mod.kin T ec.ns ec.ex).obj;refine wpAny_Raise_call_subT (C:=C) (nm:=nm) (q:=q) (N:=N) (bs:=bs) (bm:=tl) (hdct:=hdct) (sn:=sn) (sub:=sub) (ab:=ab) (col:=col) (dd:=dd) (k0:=k0) (k1:=k1) (k2:=k2) (k3:=k3) (k5:=k5)
  PySem.F.excBase_ValueError (mN:=mN) (TL.hasType PySem.F.excBase_ValueError.hasBase) (I.ok.hd hc) hplain hni (IS I hg hm #[rfl,?_] hd)
 have pa:=(A7 he.out BL hs) cpos pins s σ H (λvs H1=>↥vs=1/\BQ X.H₀ H1/\U x) I #[B,_,τ,_,r,ht,λs' v H' e' i' f' h'=>#[rfl,(r.all hl).trans e'.hh,h']];rw[hs]at pa ⊢;refine Calls.evalArgs_plain (thn pa λus s2 #[vs,H2,I2,rv,hl,hsame,hu]=>#[rfl,?_,I2.bk _ _ hC,hN.keeps I2.bk,TL.keeps I2.bk,λh' ea hx=>?_])
 .have:=↥rv;show ↥us<=sizeLine;have z:↥us=1:=();rw[z];decide
 .exact xo.raise pins σ H2 s2 h' ea C x us I2 hsame hm hu hx
def Sm (U:Str->Prop)(sp:Sp3)(t:TA3):TE3:=λτ R=>t τ λss=>sp ss R U
theorem Sa {k:Nat}{x:Str}{ps:List Str}{sp:Sp3}{p:Pos}(xo:WO X U)(c:Cal X.prog X.w X.K X.mg X.base (CXU X.prog X.w) k x ps sp)(hr:FI k X.A)(hg:Gl X x)(ha:PA3 X (e::es) tr)
 (hdb:(x==("__debug__":Str))=false:=by decide)(he:starEach (e::es) X.env=(false,eval e X.env)::starEach es X.env:=by exact Dv rfl)(hpl:(backTo pos (starEach es X.env)).any (·.1)=false:=by exact FZ rfl)(hl:X.lent=none\/∀y,¬U y:=by first|exact .inl rfl|exact .inr (λ_ z=>z)) :
 PE3 X (.Call (.Name x p) (e::es) [] pos) (Sm U sp tr):=by
 refine#[?_];obtain⟨f,fd,F,hm,hk,hb⟩:=c.ex;refine BJ (Rb (E:=λcls _ H'=>∃y,X.mg y=some cls/\U y/\BQ X.H₀ H') F hr hg hm hk hb .nil (λpins σ H s e s' I h=>xo.pass pins σ H s e s' I h) ha.out hdb he hpl) λσ H Q #[B,z,τ,R,r,ht,q]=>#[B,_,τ,_,r,ht,λss vs H1 e1 i1 h1=>?_];show Ag X.K X.mg sp (vs++[]) H1.h Q _;rw[qBA];exact#[H1.z,ss,R,U,e1.sub,i1,h1,λs v H2 e2 i2 f2 h2=>q s v H2 (e1.trans e2) i2 (K7 e1 f2) h2,λy C H2 e2 hy hu=>#[y,hy,hu,hl.elim (λhl=>(r.all hl).trans (e1.hh.trans e2)) (λhn=>(hn y hu).elim)]]
end
section
variable {P:Program}{w:World}{K:W.Frag}{mg:Str->Option Value}{base:Heap}
theorem fnU {x qual:Str}{st:Stmt}{f:Addr}{fd:FuncData}{N ps:List Str}{k:Nat}{sp:Sp3}(F:Fun K x qual st f fd)(Sc:Ae N ps (Ac st))(len:∀ss R U,sp ss R U->↥ss=↥ps)
 (hbody:∀(cdv:Value)(A:Around)(outer:List Env)(s:Shared)(H:Hp)(E:XK)(ss:List S)(R:S->Prop)(U:Str->Prop),FI k (A.deeper (envOfC qual (Ac st) s.heap.objs.size f cdv))->sp ss R U ->
  WO (Md (CXU P w) P w K mg base N qual (Ac st) f cdv A outer s H E) U ->
  ∃t,Dt (Md (CXU P w) P w K mg base N qual (Ac st) f cdv A outer s H E) (CC st) t/\t { nx:=λ_=>R (.d .non),rt:=R } (CP N ss)):Ap P w K mg base (CXU P w) (k+1) f fd ps (Ag K mg sp):=by
 obtain⟨oc,od,kV,doc,pm,an,cdv,ct,osl,rfl,lk,hcd⟩:=F.ex;refine T5 lk hcd Sc (λvs H Q E hh=>by obtain⟨z,ss,R,U,hz,ha,h3,_⟩:=hh;exact ha.1.trans (len ss R U h3)) λA outer s H vs Q E hr hh9=>?_;obtain⟨z,ss,R,U,hz,ha,h3,q,qe⟩:=hh9;obtain⟨t,ht,hq⟩:=hbody cdv A outer s H E ss R U hr h3 (Qj qe);exact#[_,ht.out,#[H,z],z,CP N ss,_,EZ ha hz (BQ.refl H),hq,#[λτ σ p r h=>q (.d .non) _ p r.ext Is.non Ga h,λ_ _ _ _ z=>z.elim,λ_ _ _ _ z=>z.elim,λs v p e i f h=>q s v p e i f h]]
theorem Ap.anyCX {CX:CXT}{k:Nat}{f:Addr}{fd:FuncData}{ps:List Str}{sp:Sp}(F:Ap P w K mg base CX0 k f fd ps sp):Ap P w K mg base CX k f fd ps sp:=
 #[F.len,λA outer s H args us vs Q E hr h0 hb hv hs=>codeAny_mono (F.run A outer s H args us vs Q E hr h0 hb hv hs) λr s' h=>by
  cases r with
  |error e=>exact(show False from h).elim
  |ok fl=>cases fl<;>exact h]
end
section
variable {K:W.Frag}{M:Model}{A:Around}{E:Value->Shared->Prop}{s:Shared}
end
section
variable {X:Cx}{pins:List (Addr×Obj)}{σ:St}{H H':Hp}{s s':Shared}{ea C:Addr}{a0:Value}{B:Heap}
end
section
variable {X:Cx}{e:Expr}{es:List Expr}{tr:TA3}{th:TS3}
end
theorem Wk {X:Cx}:WO X NoU where
 raise:=λ_ _ _ _ _ _ _ _ _ _ _ _ hu=>hu.elim
 pass:=λ_ _ _ _ _ _ _ h=>by
  obtain⟨_,_,_,_,_,_,_,_,_,_,_,hu,_⟩:=h;exact hu.elim
section
variable {prog:Program}{w:World}{A:Around}{E:Value->Shared->Prop}{s:Shared}{K:W.Frag}{x D:Addr}
open PySem.W Builtin Builtin.ObjectAttr Builtin.Getset_descriptor in
open PySem.W in
end
section
variable {X:Cx}{pins:List (Addr×Obj)}{σ:St}{H H':Hp}{s s':Shared}{ea C:Addr}{oe:Obj}{a0:Value}{B:Heap}
end
section
variable {X:Cx}{ea C:Addr}{oe:Obj}
variable {e:Expr}{es:List Expr}{tr:TA3}
end
section
variable {X:Cx}
variable {e:Expr}{es:List Expr}{tr:TA3}
end
section
variable {X:Cx}{st:Stmt}{rest':List Stmt}{t u:TS3}
def sGp (t u:TS3):TS3:=λD3 τ=>∃P:Prop,t { D3 with nx:=λτ'=>τ'=τ/\P } τ/\(P->u D3 τ)
theorem Yw (h1:PS3 X st t)(h2:Dt X rest' u):Dt X (st::rest') (sGp t u):=#[HK (Cy h1 h2).out λD2 σ H #[B,z,τ,D3,r,#[P,ht,hu],c]=>#[B,_,τ,D3,r,#[λτ'=>τ'=τ/\P,ht,λτ' #[e,hP]=>by subst e;exact hu hP],c]]
end
theorem hu_ {A:Around}{k n:Nat}(hr:FI k A)(hn:n<=200):A.units+n<cLine:=by have:=hr.un;omega
section
variable {X:Cx}{pins:List (Addr×Obj)}{σ:St}{H:Hp}{s:Shared}
theorem PB (I:Inv X pins σ H s){n:Nat}{A:Around}{a b:Addr}{vs ws:List V}{xs ys:List D}(ha:SqT X.K H a vs)(hb:SqT X.K H b ws)(hx:Iss X.K H vs xs)(hy:Iss X.K H ws ys)(hu:A.units<cLine)
 (ih:∀(x y:D)(v u:V)(v' u':Value),x∈xs->y∈ys->Is X.K H v x->Is X.K H u y->CN v v'->CN u u'->SeqAt.EqAt A.in1 s v' u' (eqN n x y)):SeqAt.RcNeAt A s (.ref a) (.ref b) (!eqN (n+1) (.tup xs) (.tup ys)):=by
 obtain⟨its,r1,p1,_⟩:=I.tuple ha;obtain⟨its2,r2,p2,_⟩:=I.tuple hb;have l1:=↥r1;have l2:=↥r2;have k1:=hx.1;have k2:=hy.1;have key:=SeqAt.RcNeAt.tuples (A:=A) (s:=s) (l:=a) (b:=b) (items:=its.toArray) (items2:=its2.toArray) (e:=λj=>match xs[j]?,ys[j]? with|some x,some y=>eqN n x y|_,_=>true) p1 p2 hu (λj h1 h2=>by
  have h1':j<↥its:=by simpa using h1
  have h2':j<↥its2:=by simpa using h2
  have gx:xs[j]? = some (xs[j]' ()):=qAc ();have gy:ys[j]? = some (ys[j]' ()):=qAc ();have gv:vs[j]? = some (vs[j]' ()):=qAc ();have gw:ws[j]? = some (ws[j]' ()):=qAc ();obtain⟨u1,e1,q1⟩:=r1.get gv;obtain⟨u2,e2,q2⟩:=r2.get gw;rw[FL h1 e1,FL h2 e2];rw[gx,gy];exact ih _ _ _ _ _ _ (qAB gx) (qAB gy) (hx.2 j _ _ gv gx) (hy.2 j _ _ gw gy) q1 q2)
 have e:eqN (n+1) (.tup xs) (.tup ys)=((List.range (min its.toArray.size its2.toArray.size)).all (λj=>match xs[j]?,ys[j]? with|some x,some y=>eqN n x y|_,_=>true)&&its.toArray.size==its2.toArray.size):=by
  show((xs.zip ys).all (λp=>eqN n p.1 p.2)&&↥xs==↥ys)=_;have s1:its.toArray.size=↥xs:=by simp;omega
  have s2:its2.toArray.size=↥ys:=by simp;omega
  rw[s1,s2]
  congr 1
  rw[qBO,qAN,qAN];constructor
  .intro h j hj;rw[qAu]at hj;have gx:xs[j]? = some (xs[j]' ()):=qAc ();have gy:ys[j]? = some (ys[j]' ()):=qAc ();rw[gx,gy];exact h (_,_) (qAB (qBr.mpr #[gx,gy]))
  .rintro h ⟨x,y⟩ hp;obtain⟨j,hj⟩:=qCf hp;obtain⟨gx,gy⟩:=qBr.mp hj;have h1:=(qAf.mp gx).1;have h2:=(qAf.mp gy).1;have:=h j (by rw[qAu];omega);simp only[]at gx gy;rw[gx,gy]at this;exact this
 rw[e];exact key
def bJ (n:Nat):R3:=λdx dy R=>match dx,dy with
 |.tup xs,.tup ys=>ED n (.tup xs)=true/\ED n (.tup ys)=true/\R (.bl (!eqN n (.tup xs) (.tup ys)))
 |_,_=>False
theorem TV (n:Nat)(hu:X.A.units+n<cLine):Ij X (compareOp .NotEq) (bJ n):=by
 intro pins s σ H x y v u Q I rx ry h;obtain⟨z,dx,dy,R,hz,hx,hy,h3,q⟩:=h;replace hx:=hx.mono hz;replace hy:=hy.mono hz;unfold bJ at h3;split at h3
 .rename_i xs ys;obtain⟨fx,fy,h3⟩:=h3;cases n with
  |zero=>cases fx
  |succ n=>
   obtain⟨a,vs,rfl,ha,ia⟩:=Is.tup_inv hx;obtain⟨b,ws,rfl,hb,ib⟩:=Is.tup_inv hy;cases rx;cases ry;refine PB (A:=X.A) (n:=n) I ha hb ia ib () (λx y v u v' u' mx my ix iy rv ru=>?_) X.prog X.w X.xe _ #[.bl _,H,I,rfl,q _ _ #[H,z] (Ext.refl hz) (.bl _) h3];exact RW I n X.A.in1 x y v u v' u' (by show X.A.units+1+n<cLine;omega) (qAN.mp (show xs.all (ED n)=true from fx) x mx) (qAN.mp (show ys.all (ED n)=true from fy) y my) ix iy rv ru
 .exact h3.elim
end
theorem Hw {env:Env}:∀(names:List (Str×NameKind))(acc:List (Str×Addr)),(∀y∈names,y.2=.free->∃c,env.cells.lookup y.1=some c) ->
 ∃cl,(forIn names acc fun(x:Str×NameKind)(r:List (Str×Addr))=>if (x.2 == .free)=true then (do let c <-cellOf env x.1;pure (ForInStep.yield ((x.1,c)::r)):Sem _) else pure (ForInStep.yield r))=pure cl /\
  (∀y c,(y,c)∈cl->(y,c)∈acc\/env.cells.lookup y=some c)/\(∀y,(y,NameKind.free)∈names->∃c,(y,c)∈cl)/\∀p∈acc,p∈cl
 |[],acc,_=>#[acc,rfl,λy c h=>.inl h,(λy h=>by cases h),λp h=>h]
 |(n,k)::r,acc,h=>by
  rw[qCg];by_cases hk:(k==NameKind.free)=true
  .have hk':k=.free:=by simpa using hk
   obtain⟨c,hc⟩:=h (n,k) qAK hk';obtain⟨cl,e,h1,h2,h3⟩:=Hw r ((n,c)::acc) λy hy=>h y (qAE _ hy);refine#[cl,?_,λy d hd=>?_,λy hy=>?_,λp hp=>h3 p (qAE _ hp)]
   .have hco:cellOf env n=pure c:=by unfold cellOf;rw[hc]
    simp only[hk,if_true,hco,pure_bind];exact e
   .rcases h1 y d hd with z|z
    .rcases qAl.mp z with z|z
     .cases z;exact .inr hc
     .exact .inl z
    .exact .inr z
   .rcases qAl.mp hy with z|z
    .cases z;exact#[c,h3 _ qAK]
    .exact h2 y z
  .obtain⟨cl,e,h1,h2,h3⟩:=Hw r acc λy hy=>h y (qAE _ hy);refine#[cl,?_,h1,λy hy=>?_,h3]
   .simp only[hk,Bool.false_eq_true,if_false,pure_bind];exact e
   .rcases qAl.mp hy with z|z
    .cases z;exact absurd rfl hk
    .exact h2 y z
theorem BP {α:Type}{y:Str}{c:α}:∀{l:List (Str×α)},l.lookup y=some c->(y,c)∈l
 |[],h=>by cases h
 |(n,d)::r,h=>by
  rw[qBm]at h;cases q:y==n with
  |true => rw[q]at h;cases h;have:y=n:=by simpa using q
           subst this;exact qAK
  |false=>rw[q]at h;exact qAE _ (BP h)
theorem Kv {α:Type}{y:Str}{c:α}:∀{l:List (Str×α)},(y,c)∈l->∃d,l.lookup y=some d
 |(n,d)::r,h=>by
  rw[qBm];cases q:y==n with
  |true=>exact#[d,rfl]
  |false=>
   rcases qAl.mp h with z|z
   .cases z;simp at q
   .exact Kv z
theorem Fz {scope:Scope}{env:Env}(h:∀y∈scope.names,y.2=.free->∃c,env.cells.lookup y.1=some c) :
 ∃cl,closureFor scope env=pure cl/\(∀y c,cl.lookup y=some c->env.cells.lookup y=some c)/\∀y,(y,NameKind.free)∈scope.names->∃c,cl.lookup y=some c:=by
 obtain⟨cl,e,h1,h2,_⟩:=Hw scope.names [] h;refine#[cl,?_,λy c hc=>?_,λy hy=>?_]
 .unfold closureFor
  first|(simp only[bind_pure];exact e)|exact e
 .rcases h1 y c (BP hc) with z|z
  .cases z
  .exact z
 .obtain⟨c,hc⟩:=h2 y hy;exact Kv hc
def AB (X:Cx)(N:List Str)(scope:Scope)(cl:List (Str×Addr))(C:Addr)(s₀:Shared)(H₀:Hp)(fp:List Addr):Cx:=
 { X with N:=N,s₀:=s₀,H₀:=H₀,env:=compEnvC scope cl C X.env,outer:=X.stack,ex:=fp,fn:=λ_=>false,pn:=[],xe:=λ_ _=>False,lent:=none }
theorem C8 {env:Env}:∀{names:List (Str×NameKind)}{x:Str}{k:NameKind},(names.map fun(n,k)=>if (k==NameKind.free&&env.scope.kind == .function&&env.kindOf n==some .cell) then (n,NameKind.cell) else (n,k)).lookup x=some k ->
 ∃k0,(x,k0)∈names/\(k=k0\/k0=.free)
 |[],_,_,h=>by cases h
 |(n,k1)::r,x,k,h=>by
  have h':List.lookup x ((if (k1==NameKind.free&&env.scope.kind == .function&&env.kindOf n==some .cell)=true then (n,NameKind.cell) else (n,k1))::(r.map fun(n,k)=>if (k==NameKind.free&&env.scope.kind == .function&&env.kindOf n==some .cell) then (n,NameKind.cell) else (n,k)))=some k:=h;by_cases hc:(k1==NameKind.free&&env.scope.kind == .function&&env.kindOf n==some .cell)=true
  .rw[if_pos hc,qBm]at h';have hk1:k1=.free:=by
    rw[qAW,qAW]at hc;simpa using hc.1.1
   cases q:x==n with
   |true=>
    have:x=n:=by simpa using q
    subst this;exact#[k1,qAK,.inr hk1]
   |false=>
    rw[q]at h';obtain⟨k0,h1,h2⟩:=C8 h';exact#[k0,qAE _ h1,h2]
  .rw[if_neg hc,qBm]at h';cases q:x==n with
   |true=>
    rw[q]at h';have:x=n:=by simpa using q
    subst this;exact#[k1,qAK,.inl (qAo h').symm]
   |false=>
    rw[q]at h';obtain⟨k0,h1,h2⟩:=C8 h';exact#[k0,qAE _ h1,h2]
theorem Cq {env:Env}{y:Str}(hk:env.scope.kind=.function)(hy:env.kindOf y=some .cell):∀{names:List (Str×NameKind)},names.lookup y=some .free ->
 (names.map fun(n,k)=>if (k==NameKind.free&&env.scope.kind == .function&&env.kindOf n==some .cell) then (n,NameKind.cell) else (n,k)).lookup y=some .cell
 |[],h=>by cases h
 |(n,k1)::r,h=>by
  show List.lookup y ((if (k1==NameKind.free&&env.scope.kind == .function&&env.kindOf n==some .cell)=true then (n,NameKind.cell) else (n,k1))::(r.map fun(n,k)=>if (k==NameKind.free&&env.scope.kind == .function&&env.kindOf n==some .cell) then (n,NameKind.cell) else (n,k)))=some .cell;rw[qBm]at h;cases q:y==n with
  |true=>
   rw[q]at h;have:y=n:=by simpa using q
   subst this;have hk1:k1=.free:=qAo h;subst hk1;rw[if_pos (by rw[hk,hy];rfl),qBm,q]
  |false=>
   rw[q]at h;have ih:=Cq hk hy h;by_cases hc:(k1==NameKind.free&&env.scope.kind == .function&&env.kindOf n==some .cell)=true
   .rw[if_pos hc,qBm,q];exact ih
   .rw[if_neg hc,qBm,q];exact ih
structure Ba (X:Cx)(x:Str)(scope:Scope)(N:List Str)(idx:List Nat):Prop where
 kind:scope.kind=.function
 cell:∀y∈scope.names,y.2≠.cell
 names:∀y∈scope.names,y.2=.local->scope.names.lookup y.1=some .local
 own:scope.names.lookup x=some .local
 free:∀y∈scope.names,y.2=.free->X.env.kindOf y.1=some .cell
 nd:N.Nodup
 fst:N[0]? = some x
 len:↥N=↥idx+1
 cap:∀(k j:Nat),idx[k]? = some j->∃y,N[k+1]? = some y/\X.N[j]? = some y/\scope.names.lookup y=some .free
def D8 {α:Type}(σ:List (Option α))(idx:List Nat):List (Option α):=idx.map λj=>(σ[j]?).getD none
theorem Iy {α:Type}{σ:List (Option α)}{idx:List Nat}{k:Nat}{v:α}(h:(D8 σ idx)[k]? = some (some v)):∃j,idx[k]? = some j/\σ[j]? = some (some v):=by
 unfold D8 at h;rw[qAd]at h;cases e:idx[k]? with
 |none=>rw[e]at h;cases h
 |some j=>
  rw[e]at h;refine#[j,rfl,?_];have h':(σ[j]?).getD none=some v:=qAo h;cases q:σ[j]? with
  |none=>rw[q]at h';cases h'
  |some o=>rw[q]at h';rw[show o=some v from h']
section
variable {X:Cx}{pins:List (Addr×Obj)}{σ:St}{H2:Hp}{s2:Shared}{x:Str}{px:Pos}{scope:Scope}{N:List Str}{idx:List Nat}{J:It}{fp:List Addr}{it:Addr}{tn:Nat->Heap->Prop}{cl:List (Str×Addr)}
theorem PV (O:Ba X x scope N idx)(I2:Inv X pins σ H2 s2)(T:UX X.prog X.w X.K (.Name x px) J fp it tn)(st2:tn 0 s2.heap)(f2:∀b∈fp,PQ X pins H2 b)
 (hcl:∀y c,cl.lookup y=some c->X.env.cells.lookup y=some c)(hcl2:∀y,(y,NameKind.free)∈scope.names->∃c,cl.lookup y=some c)
 {h1:Heap}{C:Addr}{m:Str->Option Value}{tk:Nat}(hC:s2.heap.objs.size<C) (hns:h1.Ns C m) (old:∀b o,s2.heap.get? b=some o->h1.get? b=some o)
 (hD:h1.get? s2.heap.objs.size=some { cls:=.type "list",data:=.seq ([]:List Value).toArray }) :
 Inv (AB X N scope cl C s2 H2 fp) [] (none::D8 σ idx) (upd H2 s2.heap.objs.size (.lst [])) { s2 with heap:=h1,toks:=tk }:=by
 have inHeap:∀b∈fp,b<s2.heap.objs.size:=λb hb=>by
  obtain⟨o,e,_⟩:=T.obj 0 _ st2 b hb;exact qAk e
 have hDn:H2 s2.heap.objs.size=none:=I2.hok.fresh (qAg _);refine#[#[I2.ok.mod,O.kind,I2.ok.glob,I2.ok.blt,?_,?_,?_,(λ_ _ z=>by cases z),I2.ok.hd,I2.ok.frames,.inl rfl,?_,λb o e=>I2.bs b o e,qAO I2.ok.bsz I2.sz,?_,?_,I2.stack,I2.stkFree,I2.tb],rfl,I2.bare,?_,#[m,hns,?_],?_,?_,?_,?_,?_,?_]
 .exact qBs hC
 .intro y z c h1 h2;exact I2.ok.inj y z c (hcl y c h1) (hcl z c h2)
 .intro y hy;have key:∀k,(relabel scope X.env).names.lookup y=some k->(k=.cell\/k=.free)->∃c,cl.lookup y=some c:=λk e hk=>by
   obtain⟨k0,h1,h2⟩:=C8 e;have hf:k0=.free:=by
    rcases h2 with rfl|h2
    .rcases hk with rfl|rfl
     .exact absurd rfl (O.cell _ h1)
     .rfl
    .exact h2
   subst hf;exact hcl2 y h1
  rcases hy with e|e
  .exact key _ e (.inl rfl)
  .exact key _ e (.inr rfl)
 .intro b hb;have:=inHeap b hb;exact#[qAx (qBi this hC),λy c e=>(f2 b hb).2.2.2.2.1 y c (hcl y c e)]
 .intro b o e hb;rcases(f2 b hb).2.2.2.1 with z|z
  .exact I2.ok.noex b o e z
  .exact absurd (qAs (qAk e) (qAO I2.ok.bsz z)) (qAX _)
 .intro b hb hf;rcases qAl.mp (I2.stkSub b hf) with e|e
  .exact(f2 b hb).2.1 e
  .exact(f2 b hb).2.2.1 e
 .exact Un.laid old (qAg _) hDn
 .intro i y v e1 e2 e3;cases i with
  |zero=>cases e2
  |succ k=>
   obtain⟨j,ej,es⟩:=Iy (k:=k) e2;obtain⟨y',n1,n2,n3⟩:=O.cap k j ej;have ey:y'=y:=qAo (n1.symm.trans e1);subst ey;have kc:=O.free _ (BP n3) rfl;obtain⟨m0,hn0,hl0⟩:=I2.loc;obtain⟨u,ru,lk⟩:=hl0 j y' v n2 es (.inr (.inl kc));refine#[u,ru,?_];rcases lk with⟨k1,_⟩|⟨_,c,hc,ic⟩
   .rw[kc]at k1;cases k1
   .obtain⟨c',hc'⟩:=hcl2 y' (BP n3);have:c'=c:=qAo ((hcl y' c' hc').symm.trans hc);subst this;exact .inr #[.inl (Cq I2.ok.kind kc n3),c',hc',ic.keeps old]
 .intro y c e;obtain⟨v,ic⟩:=I2.cell y c (hcl y c e);exact#[v,ic.keeps old]
 .show upd H2 _ _ C=none;rw[Ao (qBt hC)];exact I2.hok.fresh (qBs hC)
 .intro y c e;obtain⟨v,ic⟩:=I2.cell y c (hcl y c e);rw[Ao (qAx ic.lt)];exact I2.freeC y c (hcl y c e)
 .intro p hp;cases hp
 .exact I2.hok.laid old (qAg _) #[qA4 _,[],_,.nil,hD]
 .show(none::D8 σ idx).length=↥N;rw[O.len,qAQ];unfold D8;rw[qAa]
theorem Hj {σ':St}{H':Hp}{s':Shared}{pl:List (Addr×Obj)}{C:Addr}{h':Heap}(I2:Inv X pins σ H2 s2)(f2:∀b∈fp,PQ X pins H2 b)(hC:s2.heap.objs.size<C)(I':Inv (AB X N scope cl C s2 H2 fp) pl σ' H' s')(hs:Heap.SameBut C s'.heap h') :
 Inv X pins σ H' { s' with heap:=h' }:=by
 have ne:∀b o,s2.heap.get? b=some o->b≠C:=λb o e=>qAx (qBi (qAk e) hC);have u:=I'.base;refine Inv.call' (s':={ s' with heap:=h' }) (ch:=fp) I2 I'.os #[λb o e n hb hx=>(hs.2 b (ne b o e)).trans (u.keep b o e n hb hx),λb o e n hb hx=>?_,u.free,λb o e hx=>?_,u.tups,u.frzs,u.tbls] (λb ob e=>?_) I'.bare (λb hb=>#[(f2 b hb).2.2.2.1,(f2 b hb).2.1,(f2 b hb).2.2.2.2.1,(f2 b hb).2.2.2.2.2])
 .obtain⟨sl,e1⟩:=u.slot b o e n hb hx;exact#[sl,(hs.2 b (ne b o e)).trans e1]
 .obtain⟨o',e1⟩:=u.there b o e hx;exact#[o',(hs.2 b (ne b o e)).trans e1]
 .refine(I'.hok b ob e).stay (λc w' hc q=>(hs.2 c ?_).trans q) (λ_ q=>q) λ_ _ q=>q;have hf:H' C=none:=I'.free;rintro rfl;rcases hc with rfl|hc
  .rw[hf]at e;cases e
  .rw[hf]at hc;cases hc
def Vp (X:Cx)(ifs:List Expr)(t:TT):Prop:=∀(pins:List (Addr×Obj))(s:Shared)(σ:St)(H:Hp)(Q:Bool->Hp->Prop),Inv X pins σ H s->t σ H Q ->
 wpAny (model X.prog X.w) X.A (forIn ifs true λc r=>if r=true then do let ok <-isTrue c X.env (eval c X.env);pure (ForInStep.yield ok) else pure (ForInStep.yield r)) (TP X pins σ Q) X.xe s
theorem SR:Vp X [] (λ_ H Q=>Q true H):=λpins s σ H Q I h=>wpAny_pure #[H,I,h]
theorem SO {c:Expr}{t:TT}(h:PT X c t):Vp X [c] t:=λpins s σ H Q I hq=>by
 rw[qCg];simp only[if_true,bind_assoc,pure_bind];exact wpAny_bind (thn (h pins s σ H Q I hq) λb s1 h1=>wpAny_pure h1)
def SN (K:W.Frag)(idx:List Nat)(wi:TI)(tt:Hp->TT)(te:Hp->TE):TE:=λσ H Q=>wi σ H λJ H1=>∀D,H1 D=none->K.lookup D=none->∃W:Nat->Nat->List V->Hp->Prop,(∃m,W 0 m [] (upd H1 D (.lst []))) /\
 ∀i m ys H,H D=some (.lst ys)->W i m ys H->(J.stop i H/\Q (.ref D) H)\/(J.go i H/\∀x H',J.yld i H x H'->tt H1 (some x::D8 σ idx) H' λb H2=>
  if b=true then te H1 (some x::D8 σ idx) H2 (λv H3=>H3 D=some (.lst ys)/\↥ys<sizeLine/\∃m',m'<m/\W (i+1) m' (ys++[v]) (upd H3 D (.lst (ys++[v])))) else H2 D=some (.lst ys)/\∃m',m'<m/\W (i+1) m' ys H2)
theorem OU {elt iter:Expr}{ifs:List Expr}{wi:TI}{tt:Hp->TT}{te:Hp->TE}{pos:Pos}{s:Shared}{H:Hp}{Q:VK}{use:Option (Value->Sem Unit)}{QQ:Value->Shared->Prop}(O:Ba X x scope N idx)(hc:X.calm=true)(hi:PI X (.Name x px) iter wi)
 (hifs:∀cl C s₀ H₀ fp,Vp (AB X N scope cl C s₀ H₀ fp) ifs (tt H₀))(helt:∀cl C s₀ H₀ fp,PE (AB X N scope cl C s₀ H₀ fp) elt (te H₀))
 (hs:∀x,foldedSetIterable iter X.env x=pure x)(I:Inv X pins σ H s)(h:SN X.K idx wi tt te σ H Q)
 (fin:∀(s2:Shared)(H2:Hp)(fp:List Addr)(cl:List (Str×Addr))(C D:Addr)(σ':St)(H':Hp)(s':Shared),Inv X pins σ H2 s2->(∀b∈fp,PQ X pins H2 b)->s2.heap.objs.size<C->Inv (AB X N scope cl C s2 H2 fp) [] σ' H' s'->Q (.ref D) H' ->
  compPost (model X.prog X.w) X.A X.xe use QQ (.ref D) C (.ok .next) s') :
 wpAny (model X.prog X.w) X.A (comprehension (.ListComp elt [#[.Name x px,iter,ifs,0]] scope pos) scope X.env (firstIterPos [#[.Name x px,iter,ifs,0]] pos) (newList []) false (eval iter X.env) use) QQ X.xe s:=by
 obtain⟨cl,ecl,hcl,hcl2⟩:=Fz (scope:=scope) (env:=X.env) λy hy hf=>I.ok.has y.1 (.inl (O.free y hy hf));refine wpAny_comprehension_free (use:=use) (cl:=cl) rfl hs ecl O.kind O.names ?_;refine thn (hi pins s σ H _ I h) λv s1 h1=>thn h1 λitv s2 h2=>?_;obtain⟨it,fp,tn,J,H2,rfl,I2,T,st2,f2,hD⟩:=h2;refine wpAny_newObj_type (wpAny_newFunctionEnv O.cell (by intro y hy;simp at hy) (λh1 hns hsb=>?_) O.kind);dsimp only at hns hsb ⊢;generalize hG:s2.heap.push { cls:=.type "list",dict:=none,data:=.seq ([]:List Value).toArray }=G at hns hsb ⊢;have hCs:s2.heap.objs.size<G.objs.size:=by rw[<-hG,qBR];exact qBU _
 have old:∀b o,s2.heap.get? b=some o->h1.get? b=some o:=λb o e=>hsb.extBut b o (qAx (qBi (qAk e) hCs)) (qAi _ (hG ▸ qAi _ e));have hDl:h1.get? s2.heap.objs.size=some { cls:=.type "list",data:=.seq ([]:List Value).toArray }:=hsb.extBut _ _ (qAx hCs) (qAi _ (hG ▸ qAF _ rfl));have hDn:H2 s2.heap.objs.size=none:=I2.hok.fresh (qAg _);have hDk:X.K.lookup s2.heap.objs.size=none:=by
  cases e:X.K.lookup s2.heap.objs.size with
  |none=>rfl
  |some o=>exact absurd (qAk (I2.kIn _ _ e)) (qAX _)
 obtain⟨W,⟨m0,w0⟩,step⟩:=hD _ hDn hDk;have I4:Inv (AB X N scope cl G.objs.size s2 H2 fp) [] (none::D8 σ idx) (upd H2 s2.heap.objs.size (.lst [])) { s2 with heap:=h1,toks:=s2.toks+([]:List (Str×Value)).length }:=
  PV O I2 T st2 f2 hcl hcl2 hCs hns old hDl
 generalize hCC:G.objs.size=C at I4 hCs ⊢;clear hsb hns hG hCC;generalize hDD:s2.heap.objs.size=D at hDn hDk step w0 I4 hDl ⊢;have st4:tn 0 h1:=T.keep 0 _ _ st2 λb _ o e=>old b o e;have frD:∀b∈fp,(upd H2 D (.lst [])) b=none:=λb hb=>by
  obtain⟨o,e,_⟩:=T.obj 0 _ st2 b hb;rw[Ao (by rw[<-hDD];exact qAx (qAk e))];exact(f2 b hb).1
 have stat:∀{H':Hp},(∀b∈fp,H' b=none)->∀b∈fp,PQ (AB X N scope cl C s2 H2 fp) [] H' b:=λhn b hb=>
  #[hn b hb,(I4.ok.exf b hb).1,I4.ok.exfs b hb,.inl hb,(I4.ok.exf b hb).2,λp hp=>by cases hp]
 have hloc:(AB X N scope cl C s2 H2 fp).env.scope.names.lookup x=some .local:=lookup_relabel_local O.own;have loop:∀s3:Shared,s3={ s2 with heap:=h1,toks:=s2.toks+([]:List (Str×Value)).length } ->
  codeAny (model X.prog X.w) X.A (.compLoop (.ListComp elt [#[.Name x px,iter,ifs,0]] scope pos) 0 (.ref it) (.ref D) (compEnvC scope cl C X.env)) (compPost (model X.prog X.w) X.A X.xe use QQ (.ref D) C) s3:=by
  rintro s3 rfl;refine codeAny_compLoop_tests (λn s'=>∃i z H' ys,Inv (AB X N scope cl C s2 H2 fp) [] (z::D8 σ idx) H' s'/\tn i s'.heap/\(∀b∈fp,H' b=none)/\H' D=some (.lst ys)/\W i n ys H') ?_ m0 #[0,none,_,[],I4,st4,frD,Au,w0];rintro n s5 ⟨i,z,H5,ys,I5,st5,fr5,hD5,w5⟩;rcases step i n ys H5 hD5 w5 with⟨stop,q⟩|⟨go,next⟩
  .refine wpAny_mono (T.done (AB X N scope cl C s2 H2 fp) rfl rfl rfl hc i [] s5 _ H5 (λ_ _=>False) I5 (stat fr5) st5 stop) (λr s6 hh=>?_) λ_ _ z=>z.elim;obtain⟨hr,I6⟩:=hh;subst hr;exact fin s2 H2 fp cl C D _ H5 s6 I2 f2 hCs I6 q
  .refine wpAny_mono (T.item (AB X N scope cl C s2 H2 fp) rfl rfl rfl hc i [] s5 _ H5 (λ_ _=>False) I5 (stat fr5) st5 go) (λr s6 hh=>?_) λ_ _ z=>z.elim;obtain⟨u,hr,h6⟩:=hh;subst hr;dsimp only;refine(show wpAny _ _ ((pure Unit.unit:Sem Unit) >>= λ_=>assign (.Name x px) (compEnvC scope cl C X.env) u) _ _ _ from wpAny_bind (wpAny_mono (show wpAny _ _ (pure Unit.unit:Sem Unit) _ _ _ from h6) (λ_ s7 h7=>?_) λ_ _ z=>z.elim));obtain⟨xv,H7,I7,r7,y7,st7,fr7⟩:=h7;have I7':=I7.pinned (stat fr7) (T.obj _ _ st7);refine wpAny_assign_Name (Iu (X:=AB X N scope cl C s2 H2 fp) I7' O.nd O.fst (.inl hloc) r7 (λs8 I8=>?_) (.inr hloc));have again:∀{H9:Hp}{s9:Shared}{ys':List V}{m':Nat},Inv (AB X N scope cl C s2 H2 fp) ([]++KC fp s7.heap) (some xv::D8 σ idx) H9 s9->H9 D=some (.lst ys')->m'<n->W (i+1) m' ys' H9 ->
    ∃m,m<n/\∃i z H' ys,Inv (AB X N scope cl C s2 H2 fp) [] (z::D8 σ idx) H' s9/\tn i s9.heap/\(∀b∈fp,H' b=none)/\H' D=some (.lst ys)/\W i m ys H':=λ{H9 s9 ys' m'} I9 hD9 hm w9=>by
    refine#[m',hm,i+1,some xv,H9,ys',I9.unpinned,T.keep _ _ _ st7 λb hb o e=>(I9.pin (b,o) (qAA _ (qAA _ (DE hb e)))).1,λb hb=>?_,hD9,w9];obtain⟨o,e,d⟩:=T.obj _ _ st7 b hb;exact(I9.pin (b,o) (qAA _ (qAA _ (DE hb e)))).2.1
   refine wpAny_mono (hifs cl C s2 H2 fp _ s8 _ H7 _ I8 (next xv H7 y7)) (λb s9 hh=>?_) λ_ _ z=>z.elim;obtain⟨H9,I9,q9⟩:=hh;cases b with
   |true=>
    rw[if_pos rfl]at q9 ⊢;refine wpAny_mono (helt cl C s2 H2 fp _ s9 _ H9 _ I9 q9) (λy s10 hh=>?_) λ_ _ z=>z.elim;obtain⟨v,H10,I10,r10,hD10,hl,m',hm,w'⟩:=hh;refine wpAny_mono (AY (X:=AB X N scope cl C s2 H2 fp) _ s10 _ H10 (.ref D) [v] (.ref D) [y] (λ_ H'=>H'=upd H10 D (.lst (ys++[v]))) I10 rfl (.cons r10 .nil) #[D,ys,v,rfl,rfl,hD10,hl,rfl]) (λ_ s11 hh=>?_) λ_ _ z=>z.elim;obtain⟨_,H11,I11,_,e11⟩:=hh;subst e11;exact again I11 Au hm w'
   |false=>
    rw[if_neg qAr]at q9 ⊢;obtain⟨hD9,m',hm,w'⟩:=q9;exact again I9 hD9 hm w'
 exact codeAny_compStart_list (loop _ rfl) (T.self X.A 0 _ _ _ st4 (loop _ rfl))
theorem U7 {elt iter:Expr}{ifs:List Expr}{wi:TI}{tt:Hp->TT}{te:Hp->TE}{pos:Pos}(O:Ba X x scope N idx)(hc:X.calm=true)(hi:PI X (.Name x px) iter wi)
 (hifs:∀cl C s₀ H₀ fp,Vp (AB X N scope cl C s₀ H₀ fp) ifs (tt H₀))(helt:∀cl C s₀ H₀ fp,PE (AB X N scope cl C s₀ H₀ fp) elt (te H₀))
 (hs:∀x,foldedSetIterable iter X.env x=pure x:=by intro _;rfl):PE X (.ListComp elt [#[.Name x px,iter,ifs,0]] scope pos) (SN X.K idx wi tt te):=by
 intro pins s σ H Q I h;rw[eval_ListComp];refine OU (use:=none) O hc hi hifs helt hs I h λs2 H2 fp cl C D σ' H' s' I2 f2 hC I' q=>?_;obtain⟨m,hn,_⟩:=I'.loc;exact#[m,hn,λh' hs'=>#[.ref D,H',Hj I2 f2 hC I' hs',rfl,q]]
theorem Rv {C:Addr}{h':Heap}{H:Hp}{s:Shared}(I:Inv X pins σ H s)(hs:Heap.SameBut C s.heap h')(h0:X.s₀.heap.objs.size<=C)(hH:H C=none)(hL:C≠X.env.locals)(hc:∀y c,X.env.cells.lookup y=some c->c≠C)(hp:∀p∈X.pn++pins,p.1≠C) :
 Inv X pins σ H { s with heap:=h' }:=by
 obtain⟨m,hn,hl⟩:=I.loc;have ne:∀b o,X.s₀.heap.get? b=some o->b≠C:=λb o e=>qAx (qAs (qAk e) h0);refine#[I.ok,I.os,I.bare,#[λb o e n hb hx=>(hs.2 b (ne b o e)).trans (I.base.keep b o e n hb hx),λb o e n hb hx=>?_,I.base.free,λb o e hx=>?_,I.base.tups,I.base.frzs,I.base.tbls],#[m,hn.sameBut hs (Ne.symm hL),λi y v e1 e2 e3=>?_],λy c e=>?_,I.free,I.freeC,λp hq=>?_,λb ob e=>?_,I.len]
 .obtain⟨sl,e1⟩:=I.base.slot b o e n hb hx;exact#[sl,(hs.2 b (ne b o e)).trans e1]
 .obtain⟨o',e1⟩:=I.base.there b o e hx;exact#[o',(hs.2 b (ne b o e)).trans e1]
 .obtain⟨u,ru,lk⟩:=hl i y v e1 e2 e3;refine#[u,ru,?_];rcases lk with lk|⟨k,c,e,ic⟩
  .exact .inl lk
  .exact .inr #[k,c,e,ic.sameBut hs (hc y c e)]
 .obtain⟨v,ic⟩:=I.cell y c e;exact#[v,ic.sameBut hs (hc y c e)]
 .obtain⟨e,n,ne',nf,d⟩:=I.pin p hq;exact#[(hs.2 p.1 (hp p hq)).trans e,n,ne',nf,d]
 .refine(I.hok b ob e).stay (λc w' hc' q=>(hs.2 c ?_).trans q) (λ_ q=>q) λ_ _ q=>q;rintro rfl;rcases hc' with rfl|hc'
  .rw[hH]at e;cases e
  .rw[hH]at hc';cases hc'
def W9 (i:Nat)(te:TE):TS:=λD σ H=>te σ H λv H1=>D.nx (σ.set i (some v)) H1
theorem PM {i:Nat}{y:Str}{py spos:Pos}{elt iter:Expr}{ifs:List Expr}{wi:TI}{tt:Hp->TT}{te:Hp->TE}{pos:Pos}(O:Ba X x scope N idx)(hc:X.calm=true)(hi:PI X (.Name x px) iter wi)
 (hifs:∀cl C s₀ H₀ fp,Vp (AB X N scope cl C s₀ H₀ fp) ifs (tt H₀))(helt:∀cl C s₀ H₀ fp,PE (AB X N scope cl C s₀ H₀ fp) elt (te H₀))(hN:X.N.Nodup)(hy:X.N[i]? = some y)(hly:Loc X.env.scope y)
 (hsw:swapsWith (.ListComp elt [#[.Name x px,iter,ifs,0]] scope pos) (some (.Name y py)) spos.line X.env=pure true:=by rfl)(hs:∀x,foldedSetIterable iter X.env x=pure x:=by intro _;rfl)
 (hfn:X.fn y=true\/X.env.scope.names.lookup y=some .local:=by first|exact .inl rfl|exact .inr rfl|assumption) :
 PS X (.Assign [.Name y py] (.ListComp elt [#[.Name x px,iter,ifs,0]] scope pos) spos) (W9 i (SN X.K idx wi tt te)):=by
 intro pins s σ H D I h;rw[exec_Assign_Name_used _ _ _ _ hsw];refine wpAny_bind (wpAny_standAt (wpAny_bind ?_));show wpAny _ X.A (do let _ <-comprehension (.ListComp elt [#[.Name x px,iter,ifs,0]] scope pos) scope X.env _ (newList []) false (eval iter X.env) (some (assign (.Name y py) X.env))) _ _ s;refine wpAny_bind (wpAny_mono (OU (use:=some (assign (.Name y py) X.env)) (QQ:=λ_ s'=>SP X pins D .next s') O hc hi hifs helt hs I h λs2 H2 fp cl C E σ' H' s' I2 f2 hC I' q=>?_) (λ_ s' hq=>wpAny_pure (wpAny_pure hq)) λ_ _ e=>e);have I3:Inv X pins σ H' s':=Hj (h':=s'.heap) I2 f2 hC I' #[rfl,λ_ _=>rfl];obtain⟨mC,hnC,_⟩:=I'.loc;have h0:X.s₀.heap.objs.size<=C:=qAO I2.sz (qBs hC);have hCL:C≠X.env.locals:=qBt (qBi I2.lt hC);have hCc:∀y c,X.env.cells.lookup y=some c->c≠C:=λy c e=>by
  obtain⟨v,ic⟩:=I2.cell y c e;exact qAx (qBi ic.lt hC)
 have hCp:∀p∈X.pn++pins,p.1≠C:=λp hp=>qAx (qBi (qAk (I2.pin p hp).1) hC);show wpAny _ X.A (assign (.Name y py) X.env (.ref E)) _ _ _;refine wpAny_assign_Name (JQ (v:=.ref E) I3 hN hy hly rfl (λs4 I4 hb=>?_) hfn);obtain⟨a,hsa,ha⟩:=hb;have hCa:C≠a:=by
  rcases ha with rfl|ha
  .exact hCL
  .exact λz=>hCc y a ha z.symm
 exact#[mC,hnC.sameBut hsa hCa,λh' hs'=>#[_,H',Rv I4 hs' h0 I'.free hCL hCc hCp,q]]
end
abbrev TX3:=Tau->(List D->Prop)->Prop
def Src (X:Cx)(wi:TI)(ws:TX3):Prop:=∀(B:HZ)(τ:Tau)(σ:St)(H z:Hp)(P:List D->Prop)(R:It->Hp->Prop),Rep X B τ σ #[H,z]->ws τ P ->
 (∀(J:It)(q:HZ)(xs:List D),Ext #[H,z] q->P xs->(∀H',BQ q.h H'->(∀i,i<↥xs->J.go i H'/\∀x H'',J.yld i H' x H''->H''=H'/\∃d,xs[i]? = some d/\Is X.K q.z x d)/\∀i,↥xs<=i->J.stop i H')->R J q.h)->wi σ H R
def bY (te:TE3):TX3:=λτ P=>te τ λs=>match items s with
 |some xs=>P xs
 |none=>False
theorem K1 {X:Cx}{q:HZ}{a:Addr}{vs:List V}{xs:List D}(h:SqL X.K q.h a vs)(hi:Iss X.K q.z vs xs):∀H',BQ q.h H'->(∀i,i<↥xs->(Itl X.K a).go i H'/\∀x H'',(Itl X.K a).yld i H' x H''->H''=H'/\∃d,xs[i]? = some d/\Is X.K q.z x d)/\∀i,↥xs<=i->(Itl X.K a).stop i H':=by
 intro H' e;have h':SqL X.K H' a vs:=e.seq h;refine#[λi hlt=>#[#[vs,vs[i]'(by rw[hi.1];exact hlt),h',qAc (by rw[hi.1];exact hlt)],λx H'' hy=>#[hy.1,?_]],λi hle=>#[vs,h',by rw[hi.1];exact hle]];obtain⟨d,h1,h2⟩:=EC hi (hy.2 vs h');exact#[d,h1,h2]
theorem Vl {X:Cx}{q:HZ}{a:Addr}{vs:List V}{xs:List D}(h:SqT X.K q.h a vs)(hi:Iss X.K q.z vs xs):∀H',BQ q.h H'->(∀i,i<↥xs->(Itt X.K a).go i H'/\∀x H'',(Itt X.K a).yld i H' x H''->H''=H'/\∃d,xs[i]? = some d/\Is X.K q.z x d)/\∀i,↥xs<=i->(Itt X.K a).stop i H':=by
 intro H' e;have h':SqT X.K H' a vs:=SqT.same e h;refine#[λi hlt=>#[#[vs,vs[i]'(by rw[hi.1];exact hlt),h',qAc (by rw[hi.1];exact hlt)],λx H'' hy=>#[hy.1,?_]],λi hle=>#[vs,h',by rw[hi.1];exact hle]];obtain⟨d,h1,h2⟩:=EC hi (hy.2 vs h');exact#[d,h1,h2]
section
variable {X:Cx}{e:Expr}{te:TE3}{ta:TA3}
theorem CT:Src X (Xb X.K (FE X te)) (bY te):=by
 intro B τ σ H z P R r ht k;refine#[B,z,τ,_,r,ht,λs v H1 e1 i1 f1 h1=>?_]
 try dsimp only at h1
 split at h1
 .rename_i xs hx;cases s with
  |d z=>
   cases z with
   |tup zs=>
    cases hx;obtain⟨p,vs,rfl,h3,h4⟩:=Is.tup_inv i1;exact#[p,rfl,.inr #[#[vs,SqT.same e1.sub h3],k _ H1 _ e1 h1 (Vl (SqT.same e1.sub h3) h4)]]
   |lst zs=>
    cases hx;obtain⟨p,vs,rfl,h3,h4⟩:=Is.lst_inv i1;exact#[p,rfl,.inl #[#[vs,e1.sub.seq h3],k _ H1 _ e1 h1 (K1 (e1.sub.seq h3) h4)]]
   |_=>cases hx
  |l zs=>
   cases hx;obtain⟨p,vs,rfl,h3,h4⟩:=i1;exact#[p,rfl,.inl #[#[vs,SqL.of h3],k _ H1 _ e1 h1 (K1 (SqL.of h3) h4)]]
  |r zs=>
   cases hx;obtain⟨p,vs,rfl,h3,h4⟩:=i1;exact#[p,rfl,.inl #[#[vs,h3],k _ H1 _ e1 h1 (K1 h3 h4)]]
 .exact h1.elim
def W3 (lo st:Int)(n:Nat):List D:=(List.range n).map fun(i:Nat)=>D.int (lo+i*st)
theorem B6 (lo st:Int)(n:Nat):(W3 lo st n).length=n:=by unfold W3;rw[qAa,qAz]
theorem Ob {lo st:Int}{n i:Nat}(h:i<n):(W3 lo st n)[i]? = some (.int (lo+i*st)):=by
 unfold W3;rw[qAd,qAJ h];rfl
def Zj (ta:TA3):TX3:=λτ P=>ta τ λss=>match ss with
 |[.d (.int i),.d (.int j)]=>(-(2^62)<=i/\i<2^62/\-(2^62)<=j/\j<2^62)/\P (W3 i 1 (j-i).toNat)
 |_=>False
theorem He:Src X (WK (FA X ta)) (Zj ta):=by
 intro B τ σ H z P R r ht k;refine#[B,z,τ,_,r,ht,λss vs H1 e1 i1 h1=>?_]
 try dsimp only at h1
 split at h1
 .rename_i i0 j;obtain⟨v,u,rfl,hv,hu⟩:=Vu i1;cases Is.int_inv hv;cases Is.int_inv hu;obtain⟨q,hP⟩:=h1;refine#[i0,j,rfl,q,k _ H1 _ e1 hP λH' e=>#[λi hlt=>?_,λi hle=>?_]]
  .rw[B6]at hlt;refine#[hlt,λx H'' hy=>#[hy.1,_,Ob hlt,?_]];rw[hy.2,qCE];exact .int _
  .rw[B6]at hle;exact hle
 .exact h1.elim
end
def Ux (τ:Tau)(idx:List Nat)(x:D):Tau:=some (.d x)::(D8 τ idx).map (Option.map S.share)
structure Rm (X:Cx)(ifs:List Expr)(t:TT3):Prop where
 out:Vp X ifs (FT X t)
def eC:TT3:=λ_ R=>R true
theorem Cc {X:Cx}:Rm X [] eC:=#[λpins s σ H Q I #[B,z,τ,R,r,ht,q]=>SR pins s σ H Q I (q true #[H,z] (Ext.refl r.ext.sub) ht)]
theorem Ro {X:Cx}{c:Expr}{t:TT3}(h:PT3 X c t):Rm X [c] t:=#[SO h.out]
abbrev cxC (X:Cx)(N:List Str)(scope:Scope)(H₀:Hp):Cx:=AB X N scope [] 0 X.s₀ H₀ []
section
variable {X:Cx}{x:Str}{px pos:Pos}{scope:Scope}{N:List Str}{idx:List Nat}{cl:List (Str×Addr)}{C:Addr}{s₀:Shared}{H₀ H H':Hp}{fp:List Addr}{σ:St}{τ:Tau}
theorem Uy {B p:HZ}(r:Rep (cxC X N scope H₀) B τ σ p):Rep (AB X N scope cl C s₀ H₀ fp) B τ σ p:=#[r.len,r.ext,r.val,r.own,r.sep,r.top,r.pin]
theorem Td {α β:Type}(a:List (Option α))(b:List (Option β))(idx:List Nat):(D8 a idx).length=(D8 b idx).length:=by unfold D8;rw[qAa,qAa]
theorem Oe {B p p0 q:HZ}{d:D}{v:V}(r:Rep X B τ σ p)(e:Ext p p0)(e':Ext p0 q)(iv:Is X.K q.z v d):Rep (cxC X N scope p0.h) p0 (Ux τ idx d) (some v::D8 σ idx) q:=by
 have no:∀(i:Nat)(xs:List D),¬(Ux τ idx d)[i]? = some (some (.l xs)):=λi xs z=>by
  cases i with
  |zero=>cases z
  |succ k=>
   have z':((D8 τ idx).map (Option.map S.share))[k]? = some (some (.l xs)):=z;rw[qAd]at z';cases q:(D8 τ idx)[k]? with
   |none=>rw[q]at z';cases z'
   |some o=>
    rw[q]at z';cases o with
    |none=>cases z'
    |some s0=>
     have z2:s0.share=.l xs:=qAo (qAo z');cases s0<;>cases z2
 refine#[?_,e',λi s hs=>?_,λi xs a z _=>absurd z (no i xs),λi j xs s a _ z _ _ _=>absurd z (no i xs),λ_=>BQ.refl _,λk a h=>by cases h]
 .unfold Ux;rw[qAQ,qAQ,qAa,Td]
 .cases i with
  |zero=>
   cases hs;exact#[v,rfl,iv]
  |succ k=>
   have z':((D8 τ idx).map (Option.map S.share))[k]? = some (some s):=hs;rw[qAd]at z';cases q:(D8 τ idx)[k]? with
   |none=>rw[q]at z';cases z'
   |some o=>
    rw[q]at z';cases o with
    |none=>cases z'
    |some s0=>
     have z2:s0.share=s:=qAo (qAo z');obtain⟨j,hj,hτ⟩:=Iy q;obtain⟨w,hw,iw⟩:=r.val j s0 hτ;refine#[w,?_,?_]
     .show(D8 σ idx)[k]? = some (some w);unfold D8;rw[qAd,hj];show some ((σ[j]?).getD none)=_;rw[hw];rfl
     .rw[<-z2];exact(iw.mono (e.trans e')).share
end
def Wx (idx:List Nat)(ws:TX3)(tt:TT3)(te:TE3):TE3:=λτ R=>ws τ λxs=>∃os:List (Option D),↥os=↥xs /\
 (∀(n:Nat)(x:D),xs[n]? = some x->tt (Ux τ idx x) λb=>if b=true then te (Ux τ idx x) (λs=>dd s.arg λy=>os[n]? = some (some y)) else os[n]? = some none)/\↥xs<=100000/\R (.l (os.filterMap id))
section
variable {X:Cx}{x:Str}{px pos:Pos}{scope:Scope}{N:List Str}{idx:List Nat}{elt iter:Expr}{ifs:List Expr}{wi:TI}{ws:TX3}{tt:TT3}{te:TE3}
theorem Ow (hsrc:Src X wi ws){σ:St}{H:Hp}{Q:VK}(h:FE X (Wx idx ws tt te) σ H Q):SN X.K idx wi (λH₀=>FT (cxC X N scope H₀) tt) (λH₀=>FE (cxC X N scope H₀) te) σ H Q:=by
 obtain⟨B,z,τ,R,r,ht,q⟩:=h;refine hsrc B τ σ H z _ _ r ht λJ p1 xs e1 hP hJ=>λD' hD hK=>?_;obtain⟨os,hlen,hel,hsz,hR⟩:=hP;have sz:(100000:Nat)<sizeLine:=∅;refine#[λi m ys H'=>m=↥xs-i/\i<=↥xs/\∃z',Ext p1 #[H',z']/\z' D'=none/\Iss X.K z' ys ((os.take i).filterMap id),#[↥xs,rfl,qA4 _,p1.z,Ext.own e1.sub hD _,e1.sub.free hD,Iss.nil],?_];rintro i m ys H' hD' ⟨rfl,hi,z',hs,hzD,hiss⟩;by_cases hlt:i<↥xs
 .obtain⟨go,yl⟩:=(hJ H' hs.hh).1 i hlt;refine .inr #[go,λv H'' hy=>?_];obtain⟨rfl,d,hx,iv⟩:=yl v H'' hy;have rr:Rep (cxC X N scope p1.h) p1 (Ux τ idx d) (some v::D8 σ idx) #[H'',z']:=Oe r e1 hs (iv.mono hs.zz);have hys:↥ys<=i:=by
   rw[hiss.1];refine qAO (qBJ _ _) ?_;rw[qAZ];omega
  have keep:∀q:HZ,Ext #[H'',z'] q->q.z D'=none:=λq e=>by
   cases y:q.z D' with
   |none=>rfl
   |some o=>
    rcases e.new D' o y with y|y
    .exact nomatch (hzD.symm.trans y)
    .exact nomatch (hD'.symm.trans y)
  refine#[_,_,_,_,rr,hel i d hx,λb q3 e3 hb=>?_];cases b with
  |true=>
   rw[if_pos rfl]at hb ⊢;refine#[_,_,_,_,rr.mono e3,hb,λs v2 q4 e4 i4 f4 h4=>?_];obtain⟨y,hy',h4⟩:=EY h4;obtain⟨z5,e5,i5⟩:=EW e4 i4 f4;rw[hy']at i5;have e35:=e3.trans e5;have hD4:q4.h D'=some (.lst ys):=e35.hh _ _ hD';have hz5:z5 D'=none:=keep _ e35;refine#[hD4,(),↥xs-(i+1),(),rfl,hlt,z5,?_,hz5,?_]
   .have e15:=hs.trans e35;refine#[λb o hb'=>?_,e15.zz,λb o hb'=>?_,e15.new]
    .have hne:b≠D':=by rintro rfl;rw[hD]at hb';cases hb'
     show upd q4.h D' _ b=some o;rw[Ao hne];exact e15.hh b o hb'
    .have hne:b≠D':=by
      rintro rfl;have hb2:z5 b=some o:=hb';rw[hz5]at hb2;cases hb2
     show upd q4.h D' _ b=some o;rw[Ao hne];exact e15.sub b o hb'
   .rw[qBH,h4,qCN];exact(hiss.mono e35.zz).snoc i5
  |false=>
   rw[if_neg qAr]at hb ⊢;refine#[e3.hh _ _ hD',↥xs-(i+1),(),rfl,hlt,q3.z,hs.trans e3,keep _ e3,?_];rw[qBH,hb,qCN];have:([none]:List (Option D)).filterMap id=[]:=rfl;show Iss X.K q3.z ys ((os.take i).filterMap id++([none]:List (Option D)).filterMap id);rw[this,qBA];exact hiss.mono e3.zz
 .have ei:i=↥xs:=();subst ei;refine .inl #[(hJ H' hs.hh).2 _ (qAg _),q (.l (os.filterMap id)) _ #[H',z'] (e1.trans hs) #[D',ys,rfl,hD',?_] (λxs a _ h2=>?_) hR]
  .rw[<-hlen,List.take_length]at hiss;exact hiss
  .cases h2;exact#[e1.hh.free hD,hK,hzD]
theorem Rg (hifs:∀cl C s₀ H₀ fp,Rm (AB X N scope cl C s₀ H₀ fp) ifs tt):∀cl C s₀ H₀ fp,Vp (AB X N scope cl C s₀ H₀ fp) ifs (FT (cxC X N scope H₀) tt):=λcl C s₀ H₀ fp pins s σ H Q I #[B,z,τ,R,r,ht,q]=>
 (hifs cl C s₀ H₀ fp).out pins s σ H Q I #[B,z,τ,R,Uy r,ht,q]
theorem Lc (helt:∀cl C s₀ H₀ fp,PE3 (AB X N scope cl C s₀ H₀ fp) elt te):∀cl C s₀ H₀ fp,PE (AB X N scope cl C s₀ H₀ fp) elt (FE (cxC X N scope H₀) te):=λcl C s₀ H₀ fp pins s σ H Q I #[B,z,τ,R,r,ht,q]=>
 (helt cl C s₀ H₀ fp).out pins s σ H Q I #[B,z,τ,R,Uy r,ht,q]
theorem Fi (O:Ba X x scope N idx)(hc:X.calm=true)(hi:PI X (.Name x px) iter wi)(hsrc:Src X wi ws)(hifs:∀cl C s₀ H₀ fp,Rm (AB X N scope cl C s₀ H₀ fp) ifs tt)(helt:∀cl C s₀ H₀ fp,PE3 (AB X N scope cl C s₀ H₀ fp) elt te)
 (hs:∀x,foldedSetIterable iter X.env x=pure x:=by intro _;rfl):PE3 X (.ListComp elt [#[.Name x px,iter,ifs,0]] scope pos) (Wx idx ws tt te):=
 #[BJ (U7 O hc hi (Rg hifs) (Lc helt) hs) λσ H Q h=>Ow hsrc h]
theorem JA {i:Nat}{y:Str}{py spos:Pos}(O:Ba X x scope N idx)(hc:X.calm=true)(hi:PI X (.Name x px) iter wi)(hsrc:Src X wi ws)(hifs:∀cl C s₀ H₀ fp,Rm (AB X N scope cl C s₀ H₀ fp) ifs tt)(helt:∀cl C s₀ H₀ fp,PE3 (AB X N scope cl C s₀ H₀ fp) elt te)
 (hN:X.N.Nodup)(hy:X.N[i]? = some y)(hly:Loc X.env.scope y)
 (hsw:swapsWith (.ListComp elt [#[.Name x px,iter,ifs,0]] scope pos) (some (.Name y py)) spos.line X.env=pure true:=by rfl)(hs:∀x,foldedSetIterable iter X.env x=pure x:=by intro _;rfl)
 (hfn:X.fn y=true\/X.env.scope.names.lookup y=some .local:=by first|exact .inl rfl|exact .inr rfl|assumption)(hp:E9 X i:=by first|exact Fj rfl|exact E8 rfl ∅|assumption) :
 PS3 X (.Assign [.Name y py] (.ListComp elt [#[.Name x px,iter,ifs,0]] scope pos) spos) (Y4 i (Wx idx ws tt te)):=
 #[CQ (PM O hc hi (Rg hifs) (Lc helt) hN hy hly hsw hs hfn) λD2 σ H hh=>by obtain⟨B,z,τ,D3,r,ht,c⟩:=hh;exact Ow hsrc #[B,z,τ,_,r,ht,λs v H' e i f h=>by
  cases s with
  |r _=>exact h.elim
  |d y=>exact c.nx _ _ _ (r.set e i f rfl hp) h
  |l ys=>exact c.nx _ _ _ (r.set e i f rfl hp) h]]
end
def Oi (fN:List Str)(scope:Scope)(N:List Str):Nat->List Nat->Bool
 |_,[]=>true
 |k,j::r=>(match N[k+1]?,fN[j]? with
  |some y,some y'=>y==y'&&(scope.names.lookup y==some NameKind.free)
  |_,_=>false)&&Oi fN scope N (k+1) r
def Rk (fsc:Scope)(fN:List Str)(x:Str)(scope:Scope)(N:List Str)(idx:List Nat):Bool:=
 (scope.kind == .function)&&scope.names.all (λy=>!(y.2 == .cell))&&scope.names.all (λy=>!(y.2 == .local)||scope.names.lookup y.1==some .local)&&(scope.names.lookup x==some NameKind.local) &&
 scope.names.all (λy=>!(y.2 == .free)||fsc.names.lookup y.1==some .cell)&&decide N.Nodup&&(N[0]? == some x)&&(↥N==↥idx+1)&&Oi fN scope N 0 idx
theorem U4 {fN:List Str}{scope:Scope}{N:List Str}:∀{idx:List Nat}{k0:Nat},Oi fN scope N k0 idx=true->∀(k j:Nat),idx[k]? = some j->∃y,N[k0+k+1]? = some y/\fN[j]? = some y/\scope.names.lookup y=some .free
 |[],_,_,_,_,h=>by simp at h
 |i::r,k0,h,k,j,hk=>by
  unfold Oi at h;rw[qAW]at h;cases k with
  |zero=>
   have e:i=j:=by simpa using hk
   subst e;obtain⟨h1,_⟩:=h;split at h1
   .rename_i y y' e1 e2;rw[qAW]at h1;have ey:y=y':=by simpa using h1.1
    subst ey;exact#[y,e1,e2,by simpa using h1.2]
   .cases h1
  |succ k=>
   obtain⟨y,a,b,c⟩:=U4 h.2 k j (by simpa using hk);exact#[y,by rw[<-a];congr 1;omega,b,c]
theorem Ba.mk' {X:Cx}{x:Str}{scope:Scope}{N:List Str}{idx:List Nat}(fsc:Scope)(fN:List Str)(h1:X.env.scope=fsc)(h2:X.N=fN)(h:Rk fsc fN x scope N idx=true):Ba X x scope N idx:=by
 subst h1 h2;unfold Rk at h;simp only[qAW]at h;obtain⟨⟨⟨⟨⟨⟨⟨⟨a1,a2⟩,a3⟩,a4⟩,a5⟩,a6⟩,a7⟩,a8⟩,a9⟩:=h;refine#[by simpa using a1,λy hy=>?_,λy hy hl=>?_,by simpa using a4,λy hy hf=>?_,by simpa using a6,by simpa using a7,by simpa using a8,λk j hk=>?_]
 .have:=qAN.mp a2 y hy;simpa using this
 .have:=qAN.mp a3 y hy;rw[hl]at this;simpa using this
 .have:=qAN.mp a5 y hy;rw[hf]at this;show X.env.scope.names.lookup y.1=some .cell;simpa using this
 .have:=U4 a9 k j hk;simpa using this
section
variable {X:Cx}{e a b c:Expr}{te ta tb tc:TE3}{pos:Pos}
theorem Y3 {t:TE}(h:PE X e t):PE X e (λσ H Q=>t σ H λv H'=>(∀a o,H' a=some o->X.K.lookup a=none)->Q v H'):=λpins s σ H Q I q=>
 thn (h pins s σ H _ I q) λu s1 #[v,H1,I1,r1,q1]=>#[v,H1,I1,r1,q1 λa o e=>by
  cases y:X.K.lookup a with
  |none=>rfl
  |some o'=>
   have:=(I1.bs a o' (I1.ok.mod.kin a o' y)).2;rw[e]at this;cases this]
def Qd:D->Bool
 |.non=>true
 |_=>false
theorem MY {K:W.Frag}{z:Hp}{v:V}{x:D}(h:Is K z v x):decide (v=.non)=Qd x:=by cases h<;>rfl
def bM:R3:=λdx dy R=>match dy with
 |.non=>R (.bl (Qd dx))
 |_=>False
def YU:R3:=λdx dy R=>match dy with
 |.non=>R (.bl (!Qd dx))
 |_=>False
theorem S4:Ij X (compareOp .Is) bM:=Fm Xq λx y H Q hh=>by
 obtain⟨z,dx,dy,R,hz,hx,hy,h3,q⟩:=hh;unfold bM at h3;split at h3
 .exact#[hy.non_inv,q _ _ #[H,z] (Ext.refl hz) (.bl _) (by rw[MY hx];exact h3)]
 .exact h3.elim
theorem Ut:Ij X (compareOp .IsNot) YU:=Fm Wi λx y H Q hh=>by
 obtain⟨z,dx,dy,R,hz,hx,hy,h3,q⟩:=hh;unfold YU at h3;split at h3
 .exact#[hy.non_inv,q _ _ #[H,z] (Ext.refl hz) (.bl _) (by rw[MY hx];exact h3)]
 .exact h3.elim
def aE:R3:=λdx dy R=>match dx,dy with
 |.tup xs,.tup ys=>xs≠[]/\↥xs+↥ys<=100000/\R (.tup (xs++ys))
 |.lst xs,.lst ys=>↥xs+↥ys<=100000/\R (.lst (xs++ys))
 |.int i,.int j=>R (.int (i+j))
 |_,_=>False
theorem Iss.append {K:W.Frag}{H:Hp}{vs ws:List V}{xs ys:List D}(h:Iss K H vs xs)(h':Iss K H ws ys):Iss K H (vs++ws) (xs++ys):=by
 refine#[by simp[h.1,h'.1],λi v x h1 h2=>?_];by_cases hi:i<↥vs
 .rw[qAt hi]at h1;rw[qAt (by have:=h.1;omega)]at h2;exact h.2 i v x h1 h2
 .rw[qAw ()]at h1;rw[qAw (by have:=h.1;omega)]at h2;have:=h.1;exact h'.2 (i-↥vs) v x h1 (by rw[this];exact h2)
theorem JR {K:W.Frag}{H:Hp}{vs:List V}{xs:List D}(h:Iss K H vs xs):vs=[] ↔ xs=[]:=by
 have:=h.1;constructor
 .rintro rfl;exact qAT (by simpa using this.symm)
 .rintro rfl;exact qAT (by simpa using this)
theorem J7:Ij X (binaryOp .Add) aE:=Fm ((VL.or Xn).or Us) λx y H Q hh=>by
 obtain⟨z,dx,dy,R,hz,hx,hy,h3,q⟩:=hh;have sz:(100000:Nat)<sizeLine:=∅;unfold aE at h3;split at h3
 .rename_i xs ys;obtain⟨h1,h2,h3⟩:=h3;obtain⟨p,vs,rfl,g1,g2⟩:=Is.tup_inv hx;obtain⟨p',ws,rfl,g1',g2'⟩:=Is.tup_inv hy;refine .inl (.inl #[p,p',vs,ws,rfl,rfl,SqT.same hz g1,SqT.same hz g1',λw=>h1 ((JR g2).mp w),by rw[g2.1,g2'.1];omega,λw=>?_,λw l hl=>?_])
  .have:ys=[]:=(JR g2').mp w;subst this;rw[qBA]at h3;exact q _ _ #[H,z] (Ext.refl hz) hx h3
  .have j:=(g2.append g2').mono (Cn (hz.free hl) (.tup (vs++ws)));exact q _ _ _ (Ext.lay hz hl (.tup (vs++ws))) (Is.tup (SqT.of Au) j.1 j.2) h3
 .rename_i xs ys;obtain⟨h2,h3⟩:=h3;obtain⟨p,vs,rfl,g1,g2⟩:=Is.lst_own hx;obtain⟨p',ws,rfl,g1',g2'⟩:=Is.lst_own hy;refine .inl (.inr #[p,p',vs,ws,rfl,rfl,hz _ _ g1,hz _ _ g1',by rw[g2.1,g2'.1];omega,λl hl=>?_]);have j:=(g2.append g2').mono (Cn (hz.free hl) (.lst (vs++ws)));exact q _ _ _ (Ext.lay hz hl (.lst (vs++ws))) (Is.lst Au j.1 j.2) h3
 .rename_i i j;exact .inr #[i,j,hx.int_inv,hy.int_inv,q _ _ #[H,z] (Ext.refl hz) (.int _) h3]
 .exact h3.elim
def FV (xs:List D)(lo hi:Option Int):List D:=(xs.drop (HT.sIx ↥xs 0 lo)).take (HT.sIx ↥xs ↥xs hi-HT.sIx ↥xs 0 lo)
theorem Ru {K:W.Frag}{H:Hp}{vs:List V}{xs:List D}(h:Iss K H vs xs)(lo hi:Option Int):Iss K H (P8 vs lo hi) (FV xs lo hi):=by
 unfold P8 FV;rw[h.1];refine#[by simp[h.1],λi v x h1 h2=>?_];rw[List.getElem?_take]at h1 h2;split at h1
 .rename_i hlt;rw[if_pos hlt]at h2;rw[qBo]at h1 h2;exact h.2 _ v x h1 h2
 .cases h1
abbrev TO3:=Tau->(Option Int->Prop)->Prop
structure PO3 (X:Cx)(e:Option Expr)(t:TO3):Prop where
 out:PO X e (λσ H Q=>∃B z τ R,Rep X B τ σ #[H,z]/\t τ R/\∀o q,Ext #[H,z] q->R o->Q o q.h)
def oNo:TO3:=λ_ R=>R none
def eD (te:TE3):TO3:=λτ R=>te τ λs=>match s with
 |.d (.int i)=>R (some i)
 |_=>False
theorem W4:PO3 X none oNo:=#[λpins s σ H Q I #[B,z,τ,R,r,ht,q]=>V1 pins s σ H Q I (q none #[H,z] (Ext.refl r.ext.sub) ht)]
theorem J8 (h:PE3 X e te):PO3 X (some e) (eD te):=#[λpins s σ H Q I #[B,z,τ,R,r,ht,q]=>V0 h.out pins s σ H Q I #[B,z,τ,_,r,ht,λs v q1 e1 i1 f1 h1=>by
 split at h1
 .rename_i i;exact#[i,Is.int_inv i1,q _ _ e1 h1]
 .exact h1.elim]]
def vSl (te:TE3)(lo hi:TO3):TE3:=λτ R=>te τ λx=>lo τ λl=>hi τ λu=>match x with
 |.d (.tup xs)=>¬(HT.sIx ↥xs 0 l=0/\HT.sIx ↥xs ↥xs u=↥xs)/\R (.d (.tup (FV xs l u)))
 |.d (.lst xs)=>R (.l (FV xs l u))
 |.l xs=>R (.l (FV xs l u))
 |.r xs=>R (.l (FV xs l u))
 |_=>False
theorem Ur {lo hi:Option Expr}{tl th:TO3}{p2:Pos}(he:PE3 X e te)(hl:PO3 X lo tl)(hh:PO3 X hi th):PE3 X (.Subscript e (.Slice lo hi none p2) pos) (vSl te tl th):=
 #[BJ (Y3 (Tj (XA.or WJ) he.out hl.out hh.out)) λσ H Q hh=>by
  obtain⟨B,z,τ,R,r,ht,q⟩:=hh;refine#[B,z,τ,_,r,ht,λx v q1 e1 i1 f1 h1=>?_];refine#[B,_,τ,_,r.mono e1,h1,λl q2 e2 h2=>?_];refine#[B,_,τ,_,(r.mono e1).mono e2,h2,λu q3 e3 h3=>?_];have e23:=e2.trans e3;have i1':=IsS.mono e23 i1;have lists:∀(p:Addr)(vs:List V)(xs:List D),v=.ref p->SqL X.K q3.h p vs->Iss X.K q3.z vs xs->R (.l (FV xs l u))->∃a xs,v=.ref a/\SqL X.K q3.h a xs/\∀p,q3.h p=none->((∀a o,upd q3.h p (.lst (P8 xs l u)) a=some o->X.K.lookup a=none)->Q (.ref p) (upd q3.h p (.lst (P8 xs l u)))):=λp vs xs hv hs hi hR=>
   #[p,vs,hv,hs,λd hd hk=>q (.l (FV xs l u)) _ #[_,q3.z] ((e1.trans e23).trans (Ext.own e23.sub hd _)) #[d,_,rfl,Au,Ru hi l u] (λys a _ h2=>by
    cases h2;exact#[(e1.trans e23).hh.free hd,hk d _ Au,e23.sub.free hd]) hR]
  split at h3
  .rename_i xs;obtain⟨p,vs,rfl,g1,g2⟩:=Is.tup_inv i1';refine .inl #[p,vs,rfl,SqT.same e23.sub g1,by rw[g2.1];exact h3.1,λd hd _=>?_];have j:=(Ru g2 l u).mono (Cn (e23.sub.free hd) (.tup (P8 vs l u)));exact q (.d _) _ _ ((e1.trans e23).trans (Ext.lay e23.sub hd (.tup (P8 vs l u)))) (Is.tup (SqT.of Au) j.1 j.2) Ga h3.2
  .rename_i xs;obtain⟨p,vs,rfl,g1,g2⟩:=Is.lst_inv i1';exact .inr (lists p vs xs rfl (e23.sub.seq g1) g2 h3)
  .rename_i xs;obtain⟨p,vs,rfl,g1,g2⟩:=i1';exact .inr (lists p vs xs rfl (SqL.of g1) g2 h3)
  .rename_i xs;obtain⟨p,vs,rfl,g1,g2⟩:=i1';exact .inr (lists p vs xs rfl g1 g2 h3)
  .exact h3.elim]
def Ys (te:TE3):TE3:=λτ R=>te τ λs=>match items s with
 |some xs=>R (.d (.tup xs))
 |none=>False
theorem X6 {K:W.Frag}{p:HZ}{v:V}{s:S}{xs:List D}(i:IsS K p v s)(hz:BQ p.z p.h)(h:items s=some xs):∃a vs,v=.ref a/\Iss K p.z vs xs/\((SqL K p.h a vs)\/(SqT K p.z a vs/\s=.d (.tup xs))):=by
 cases s with
 |d z=>
  cases z with
  |tup zs=>cases h;obtain⟨a,vs,rfl,g1,g2⟩:=Is.tup_inv i;exact#[a,vs,rfl,g2,.inr #[g1,rfl]]
  |lst zs=>cases h;obtain⟨a,vs,rfl,g1,g2⟩:=Is.lst_inv i;exact#[a,vs,rfl,g2,.inl (hz.seq g1)]
  |_=>cases h
 |l zs=>cases h;obtain⟨a,vs,rfl,g1,g2⟩:=i;exact#[a,vs,rfl,g2,.inl (SqL.of g1)]
 |r zs=>cases h;obtain⟨a,vs,rfl,g1,g2⟩:=i;exact#[a,vs,rfl,g2,.inl g1]
theorem RR {p:Pos}(he:PE3 X e te)(hg:Gl X "tuple")(hm:X.mg "tuple"=none)(hs:starEach [e] X.env=(false,eval e X.env)::starEach [] X.env:=by exact Dv rfl):PE3 X (.Call (.Name "tuple" p) [e] [] pos) (Ys te):=
 #[BJ (MI LR hg hm qBv (A7 he.out BL hs) (he:=hs)) λσ H Q hh=>by obtain⟨B,z,τ,R,r,ht,q⟩:=hh;exact#[B,z,τ,_,r,ht,λs v q1 e1 i1 f1 h1=>by
  split at h1
  .rename_i xs hx;obtain⟨a,vs,rfl,g2,g1⟩:=X6 i1 e1.sub hx;refine#[a,vs,rfl,?_];rcases g1 with g1|⟨g1,rfl⟩
   .refine .inl #[g1,λd hd=>?_];have j:=g2.mono (Cn (e1.sub.free hd) (.tup vs));exact q (.d _) _ _ (e1.trans (Ext.lay e1.sub hd (.tup vs))) (Is.tup (SqT.of Au) j.1 j.2) Ga h1
   .exact .inr #[SqT.same e1.sub g1,q (.d _) _ q1 e1 i1 Ga h1]
  .exact h1.elim]]
end
section
variable {X:Cx}{e a b c:Expr}{te ta tb tc ti:TE3}{pos:Pos}
theorem Rep.put {B:HZ}{H z:Hp}{τ:Tau}{σ:St}{i:Nat}{xs ys':List D}{l:Addr}{vs vs':List V}(r:Rep X B τ σ #[H,z])(hi:τ[i]? = some (some (.l xs)))(hσ:σ[i]? = some (some (.ref l)))
 (hl:H l=some (.lst vs))(hv:Iss X.K z vs' ys'):Rep X B (τ.set i (some (.l ys'))) σ #[upd H l (.lst vs'),z]:=by
 obtain⟨o1,o2,o3⟩:=r.own i xs l hi hσ;refine#[by simp[r.len],#[λb o h=>?_,r.ext.zz,λb o h=>?_,r.ext.new],λj s hj=>?_,λj ys a hj ha=>?_,λj k ys s a hjk hj hk hs ha=>?_,r.top,r.pin]
 .have hb:b≠l:=by
   rintro rfl;rw[h]at o1;cases o1
  show upd H l _ b=some o;rw[Ao hb];exact r.ext.hh b o h
 .have hb:b≠l:=by
   rintro rfl;have h':z b=some o:=h;rw[show z b=none from o3]at h';cases h'
  show upd H l _ b=some o;rw[Ao hb];exact r.ext.sub b o h
 .rcases Ay hj with⟨rfl,rfl⟩|⟨hn,hj⟩
  .exact#[.ref l,hσ,l,_,rfl,Au,hv]
  .obtain⟨v,h1,h2⟩:=r.val j s hj;refine#[v,h1,?_];cases s with
   |d x=>exact h2
   |l ys=>
    obtain⟨b,ws,rfl,h3,h4⟩:=h2;have hb:b≠l:=by
     rintro rfl;exact r.sep i j xs (.l ys) b (λz=>hn z.symm) hi hj rfl hσ h1
    exact#[b,ws,rfl,by show upd H l _ b=_;rw[Ao hb];exact h3,h4]
   |r ys=>
    obtain⟨b,ws,rfl,h3,h4⟩:=h2;have hb:b≠l:=by
     rintro rfl;exact r.sep i j xs (.r ys) b (λz=>hn z.symm) hi hj rfl hσ h1
    refine#[b,ws,rfl,?_,h4];rcases h3 with (h3|⟨o,h3⟩)|h3
    .exact .inl (.inl (by show upd H l _ b=_;rw[Ao hb];exact h3))
    .exact .inl (.inr #[o,by show upd H l _ b=_;rw[Ao hb];exact h3])
    .exact .inr h3
 .rcases Ay hj with⟨rfl,_⟩|⟨hn,hj⟩
  .exact r.own j xs a hi ha
  .exact r.own j ys a hj ha
 .rcases Ay hj with⟨rfl,_⟩|⟨hn,hj'⟩
  .rcases Ay hk with⟨e3,_⟩|⟨hkn,hk'⟩
   .exact absurd e3.symm hjk
   .exact r.sep j k xs s a hjk hi hk' hs ha
  .rcases Ay hk with⟨rfl,rfl⟩|⟨hkn,hk'⟩
   .exact r.sep j k ys (.l xs) a hjk hj' hi rfl ha
   .exact r.sep j k ys s a hjk hj' hk' hs ha
def aU (i:Nat)(te ti:TE3):TS3:=λD3 τ=>match τ[i]? with
 |some (some (.l xs))=>te τ λs=>dd s.arg λd=>ti τ λk=>match k with
  |.d (.int n)=>∃j,ixN ↥xs n=some j/\D3.nx (τ.set i (some (.l (xs.set j d))))
  |_=>False
 |_=>False
theorem Iss.set {K:W.Frag}{H:Hp}{vs:List V}{xs:List D}{v:V}{x:D}(h:Iss K H vs xs)(j:Nat)(hx:Is K H v x):Iss K H (vs.set j v) (xs.set j x):=by
 refine#[by simp[h.1],λi w y h1 h2=>?_];rw[List.getElem?_set]at h1 h2;by_cases hij:j=i
 .rw[if_pos hij]at h1 h2;split at h1
  .cases h1;split at h2
   .cases h2;exact hx
   .cases h2
  .cases h1
 .rw[if_neg hij]at h1 h2;exact h.2 i w y h1 h2
theorem Ym {i:Nat}{x:Str}{ix:Expr}{px ps:Pos}(h:PS X (.Assign [.Subscript (.Name x px) ix ps] e pos) (Z8 (FE X te) (bI (P7 i) (FE X ti) YL))):PS3 X (.Assign [.Subscript (.Name x px) ix ps] e pos) (aU i te ti):=#[CQ h λD2 σ H hh=>by
 obtain⟨B,z,τ,D3,r,ht,c⟩:=hh;unfold aU at ht;split at ht
 .rename_i xs hs;refine#[B,z,τ,_,r,ht,λs v q1 e1 i1 f1 h1=>?_];obtain⟨d,hd,h1⟩:=EY h1;obtain⟨z2,e2,i2⟩:=EW e1 i1 f1;rw[hd]at i2;have r2:=r.mono e2;obtain⟨w,g1,l,vs,rfl,g2,g3⟩:=r2.val i _ hs;refine#[.ref l,g1,B,z2,τ,_,r2,h1,λk kv q3 e3 i3 f3 h3=>?_];split at h3
  .rename_i n;obtain⟨j,hj,hn⟩:=h3;cases Is.int_inv i3;exact#[l,vs,n,j,rfl,rfl,e3.hh _ _ g2,by rw[g3.1];exact hj,c.nx _ _ _ ((r2.mono e3).put hs g1 (e3.hh _ _ g2) ((g3.mono e3.zz).set j (Is.mono e3.zz i2))) hn]
  .exact h3.elim
 .exact ht.elim]
def Ze:S->Option (List D)
 |.d (.lst xs)=>some xs
 |.l xs=>some xs
 |.r xs=>some xs
 |_=>none
theorem Sv {K:W.Frag}{p:HZ}{v:V}{s:S}{xs:List D}(i:IsS K p v s)(hz:BQ p.z p.h)(h:Ze s=some xs):∃a vs,v=.ref a/\Iss K p.z vs xs/\SqL K p.h a vs:=by
 cases s with
 |d z=>
  cases z with
  |lst zs=>cases h;obtain⟨a,vs,rfl,g1,g2⟩:=Is.lst_inv i;exact#[a,vs,rfl,g2,hz.seq g1]
  |_=>cases h
 |l zs=>cases h;obtain⟨a,vs,rfl,g1,g2⟩:=i;exact#[a,vs,rfl,g2,SqL.of g1]
 |r zs=>cases h;obtain⟨a,vs,rfl,g1,g2⟩:=i;exact#[a,vs,rfl,g2,g1]
end
section
variable {X:Cx}{e:Expr}{es:List Expr}{tr:TA3}{th:TS3}
end
structure GC (K:W.Frag)(mg:Str->Option Value)(x:Str)(d:D):Prop where
 ex:∃u v,mg x=some u/\CN v u/\∀H,Is K H v d
theorem Jm {X:Cx}{x:Str}{d:D}{pos:Pos}(hg:Gl X x)(c:GC X.K X.mg x d)(hd:(x==("__debug__":Str))=false:=by decide):PE3 X (.Name x pos) (vC d):=by
 obtain⟨u,v,hm,hr,hi⟩:=c.ex;exact#[BJ (Wj hg hm hr hd) λσ H Q hh=>by obtain⟨B,z,τ,R,r,ht,q⟩:=hh;exact q (.d d) v #[H,z] (Ext.refl r.ext.sub) (hi _) Ga ht]
def KD (K:W.Frag)(u:Value)(d:D):Prop:=∃v,CN v u/\∀H,Is K H v d
theorem KD.of {K:W.Frag}{mg:Str->Option Value}{x:Str}{u:Value}{d:D}(hm:mg x=some u)(h:KD K u d):GC K mg x d:=by
 obtain⟨v,r,i⟩:=h;exact#[u,v,hm,r,i]
section
variable {K:W.Frag}
theorem KD.int {i:Int}{t}:KD K (Value.int i t) (.int i):=#[.int i,#[t,rfl],λ_=>.int i]
inductive KDs (K:W.Frag):List Value->List D->Prop where
 |nil:KDs K [] []
 |cons {u:Value}{us:List Value}{d:D}{ds:List D}:KD K u d->KDs K us ds->KDs K (u::us) (d::ds)
theorem KDs.out:∀{us:List Value}{ds:List D},KDs K us ds->∃vs,Cb vs us/\∀H,Iss K H vs ds
 |_,_,.nil=>#[[],.nil,λ_=>#[rfl,λi v x h=>by simp at h]]
 |_,_,.cons #[v,r,i] t=>by
  obtain⟨vs,rs,is⟩:=t.out;refine#[v::vs,.cons r rs,λH=>#[by simp[(is H).1],λj w x h1 h2=>?_]];cases j with
  |zero=>simp at h1 h2;subst h1;subst h2;exact i H
  |succ j=>exact(is H).2 j w x (by simpa using h1) (by simpa using h2)
theorem KD.tup {a:Addr}{od:Option Addr}{its:Array Value}{n:Nat}{sl:Array (Option Value)}{ds:List D}(h:K.lookup a=some #[.type "tuple",od,.seq its n,sl])(hz:its.size<=sizeLine)(hs:KDs K its.toList ds):KD K (.ref a) (.tup ds):=by
 obtain⟨vs,rs,is⟩:=hs.out;exact#[.ref a,rfl,λH=>.tup (.inr #[_,its,n,h,rfl,rfl,hz,rs]) (is H).1 (is H).2]
end
section
variable {X:Cx}{e:Expr}{es:List Expr}{tr:TA3}
end
end L3
namespace CH
open PySem L2 L3
theorem AN {i j:Int}{m n:Nat}(hi:i.natAbs<2^m)(hj:j.natAbs<2^n)(h:m+n<=134217728):IntMulOk i j:=
 PyProof.Rows.mulOk_of_bits (qCz hi) (qCz hj) h
def dg (n:Int):Nat:=if n==0 then 0 else n.natAbs.log2/30+1
theorem Qv {i:Int}{m:Nat}(h:i.natAbs<2^m):dg i<=m/30+1:=by
 unfold dg;by_cases h0:(i==0)=true
 .rw[if_pos h0];omega
 .rw[if_neg h0];have hn:i.natAbs≠0:=by
   intro z;apply h0;have:i=0:=();rw[this];rfl
  have:i.natAbs.log2<m:=(Nat.log2_lt hn).mpr h;omega
theorem YA {i j:Int}(h:i.natAbs<2^13000):Builtin.divisionGoesByPylong i j=false:=by
 have k:=Qv h;clear h;show(decide (dg j>300)&&decide (dg i>dg j+150))=false;rw[Bool.and_eq_false_iff];by_cases hq:dg j>300
 .exact .inr (decide_eq_false ())
 .exact .inl (decide_eq_false hq)
theorem Dm {i j:Int}(h:j.natAbs<1073741824):Builtin.divisionGoesByPylong i j=false:=PyProof.noPylong_small h
theorem nz2:(2:Int)≠0:=∅
theorem Qw (i:Int):0<=(if i<0 then -i else i):=by split<;>omega
def cell (ns:List Int)(k:Int):Int:=ns.getD k.toNat 0
theorem T9 {ns:List Int}{k:Int}(h0:0<=k)(h1:k<(↥ns:Int)):atI (ns.map D.int) k=some (.int (cell ns k)):=by
 have hk:k.toNat<↥ns:=();have ek:k=((k.toNat:Nat):Int):=();have q:atI (ns.map D.int) ((k.toNat:Nat):Int)=some (.int ns[k.toNat]):=atI_nat (by rw[qAd,qAc hk]<;>rfl);rw[<-ek]at q;rw[q];unfold cell;rw[qAe,qAc hk];rfl
abbrev I (i:Int):Option S:=some (.d (.int i))
theorem BY {c A B:Prop} [Decidable c] (h1:c->A) (h2:¬c->B):if decide c=true then A else B:=by
 by_cases h:c
 .rw[decide_eq_true h,if_pos rfl];exact h1 h
 .rw[decide_eq_false h,if_neg qAr];exact h2 h
theorem KN {c A B:Prop} [Decidable c] (h1:¬c->A) (h2:c->B):if (!decide c)=true then A else B:=by
 by_cases h:c
 .rw[decide_eq_true h];exact h2 h
 .rw[decide_eq_false h];exact h1 h
theorem iF {b:Bool}{A B:Prop}(h:B)(hb:b=false:=by rfl):if b=true then A else B:=by subst hb;rw[if_neg qAr];exact h
end CH
namespace L3
theorem boot_max:PySem.bootBuiltins "max"=some (.builtin "max"):=by decide +kernel
theorem boot_min:PySem.bootBuiltins "min"=some (.builtin "min"):=by decide +kernel
open PySem PySem.Spec PyProof.Rows L2
section
variable {prog:Program}{w:World}{A:Around}{R:Result->Shared->Prop}{s:Shared}
theorem V5 {fa:Addr}{ag:PySem.Args}{ob:Obj}{f:FuncData}{bd:Expr}{nm:Str}(hroom:A.depth<recursionLimit)(hob:s.heap.get? fa=some ob)(hdt:ob.data=.func f)
 (hc1:f.scope.isCoroutine=false)(hc2:f.scope.isGenerator=false)(hbd:f.body=.expr bd)(hcd:s.heap.CodeRec f.code nm)
 (k:wpAny (model prog w) A.in1 (bindArgs f ag) (λbs s1=>wpAny (model prog w) A.in1 (newFunctionEnv f.scope f.globals f.closure bs (nm ++ ".<locals>.") (some fa) f.code none f.builtins)
  (λen s2=>s2.heap.NoLimit/\codeAny (model prog w) A (.expr bd en) R s2) (λx s3=>R (.error x) s3) s1) (λx s3=>R (.error x) s3) s) :
 codeAny (model prog w) A (.call (.ref fa) ag) R s:=by
 refine codeAny_of_tree ?_;show wpAny _ A.in1 (callAny (.ref fa) ag) _ _ s;simp only[callAny];refine wpAny_bind (wpAny_load hob ?_);obtain⟨cc,oc,fs,tq,hc,hoc,hdc,hq⟩:=hcd;simp only[hdt,callFunction,hc1,hc2,hbd,hc];rw[hc]at k;refine wpAny_bind (m:=field (.ref cc) 1) (wpAny_field hoc hdc hq (wpAny_bind (wpAny_pure ?_)));exact wpAny_bind (wpAny_mono k (λbs s1 k1=>wpAny_bind (wpAny_mono k1 (λen s2 k2=>wpAny_bind (wpAny_enterFrame k2.1 hroom (wpAny_pure (And.intro rfl k2.2)))) λ_ _ z=>z)) λ_ _ z=>z)
end
structure SK (P:Program)(w:World)(K:W.Frag)(mg:Str->Option Value)(base:Heap)(k:Nat)(s:Shared)(H:Hp)(fs:List Addr)(a:Addr)(dom:D->Prop)(p:D->Bool):Prop where
 obj:∃o u fd,H a=some (.frz o u)/\o.data=.func fd
 run:∀(A:Around)(outer:List Env)(s':Shared)(H':Hp)(v:V)(u:Value)(x:D),FI k A->Wg P w K mg base A outer s' H' ->
  (∀b o,s.heap.get? b=some o->H b=none->b∉fs->s'.heap.get? b=some o/\H' b=none)->BQ H H'->CN v u->Is K H' v x->dom x ->
  codeAny (model P w) A (.call (.ref a) #[[u],[]]) (CR CX0 outer P w H' s' (λr H2=>r=.bl (p x)/\BQ H' H2) λ_ _ _=>False) s'
def SJ (X:Cx)(N:List Str)(scope:Scope)(cl:List (Str×Addr))(nm:Str)(a:Addr)(cdv:Value)(A:Around)(outer:List Env)(s:Shared)(H:Hp):Cx:=
 { X with A:=A.deeper (W.envX nm scope s.heap.objs.size a cdv cl),N:=N,s₀:=s,H₀:=H,env:=W.envX nm scope s.heap.objs.size a cdv cl,outer:=outer,stack:=W.envX nm scope s.heap.objs.size a cdv cl::outer,ex:=[],fn:=λ_=>false,calm:=true,pn:=[],xe:=λ_ _=>False,lent:=none }
def J4 (τ:Tau)(idx:List Nat):Tau:=idx.map λj=>match τ[j]? with
 |some (some (S.d y))=>some (S.d y)
 |_=>none
section
variable {X:Cx}{pins:List (Addr×Obj)}{σ:St}{H1 H:Hp}{s1 s:Shared}{x:Str}{scope:Scope}{N:List Str}{idx:List Nat}{cl:List (Str×Addr)}
theorem Po (I1:Inv X pins σ H1 s1)(hfn:∀y,X.fn y=true){y:Str}{c:Addr}(e:X.env.cells.lookup y=some c):c∉frs X.stack:=λhb=>by
 rcases qAl.mp (I1.stkSub c hb) with z|z
 .exact I1.cne y c e z
 .obtain⟨_,o,ho,_⟩:=I1.ok.funs.mem z;exact absurd (qAs (qAk ho) (I1.ok.cab y c (hfn y) e)) (qAX _)
theorem Q0 (O:Ba X x scope N idx)(hfn:∀y,X.fn y=true)(I1:Inv X pins σ H1 s1)(hcl:∀y c,cl.lookup y=some c->X.env.cells.lookup y=some c)(hcl2:∀y,(y,NameKind.free)∈scope.names->∃c,cl.lookup y=some c)
 {A:Around}{outer:List Env}{s':Shared}{H':Hp}(e0:Wg X.prog X.w X.K X.mg X.base A outer s' H') (hd:A.handled=none)
 (st:∀b o,s1.heap.get? b=some o->H1 b=none->b∉frs X.stack->s'.heap.get? b=some o/\H' b=none){v:V}{u:Value}(r:CN v u)
 {h1:Heap}(hns:h1.Ns s'.heap.objs.size (λy=>[(x,u)].reverse.lookup y)) (old:∀b o,s'.heap.get? b=some o->h1.get? b=some o){tk:Nat}{nm:Str}{a:Addr}{cdv:Value} :
 Inv (SJ X N scope cl nm a cdv A outer s' H') [] (some v::D8 σ idx) H' { s' with heap:=h1,toks:=tk }:=by
 have kept:∀y c,X.env.cells.lookup y=some c->∀z,s1.heap.IsCell c z->h1.IsCell c z/\H' c=none:=λy c e z hh=>by
  obtain⟨o,ho,hd⟩:=hh;obtain⟨g1,g2⟩:=st c o ho (I1.freeC y c e) (Po I1 hfn e);exact#[#[o,old _ _ g1,hd],g2]
 refine#[#[e0.mod,O.kind,rfl,rfl,qAg _,λy z c h1 h2=>I1.ok.inj y z c (hcl y c h1) (hcl z c h2),λy hy=>?_,(λ_ _ z=>by cases z),λ_=>hd,Around.frames_deeper e0.frames,.inr #[rfl,rfl],(λb z=>by cases z),e0.bs,e0.bsz,(λ_ _ _ z=>by cases z),(λb z=>by cases z),e0.funs,e0.frf,e0.tb],
  rfl,e0.bare,Un.kept old,#[_,hns,λi y v' e1 e2 e3=>?_],λy c e=>?_,e0.hok.fresh (qAg _),λy c e=>?_,(λp hp=>by cases hp),e0.hok.kept old,?_]
 .have hy':scope.names.lookup y=some .cell\/scope.names.lookup y=some .free:=hy;rcases hy' with z|z
  .exact absurd rfl (O.cell _ (BP z))
  .exact hcl2 y (BP z)
 .cases i with
  |zero=>
   have e1':y=x:=qAo (e1.symm.trans O.fst);subst e1';cases e2;exact#[u,r,.inl #[O.own,by simp]]
  |succ k=>
   obtain⟨j,ej,es⟩:=Iy (k:=k) e2;obtain⟨y',n1,n2,n3⟩:=O.cap k j ej;have ey:y'=y:=qAo (n1.symm.trans e1);subst ey;have kc:=O.free _ (BP n3) rfl;obtain⟨m0,hn0,hl0⟩:=I1.loc;obtain⟨u',ru,lk⟩:=hl0 j y' v' n2 es (.inr (.inl kc));refine#[u',ru,?_];rcases lk with⟨k1,_⟩|⟨_,c,hc,ic⟩
   .rw[kc]at k1;cases k1
   .obtain⟨c',hc'⟩:=hcl2 y' (BP n3);have:c'=c:=qAo ((hcl y' c' hc').symm.trans hc);subst this;exact .inr #[.inr n3,c',hc',(kept y' c' hc _ ic).1]
 .obtain⟨z,ic⟩:=I1.cell y c (hcl y c e);exact#[z,(kept y c (hcl y c e) z ic).1]
 .obtain⟨z,ic⟩:=I1.cell y c (hcl y c e);exact(kept y c (hcl y c e) z ic).2
 .show(some v::D8 σ idx).length=↥N;rw[O.len,qAQ];unfold D8;rw[qAa]
theorem MZ {τ:Tau}{idx:List Nat}{k:Nat}{y:S}(h:(J4 τ idx)[k]? = some (some y)):∃j d,idx[k]? = some j/\y=.d d/\τ[j]? = some (some (.d d)):=by
 unfold J4 at h;rw[qAd]at h;cases e:idx[k]? with
 |none=>rw[e]at h;cases h
 |some j=>
  rw[e]at h;have h':=qAo h;dsimp only at h';split at h'
  .rename_i d hd;exact#[j,d,rfl,(qAo h').symm,hd]
  .cases h'
theorem Uj (O:Ba X x scope N idx)(hfn:∀y,X.fn y=true)(I1:Inv X pins σ H1 s1)(hcl:∀y c,cl.lookup y=some c->X.env.cells.lookup y=some c)(hcl2:∀y,(y,NameKind.free)∈scope.names->∃c,cl.lookup y=some c)
 {a c':Addr}{fo oc:Obj}{fs:Array Value}{nm qual:Str}{tq kb:Nat}{u1 u2:HO}{params:Arguments}{body:Expr}{pm ctv:Value}{tb:TE3}{dom:D->Prop}{p:D->Bool}{B:HZ}{z:Hp}{τ:Tau}
 (ha:H1 a=some (.frz fo u1))(hfo:fo.data=.func (qB4 "<lambda>" qual params body scope cl pm (.ref c') ctv))(hc:H1 c'=some (.frz oc u2))(hoc:oc.data=.fields fs)(hfs:fs[1]? = some (.str nm tq))
 (hco:scope.isCoroutine=false)(hgen:scope.isGenerator=false)(hbind:∀(q:Str)(cl:List (Str×Addr))(pm cv ct u:Value),bindArgs (qB4 "<lambda>" q params body scope cl pm cv ct) #[[u],[]]=pure [(x,u)])
 (hb:∀cl nm a cdv A outer s H,FI kb (A.deeper (W.envX nm scope s.heap.objs.size a cdv cl))->PE3 (SJ X N scope cl nm a cdv A outer s H) body tb)
 (rep:Rep X B τ σ #[H1,z]) (hdom:∀x,dom x->tb (some (.d x)::J4 τ idx) λs=>s=.d (.bl (p x))):SK X.prog X.w X.K X.mg X.base (kb+1) s1 H1 (frs X.stack) a dom p:=by
 refine#[#[fo,u1,_,ha,hfo],λA outer s' H' v u d hr e0 st sm rv is dm=>?_];have ga:s'.heap.get? a=some fo:=(e0.hok a _ (sm _ _ ha)).1;have gc:s'.heap.get? c'=some oc:=(e0.hok c' _ (sm _ _ hc)).1;have lim:s'.heap.NoLimit:=e0.mod.nolimit.keeps λb o e=>(e0.bs b o e).1;refine V5 (nm:=nm) hr.depth ga hfo hco hgen rfl #[c',oc,fs,tq,rfl,gc,hoc,hfs] ?_;rw[hbind];refine wpAny_pure (wpAny_newFunctionEnv O.cell (λy hy=>?_) (λh1 hns hsb=>?_) O.kind)
 .have:y=(x,u):=by simpa using hy
  subst this;exact O.own
 have old:∀b o,s'.heap.get? b=some o->h1.get? b=some o:=λb o e=>hsb.extBut b o (qAx (qAk e)) (qAi _ e);refine#[lim.keeps old,?_];show codeAny _ _ (.expr body (W.envX nm scope s'.heap.objs.size a (.ref c') cl)) _ _;have J:=Q0 (nm:=nm) (a:=a) (cdv:=.ref c') (tk:=s'.toks + [(x,u)].length) O hfn I1 hcl hcl2 e0 hr.hd st rv hns old;refine W.kla_codeExpr (wpAny_mono ((hb cl nm a (.ref c') A outer s' H' (hr.deeper _)).out [] _ _ H' (λr H2=>r=.bl (p d)/\BQ H' H2) J #[#[H',H'],H',some (.d d)::J4 τ idx,λs=>s=.d (.bl (p d)),?_,hdom d dm,λs2 v2 q2 e2 i2 f2 h2=>?_])
  (λr s2 #[v2,H2,J2,r2,hq]=>#[v2,H2,J2.os,J2.bare,J2.base,J2.hok,r2,hq]) λ_ _ z=>z.elim)
 .have noL:∀(i:Nat)(xs:List D),¬(some (S.d d)::J4 τ idx)[i]? = some (some (.l xs)):=λi xs z=>by
   cases i with
   |zero=>cases z
   |succ k=>obtain⟨_,_,_,e,_⟩:=MZ (k:=k) z;cases e
  refine#[by simp[D8,J4],Ext.refl (BQ.refl _),λi y hy=>?_,λi xs _ z _=>absurd z (noL i xs),λi _ xs _ _ _ z _ _ _=>absurd z (noL i xs),λ_=>BQ.refl _,λk a h=>by cases h];cases i with
  |zero=>cases hy;exact#[v,rfl,is]
  |succ k=>
   obtain⟨j,y',ej,ey,et⟩:=MZ (k:=k) hy;subst ey;obtain⟨v',e1,e2⟩:=rep.val j _ et;refine#[v',?_,(Is.mono rep.ext.sub e2).mono sm];show(D8 σ idx)[k]? = _;unfold D8;rw[qAd,ej];show some ((σ[j]?).getD none)=_;rw[e1];rfl
 .subst h2;exact#[Is.bl_inv i2,e2.hh]
end
section
variable {X:Cx}{pins:List (Addr×Obj)}{σ:St}{H:Hp}{s:Shared}
theorem Lq {pos pos':Pos}{c cv:Value}:∀(l:List Value),TriplesOk l->codeAmong pos' (l++[rawInt pos.line,rawInt pos.col,c])=some cv->codeAmong pos' l=some cv\/cv=c:=by
 intro l h
 fun_induction TriplesOk l with
 |case1=>
  intro e;simp only[List.nil_append,codeAmong,rawInt]at e;split at e
  .exact .inr (qAo e).symm
  .cases e
 |case2 a t b u x rest ih=>
  intro e;simp only[List.cons_append,codeAmong]at e ⊢;split at e
  .rename_i hc;rw[if_pos hc];exact .inl e
  .rename_i hc;rw[if_neg hc];exact ih h e
 |case3 l h1 h2=>exact h.elim
theorem OY {x:Str}{c T:Addr}{params:Arguments}{body:Expr}{scope:Scope}{pos:Pos}{cl:List (Str×Addr)}{E:Value->Shared->Prop}{QQ:Value->Shared->Prop}(I:Inv X pins σ H s)(ht:W.tabIn X.K x=some (c,T))(hp:(recsOf X.prog).any (λd=>d.name==x)=true)
 (hcode:X.env.code=.ref c)(hdef:defaultsOf params X.env=([],[]))(hcl:closureFor scope X.env=pure cl)
 (h:∀(a c':Addr)(H':Hp)(s':Shared)(fo oc:Obj)(fs:Array Value)(nm qual:Str)(tq:Nat)(pm ctv:Value),Inv X pins σ H' s'->BQ H H'->H' a=some (.frz fo (.own T))->fo.data=.func (qB4 "<lambda>" qual params body scope cl pm (.ref c') ctv) ->
  H' c'=some (.frz oc (.own T))->oc.data=.fields fs->fs[1]? = some (.str nm tq)->QQ (.ref a) s') :
 wpAny (model X.prog X.w) X.A (eval (.Lambda params body scope pos) X.env) QQ E s:=by
 obtain⟨hd,ps,hT⟩:=I.tb.tab x c T ht hp;obtain⟨bm,ob,b1,b2,b3,b4,b5,b6⟩:=I.tb.bm;obtain⟨tab,e1,tr,cod⟩:=(show NP H s.heap T from I.hok T _ hT);have tabNe:∀{b:Addr}{o:Obj},X.base.get? b=some o->b≠T:=λ{b o} e z=>by
  have:=(I.bs b o e).2;rw[z,hT]at this;cases this
 have hgs:s.heap.Ns mainGlobals X.mg:=I.mod.glob.keeps I.bk;have hgT:mainGlobals≠T:=by
  obtain⟨o,_,_,e,_⟩:=I.mod.glob;exact tabNe e
 have hbG:bm≠mainGlobals:=λz=>by
  obtain⟨o,es,ep,e,d,_⟩:=I.mod.glob;rw[z,e]at b3;cases b3;rw[d]at b6;cases b6
 have hB:s.heap.BuiltinsAt X.mg T:=#[bm,ob,b1,b2,hbG,tabNe b3,I.bk _ _ b3,b4,b5,b6];refine W.kla_eval hdef ?_;cases hf:codeAmong pos tab.toList with
 |some cv=>
  obtain⟨c',oc,fs,nm,tq,rfl,hc',hoc,hfs⟩:=cod pos cv hf;refine W.kla_makeFunctionHit (mg:=X.mg) hcl I.ok.glob hgs hcode (hd.keeps I.bk) e1 tr hf hB λctv h' tk old sz=>?_;refine h h'.objs.size c' (upd H h'.objs.size (.frz _ (.own T))) _ _ oc fs nm _ tq _ ctv (I.laid (λb o e=>qAi _ (old b o e)) sz #[qAF _ rfl,_,qAF _ rfl]) (Cn (I.hok.fresh sz) _) Au rfl ?_ hoc hfs;rw[Ao (qAx (qAs (I.hok.lt hc') sz))];exact hc'
 |none=>
  refine W.kla_makeFunction (mg:=X.mg) hcl I.ok.glob hgs hcode (hd.keeps I.bk) e1 tr hf hgT hB λc' ctv h' tk hx hge hlt hrec htb=>?_;obtain⟨c2,oc,fs,tq,ec,hoc,hdt,hfs⟩:=hrec;cases ec;have nT:∀{b:Addr}{o:Obj},s.heap.get? b=some o->b≠T->h'.get? b=some o:=λ{b o} e z=>hx b o z e;have fresh1:H c'=none:=I.hok.fresh hge;have cT:T≠c':=qAx (qAs (qAk e1) hge);have s1:BQ H (upd H c' (.frz oc (.own T))):=Cn fresh1 _;have ok1:HOk X.prog X.w (upd H c' (.frz oc (.own T))) h':=λb u e=>by
   by_cases hb:b=c'
   .subst hb;rw[Au]at e;cases e;exact#[hoc,oc,hoc]
   .rw[Ao hb]at e;by_cases hb2:b=T
    .subst hb2;rw[hT]at e;cases e;refine#[_,htb,by rw[Array.toList_append];exact TriplesOk_snoc _ _ _ _ tr,λpos' cv z=>?_];rw[Array.toList_append]at z;rcases Lq _ tr z with z|z
     .obtain⟨c3,o3,f3,n3,t3,q1,q2,q3⟩:=cod pos' cv z;exact#[c3,o3,f3,n3,t3,q1,s1 _ _ q2,q3]
     .exact#[c',oc,fs,_,tq,z,Au,hdt,hfs]
    .refine(I.hok b u e).stay (hf:=λd w1 w2 q=>s1 _ _ q) (λd o hdd q=>nT q ?_) (λd q=>s1 _ _ q) λd xs q=>s1 _ _ q;rcases hdd with rfl|hdd
     .exact hb2
     .rintro rfl;rw[hT]at hdd;cases hdd
  have un1:Un X.fs [] H (upd H c' (.frz oc (.own T))) s.heap h':=by
   refine#[λb o e n _ _=>nT e (λz=>by rw[z,hT]at n;cases n),λb o e n _ _=>#[o.slots,nT e (λz=>by rw[z,hT]at n;cases n)],λb o e n _=>?_,λb o e _=>?_,λb xs q=>s1 _ _ q,λb o u q=>s1 _ _ q,λb ps q=>#[(List.toArray []),by rw[s1 _ _ q];simp]]
   .rw[Ao (qAx (qAs (qAk e) hge))];exact n
   .by_cases z:b=T
    .subst z;exact#[_,htb]
    .exact#[o,nT e z]
  have I1:Inv X pins σ (upd H c' (.frz oc (.own T))) { s with heap:=h',toks:=tk }:=I.un un1 ok1;have I2:=I1.laid (a:=h'.objs.size) (o:=.frz (W.kla_obj "<lambda>" (X.env.qual ++ "<lambda>") params body scope cl ((X.mg "__name__").getD .none) c' ctv) (.own T)) (t':=tk) (h':=h'.push (W.kla_obj "<lambda>" (X.env.qual ++ "<lambda>") params body scope cl ((X.mg "__name__").getD .none) c' ctv))
   (λb o e=>qAi _ e) (qAg _) #[qAF _ rfl,_,qAF _ rfl]
  refine h h'.objs.size c' _ _ _ oc fs _ _ tq _ ctv I2 (s1.trans (Cn (I1.hok.fresh (qAg _)) _)) Au rfl ?_ hdt hfs;rw[Ao (qAx hlt)];exact Au
end
abbrev SpL:=Addr->(D->Prop)->(D->Bool)->Sp3
structure P4 (P:Program)(w:World)(K:W.Frag)(mg:Str->Option Value)(base:Heap)(k kl:Nat)(f:Addr)(fd:FuncData)(ps:List Str)(sp:SpL):Prop where
 len:∀a dom p ss R U,sp a dom p ss R U->↥ss=↥ps
 run:∀(A:Around)(outer:List Env)(s:Shared)(H:Hp)(args:PySem.Args)(us:List Value)(vs:List V)(Q:VK)(E:XK)(a:Addr)(dom:D->Prop)(p:D->Bool),FI k A->Wg P w K mg base A outer s H->BindsTo s fd args (ps.zip us)->Cb vs us ->
  SK P w K mg base kl s H (frs outer) a dom p->Ag K mg (sp a dom p) vs H Q E->codeAny (model P w) A (.call (.ref f) args) (CR CX0 outer P w H s Q E) s
structure Y8 (P:Program)(w:World)(K:W.Frag)(mg:Str->Option Value)(base:Heap)(k kl:Nat)(x:Str)(ps:List Str)(sp:SpL):Prop where
 ex:∃f fd,P4 P w K mg base k kl f fd ps sp/\mg x=some (.ref f)/\W.keepIn K (.ref f)=true/\Binds K fd ps []
section
variable {P:Program}{w:World}{K:W.Frag}{mg:Str->Option Value}{base:Heap}
theorem fnL {x qual:Str}{st:Stmt}{f:Addr}{fd:FuncData}{N ps:List Str}{k kl:Nat}{sp:SpL}(F:Fun K x qual st f fd)(Sc:Ae N ps (Ac st))(len:∀a dom p ss R U,sp a dom p ss R U->↥ss=↥ps)
 (hbody:∀(cdv:Value)(A:Around)(outer:List Env)(s:Shared)(H:Hp)(E:XK)(a:Addr)(dom:D->Prop)(p:D->Bool)(ss:List S)(R:S->Prop)(U:Str->Prop),FI k (A.deeper (envOfC qual (Ac st) s.heap.objs.size f cdv))->SK P w K mg base kl s H (frs outer) a dom p->sp a dom p ss R U ->
  ∃t,Dt (Md CX0 P w K mg base N qual (Ac st) f cdv A outer s H E).nox (CC st) t/\t { nx:=λ_=>R (.d .non),rt:=R } (CP N ss)):P4 P w K mg base (k+1) kl f fd ps sp:=by
 obtain⟨oc,od,kV,doc,pm,an,cdv,ct,osl,rfl,lk,hcd⟩:=F.ex;refine#[len,λA outer s H args us vs Q E a dom p hr e0 hb rv hL hh=>?_];obtain⟨z,ss,R,U,hz,ha,h3,q,qe⟩:=hh;have hl:↥vs=↥ps:=ha.1.trans (len _ _ _ _ _ _ h3);have KX:K.In s.heap:=e0.mod.kin.keeps λb o e=>(e0.bs b o e).1;have lim:s.heap.NoLimit:=e0.mod.nolimit.keeps λb o e=>(e0.bs b o e).1;refine codeAny_call_function hr.depth (KX _ _ lk) rfl Sc.co Sc.gen rfl (W.codeRec_of KX hcd) (hb _ _ _ _ ?_);refine wpAny_newFunctionEnv_cells Sc.kind (λy hy=>?_) λenv he s1 xx=>?_
 .obtain⟨n,v⟩:=y;rcases Sc.par n (qCd hy).1 with g|g
  .exact .inl g
  .exact .inr #[g,qB5 _ _ _ (.inl g)]
 subst he;refine#[lim.keeps xx.toInCall.keep,codeAny_func ?_];obtain⟨t,ht,hq⟩:=hbody cdv A outer s H E a dom p ss R U (hr.deeper _) hL h3;have I:Inv (Md CX0 P w K mg base N qual (Ac st) f cdv A outer s H E) [] (start N vs) H s1:=MC Sc hr.hd e0 hl rv xx;refine wpAny_mono (ht.out.nox [] s1 (start N vs) H { nx:=λ_ H'=>Q .non H',rt:=Q } I #[#[H,z],z,CP N ss,_,EZ ha hz (BQ.refl H),hq,#[λτ σ p r h=>q (.d .non) _ p r.ext Is.non Ga h,λ_ _ _ _ z=>z.elim,λ_ _ _ _ z=>z.elim,λs v p e i f h=>q s v p e i f h]]) (λfl s' hs=>?_) λe s' hs=>hs;have fin:∀{σ':St}{H':Hp}{v:V}{u:Value},Inv (Md CX0 P w K mg base N qual (Ac st) f cdv A outer s H E) [] σ' H' s'->CN v u->Q v H'->CE outer P w H s Q u s':=
  λ{σ' H' v u} J rv q=>#[v,H',J.os,J.bare,J.base,J.hok,rv,q]
 cases fl with
 |ret u=>
  obtain⟨v,σ',H',J,rv,q⟩:=hs;exact fin J rv q
 |next=>
  obtain⟨σ',H',J,q⟩:=hs;exact fin (v:=V.non) (u:=Value.none) J rfl q
 |brk=>obtain⟨_,_,_,g⟩:=hs;exact False.elim g
 |cont=>obtain⟨_,_,_,g⟩:=hs;exact False.elim g
end
section
variable {X:Cx}{pos:Pos}{e:Expr}{te tb:TE3}
theorem Yn {outer:List Env}{P:Program}{w:World}{H:Hp}{s s':Shared}{Q Q':VK}{u:Value}(h:CE outer P w H s Q u s')(f:∀v H',Q v H'->Q' v H'):CE outer P w H s Q' u s':=
 let #[v,H',a,b,c,d,r,q]:=h;#[v,H',a,b,c,d,r,f _ _ q]
def YC (i:Nat)(a:Addr)(dom:D->Prop)(p:D->Bool)(te:TE3):TE3:=λτ R=>τ[i]? = some (some (.d (.ref a)))/\te τ λs=>dd s λx=>dom x/\R (.d (.bl (p x)))
theorem Wm {i k:Nat}{x:Str}{np:Pos}{a:Addr}{dom:D->Prop}{p:D->Bool}(hL:SK X.prog X.w X.K X.mg X.base k X.s₀ X.H₀ X.fs a dom p)(hr:FI k X.A)(hv:PE X (.Name x np) (P7 i))(he:PE3 X e te)(hex:X.ex=[]:=by rfl)(hl:X.lent=none:=by rfl)
 (hs:starEach [e] X.env=(false,eval e X.env)::starEach [] X.env:=by exact Dv rfl):PE3 X (.Call (.Name x np) [e] [] pos) (YC i a dom p te):=by
 refine#[λpins s σ H Q I hh=>?_];obtain⟨B,z,τ,R,r,⟨hi,ht⟩,q⟩:=hh;obtain⟨v,h1,h2⟩:=r.val i _ hi;have ev:v=.ref a:=by
  have h2':Is X.K z v (.ref a):=h2;cases h2';rfl
 subst ev;obtain⟨o,uu,fd,ho,hfd⟩:=hL.obj;refine wpAny_Call_Name_kw (thn (hv pins s σ H (λv' H'=>v'=.ref a/\H'=H) I #[_,h1,rfl,rfl]) λf s1 hh=>?_);obtain⟨v',H',I1,rv,e1,e2⟩:=hh;subst e1;subst e2;obtain rfl:f=Value.ref a:=rv;have pa:wpAny (model X.prog X.w) X.A (spliced (backTo pos (starEach [e] X.env))) _ X.xe s1:=(A7 he.out BL hs) pos pins s1 σ H' (λvs H1=>∃y z1 x,vs=[y]/\Ext #[H',z] #[H1,z1]/\Is X.K z1 y x/\dom x/\R (.d (.bl (p x)))) I1 #[B,z,τ,_,r,ht,λs2 v2 q2 e2 i2 f2 h2=>by
  obtain⟨x,rfl,hx⟩:=EY h2;exact#[v2,q2.z,x,rfl,e2,i2,hx]]
 rw[hs]at pa ⊢;refine W.callWith_of (P:=λh=>∃ob,h.get? a=some ob/\ob.data=.func fd) rfl (λh #[ob,g1,g2]=>#[.frame,.inl rfl,?_]) (Calls.evalArgs_plain (thn pa λus s2 #[vs,H2,I2,rv2,y,z1,x,evs,e2,i2,dm,hR]=>?_))
 .obtain⟨oc,od,od2,osl⟩:=ob;cases g2;exact(W.Looks.ld (part:=none) g1).andThen .now
 subst evs;have sm:BQ X.H₀ H2:=(r.all hl).trans e2.hh;obtain⟨u,rfl,ru⟩:∃u,us=[u]/\CN y u:=by
  cases rv2 with
  |cons a b=>cases b;exact#[_,rfl,a]
 refine#[#[o,(I2.hok a _ (sm _ _ ho)).1,hfd],wpAny_call (codeAny_mono (hL.run X.A X.stack s2 H2 y u x hr I2.env0 (λb ob g1 g2 g3=>#[I2.base.keep b ob g1 g2 g3 (by rw[hex];simp),I2.base.free b ob g1 g2 (by rw[hex];simp)]) sm ru (Is.mono e2.sub i2) dm) λr2 s3 hq=>?_)];cases r2 with
 |error e=>exact hq.elim
 |ok fl=>
  cases fl with
  |ret u2=>
   refine I2.after (Yn hq λv3 H3 h3=>?_);obtain⟨rfl,sm3⟩:=h3;exact q (.d (.bl (p x))) _ #[H3,z1] (e2.trans (Ext.grow e2.sub sm3)) (.bl _) Ga hR
  |next=>exact False.elim hq
  |brk=>exact False.elim hq
  |cont=>exact False.elim hq
def W7 (sp:SpL)(U:Str->Prop)(idx:List Nat)(te tb:TE3):TE3:=λτ R=>te τ λs=>∃(dom:D->Prop)(p:D->Bool),(∀x,dom x->tb (some (.d x)::J4 τ idx) λs=>s=.d (.bl (p x)))/\dd s λd=>∀a,sp a dom p [.d d,.d (.ref a)] R U
theorem Sw {k kb:Nat}{g x y:Str}{np lp:Pos}{ps:List Str}{sp:SpL}{c T:Addr}{params:Arguments}{body:Expr}{scope:Scope}{N:List Str}{idx:List Nat}(cal:Y8 X.prog X.w X.K X.mg X.base k (kb+1) g ps sp)(hr:FI k X.A)(hg:Gl X g)
 (ht:W.tabIn X.K y=some (c,T))(hp:(recsOf X.prog).any (λd=>d.name==y)=true)(hcode:X.env.code=.ref c)(O:Ba X x scope N idx)(he:PE3 X e te)
 (hb:∀cl nm a cdv A outer s H,FI kb (A.deeper (W.envX nm scope s.heap.objs.size a cdv cl))->PE3 (SJ X N scope cl nm a cdv A outer s H) body tb)
 (hfn:∀y,X.fn y=true:=by intro _;rfl)(hdef:defaultsOf params X.env=([],[]):=by rfl)(hco:scope.isCoroutine=false:=by rfl)(hgen:scope.isGenerator=false:=by rfl)
 (hbind:∀(q:Str)(cl:List (Str×Addr))(pm cv ct u:Value),bindArgs (qB4 "<lambda>" q params body scope cl pm cv ct) #[[u],[]]=pure [(x,u)]:=by intros;rfl)
 (hdb:(g==("__debug__":Str))=false:=by decide)(hs:starEach [e,.Lambda params body scope lp] X.env=(false,eval e X.env)::starEach [.Lambda params body scope lp] X.env:=by exact Dv rfl) :
 PE3 X (.Call (.Name g np) [e,.Lambda params body scope lp] [] pos) (W7 sp NoU idx te tb):=by
 refine#[λpins s σ H Q I hh=>?_];obtain⟨B,z,τ,R,r,ht1,q⟩:=hh;obtain⟨f,fd,F,hm,hk,hbi⟩:=cal.ex;obtain⟨cl,ecl,hcl,hcl2⟩:=Fz (scope:=scope) (env:=X.env) λy hy hf=>I.ok.has y.1 (.inl (O.free y hy hf));refine wpAny_Call_Name_kw (IS I hg hm ?_ hdb);refine qCm (h₀:=X.base) I.ok.mod.kin hk ?_ hs rfl;rw[hs];refine Calls.spliced_cons (thn (he.out pins s σ H (λv1 H1=>∃z1 d,Ext #[H,z] #[H1,z1]/\Is X.K z1 v1 d/\∃(dom:D->Prop)(p:D->Bool),(∀x,dom x->tb (some (.d x)::J4 τ idx) λs=>s=.d (.bl (p x)))/\∀a,sp a dom p [.d d,.d (.ref a)] R NoU) I #[B,z,τ,_,r,ht1,λs2 v2 q2 e2 i2 f2 h2=>?_]) λu1 s1 #[v1,H1,I1,rv1,z1,d,e1,i1,dom,p,hdom,hsp]=>?_)
 .obtain⟨dom,p,hdom,h3⟩:=h2;obtain⟨d,rfl,h4⟩:=EY h3;exact#[q2.z,d,e2,i2,dom,p,hdom,h4]
 have hs2:starEach [Expr.Lambda params body scope lp] X.env=(false,eval (.Lambda params body scope lp) X.env)::starEach [] X.env:=Dv rfl;rw[hs2];refine Calls.spliced_cons (OY I1 ht hp hcode hdef ecl λa c' H2 s2 fo oc fs nm qual tq pm ctv I2 sm ha hfo hc hoc hfs=>?_);refine Calls.spliced_nil #[I2.kIn,?_];have e12:Ext #[H,z] #[H2,z1]:=e1.trans (Ext.grow e1.sub sm);have r2:Rep X B τ σ #[H2,z1]:=r.mono e12;have hL:=Uj O hfn I2 hcl hcl2 ha hfo hc hoc hfs hco hgen hbind hb r2 hdom;have i1':Is X.K z1 v1 d:=i1;have hl:[u1,Value.ref a].length=↥ps:=F.len a dom p _ _ _ (hsp a);have rvs:Cb [v1,V.ref a] [u1,Value.ref a]:=.cons rv1 (.cons rfl .nil);refine wpAny_call (codeAny_mono (F.run X.A X.stack s2 H2 #[[u1,.ref a],[]] [u1,.ref a] [v1,.ref a] Q (λ_ _ _=>False) a dom p hr I2.env0 ?_ rvs hL #[z1,[.d d,.d (.ref a)],R,NoU,e12.sub,#[rfl,λi v s h1 h2=>?_],hsp a,λs v q3 e3 i3 f3 h3=>q s v q3 (e12.trans e3) i3 (K7 e12 f3) h3,λ_ _ _ _ _ z=>z.elim]) λrr s3 hq=>?_)
 .have:=hbi s2 [u1,.ref a] I2.kIn (by simpa using hl);simpa using this
 .match i,h1,h2 with
  |0,h1,h2=>cases h1;cases h2;exact#[i1',rfl]
  |1,h1,h2=>cases h1;cases h2;exact#[Is.ref a,rfl]
 cases rr with
 |error e=>exact(show False from hq).elim
 |ok fl=>
  cases fl with
  |ret u=>exact I2.after hq
  |next=>exact False.elim hq
  |brk=>exact False.elim hq
  |cont=>exact False.elim hq
end
theorem OL {K:W.Frag}{x:Str}{c T f:Addr}{oc:Value}{od:Option Addr}{fd:FuncData}{osl:Array (Option Value)}(ht:W.tabIn K x=some (c,T))(hn:W.nsIn K mainGlobals x=some (some (.ref f)))(lk:K.lookup f=some #[oc,od,.func fd,osl]):fd.code=.ref c:=by
 unfold W.tabIn at ht;rw[hn]at ht;dsimp only at ht;rw[lk]at ht;dsimp only at ht;split at ht
 .rename_i c2 hc;split at ht
  .split at ht
   .cases ht;exact hc
   .cases ht
  .cases ht
 .cases ht
section
variable {P:Program}{w:World}{K:W.Frag}{mg:Str->Option Value}{base:Heap}
theorem cS {x qual:Str}{st:Stmt}{f c T:Addr}{fd:FuncData}{N ps:List Str}{k:Nat}{sp:Sp3}(ht:W.tabIn K x=some (c,T))(hn:W.nsIn K mainGlobals x=some (some (.ref f)))(F:Fun K x qual st f fd)(Sc:Ae N ps (Ac st))(len:∀ss R U,sp ss R U->↥ss=↥ps)
 (hbody:∀(cdv:Value)(A:Around)(outer:List Env)(s:Shared)(H:Hp)(E:XK)(ss:List S)(R:S->Prop)(U:Str->Prop),cdv=.ref c->FI k (A.deeper (envOfC qual (Ac st) s.heap.objs.size f cdv))->sp ss R U ->
  WO (Md (CXU P w) P w K mg base N qual (Ac st) f cdv A outer s H E) U ->
  ∃t,Dt (Md (CXU P w) P w K mg base N qual (Ac st) f cdv A outer s H E) (CC st) t/\t { nx:=λ_=>R (.d .non),rt:=R } (CP N ss)):Ap P w K mg base (CXU P w) (k+1) f fd ps (Ag K mg sp):=by
 obtain⟨oc,od,kV,doc,pm,an,cdv,ct,osl,rfl,lk,hcd⟩:=F.ex;have ec:cdv=.ref c:=OL ht hn lk;refine T5 lk hcd Sc (λvs H Q E hh=>by obtain⟨z,ss,R,U,hz,ha,h3,_⟩:=hh;exact ha.1.trans (len ss R U h3)) λA outer s H vs Q E hr hh9=>?_;obtain⟨z,ss,R,U,hz,ha,h3,q,qe⟩:=hh9;obtain⟨t,ht,hq⟩:=hbody cdv A outer s H E ss R U ec hr h3 (Qj qe);exact#[_,ht.out,#[H,z],z,CP N ss,_,EZ ha hz (BQ.refl H),hq,#[λτ σ p r h=>q (.d .non) _ p r.ext Is.non Ga h,λ_ _ _ _ z=>z.elim,λ_ _ _ _ z=>z.elim,λs v p e i f h=>q s v p e i f h]]
theorem Yg {x qual:Str}{st:Stmt}{f c T:Addr}{fd:FuncData}{N ps:List Str}{k:Nat}{sp:Sp3}(ht:W.tabIn K x=some (c,T))(hn:W.nsIn K mainGlobals x=some (some (.ref f)))(F:Fun K x qual st f fd)(Sc:Ae N ps (Ac st))(len:∀ss R U,sp ss R U->↥ss=↥ps)
 (hbody:∀(cdv:Value)(A:Around)(outer:List Env)(s:Shared)(H:Hp)(E:XK)(ss:List S)(R:S->Prop)(U:Str->Prop),cdv=.ref c->FI k (A.deeper (envOfC qual (Ac st) s.heap.objs.size f cdv))->sp ss R U ->
  ∃t,Dt (Md CX0 P w K mg base N qual (Ac st) f cdv A outer s H E).nox (CC st) t/\t { nx:=λ_=>R (.d .non),rt:=R } (CP N ss)):Ap P w K mg base CX0 (k+1) f fd ps (Ag K mg sp):=by
 obtain⟨oc,od,kV,doc,pm,an,cdv,ct,osl,rfl,lk,hcd⟩:=F.ex;have ec:cdv=.ref c:=OL ht hn lk;refine T5 lk hcd Sc (λvs H Q E hh=>by obtain⟨z,ss,R,U,hz,ha,h3,_⟩:=hh;exact ha.1.trans (len ss R U h3)) λA outer s H vs Q E hr hh9=>?_;obtain⟨z,ss,R,U,hz,ha,h3,q,qe⟩:=hh9;obtain⟨t,ht,hq⟩:=hbody cdv A outer s H E ss R U ec hr h3;exact#[_,ht.out.nox,#[H,z],z,CP N ss,_,EZ ha hz (BQ.refl H),hq,#[λτ σ p r h=>q (.d .non) _ p r.ext Is.non Ga h,λ_ _ _ _ z=>z.elim,λ_ _ _ _ z=>z.elim,λs v p e i f h=>q s v p e i f h]]
end
theorem J5 {us:List Value}{n:Nat}(h:↥us=n+1):∃x r,us=x::r/\↥r=n:=by
 cases us with
 |nil=>cases h
 |cons x r=>exact#[x,r,rfl,Nat.succ.inj h]
theorem WT {us:List Value}(h:↥us=1):∃x0,us=[x0]:=by
 obtain⟨x0,r0,e0,h0⟩:=J5 h;have e:=qAT h0;exact#[x0,by rw[e0,e]]
theorem WE {us:List Value}(h:↥us=2):∃x0 x1,us=[x0,x1]:=by
 obtain⟨x0,r0,e0,h0⟩:=J5 h;obtain⟨x1,r1,e1,h1⟩:=J5 h0;have e:=qAT h1;exact#[x0,x1,by rw[e0,e1,e]]
theorem Wv {us:List Value}(h:↥us=3):∃x0 x1 x2,us=[x0,x1,x2]:=by
 obtain⟨x0,r0,e0,h0⟩:=J5 h;obtain⟨x1,r1,e1,h1⟩:=J5 h0;obtain⟨x2,r2,e2,h2⟩:=J5 h1;have e:=qAT h2;exact#[x0,x1,x2,by rw[e0,e1,e2,e]]
theorem VR {us:List Value}(h:↥us=4):∃x0 x1 x2 x3,us=[x0,x1,x2,x3]:=by
 obtain⟨x0,r0,e0,h0⟩:=J5 h;obtain⟨x1,r1,e1,h1⟩:=J5 h0;obtain⟨x2,r2,e2,h2⟩:=J5 h1;obtain⟨x3,r3,e3,h3⟩:=J5 h2;have e:=qAT h3;exact#[x0,x1,x2,x3,by rw[e0,e1,e2,e3,e]]
open Classical in
theorem Rz {P q:Program}{loose:List Str}{mean:ExcName->Option Value}{w:World}{K:W.Frag}{mg mb:Str->Option Value}{k:Nat}{fa a:Addr}{fd:FuncData}{x:Str}{s₁:Shared}{vs:List Value}{ns:List Int}
 (T:Top q loose mean mg mb s₁.heap) (hq:∀y:Str,(recsOf P).any (λd=>d.name==y)=true->(recsOf q).any (λd=>d.name==y)=true) (hnt:W.noTabs K=true) (KX:K.In s₁.heap) (hg:s₁.gens=(List.toArray []))
 (ha:s₁.heap.get? a=some { cls:=.type "list",data:=.seq vs.toArray })(hi:IntsAre vs ns)(hl:↥ns<=63)(hr:FI k callerA)
 (F:∀base:Heap,K.In base->base.Ns mainGlobals mg->∃mg',Ap P w K mg base CX0 k fa fd [x] (Ag K mg' OP)) (hbind:∀(s:Shared)(u:Value),BindsTo s fd #[[u],[]] [(x,u)]) :
 codeAny (model P w) callerA (.call (.ref fa) #[[.ref a],[]]) (λr s'=>r=.ok (.ret (.bool true))/\OldK s₁.heap s'.heap/\s'.os=s₁.os/\AllBare s'.gens) s₁:=by
 have rv:=G3 hi;have lenV:=↥hi;have sz:(63:Nat)<=sizeLine:=∅
 let IsT:Addr->Prop:=λb=>∃y c,W.tabIn K y=some (c,b)/\(recsOf P).any (λd=>d.name==y)=true
 have tabs:∀{y:Str}{c b:Addr},W.tabIn K y=some (c,b)->(recsOf P).any (λd=>d.name==y)=true->W.CodeHd s₁.heap c b/\s₁.heap.get? b=some (W.tabObj (List.toArray [])):=λ{y c b} h1 h2=>by
  have h3:=hq y h2;cases e:(recsOf q).find? (λd=>d.name==y) with
  |some d=>exact W.tab_of T KX e h1
  |none=>
   obtain⟨d,hd,hn⟩:=List.any_eq_true.mp h3;exact absurd hn (List.find?_eq_none.mp e d hd)
 have tabG:∀{b:Addr},IsT b->s₁.heap.get? b=some (W.tabObj (List.toArray [])):=fun#[_,_,h1,h2]=>(tabs h1 h2).2
 let H:Hp:=λb=>if b=a/\K.lookup a=none then some (.frz { cls:=.type "list",data:=.seq vs.toArray } (.lst (ns.map V.int))) else if IsT b then some (.tbl (List.toArray [])) else none
 have Ha:K.lookup a=none->H a=some (.frz { cls:=.type "list",data:=.seq vs.toArray } (.lst (ns.map V.int))):=λh=>if_pos #[rfl,h];have neT:∀{b:Addr},IsT b->b≠a:=λt z=>by
  have:=tabG t;rw[z,ha]at this;cases this
 have Ht:∀{b:Addr},IsT b->H b=some (.tbl (List.toArray [])):=λ{b} t=>(if_neg (λz=>neT t z.1)).trans (if_pos t);have Hn:∀{b:Addr},¬(b=a/\K.lookup a=none)->¬IsT b->H b=none:=λ{b} h1 h2=>(if_neg h1).trans (if_neg h2);have three:∀b,H b=none\/(b=a/\K.lookup a=none)\/IsT b:=λb=>by
  by_cases h1:b=a/\K.lookup a=none
  .exact .inr (.inl h1)
  .by_cases h2:IsT b
   .exact .inr (.inr h2)
   .exact .inl (Hn h1 h2)
 have free_of:∀{b:Addr}{o:Obj},s₁.heap.get? b=some o->(∀xs n,o.data≠.seq xs n)->o≠W.tabObj (List.toArray [])->H b=none:=λ{b o} e h1 h2=>by
  refine Hn (λz=>?_) (λz=>?_)
  .rw[z.1,ha]at e;cases e;exact h1 _ _ rfl
  .have:=tabG z;rw[e]at this;exact h2 (qAo this)
 have hok:HOk P w H s₁.heap:=λb u e=>by
  rcases three b with z|z|z
  .rw[z]at e;cases e
  .obtain⟨rfl,z⟩:=z;rw[Ha z]at e;cases e;exact#[ha,by rw[qAa];exact qAO hl sz,vs,_,rv,ha]
  .rw[Ht z]at e;cases e;exact#[(List.toArray []),tabG z,trivial,λpos cv z=>by cases z]
 have base_of:∀{b:Addr}{o:Obj},s₁.heap.get? b=some o->H b=none->(SH s₁.heap H).get? b=some o:=λe n=>TZ e n;have nsK:∀{b:Addr}{m:Str->Option Value},s₁.heap.Ns b m->(SH s₁.heap H).Ns b m:=λ{b m} #[o,es,ep,e,d,r]=>#[o,es,ep,base_of e (free_of e (λxs n z=>by rw[d]at z;cases z) (λz=>by rw[z]at d;cases d)),d,r];have hKb:K.In (SH s₁.heap H):=λb o e=>base_of (KX b o e) (Hn (λz=>by rw[z.1,z.2]at e;cases e) (λz=>by
  have h1:=tabG z;rw[KX b o e]at h1;have h2:=qAN.mp hnt (b,o) (W.mem_of_lookupK e);rw[qAo h1]at h2;exact absurd (show false=true from h2) qAr))
 have hM:Mod K mg (SH s₁.heap H):=#[hKb,nsK T.g,#[mb,nsK T.b,T.builtins],let #[mc,h1,h2]:=T.nolimit;#[mc,nsK h1,h2]];have hTB:TB P K mg (SH s₁.heap H) H:=by
  refine#[?_,λy c b h1 h2=>#[?_,(List.toArray []),Ht #[y,c,h1,h2]]]
  .obtain⟨bm,ob,b1,b2,b3,b4,b5,b6⟩:=T.bmain;exact#[bm,ob,b1,b2,base_of b3 (free_of b3 (λxs n z=>by rw[b6]at z;cases z) (λz=>by rw[z]at b4;cases b4)),b4,b5,b6]
  .obtain⟨o,fs,file,tf,flags,tg,inF,text,tt,g1,g2,g3,g4⟩:=(tabs h1 h2).1;exact#[o,fs,file,tf,flags,tg,inF,text,tt,base_of g1 (free_of g1 (λxs n z=>by rw[g3]at z;cases z) (λz=>by rw[z]at g2;cases g2)),g2,g3,g4]
 have e0:Wg P w K mg (SH s₁.heap H) callerA [] s₁ H:=#[rfl,hM,λb o e=>VC e,Nat.le_of_eq (QZ _ _),trivial,λb hb=>absurd (show b∈([]:List Addr) from hb) (by simp),hok,.of_eq hg,hTB];have hS:SqL K H a (ns.map V.int):=by
  cases hk:K.lookup a with
  |some o=>
   have e:=KX a o hk;rw[ha]at e;cases e;exact .inr #[_,vs.toArray,_,hk,rfl,rfl,rfl,by rw[qAv,lenV];exact qAO hl sz,by simpa using rv]
  |none=>exact .inl (.inr #[_,Ha hk])
 obtain⟨mg',FF⟩:=F _ hKb (nsK T.g);refine codeAny_mono (FF.run callerA [] s₁ H #[[.ref a],[]] [.ref a] [.ref a] (λv _=>v=.bl true) (λ_ _ _=>False) hr e0 (hbind s₁ (.ref a)) (.cons rfl .nil) #[H,[.r (ns.map D.int)],λs=>s=.d (.bl true),NoU,BQ.refl H,#[rfl,λi v s h1 h2=>?_],#[ns,rfl,hl,rfl],λs v q _ i _ e=>?_,λ_ _ _ _ _ z=>z.elim]) λr s' h=>?_
 .cases i with
  |zero=>
   cases h1;cases h2;exact#[#[a,_,rfl,hS,LB ns],rfl]
  |succ i=>cases h1
 .subst e;exact Is.bl_inv i
 cases r with
 |error e=>exact(show False from h).elim
 |ok fl=>
  cases fl with
  |next=>exact False.elim h
  |brk=>exact False.elim h
  |cont=>exact False.elim h
  |ret u=>
   obtain⟨v,H',os,bare,un,hok',r',g⟩:=h;have g':v=.bl true:=g;subst g';obtain rfl:u=Value.bool true:=r';refine#[rfl,#[λb o e=>?_,λb o e=>un.there b o e (by simp)],os,bare];rcases three b with z|z|z
   .exact .inl (un.keep b o e z (by intro z;exact absurd (show b∈([]:List Addr) from z) (by simp)) (by simp))
   .obtain⟨rfl,z⟩:=z;obtain⟨e2,_⟩:=hok' b _ (un.frzs b _ _ (Ha z));rw[ha]at e;cases e;exact .inl e2
   .have e1:=tabG z;obtain⟨y,c,h1,h2⟩:=id z;rw[e]at e1;cases e1;obtain⟨more,e3⟩:=un.tbls b _ (Ht z);obtain⟨tab,e4,_⟩:=(show NP H' s'.heap b from hok' b _ e3);exact .inr (.inl #[((tabs h1 h2).1.tab (tabs h1 h2).2).isCodeTable,rfl,(List.toArray []),tab,rfl,by rw[e4];simp])
theorem walk3 {l:W.OpenLaw}{k:Nat}{q:Program}{loose:List Str}{XP:(Str->Option Value)->Heap->Prop}{YP:World->Heap->Prop}{d:DefRec}{K:Params->W.Frag}{x:Str}(hn:l.most=some 63)(hdf:d.params.defaults=[])(hr:FI k callerA)
 (hq:∀y:Str,(recsOf l.prog).any (λd=>d.name==y)=true->(recsOf q).any (λd=>d.name==y)=true)
 (hY:∀(w:World)(h:Heap),YP w h->(K w.params).In h)(hnt:∀w:World,W.noTabs (K w.params)=true)
 (F:∀(w:World)(mg:Str->Option Value)(fa:Addr)(h:Heap),(K w.params).In h->h.Ns mainGlobals mg->mg d.name=some (.ref fa) ->
  ∃fd:FuncData,(∀(s:Shared)(u:Value),BindsTo s fd #[[u],[]] [(x,u)])/\∀base:Heap,(K w.params).In base->base.Ns mainGlobals mg->∃mg',Ap l.prog w (K w.params) mg base CX0 k fa fd [x] (Ag (K w.params) mg' OP)) :
 W.WalkO q loose XP YP l.row.toRowW d [] (λf vs=>PySem.call f vs):=by
 refine Att.attach_call hn hdf λw s₀ s₁ mg mb fa o pm cd doc a vs ns G Y ho hd hcd hmg hobj hints hlen hg=>?_;have KX:=hY w _ Y;obtain⟨fd,hb,hF⟩:=F w mg fa _ KX G.T.g hmg;exact Rz G.T hq (hnt w) KX hg hobj hints hlen hr hF hb
open PySem L2
def S.wk:S->S
 |.d (.lst xs)=>.r xs
 |s=>s
def S.nl:S->Bool
 |.d (.lst _)=>false
 |_=>true
theorem Yq:∀s:S,s.wk.own=s.own
 |.d (.lst _)=>rfl
 |.d .non|.d (.bl _)|.d (.int _)|.d (.str _)|.d (.ty _)|.d (.ref _)|.d (.tup _)|.l _|.r _=>rfl
theorem Yr:∀s:S,s.wk.nl=true
 |.d (.lst _)=>rfl
 |.d .non|.d (.bl _)|.d (.int _)|.d (.str _)|.d (.ty _)|.d (.ref _)|.d (.tup _)|.l _|.r _=>rfl
theorem J1 {y:S}{l:List D}(h:y=.r l\/y=.d (.lst l))(n:y.nl=true):y=.r l:=by
 rcases h with rfl|rfl
 .rfl
 .cases n
theorem ZF {K:W.Frag}{p:HZ}{v:V}(hz:BQ p.z p.h):∀s:S,IsS K p v s->IsS K p v s.wk
 |.d (.lst _),h=>by
  have h:Is K p.z v (.lst _):=h;cases h with
  |lst e hl r=>exact#[_,_,rfl,.inl (.inl (hz _ _ e)),hl,r]
 |.d .non,h|.d (.bl _),h|.d (.int _),h|.d (.str _),h|.d (.ty _),h|.d (.ref _),h|.d (.tup _),h|.l _,h|.r _,h=>h
def NL (sp:Sp3):Sp3:=λss R U=>sp ss R U/\∀s∈ss,s.nl=true
theorem Q6 {K:W.Frag}{mg:Str->Option Value}{sp:Sp3}(hs:∀ss R U,sp ss R U->sp (ss.map S.wk) R U){vs:List V}{H:Hp}{Q:VK}{E:XK}(h:Ag K mg sp vs H Q E):Ag K mg (NL sp) vs H Q E:=by
 obtain⟨z,ss,R,U,hz,⟨hl,ha⟩,h3,q⟩:=h;refine#[z,ss.map S.wk,R,U,hz,#[by rw[qAa];exact hl,λi v s hv h=>?_],#[hs _ _ _ h3,λs h=>?_],q]
 .rw[qAd]at h;obtain⟨t,e,rfl⟩:=Option.map_eq_some_iff.mp h;have:=ha i v t hv e;exact#[ZF hz _ this.1,(Yq t).trans this.2]
 .obtain⟨t,_,rfl⟩:=qAy.mp h;exact Yr t
section
variable {P:Program}{w:World}{K:W.Frag}{mg:Str->Option Value}{base:Heap}{f:Addr}{fd:FuncData}{ps:List Str}{k:Nat}
theorem fnW {CX:CXT}{sp:Sp3}(hs:∀ss R U,sp ss R U->sp (ss.map S.wk) R U)(F:Ap P w K mg base CX k f fd ps (Ag K mg (NL sp))):Ap P w K mg base CX k f fd ps (Ag K mg sp):=F.imp λ_ _ _ _=>Q6 hs
theorem cD {kl:Nat}{sp:SpL}(hs:∀a d p ss R U,sp a d p ss R U->sp a d p (ss.map S.wk) R U)(F:P4 P w K mg base k kl f fd ps (λa d p=>NL (sp a d p))):P4 P w K mg base k kl f fd ps sp:=
 #[λa d p ss R U h=>by have:=F.len a d p _ R U #[hs _ _ _ _ _ _ h,λs h=>by obtain⟨t,_,rfl⟩:=qAy.mp h;exact Yr t];rw[qAa]at this;exact this,
  λA outer s H args us vs Q E a d p hr e0 hb rv hL hh=>F.run A outer s H args us vs Q E a d p hr e0 hb rv hL (Q6 (hs a d p) hh)]
end
section
variable {X:Cx}{e a b:Expr}{es:List Expr}{te ta tb:TE3}{tr:TA3}{pos:Pos}
theorem vN (i:Nat){x:Str}(hN:X.N[i]? = some x:=by rfl)(hv:Vis X.env.scope x:=by first|exact Or.inl rfl|exact Or.inr (Or.inl rfl)|exact Or.inr (Or.inr rfl))(hd:(x==("__debug__":Str))=false:=by decide)(hcd:(x==("__classdict__":Str))=false:=by decide):PE3 X (.Name x pos) (Y7 i):=aK (pv i hN hv hd hcd)
theorem vK (i:Nat){x:Str}{n:Int}{j:Nat}{p q:Pos}(hN:X.N[i]? = some x:=by rfl)(hv:Vis X.env.scope x:=by first|exact Or.inl rfl|exact Or.inr (Or.inl rfl)|exact Or.inr (Or.inr rfl))(hd:(x==("__debug__":Str))=false:=by decide)(hcd:(x==("__classdict__":Str))=false:=by decide):PE3 X (.Subscript (.Name x p) (.Constant (.int n) j q) pos) (vIx (Y7 i) (vC (.int n))):=A4 (vN i hN hv hd hcd) Ad
theorem a1 (ha:PE3 X e te)(hs:starEach [e] X.env=(false,eval e X.env)::starEach [] X.env:=by exact Dv rfl):PA3 X [e] (RS te Y9):=AQ ha MJ hs
theorem a2 (ha:PE3 X a ta)(hb:PE3 X b tb)(h1:starEach [a,b] X.env=(false,eval a X.env)::starEach [b] X.env:=by exact Dv rfl)(h2:starEach [b] X.env=(false,eval b X.env)::starEach [] X.env:=by exact Dv rfl):PA3 X [a,b] (RS ta (RS tb Y9)):=AQ ha (AQ hb MJ h2) h1
theorem NW {k k':Nat}{x:Str}{ps:List Str}{sp:Sp3}{p:Pos}{U:Str->Prop}(xo:WO X U)(hr:FI k' X.A)(c:Cal X.prog X.w X.K X.mg X.base (CXU X.prog X.w) k x ps sp)(ha:PA3 X (e::es) tr)(hk:k<=k':=by decide)(hg:Gl X x:=by exact rfl)
 (hdb:(x==("__debug__":Str))=false:=by decide)(he:starEach (e::es) X.env=(false,eval e X.env)::starEach es X.env:=by exact Dv rfl)(hpl:(backTo pos (starEach es X.env)).any (·.1)=false:=by exact FZ rfl)(hl:X.lent=none\/∀y,¬U y:=by first|exact .inl rfl|exact .inr (λ_ z=>z)) :
 PE3 X (.Call (.Name x p) (e::es) [] pos) (Sm U sp tr):=Sa xo c (hr.mono hk) hg ha hdb he hpl hl
theorem Ai {k k':Nat}{x:Str}{ps:List Str}{sp:Sp3}{p:Pos}(hr:FI k' X.A)(c:Cal X.prog X.w X.K X.mg X.base (CXU X.prog X.w) k x ps sp)(ha:PA3 X (e::es) tr)(hk:k<=k':=by decide)(hg:Gl X x:=by exact rfl)
 (hdb:(x==("__debug__":Str))=false:=by decide)(he:starEach (e::es) X.env=(false,eval e X.env)::starEach es X.env:=by exact Dv rfl)(hpl:(backTo pos (starEach es X.env)).any (·.1)=false:=by exact FZ rfl) :
 PE3 X (.Call (.Name x p) (e::es) [] pos) (Sm NoU sp tr):=Sa Wk c (hr.mono hk) hg ha hdb he hpl (.inr λ_ z=>z)
theorem CO {p:Pos}(hm:X.mg "len"=none)(ha:PE3 X e te)(hg:Gl X "len":=by exact rfl)(he:starEach [e] X.env=(false,eval e X.env)::starEach [] X.env:=by exact Dv rfl)(hpl:(backTo pos (starEach [] X.env)).any (·.1)=false:=by exact FZ rfl) :
 PE3 X (.Call (.Name "len" p) [e] [] pos) (vCB aN (RS te Y9)):=JF aR hg hm PySem.boot_len (AQ ha MJ he) ∅ ∅ he hpl
theorem AA (i:Nat){x:Str}{pos':Pos}{ps:List Str}{sc:Scope}(O:Ae X.N ps sc)(he:PE3 X e te)(hi:X.N[i]? = some x:=by rfl)(hx:Loc X.env.scope x:=by first|exact Or.inl rfl|exact Or.inr rfl)(hs:swapsWith e (some (.Name x pos')) pos.line X.env=pure false:=by rfl)(hf:X.fn x=true\/X.env.scope.names.lookup x=some .local:=by first|exact .inl rfl|exact .inr rfl|assumption)(hp:E9 X i:=by first|exact Fj rfl|exact E8 rfl ∅|assumption) :
 PS3 X (.Assign [.Name x pos'] e pos) (Y4 i te):=ZR O.nd hi hx he hs hf hp
theorem A3 (he:PE3 X e te):Dt X [.Return (some e) pos] (bN te):=Ah (Z0 he)
theorem Cu {op:CmpOp}{r3:R3}(ho:Ij X (compareOp op) r3)(ha:PE3 X a ta)(hb:PE3 X b tb)(hm:behindInMarks op b=false:=by exact GK _):PT3 X (.Compare a [op] [b] pos) (VA (vOp r3 ta tb)):=Zs ho ha hb hm
end
theorem scN {N P:List Str}{sc:Scope}(h1:(sc.kind=.function/\sc.isCoroutine=false/\sc.isGenerator=false):=by exact#[rfl,rfl,rfl])(h2:N.take ↥P=P:=by rfl)(h3:N.Nodup/\(∀x∈P,sc.names.lookup x=some .local\/sc.names.lookup x=some .cell)/\∀y∈sc.names,y.2≠.free:=by decide +kernel):Ae N P sc:=#[h1.1,h1.2.1,h1.2.2,h3.1,h2,h3.2.1,h3.2.2]
def Bnd (st:Stmt)(n:Str)(ps:List Str):Prop:=∀(kV doc pm:Value)(an:Option Addr)(cdv ct:Value)(us:List Value),↥us=↥ps->bindArgs (W.fnOf n n (Gi st) (CC st) (Ac st) .none kV doc pm an cdv ct) #[us,[]]=pure (ps.zip us)
section
variable {P:Program}{w:World}{K:W.Frag}{mg:Str->Option Value}{base h:Heap}
theorem mkC (X:K.In h)(G:h.Ns mainGlobals mg){n:Str}{st:Stmt}(r:Rw K n st){k:Nat}{ps:List Str}{sp:Sp3}(ok:∀{f:Addr}{fd:FuncData},Fun K n n st f fd->rA K n f->Ap P w K mg base (CXU P w) k f fd ps (Ag K mg sp))
 (hb:Bnd st n ps:=by(intro _ _ _ _ _ _ us hl;first|(obtain⟨x0,rfl⟩:=WT hl;rfl)|(obtain⟨x0,x1,rfl⟩:=WE hl;rfl)|(obtain⟨x0,x1,x2,rfl⟩:=Wv hl;rfl)|(obtain⟨x0,x1,x2,x3,rfl⟩:=VR hl;rfl))):Cal P w K mg base (CXU P w) k n ps sp:=by
 obtain⟨a,l,c,k⟩:=r;have F:=Oz (st:=st) l c k;exact#[#[_,_,ok F a,qBN X G a,k,F.binds hb]]
theorem mkL (X:K.In h)(G:h.Ns mainGlobals mg){n:Str}{st:Stmt}(r:Rw K n st){k kl:Nat}{ps:List Str}{sp:SpL}(ok:∀{f:Addr}{fd:FuncData},Fun K n n st f fd->rA K n f->P4 P w K mg base k kl f fd ps sp)
 (hb:Bnd st n ps:=by(intro _ _ _ _ _ _ us hl;first|(obtain⟨x0,rfl⟩:=WT hl;rfl)|(obtain⟨x0,x1,rfl⟩:=WE hl;rfl)|(obtain⟨x0,x1,x2,rfl⟩:=Wv hl;rfl)|(obtain⟨x0,x1,x2,x3,rfl⟩:=VR hl;rfl))):Y8 P w K mg base k kl n ps sp:=by
 obtain⟨a,l,c,k⟩:=r;have F:=Oz (st:=st) l c k;exact#[#[_,_,ok F a,qBN X G a,k,F.binds hb]]
end
section
variable {X:Cx}{e a b:Expr}{te ta tb:TE3}{pos:Pos}
def bB (i:Nat)(te:TE3):TS3:=λD3 τ=>match τ[i]? with
 |some (some (S.d (D.int n)))=>te τ λs=>dd s λd=>match d with
  |.int j=>D3.nx (τ.set i (some (.d (.int (n+j)))))
  |_=>False
 |_=>False
theorem Ox {i:Nat}{x:Str}{px:Pos}(hN:X.N.Nodup)(hi:X.N[i]? = some x)(hx:Loc X.env.scope x)(he:PE3 X e te)(hf:X.fn x=true\/X.env.scope.names.lookup x=some .local:=by first|exact .inl rfl|exact .inr rfl|assumption)(hp:E9 X i:=by first|exact Fj rfl|exact E8 rfl ∅|assumption) :
 PS3 X (.AugAssign (.Name x px) .Add e pos) (bB i te):=#[CQ (Xi hN hi hx he.out YG hf) λD2 σ H hh=>by
 obtain⟨B,z,τ,D3,r,ht,c⟩:=hh;unfold bB at ht;split at ht
 .rename_i n hs;obtain⟨v,h1,h2⟩:=r.val i _ hs;have ev:v=.int n:=Is.int_inv h2;subst ev;refine#[.int n,h1,B,_,τ,_,r,ht,λs v q1 e1 i1 f1 h3=>?_];obtain⟨d,rfl,h4⟩:=EY h3;split at h4
  .rename_i j;have ev:v=.int j:=Is.int_inv i1;subst ev;refine#[n,j,rfl,rfl,?_];exact c.nx _ _ _ ((r.mono e1).setd (.int (n+j)) hp) h4
  .exact h4.elim
 .exact ht.elim]
def cV (r3:R3)(ta tb:TE3):TE3:=λτ R=>ta τ λx=>tb τ λy=>dd x.arg λdx=>dd y.arg λdy=>r3 dx dy λd=>R (.d d)
theorem Ke {op:Operator}{r3:R3}(ho:Ij X (binaryOp op) r3)(ha:PE3 X a ta)(hb:PE3 X b tb):PE3 X (.BinOp a op b pos) (cV r3 ta tb):=#[BJ (Xv ho ha.out hb.out) λσ H Q hh=>by
 obtain⟨B,z,τ,R,r,ht,q⟩:=hh;refine#[B,z,τ,_,r,ht,λs v q1 e1 i1 f1 h1=>?_];obtain⟨z1,e1',i1'⟩:=EW e1 i1 f1;refine#[B,z1,τ,_,r.mono e1',h1,λs2 v2 q2 e2 i2 f2 h2=>?_];obtain⟨z2,e2',i2'⟩:=EW e2 i2 f2;obtain⟨dx,ex,h2⟩:=EY h2;obtain⟨dy,ey,h2⟩:=EY h2;rw[ex]at i1';rw[ey]at i2';refine#[z2,dx,dy,_,e2'.sub,(show Is X.K z1 v dx from i1').mono e2'.zz,i2',h2,λd w q3 e3 i3 h3=>?_];exact q (.d d) w q3 (e1'.trans (e2'.trans e3)) i3 Ga h3]
end
def Ite (K:W.Frag)(a:Addr):It:=
 #[λi H=>∃xs x,SqL K H a xs/\xs[i]? = some x,λi H x H'=>∃p y,H p=none/\x=.ref p/\(∀xs,SqL K H a xs->xs[i]? = some y)/\H'=upd H p (.tup [.int i,y]),λi H=>∃xs,SqL K H a xs/\↥xs<=i]
theorem Sq {P:Program}{w:World}{K:W.Frag}{elts:List Expr}{x1:Nat}{tpos:Pos}(a e it:Addr)(hne:e≠it):UX P w K (.Tuple elts x1 tpos) (Ite K a) [e,it] e (λi h=>(∃old,IsEnum h e it ((i:Nat):Int) old)/\h.IsListIter it a i) where
 mem:=by simp
 obj:=λi h st b hb=>by
  obtain⟨⟨old,he⟩,hi⟩:=st;rcases qAl.mp hb with rfl|hb
  .exact#[_,he,λv z=>by cases z]
  .have:b=it:=by simpa using hb
   subst this;obtain⟨o,e1,c,d⟩:=hi;exact#[o,e1,λv z=>by rw[d]at z;cases z]
 keep:=λi h h' st k=>#[let #[old,he]:=st.1;#[old,k e (by simp) _ he],st.2.at λo e1=>k it (by simp) o e1]
 item:=by
  intro X hP hw hK hc i pins s σ H E I hf st hg;subst hP hw hK;obtain⟨xs,x,hq,hx⟩:=hg;obtain⟨its,rv,p,hz⟩:=I.list hq;obtain⟨u,hu,ru⟩:=rv.get hx;obtain⟨⟨old,he⟩,hi⟩:=st;obtain⟨f0,f1,f2,f3,f4,f5⟩:=hf e (by simp);obtain⟨g0,g1,g2,g3,g4,g5⟩:=hf it (by simp);refine wpAny_pyNext_enum_item he hi p.isList (x:=u) (by simpa using hu) hne λh1 heo hit1 ht1 hz1 hk1=>#[_,rfl,wpAny_letOwnedTupleGo_enum (s:={ s with heap:=h1,toks:=s.toks+1 }) heo λh2 he2 hs2=>?_];have hs2':Heap.SameBut e h1 h2:=hs2;have el:e<s.heap.objs.size:=qAk he;have sz:s.heap.objs.size≠e:=qBt el;have hn:H s.heap.objs.size=none:=I.hok.fresh (qAg _);have old2:∀b o,b≠e->b≠it->s.heap.get? b=some o->h2.get? b=some o:=λb o n1 n2 z=>(hs2'.2 b n1).trans (hk1 b o n1 n2 z);have tup2:h2.get? s.heap.objs.size=some { cls:=.type "tuple",data:=.seq (List.toArray [.int i s.toks,u]) }:=(hs2'.2 _ sz).trans ht1;have trk:∀{b:Addr}{o:HO},H b=some o->b≠e/\b≠it:=λ{b o} z=>#[(λy=>by rw[y,f0]at z;cases z),(λy=>by rw[y,g0]at z;cases z)];have hok2:HOk X.prog X.w (upd H s.heap.objs.size (.tup [.int i,x])) h2:=λb o z=>by
   by_cases hb:b=s.heap.objs.size
   .subst hb;rw[Au]at z;cases z;exact#[by show 2<=sizeLine;decide,[.int i s.toks,u],.cons #[_,rfl] (.cons ru .nil),#[_,tup2,rfl,_,rfl]]
   .rw[Ao hb]at z;refine(I.hok b o z).stay (hf:=λc w1 w2 y=>by rw[Ao (AJ y hn)];exact y) (λc v hc' y=>?_) (λc y=>by rw[Ao (AJ y hn)];exact y) λc ys y=>by rw[Ao (AJ y hn)];exact y
    have t:c≠e/\c≠it:=by
     rcases hc' with rfl|hc'
     .exact trk z
     .exact trk hc'
    exact old2 c v t.1 t.2 y
  have I2:Inv X pins σ (upd H s.heap.objs.size (.tup [.int i,x])) { s with heap:=h2,toks:=s.toks+1 }:=by
   refine I.step (g':=s.gens) (d':=s.drawn) (ch:=[e,it]) (λb hb=>?_) (λb o _ _ hb z _=>old2 b o (λy=>hb (by simp[y])) (λy=>hb (by simp[y])) z) (λb o _ _ hb z _=>#[o.slots,old2 b o (λy=>hb (by simp[y])) (λy=>hb (by simp[y])) z])
    (λb o _ z n=>by rw[Ao (qAx (qAk z))];exact n) (λb o hb z=>#[o,old2 b o (λy=>hb (by simp[y])) (λy=>hb (by simp[y])) z])
    (λb ys y=>by rw[Ao (AJ y hn)];exact y) (λb o ys y=>by rw[Ao (AJ y hn)];exact y) (λb ps y=>#[(List.toArray []),by rw[Ao (AJ y hn),y];simp]) (λm hm=>?_) hok2 I.bare
   .rcases qAl.mp hb with rfl|hb
    .exact#[f3,f1,f4,f5]
    .have:b=it:=by simpa using hb
     subst this;exact#[g3,g1,g4,g5]
   .obtain⟨o,es,ep,ho,r⟩:=hm;exact#[o,es,ep,old2 _ o (Ne.symm f1) (Ne.symm g1) ho,r]
  refine#[.ref s.heap.objs.size,_,I2,rfl,#[_,x,hn,rfl,λys hy=>by rw[I.list_inj hy hq];exact hx,rfl],#[#[u,?_],hit1.extBut hs2'.extBut (Ne.symm hne)],λb hb=>?_]
  .have:((i+1:Nat):Int)=(i:Int)+1:=();rw[this];exact he2
  .rcases qAl.mp hb with rfl|hb
   .rw[Ao (Ne.symm sz)];exact f0
   .have:b=it:=by simpa using hb
    subst this;obtain⟨o,e1,_⟩:=hi;rw[Ao (qAx (qAk e1))];exact g0
 done:=by
  intro X hP hw hK hc i pins s σ H E I hf st hg;subst hP hw hK;obtain⟨xs,hq,hx⟩:=hg;obtain⟨its,rv,p,hz⟩:=I.list hq;obtain⟨⟨old,he⟩,hi⟩:=st;obtain⟨g0,g1,g2,g3,g4,g5⟩:=hf it (by simp);refine wpAny_pyNext_enum_end (I.ok.hd hc) he hi p.isList (by rw[qBB];rw[qAR,<-↥rv];exact hx) λh' hx'=>#[rfl,?_];exact I.turned (t':=s.toks) (λb o hb z=>hx' b o hb z) g0 g1 g3 g4 g5
 self:=λA i s Q E st h=>by
  obtain⟨⟨old,he⟩,_⟩:=st;exact wpAny_pyIter_enum he h
section
variable {X:Cx}{pos:Pos}
def X3 (K:W.Frag)(tl:TE):TI:=λσ H R=>tl σ H λx H1=>∃a,x=.ref a/\(∃xs,Rd H1 a (.lst xs))/\R (Ite K a) H1
theorem Nd {elts:List Expr}{x1:Nat}{tpos p:Pos}{l:Expr}{tl:TE}(hg:Gl X "enumerate")(hm:X.mg "enumerate"=none)(hl:PE X l tl)(hs:starEach [l] X.env=[(false,eval l X.env)]:=by rfl):PI X (.Tuple elts x1 tpos) (.Call (.Name "enumerate" p) [l] [] pos) (X3 X.K tl):=by
 intro pins s σ H R I h;refine Call_ (H0 I hg hm PyProof.Rows.boot_enumerate (qBc ?_ hs rfl));rw[hs];refine Calls.spliced_cons (thn (hl pins s σ H _ I h) λv s1 #[x,H1,I1,r1,q1]=>Calls.spliced_nil ?_);obtain⟨a,e,⟨xs,hq⟩,q⟩:=q1;subst e;cases r1;obtain⟨_,its,n,rv,ho⟩:=hq.ok I1.hok;refine call_enumerate_1 (items:=its.toArray) (n:=n) ho λh' he hit hz old=>?_;have I2:Inv X pins σ H1 { s1 with heap:=h' }:=I1.kept (t':=s1.toks) old;refine wpAny_pyIter_enum (s:={ s1 with heap:=h' }) he ?_;refine#[s1.heap.objs.size+1,[s1.heap.objs.size+1,s1.heap.objs.size],_,_,H1,rfl,I2,Sq a (s1.heap.objs.size+1) s1.heap.objs.size (Nat.succ_ne_self _),#[#[_,he],hit],λb hb=>?_,q];rcases qAl.mp hb with rfl|hb
 .exact I1.fpOk (qBY _) (I1.hok.fresh (qBY _))
 .have:b=s1.heap.objs.size:=by simpa using hb
  subst this;exact I1.fpOk (qAg _) (I1.hok.fresh (qAg _))
def Ye (i1 i2:Nat)(xs:List D)(tb:TS3)(D3:MT)(τ0:Tau):Prop:=∃I:Nat->Tau->Prop,I 0 τ0 /\
 (∀n τ x,xs[n]? = some x->I n τ->tb { D3 with nx:=I (n+1),ct:=I (n+1),bk:=D3.nx } ((τ.set i1 (some (.d (.int n)))).set i2 (some (.d x))))/\∀τ,I ↥xs τ->D3.nx τ
def Xc (j i1 i2:Nat)(tb:TS3):TS3:=λD3 τ=>match τ[j]? with
 |some (some (.l xs))=>Ye i1 i2 xs tb D3 (τ.set j (some (.r xs)))
 |_=>False
theorem QW {j i1 i2:Nat}{x1 x2 y:Str}{p1 p2 pt py pn pc:Pos}{kt:Nat}{body:List Stmt}{tb:TS3}
 (h:PS X (.For (.Tuple [.Name x1 p1,.Name x2 p2] kt pt) (.Call (.Name "enumerate" pn) [.Name y py] [] pc) body [] pos) (Va (X3 X.K (P7 j)) (Zz X.K 2 (Qb (Fo i1) (Qb (Fo i2) ZM))) (FS X tb)))(hp1:E9 X i1:=by first|exact Fj rfl|exact E8 rfl ∅|assumption)(hp2:E9 X i2:=by first|exact Fj rfl|exact E8 rfl ∅|assumption) :
 PS3 X (.For (.Tuple [.Name x1 p1,.Name x2 p2] kt pt) (.Call (.Name "enumerate" pn) [.Name y py] [] pc) body [] pos) (Xc j i1 i2 tb):=#[CQ h λD2 σ H hh=>by
 obtain⟨B,z,τ,D3,r,ht,c⟩:=hh;unfold Xc at ht;split at ht
 .rename_i xs hs;obtain⟨v,h1,a,vs,rfl,h3,h4⟩:=r.val j _ hs;have r':=r.freeze hs rfl;obtain⟨I,i0,turn,out⟩:=ht;have hno:∀(m:Nat)(ys:List D),(τ.set j (some (.r xs)))[m]? = some (some (S.l ys))->σ[m]?≠some (some (V.ref a)):=λm ys hm hσ=>by
   rcases Ay hm with⟨rfl,z⟩|⟨hn,hm'⟩
   .cases z
   .have hl:j<↥τ:=(qAf.mp hs).1;exact r'.sep m j ys (.r xs) a hn hm (by rw[qBx hl]) rfl hσ h1
  have hB:SqL X.K (Nj (τ.set j (some (.r xs))) σ H) a vs:=.inl (.inl (by rw[IB hno];exact h3));refine#[.ref a,h1,a,rfl,#[vs,.inl h3],λn m σ1 H1=>m=↥vs-n/\n<=↥vs/\∃z1 τ1,Rep X #[Nj (τ.set j (some (.r xs))) σ H,z] τ1 σ1 #[H1,z1]/\I n τ1,#[↥vs,by simp,qA4 _,z,_,r'.inB,i0],?_];rintro n m σ1 H1 ⟨rfl,hn,z1,τ1,r1,ih1⟩;have q:=r1.ext.hh.seq hB;by_cases hlt:n<↥vs
  .refine .inr #[#[vs,vs[n],q,by simp[hlt]],λσ' H'=>∃z' τ',Rep X #[Nj (τ.set j (some (.r xs))) σ H,z] τ' σ' #[H',z']/\I (n+1) τ',λσ' H' p'=>#[↥vs-(n+1),(),rfl,hlt,p'],λx H' y=>?_];obtain⟨p,w,hp,rfl,hy,rfl⟩:=y;have hw:=hy vs q;obtain⟨d,hd,id⟩:=EC h4 hw;have e1:Ext #[H1,z1] #[upd H1 p (.tup [.int n,w]),z1]:=Ext.own r1.ext.sub hp _;have r2:=r1.mono e1;refine#[p,[.int n,w],rfl,.inl (.inl Au),rfl,.int n,[w],rfl,w,[],rfl,rfl,?_];exact#[_,_,_,_,(r2.setd (i:=i1) (.int (n:Int)) hp1).setd (i:=i2) (id.mono r1.ext.zz) hp2,turn n τ1 d hd ih1,c.inB r'.leB λτ' σ' p' r' h'=>#[p'.z,τ',r',h']]
  .have e:n=↥vs:=();subst e;exact .inl #[#[vs,q,qAg _],c.nx _ _ _ (r1.outB r'.leB) (out τ1 (by rw[<-h4.1];exact ih1))]
 .exact ht.elim]
end
section
variable {X:Cx}
theorem LQ {ns:List Int}:∀{its:List Value},Cb (ns.map V.int) its->PyProof.Rows.IntsAre its ns:=by
 induction ns with
 |nil=>intro its h;cases h;exact .nil
 |cons n ns ih=>
  intro its h;cases h with
  |cons r t=>
   obtain⟨k,rfl⟩:=r;exact .cons n k (ih t)
theorem G3 {vs:List Value}{ns:List Int}(h:PyProof.Rows.IntsAre vs ns):Cb (ns.map V.int) vs:=by
 induction h with
 |nil=>exact .nil
 |cons n t _ ih=>exact .cons #[t,rfl] ih
theorem RA {vs:List Value}{ns:List Int}(h:PyProof.Rows.IntsAre vs ns):↥vs=↥ns:=by
 induction h with
 |nil=>rfl
 |cons n t _ ih=>rw[qAQ,qAQ,ih]
theorem Kr {pins:List (Addr×Obj)}{σ:St}{H:Hp}{s:Shared}{Q:VK}{its:List Value}{out:Array Value}{ns:List Int}(I:Inv X pins σ H s)(a1:PyProof.Rows.IntsAre out.toList ns)(hl:↥ns<=sizeLine)
 (q:∀l,H l=none->Q (.ref l) (upd H l (.lst (ns.map V.int)))):EP X pins σ Q (.ref (s.heap.objs.size+1)) { s with heap:=PyProof.Rows.sortedAll s.heap its out }:=by
 obtain⟨e,he⟩:=PyProof.Rows.sortedAll_at s.heap its out;refine#[.ref (s.heap.objs.size+1),_,I.laid (t':=s.toks) (λb o=>PyProof.Rows.sortedAll_old) (qBY _) (show DO X.prog X.w _ _ _ (.lst (ns.map V.int)) from #[by rw[qAa];exact hl,out.toList,e,G3 a1,he]),rfl,q _ (I.hok.fresh (qBY _))]
theorem Lz {K:W.Frag}{H:Hp}{vs:List V}{ns:List Int}(h:Iss K H vs (ns.map D.int)):vs=ns.map V.int:=by
 refine qCr λi=>?_;have hl:=h.1;rw[qAa]at hl;rw[qAd];by_cases c:i<↥vs
 .have e:=qAc c;have e2:ns[i]? = some ns[i]:=qAc ();have:=h.2 i vs[i] (.int ns[i]) e (by rw[qAd,e2];rfl);rw[e,e2,Is.int_inv this];rfl
 .rw[qAR.mpr (),qAR.mpr ()];rfl
end
end L3
namespace CH
open PySem L2 L3
def qd (q:Rat):D:=.tup [.int q.num,.int (q.den:Int)]
abbrev tp (a b:Int):D:=.tup [.int a,.int b]
abbrev Cs:=List (Rat×Rat)
def cd (c:Rat×Rat):D:=.tup [qd c.1,qd c.2]
def tt (cs:Cs)(k:Nat):Rat:=(cs.getD k (0,0)).1
def vv (cs:Cs)(k:Nat):Rat:=(cs.getD k (0,0)).2
def slp (cs:Cs)(m:Rat)(k:Nat):Rat:=if k+1<↥cs then (vv cs (k+1)-vv cs k)/(tt cs (k+1)-tt cs k) else m
def Up (cs:Cs):Prop:=∀k,k+1<↥cs->tt cs k<tt cs (k+1)
def SzC (n:Nat)(cs:Cs):Prop:=∀k,k<↥cs->Sz n (tt cs k)/\Sz n (vv cs k)
theorem NK {cs:Cs}{k:Nat}(h:k<↥cs):atI (cs.map cd) (k:Int)=some (.tup [qd (tt cs k),qd (vv cs k)]):=by
 refine atI_nat ?_;rw[qAd,qAc h];unfold tt vv;rw[qAe,qAc h];rfl
theorem atR {o:Option D}{d:D}{F:D->Prop}(e:o=some d)(h:F d):(match (generalizing:=false) o with|some d=>F d|none=>False):=by subst e;exact h
theorem BC {cs:Cs}{i:Int}(k:Nat)(hi:i=(k:Int))(h:k<↥cs):atI (cs.map cd) i=some (.tup [qd (tt cs k),qd (vv cs k)]):=by subst hi;exact NK h
def L4 (k:Nat)(a b c d:Int):Prop:=a.natAbs<2^k/\b.natAbs<2^k/\c.natAbs<2^k/\d.natAbs<2^k
theorem l4 {k m:Nat}{p q:Rat}(hp:Sz m p)(hq:Sz m q)(h:m<=k):L4 k p.num p.den q.num q.den:=#[Bc hp.1 h,Bc (AG hp) h,Bc hq.1 h,Bc (AG hq) h]
def Lb (k:Nat)(a:Int):Prop:=a.natAbs<2^k
theorem Cd {cs:Cs}{m:Rat}{k:Nat}(h:k+1<↥cs):slp cs m k=(vv cs (k+1)-vv cs k)/(tt cs (k+1)-tt cs k):=if_pos h
theorem Az {cs:Cs}{m:Rat}{k:Nat}(h:¬k+1<↥cs):slp cs m k=m:=if_neg h
theorem RX (q:Rat):((q.num:Int):Rat)=q*(((q.den:Nat):Int):Rat):=by rw[Rat.intCast_natCast];exact Hg q
theorem G1 {a b:Rat}(h:a<b):b-a≠0:=⋯
def crv (cs:Cs)(m:Rat):D:=.tup [.tup (cs.map cd),qd m]
structure Crv (cs:Cs)(m:Rat):Prop where
 ne:0<↥cs
 t0:tt cs 0=0
 v0:0<=vv cs 0
 m0:0<=m
 up:Up cs
 vu:∀k,k+1<↥cs->vv cs k<=vv cs (k+1)
 bend:∀k,k+1<↥cs->slp cs m k≠slp cs m (k+1)
structure SzK (n:Nat)(cs:Cs)(m:Rat):Prop where
 len:↥cs<=100000
 cs:SzC n cs
 m:Sz n m
theorem U6 {q:Rat}(h:0<=q):¬q.num<0:=by have:=qCO.mpr h;omega
theorem DL {cs:Cs}{n:Nat}{x:D}(h:(cs.map cd)[n]? = some x):n<↥cs/\x=.tup [qd (tt cs n),qd (vv cs n)]:=by
 have hl:n<↥cs:=by
  have:=(qAf.mp h).1;rwa [qAa]at this
 have a:=NK hl;rw[show atI (cs.map cd) (n:Int)=(cs.map cd)[n]? from ?_,h]at a
 .exact#[hl,qAo a]
 .rw[h];exact atI_nat h
def kp (cs:Cs)(m:Rat):Nat->Cs
 |0=>[(tt cs 0,vv cs 0)]
 |n+1=>if slp cs m n=slp cs m (n+1) then kp cs m n else kp cs m n++[(tt cs (n+1),vv cs (n+1))]
theorem RU {cs:Cs}{m:Rat}{n:Nat}(h:¬slp cs m n=slp cs m (n+1)):kp cs m (n+1)=kp cs m n++[(tt cs (n+1),vv cs (n+1))]:=if_neg h
theorem Js {cs:Cs}{m:Rat}{n:Nat}(h:slp cs m n=slp cs m (n+1)):kp cs m (n+1)=kp cs m n:=if_pos h
theorem Jb (cs:Cs)(m:Rat):∀n,(kp cs m n).length<=n+1
 |0=>qAg _
 |n+1=>by
  have:=Jb cs m n;by_cases h:slp cs m n=slp cs m (n+1)
  .rw[Js h];omega
  .rw[RU h,qAp];simp;omega
theorem M7 {L M:Cs}{k:Nat}(h:k<↥L):tt (L++M) k=tt L k:=by
 unfold tt;rw[qAe,qAe,qAt h]
theorem M9 {L M:Cs}{k:Nat}(h:k<↥L):vv (L++M) k=vv L k:=by
 unfold vv;rw[qAe,qAe,qAt h]
theorem OD {L:Cs}{c:Rat×Rat}:tt (L++[c]) ↥L=c.1:=by
 unfold tt;rw[qAe,qAw (qAg _)];simp
theorem Pa {L:Cs}{c:Rat×Rat}:vv (L++[c]) ↥L=c.2:=by
 unfold vv;rw[qAe,qAw (qAg _)];simp
theorem Bq {L:Cs}{c:Rat×Rat}:(L++[c]).length=↥L+1:=by simp
theorem FH {L:Cs}{c:Rat×Rat}{M M':Rat}{i:Nat}(hi:i<↥L)(h:(c.2-vv L (↥L-1))/(c.1-tt L (↥L-1))=M):slp (L++[c]) M' i=slp L M i:=by
 rw[Cd (by rw[Bq];omega)];by_cases e:i+1<↥L
 .rw[Cd e,M7 e,M7 hi,M9 e,M9 hi]
 .rw[Az e,M7 hi,M9 hi];have e':i+1=↥L:=();rw[e',OD,Pa,show i=↥L-1 from ()];exact h
theorem ID {L:Cs}{c:Rat×Rat}{M':Rat}:slp (L++[c]) M' ↥L=M':=Az (by rw[Bq];omega)
structure Ord (cs:Cs):Prop where
 ne:0<↥cs
 t0:tt cs 0=0
 v0:0<=vv cs 0
 up:Up cs
 vu:∀k,k+1<↥cs->vv cs k<=vv cs (k+1)
theorem Ord.snoc {L:Cs}{c:Rat×Rat}(h:Ord L)(ht:tt L (↥L-1)<c.1)(hv:vv L (↥L-1)<=c.2):Ord (L++[c]):=by
 have n:=h.ne;refine#[by rw[Bq];omega,by rw[M7 n];exact h.t0,by rw[M9 n];exact h.v0,λk hk=>?_,λk hk=>?_]
 all_goals
  rw[Bq]at hk;by_cases e:k+1<↥L
 .rw[M7 e,M7 ()];exact h.up k e
 .have e':k+1=↥L:=();rw[e',OD,M7 (),show k=↥L-1 from ()];exact ht
 .rw[M9 e,M9 ()];exact h.vu k e
 .have e':k+1=↥L:=();rw[e',Pa,M9 (),show k=↥L-1 from ()];exact hv
theorem Ord.one {v:Rat}(h:0<=v):Ord [(0,v)]:=#[Nat.one_pos,rfl,h,λk hk=>by simp at hk,λk hk=>by simp at hk]
structure cO (cs:Cs)(m:Rat)(n:Nat)(L:Cs):Prop where
 ord:Ord L
 bend:∀k,k+1<↥L->slp L (slp cs m n) k≠slp L (slp cs m n) (k+1)
 at_:∃j,j<=n/\tt L (↥L-1)=tt cs j/\vv L (↥L-1)=vv cs j/\vv cs n-vv cs j=slp cs m n*(tt cs n-tt cs j)/\tt cs j<=tt cs n/\vv cs j<=vv cs n
theorem seg {a b x y z v w s:Rat}(h1:w-v=s*(b-a))(h2:(x-w)/(y-b)=s)(h3:b<y):x-v=s*(y-a):=by
 have h4:y-b≠0:=G1 h3;have h5:x-w=s*(y-b):=⋯;grind
theorem Mt {x y s:Rat}(h:x=s*y)(hy:y≠0):x/y=s:=⋯
theorem K6 {cs:Cs}{m:Rat}(o:Ord cs):∀n,n<↥cs->cO cs m n (kp cs m n)
 |0,h=>#[by
  have e:kp cs m 0=[(0,vv cs 0)]:=by show [(tt cs 0,vv cs 0)]=_;rw[o.t0]
  rw[e];exact Ord.one o.v0,λk hk=>by simp[kp]at hk,0,qAg _,rfl,rfl,⋯,qAb,qAb]
 |n+1,h=>by
  obtain⟨ko,kb,j,hj,ht,hv,hs,tn,vn⟩:=K6 o n ();have u:=o.up n h;have w:=o.vu n h;have sn:=Cd (m:=m) h;have g:vv cs (n+1)-vv cs j=slp cs m n*(tt cs (n+1)-tt cs j):=seg (z:=0) hs sn.symm u;by_cases e:slp cs m n=slp cs m (n+1)
  .rw[Js e];exact#[ko,e ▸ kb,j,(),ht,hv,e ▸ g,⋯,⋯]
  .rw[RU e];have lt:tt cs j<tt cs (n+1):=⋯;have sl:(vv cs (n+1)-vv (kp cs m n) ((kp cs m n).length-1))/(tt cs (n+1)-tt (kp cs m n) ((kp cs m n).length-1))=slp cs m n:=by
    rw[ht,hv];exact Mt g (G1 lt)
   have nl:=ko.ne;refine#[ko.snoc (by rw[ht];exact lt) (by rw[hv];grind),λk hk=>?_,n+1,qAg _,?_,?_,⋯,qAb,qAb]
   .rw[Bq]at hk;by_cases e1:k+1<(kp cs m n).length
    .rw[FH (c:=(tt cs (n+1),vv cs (n+1))) () sl,FH (c:=(tt cs (n+1),vv cs (n+1))) e1 sl];exact kb k e1
    .have e2:k+1=(kp cs m n).length:=();rw[FH (c:=(tt cs (n+1),vv cs (n+1))) () sl,Az e1,e2,ID];exact e
   .rw[Bq,qBz,OD]
   .rw[Bq,qBz,Pa]
theorem GG {cs:Cs}{m:Rat}(o:Ord cs)(hm:0<=m):Crv (kp cs m (↥cs-1)) m:=by
 have n:=o.ne;have k:=K6 (m:=m) o (↥cs-1) ();have e:slp cs m (↥cs-1)=m:=Az ();exact#[k.ord.ne,k.ord.t0,k.ord.v0,hm,k.ord.up,k.ord.vu,by have b:=k.bend;rw[e]at b;exact b]
theorem W6 {lo hi:Int}(c:lo<hi):lo<=(lo+hi)/2/\(lo+hi)/2<hi:=()
theorem bW {a b c:Int}(h:b<c)(h2:a<=b):(b-a).toNat<(c-a).toNat:=()
theorem dI {m lo:Int}{L:Nat}(h1:0<=lo)(h2:lo<=m){hi:Int}(h3:m<hi)(h4:hi<=L):m.toNat<L:=()
theorem E1 {lo st:Int}{n i:Nat}{x:D}(h:(W3 lo st n)[i]? = some x):i<n/\x=.int (lo+i*st):=by
 have hl:i<n:=by
  have:=(qAf.mp h).1;rwa [B6]at this
 rw[Ob hl]at h;exact#[hl,(qAo h).symm]
theorem fm {a m:Int}(h:0<m):0<=a.fmod m/\a.fmod m<m:=#[qB7 a h,qB3 a h]
theorem WU (f:Nat->Int)(n:Nat):((List.range n).map λi=>some (D.int (f i))).filterMap id=((List.range n).map f).map D.int:=by
 rw[qBy,qA3,<-qB8];rfl
theorem MQ {a b c:Int}(hc:0<c)(h:a<b):Rat.divInt a c<Rat.divInt b c:=by
 have hc':(0:Rat)<(c:Rat):=qAY.mpr hc;rw[qAG,qAG,Rat.div_lt_iff hc',qA7 (λz=>absurd (z ▸ hc') qA8)];exact qBj.mpr h
theorem Jl {a b c:Int}(hc:0<c)(h:a<=b):Rat.divInt a c<=Rat.divInt b c:=by
 by_cases e:a=b
 .rw[e];exact qAb
 .exact qAj (MQ hc ())
theorem Mz {a c:Int}(hc:0<c)(h:0<=a):0<=Rat.divInt a c:=(Rat.divInt_nonneg_iff_of_pos_right hc).mpr h
theorem SzC.one {n:Nat}{v:Rat}(h0:1<=n)(h:Sz n v):SzC n [(0,v)]:=λk hk=>by
 have:k=0:=by simp at hk;omega
 subst this;exact#[Sz.zero.mono h0,h]
theorem SzC.mono {n m:Nat}{L:Cs}(h:SzC n L)(hk:n<=m):SzC m L:=λk hl=>#[(h k hl).1.mono hk,(h k hl).2.mono hk]
theorem FD {ms:List Int}{i:Int}(k:Nat)(hi:i=(k:Int))(h:k<↥ms):atI (ms.map D.int) i=some (.int (cell ms k)):=by
 subst hi;exact T9 () ()
theorem VU {a b:Int}{k:Nat}(hb:0<b)(h1:a.natAbs<2^k)(h2:b.natAbs<2^k):Sz k (Rat.divInt a b):=DH () h1 h2
theorem QU {cs:Cs}(j:Nat)(h0:0<j)(h:j<=↥cs):atI (cs.map cd) (-(j:Int))=some (.tup [qd (tt cs (↥cs-j)),qd (vv cs (↥cs-j))]):=by
 have e:=NK (cs:=cs) (k:=↥cs-j) ();rw[<-e];unfold atI ixN;rw[qAa,if_neg (),if_pos (),if_pos (),if_pos ()];rw[show(-(j:Int)+(↥cs:Int)).toNat=(((↥cs-j:Nat):Int)).toNat from ()]
def plc (cs:Cs)(t:Rat):Nat->Nat
 |0=>0
 |n+1=>if t<tt cs n then plc cs t n else n
theorem JY {cs:Cs}{t:Rat}(h:0<↥cs):∀n,n<=↥cs->plc cs t n<↥cs
 |0,_=>h
 |n+1,hn=>by
  unfold plc;split
  .exact JY h n ()
  .omega
def val (cs:Cs)(m t:Rat):Rat:=vv cs (plc cs t ↥cs)+slp cs m (plc cs t ↥cs)*(t-tt cs (plc cs t ↥cs))
structure Wq (k:Nat)(a b:Int)(q:Rat):Prop where
 pos:0<b
 eq:(a:Rat)=q*b
 la:Lb k a
 lb:Lb k b
theorem Wq.mono {k n:Nat}{a b:Int}{q:Rat}(h:Wq k a b q)(hk:k<=n):Wq n a b q:=#[h.pos,h.eq,Bc h.la hk,Bc h.lb hk]
theorem Wq.of {k:Nat}{q:Rat}(h:Sz k q):Wq k q.num q.den q:=#[by have:=den_pos q;omega,RX q,h.1,AG h]
theorem Wq.minus {k:Nat}{a b c d:Int}{p q:Rat}(h:Wq k a b p)(g:Wq k c d q):Wq (k+k+1) (a*d-c*b) (b*d) (p-q):=by
 refine#[qA5 h.pos g.pos,?_,GI (Aq h.la g.lb) (Aq g.la h.lb),Bc (Aq h.lb g.lb) ()];rw[qBe,qAn,qAn,qAn,h.eq,g.eq];grind
theorem Wq.mul {k n:Nat}{a b c d:Int}{p q:Rat}(h:Wq k a b p)(g:Wq n c d q):Wq (k+n) (a*c) (b*d) (p*q):=by
 refine#[qA5 h.pos g.pos,?_,Aq h.la g.la,Aq h.lb g.lb];rw[qAn,qAn,h.eq,g.eq];grind
theorem Wq.inv {k:Nat}{a b:Int}{q:Rat}(h:Wq k a b q)(hq:0<q):0<a/\Wq k b a (1/q):=by
 have hb:(0:Rat)<(b:Rat):=qAY.mpr h.pos;have ha:(0:Rat)<(a:Rat):=by rw[h.eq];exact qA9 hq hb
 have ha':0<a:=qAY.mp ha;have q0:q≠0:=λz=>absurd (z ▸ hq) qA8;refine#[ha',ha',?_,h.lb,h.la];rw[h.eq];grind
theorem Wq.lt_iff {k n:Nat}{a b c d:Int}{p q:Rat}(h:Wq k a b p)(g:Wq n c d q):a*d<c*b ↔ p<q:=by
 have hb:(0:Rat)<(b:Rat):=qAY.mpr h.pos;have hd:(0:Rat)<(d:Rat):=qAY.mpr g.pos;rw[<-qBj,qAn,qAn,h.eq,g.eq];rw[show p*(b:Rat)*(d:Rat)=p*((b:Rat)*d) from ⋯,show q*(d:Rat)*(b:Rat)=q*((b:Rat)*d) from ⋯];have hp:=qA9 hb hd;constructor
 .intro e;by_cases z:p<q
  .exact z
  .exact absurd e (qAI.mpr (Rat.mul_le_mul_of_nonneg_right (qAI.mp z) (qAj hp)))
 .intro e;exact Rat.mul_lt_mul_of_pos_right e hp
theorem Wq.plus {k n:Nat}{a b c d:Int}{p q:Rat}(h:Wq k a b p)(g:Wq n c d q):Wq (k+n+1) (a*d+c*b) (b*d) (p+q):=by
 refine#[qA5 h.pos g.pos,?_,HU (Aq h.la g.lb) (Bc (Aq g.la h.lb) ()),Bc (Aq h.lb g.lb) ()];rw[qBd,qAn,qAn,qAn,h.eq,g.eq];grind
theorem Wq.cast {k:Nat}{a b:Int}{p q:Rat}(h:Wq k a b p)(e:p=q):Wq k a b q:=e ▸ h
theorem Wq.l4 {k n:Nat}{a b c d:Int}{p q:Rat}(h:Wq k a b p)(g:Wq k c d q)(hk:k<=n):L4 n a b c d:=#[Bc h.la hk,Bc h.lb hk,Bc g.la hk,Bc g.lb hk]
theorem UZ {cs:Cs}{t:Rat}{n:Nat}(h:t<tt cs n):plc cs t (n+1)=plc cs t n:=if_pos h
theorem N9 {cs:Cs}{t:Rat}{n:Nat}(h:¬t<tt cs n):plc cs t (n+1)=n:=if_neg h
theorem TY {a b:Rat}(h:a<b):0<b-a:=⋯
def sat (cs:Cs)(m t:Rat):Rat:=slp cs m (plc cs t ↥cs)
theorem Yi {L M:Cs}{t:Rat}:∀n,n<=↥L->plc (L++M) t n=plc L t n
 |0,_=>rfl
 |n+1,h=>by
  unfold plc;rw[M7 (),Yi n ()]
theorem OF {L:Cs}{c:Rat×Rat}{t:Rat}:plc (L++[c]) t (L++[c]).length=if t<c.1 then plc L t ↥L else ↥L:=by
 rw[Bq]
 conv=>lhs;unfold plc
 rw[OD,Yi _ (qAg _)]
theorem OG {L:Cs}{c:Rat×Rat}{M M' t:Rat}(n:0<↥L)(h:(c.2-vv L (↥L-1))/(c.1-tt L (↥L-1))=M):sat (L++[c]) M' t=if t<c.1 then sat L M t else M':=by
 unfold sat;rw[OF];split
 .exact FH (JY n _ (qAg _)) h
 .exact ID
theorem La {L:Cs}{c:Rat×Rat}{M M' t:Rat}(n:0<↥L)(h:(c.2-vv L (↥L-1))/(c.1-tt L (↥L-1))=M):val (L++[c]) M' t=if t<c.1 then val L M t else c.2+M'*(t-c.1):=by
 unfold val;rw[OF];split
 .have p:=JY (t:=t) n _ (qAg _);rw[FH p h,M9 p,M7 p]
 .rw[ID,Pa,OD]
theorem Nx {L:Cs}{t:Rat}(n:0<↥L)(h:tt L (↥L-1)<=t):plc L t ↥L=↥L-1:=by
 have e:↥L=↥L-1+1:=();rw[e,N9 (qAI.mpr h),qBz]
theorem NJ {L:Cs}{M t:Rat}(n:0<↥L)(h:tt L (↥L-1)<=t):sat L M t=M:=by
 unfold sat;rw[Nx n h,Az ()]
theorem BR {L:Cs}{M t:Rat}(n:0<↥L)(h:tt L (↥L-1)<=t):val L M t=vv L (↥L-1)+M*(t-tt L (↥L-1)):=by
 unfold val;rw[Nx n h,Az ()]
def pre (cs:Cs)(n:Nat):Cs:=cs.take (n+1)
theorem Se {cs:Cs}{n:Nat}(h:n<↥cs):(pre cs n).length=n+1:=by unfold pre;rw[qAZ];omega
theorem Xe {cs:Cs}{n:Nat}(h:n+1<↥cs):pre cs (n+1)=pre cs n++[(tt cs (n+1),vv cs (n+1))]:=by
 unfold pre tt vv;rw[List.take_succ,qAc h,qAe,qAc h];rfl
theorem XV {cs:Cs}{n k:Nat}(h:n<↥cs)(hk:k<=n):tt (pre cs n) k=tt cs k/\vv (pre cs n) k=vv cs k:=by
 have e:cs=pre cs n++cs.drop (n+1):=(qCL _ _).symm;have l:=Se h;constructor
 .conv=>rhs;rw[e]
  rw[M7 ()]
 .conv=>rhs;rw[e]
  rw[M9 ()]
theorem V4 {cs:Cs}(n:0<↥cs):pre cs (↥cs-1)=cs:=by
 unfold pre;exact qBk ()
theorem Ra {cs:Cs}{m:Rat}(o:Ord cs)(t:Rat):∀n,n<↥cs->val (kp cs m n) (slp cs m n) t=val (pre cs n) (slp cs m n) t/\sat (kp cs m n) (slp cs m n) t=sat (pre cs n) (slp cs m n) t
 |0,h=>by
  have e:pre cs 0=kp cs m 0:=by
   cases cs with
   |nil=>exact absurd h (by simp)
   |cons c r=>rfl
  rw[e];exact#[rfl,rfl]
 |n+1,h=>by
  obtain⟨iv,is⟩:=Ra (m:=m) o t n ();have k:=K6 (m:=m) o n ();obtain⟨j,hj,ht,hv,hs,tn,vn⟩:=k.at_;have u:=o.up n h;have sn:=Cd (m:=m) h;have g:vv cs (n+1)-vv cs j=slp cs m n*(tt cs (n+1)-tt cs j):=seg (z:=0) hs sn.symm u;have lp:=Se (cs:=cs) (n:=n) ();have pl:=XV (cs:=cs) (n:=n) (k:=n) () (qAg _);have sp:(vv cs (n+1)-vv (pre cs n) ((pre cs n).length-1))/(tt cs (n+1)-tt (pre cs n) ((pre cs n).length-1))=slp cs m n:=by
   rw[lp,qBz,pl.1,pl.2,sn]
  rw[Xe h,La (c:=(tt cs (n+1),vv cs (n+1))) () sp,OG (c:=(tt cs (n+1),vv cs (n+1))) () sp];have lt:tt cs j<tt cs (n+1):=⋯;by_cases e:slp cs m n=slp cs m (n+1)
  .rw[Js e,<-e,iv,is];by_cases c:t<tt cs (n+1)
   .rw[if_pos c,if_pos c];exact#[rfl,rfl]
   .rw[if_neg c,if_neg c];have c':=qAI.mp c;have en:tt (pre cs n) ((pre cs n).length-1)<=t:=by rw[lp,qBz,pl.1];grind
    rw[BR () en,NJ () en,lp,qBz,pl.1,pl.2];refine#[?_,rfl];have q:vv cs (n+1)-vv cs n=slp cs m n*(tt cs (n+1)-tt cs n):=by
     have:=G1 u;rw[sn];grind
    show _=vv cs (n+1)+slp cs m n*(t-tt cs (n+1));grind
  .have sl:(vv cs (n+1)-vv (kp cs m n) ((kp cs m n).length-1))/(tt cs (n+1)-tt (kp cs m n) ((kp cs m n).length-1))=slp cs m n:=by
    rw[ht,hv];exact Mt g (G1 lt)
   rw[RU e,La (c:=(tt cs (n+1),vv cs (n+1))) k.ord.ne sl,OG (c:=(tt cs (n+1),vv cs (n+1))) k.ord.ne sl,iv,is];exact#[rfl,rfl]
theorem G0 {cs:Cs}{m:Rat}(o:Ord cs)(t:Rat):val (kp cs m (↥cs-1)) m t=val cs m t/\sat (kp cs m (↥cs-1)) m t=sat cs m t:=by
 have n:=o.ne;have k:=Ra (m:=m) o t (↥cs-1) ();rw[Az (show ¬↥cs-1+1<↥cs from ()),V4 n]at k;exact k
theorem AU {cs:Cs}(u:Up cs){i:Nat}:∀{j:Nat},i<=j->j<↥cs->tt cs i<=tt cs j
 |0,h,_=>by have:i=0:=()
            subst this;exact qAb
 |j+1,h,hl=>by
  by_cases e:i=j+1
  .subst e;exact qAb
  .have:=AU u (i:=i) (j:=j) () ();have:=u j hl;grind
theorem Nr {cs:Cs}(u:∀k,k+1<↥cs->vv cs k<=vv cs (k+1)){i:Nat}:∀{j:Nat},i<=j->j<↥cs->vv cs i<=vv cs j
 |0,h,_=>by have:i=0:=()
            subst this;exact qAb
 |j+1,h,hl=>by
  by_cases e:i=j+1
  .subst e;exact qAb
  .have:=Nr u (i:=i) (j:=j) () ();have:=u j hl;grind
theorem HS {cs:Cs}(u:Up cs){t:Rat}{k:Nat}(h1:tt cs k<=t)(h2:k+1<↥cs->t<tt cs (k+1)):∀n,k<n->n<=↥cs->plc cs t n=k
 |0,h,_=>()
 |n+1,h,hn=>by
  by_cases e:n=k
  .subst e;exact N9 (qAI.mpr h1)
  .rw[UZ,HS u h1 h2 n () ()];have a:=h2 ();have b:=AU u (i:=k+1) (j:=n) () ();grind
structure On (cs:Cs)(k:Nat)(t:Rat):Prop where
 lt:k<↥cs
 lo:tt cs k<=t
 hi:k+1<↥cs->t<=tt cs (k+1)
theorem EV {cs:Cs}{m:Rat}(u:Up cs){k:Nat}(h:k+1<↥cs):vv cs (k+1)=vv cs k+slp cs m k*(tt cs (k+1)-tt cs k):=by
 have:=G1 (u k h);rw[Cd h];grind
theorem Bw {cs:Cs}{m t:Rat}(u:Up cs){k:Nat}(o:On cs k t):val cs m t=vv cs k+slp cs m k*(t-tt cs k):=by
 have hl:=o.lt;by_cases e:k+1<↥cs/\t=tt cs (k+1)
 .obtain⟨e1,e2⟩:=e;have p:plc cs t ↥cs=k+1:=HS u (by rw[e2];exact qAb) (λh=>by rw[e2];exact u _ h) _ e1 (qAg _);unfold val;rw[p,EV (m:=m) u e1,e2];grind
 .have p:plc cs t ↥cs=k:=HS u o.lo (λh=>by
   have a:=o.hi h;have b:t≠tt cs (k+1):=λz=>e #[h,z];grind) _ hl (qAg _)
  unfold val;rw[p]
theorem Wq.div {k n:Nat}{a b c d:Int}{p q:Rat}(h:Wq k a b p)(g:Wq n c d q)(hq:0<q):Wq (k+n) (a*d) (b*c) (p/q):=by
 refine(h.mul (g.inv hq).2).cast ?_;grind
theorem Um (p q:Rat):eqN 1 (qd p) (qd q)=decide (p=q):=by
 by_cases h:p=q
 .subst h;rw[decide_eq_true rfl];exact IF 1 _ rfl
 .rw[decide_eq_false h];cases e:eqN 1 (qd p) (qd q) with
  |false=>rfl
  |true=>
   exfalso
   apply h;have e':((p.num==q.num&&((p.den:Int)==(q.den:Int)&&true))&&true)=true:=e;rw[qCp,qCp,qAW,beq_iff_eq,beq_iff_eq]at e';exact Rat.ext e'.1 (Int.ofNat.inj e'.2)
theorem neT (p q:Rat){A B:Prop}(h1:¬p=q->A)(h2:p=q->B):if (!eqN 1 (qd p) (qd q))=true then A else B:=by
 rw[Um];exact KN h1 h2
theorem eqT (p q:Rat){A B:Prop}(h1:p=q->A)(h2:¬p=q->B):if eqN 1 (qd p) (qd q)=true then A else B:=by
 rw[Um];exact BY h1 h2
def Bgn (cs:Cs):Prop:=0<↥cs/\tt cs 0=0/\0<=vv cs 0
def Ris (cs:Cs)(n:Nat):Prop:=∀k,k<n->k+1<↥cs->tt cs k<tt cs (k+1)/\vv cs k<=vv cs (k+1)
def Hu (cs:Cs)(m:Rat):List Rat:=(List.range ↥cs).map (slp cs m)
theorem Du (cs:Cs)(m:Rat):(Hu cs m).length=↥cs:=by unfold Hu;rw[qAa,qAz]
theorem atI_nat {α:Type}{xs:List α}{k:Nat}(h:k<↥xs):atI xs (k:Int)=xs[k]? := by
 unfold atI ixN;rw[if_pos (),if_pos ()];simp
theorem MA {cs:Cs}{m:Rat}{i:Int}(k:Nat)(hi:i=(k:Int))(h:k<↥cs):atI ((Hu cs m).map qd) i=some (qd (slp cs m k)):=by
 subst hi;rw[atI_nat (by rw[qAa,Du];exact h)];unfold Hu;rw[qAd,qAd,qAJ h];rfl
theorem Of (cs:Cs)(m:Rat)(h:0<↥cs):(((List.range (↥cs-1)).map λi=>some (qd (slp cs m i))).filterMap id)++[qd m]=(Hu cs m).map qd:=by
 have e:((List.range (↥cs-1)).map λi=>some (qd (slp cs m i))).filterMap id=(List.range (↥cs-1)).map λi=>qd (slp cs m i):=by
  rw[qBy];exact congrFun (qB8 (f:=λi=>qd (slp cs m i))) _
 rw[e];unfold Hu;rw[qA3];have e2:↥cs=↥cs-1+1:=()
 conv=>rhs;rw[e2,List.range_succ,qAL]
 show _++[qd m]=_++[qd (slp cs m (↥cs-1))];rw[Az (cs:=cs) (m:=m) (k:=↥cs-1) ()];rfl
def tOf:D->Rat
 |.tup (.tup [.int a,.int b]::_)=>Rat.divInt a b
 |_=>0
def vOf:D->Rat
 |.tup [_,.tup [.int a,.int b]]=>Rat.divInt a b
 |_=>0
theorem UM (a b:Rat):tOf (.tup [qd a,qd b])=a:=qB1 a
theorem Oc (a b:Rat):vOf (.tup [qd a,qd b])=b:=qB1 b
theorem D0 {cs:Cs}{t:Rat}(h0:tt cs 0<=t):∀n,0<n->tt cs (plc cs t n)<=t/\plc cs t n<n/\∀i,plc cs t n<i->i<n->t<tt cs i
 |1,_=>by
  have e:plc cs t 1=0:=by rw[N9 (n:=0) (qAI.mpr h0)]
  rw[e];exact#[h0,Nat.one_pos,λi h1 h2=>()]
 |n+2,_=>by
  obtain⟨h1,h2,h3⟩:=D0 h0 (n+1) (Nat.succ_pos n);by_cases c:t<tt cs (n+1)
  .rw[UZ c];refine#[h1,(),λi i1 i2=>?_];by_cases e:i=n+1
   .rw[e];exact c
   .exact h3 i i1 ()
  .rw[N9 c];exact#[qAI.mp c,(),λi i1 i2=>()]
theorem VD {cs:Cs}{t:Rat}(up:Up cs)(h0:tt cs 0<=t){i:Nat}(hi:i<↥cs):(!decide (t<tt cs i))=decide (i<plc cs t ↥cs+1):=by
 obtain⟨h1,h2,h3⟩:=D0 h0 ↥cs ();by_cases c:i<plc cs t ↥cs+1
 .rw[decide_eq_true c,decide_eq_false (qAI.mpr (qAm (AU up (i:=i) (j:=plc cs t ↥cs) () h2) h1))];rfl
 .rw[decide_eq_false c,decide_eq_true (h3 i () hi)];rfl
theorem MG {a b:Rat}(ha:0<=a)(hb:0<b):0<=a/b:=by
 by_cases h:0<=a/b
 .exact h
 .have h':0 < -(a/b):=⋯;have:=qA9 h' hb;have e:-(a/b)*b=-a:=⋯;rw[e]at this;grind
theorem T4 {a b:Rat}(ha:0<a)(hb:0<b):0<a/b:=by
 have h:=MG (qAj ha) hb;by_cases e:a/b=0
 .have:a=0:=by
   have e2:a=a/b*b:=⋯;rw[e2,e];grind
  grind
 .exact qBp h (λz=>e z.symm)
structure C1 (cs:Cs)(m:Rat):Prop where
 o:Ord cs
 m0:0<=m
theorem Ff {cs:Cs}{m:Rat}(r:C1 cs m)(k:Nat):0<=slp cs m k:=by
 by_cases c:k+1<↥cs
 .rw[Cd c];have h1:=r.o.vu k c;have h2:=r.o.up k c;exact MG ⋯ ⋯
 .rw[Az c];exact r.m0
theorem Dq {cs:Cs}(o:Ord cs){t:Rat}(ht:0<=t):On cs (plc cs t ↥cs) t:=by
 have n:=o.ne;obtain⟨h1,h2,h3⟩:=D0 (cs:=cs) (t:=t) (by rw[o.t0];exact ht) ↥cs n;exact#[h2,h1,λc=>qAj (h3 _ () c)]
theorem Rn {cs:Cs}{m t:Rat}(r:C1 cs m){k:Nat}(hk:k<↥cs)(h:tt cs k<=t):vv cs k<=val cs m t:=by
 have t0:0<=t:=by
  have:=AU r.o.up (i:=0) (j:=k) () hk;rw[r.o.t0]at this;grind
 have n:=r.o.ne;obtain⟨h1,h2,h3⟩:=D0 (cs:=cs) (t:=t) (by rw[r.o.t0];exact t0) ↥cs n;have kj:k<=plc cs t ↥cs:=by
  by_cases c:k<=plc cs t ↥cs
  .exact c
  .have:=h3 k () hk;grind
 have:=Nr r.o.vu kj h2;have s:=Ff r (plc cs t ↥cs);have p:=qAh s (show 0<=t-tt cs (plc cs t ↥cs) from ⋯);show vv cs k<=vv cs (plc cs t ↥cs)+slp cs m (plc cs t ↥cs)*(t-tt cs (plc cs t ↥cs));grind
theorem Rq {cs:Cs}{m t:Rat}(r:C1 cs m){k:Nat}(hk:k<↥cs)(t0:0<=t)(h:t<=tt cs k):val cs m t<=vv cs k:=by
 have on:=Dq r.o t0;generalize hj:plc cs t ↥cs=j at on;by_cases c:j<k
 .have c1:j+1<↥cs:=();have:=Nr r.o.vu (i:=j+1) (j:=k) () hk;have e:=EV (m:=m) r.o.up c1;have s:=Ff r j;have p:=qAh s (show 0<=tt cs (j+1)-t by have:=on.hi c1;grind);rw[Bw r.o.up on];grind
 .have e1:=AU r.o.up (i:=k) (j:=j) () on.lt;have e2:=on.lo;have e:t=tt cs k:=⋯;by_cases c2:j=k
  .subst c2;rw[Bw r.o.up on,e];grind
  .have e3:=AU r.o.up (i:=k+1) (j:=j) () on.lt;have e4:=r.o.up k (by have:=on.lt;omega);grind
theorem Bh {cs:Cs}{m x y:Rat}(r:C1 cs m)(x0:0<=x)(h:x<=y):val cs m x<=val cs m y:=by
 have ox:=Dq r.o x0;have oy:=Dq r.o (qAm x0 h);by_cases c:plc cs y ↥cs<=plc cs x ↥cs
 .have e1:=AU r.o.up c ox.lt;have oy2:On cs (plc cs x ↥cs) y\/plc cs y ↥cs<plc cs x ↥cs:=by
   by_cases e:plc cs y ↥cs=plc cs x ↥cs
   .rw[<-e];exact .inl oy
   .exact .inr ()
  rcases oy2 with oy2|oy2
  .rw[Bw r.o.up ox,Bw r.o.up oy2];have s:=Ff r (plc cs x ↥cs);have p:=qAh s (show 0<=y-x from ⋯);grind
  .have h3:=(D0 (cs:=cs) (t:=y) (by rw[r.o.t0];exact qAm x0 h) ↥cs r.o.ne).2.2 _ oy2 ox.lt;have:=ox.lo;grind
 .have c':plc cs x ↥cs+1<↥cs:=by have:=oy.lt;omega
  have h1:=Rq (m:=m) r c' x0 (ox.hi c');have h2:=Rn (m:=m) (t:=y) r c' (by
   have e3:=AU r.o.up (i:=plc cs x ↥cs+1) (j:=plc cs y ↥cs) () oy.lt;have:=oy.lo;grind)
  exact qAm h1 h2
def Rch (cs:Cs)(m h:Rat):Option Rat->Prop
 |none=>∀x,0<=x->val cs m x<h
 |some t=>0<=t/\(val cs m t=h\/(t=0/\h<=val cs m 0))/\∀x,0<=x->x<t->val cs m x<h
def Psd (cs:Cs)(m h:Rat):Option Rat->Prop
 |none=>h<val cs m 0\/∀x,0<=x->val cs m x<=h
 |some t=>0<=t/\val cs m t=h/\∀x,t<x->h<val cs m x
def oD:Option Rat->D
 |none=>.non
 |some q=>qd q
theorem UY {n:Nat}(P:Nat->Bool)(mono:∀i,i+1<n->P (i+1)=true->P i=true):∃k,k<=n/\∀i,i<n->P i=decide (i<k):=by
 induction n with
 |zero=>exact#[0,qAg _,λi h=>absurd h (qBf i)]
 |succ n ih=>
  obtain⟨k,hk,h⟩:=ih (λi hi=>mono i ());cases e:P n with
  |true=>
   refine#[n+1,qAg _,λi hi=>?_];have all:∀j,j<=n->P (n-j)=true:=by
    intro j
    induction j with
    |zero=>intro _;exact e
    |succ j ihj=>
     intro hj;have:=ihj ();exact mono (n-(j+1)) () (by rw[show n-(j+1)+1=n-j from ()];exact this)
   rw[decide_eq_true hi];have:=all (n-i) ();rw[show n-(n-i)=i from ()]at this;exact this
  |false=>
   refine#[k,(),λi hi=>?_];by_cases c:i<n
   .exact h i c
   .have:i=n:=();subst this;rw[e,decide_eq_false ()]
theorem BU {cs:Cs}{m:Rat}(o:Ord cs){k:Nat}(hk:k<↥cs):val cs m (tt cs k)=vv cs k:=by
 rw[Bw (k:=k) o.up #[hk,qAb,λc=>qAj (o.up k c)]];grind
theorem Bz {cs:Cs}{m:Rat}(o:Ord cs):val cs m 0=vv cs 0:=by
 have:=BU (m:=m) o o.ne;rw[o.t0]at this;exact this
theorem met {cs:Cs}{m h:Rat}(r:C1 cs m){k:Nat}(hk:k<↥cs)(s:slp cs m k≠0)(h1:vv cs k<=h)(h2:k+1<↥cs->h<=vv cs (k+1)) :
 On cs k (tt cs k+(h-vv cs k)/slp cs m k)/\val cs m (tt cs k+(h-vv cs k)/slp cs m k)=h:=by
 have s0:0<slp cs m k:=qBp (Ff r k) (λz=>s z.symm);have d0:=MG (show 0<=h-vv cs k from ⋯) s0;have on:On cs k (tt cs k+(h-vv cs k)/slp cs m k):=by
  refine#[hk,⋯,λc=>?_];have e:=EV (m:=m) r.o.up c;have hh:=h2 c;have d1:=MG (show 0<=vv cs (k+1)-h from ⋯) s0;have e2:(vv cs (k+1)-h)/slp cs m k=tt cs (k+1)-tt cs k-(h-vv cs k)/slp cs m k:=by
   rw[e];generalize slp cs m k=S at s;grind
  grind
 refine#[on,?_];rw[Bw r.o.up on];generalize slp cs m k=S at s;grind
theorem ZC {cs:Cs}{m x t:Rat}(r:C1 cs m){k:Nat}(on:On cs k t)(s:slp cs m k≠0)(x0:0<=x)(h:x<t)(hv:vv cs k<val cs m t):val cs m x<val cs m t:=by
 by_cases c:tt cs k<=x
 .have ox:On cs k x:=#[on.lt,c,λz=>by have:=on.hi z;grind];rw[Bw r.o.up ox,Bw r.o.up on];have s0:0<slp cs m k:=qBp (Ff r k) (λz=>s z.symm);have p:=qA9 s0 (show 0<t-x from ⋯);grind
 .have:=Rq (m:=m) r on.lt x0 (show x<=tt cs k from ⋯);grind
theorem ZH {cs:Cs}{m x t:Rat}(r:C1 cs m){k:Nat}(on:On cs k t)(s:slp cs m k≠0)(h:t<x)(hv:k+1<↥cs->val cs m t<vv cs (k+1)):val cs m t<val cs m x:=by
 have s0:0<slp cs m k:=qBp (Ff r k) (λz=>s z.symm);by_cases c:k+1<↥cs/\tt cs (k+1)<x
 .have:=Rn (m:=m) (t:=x) r c.1 (qAj c.2);have:=hv c.1;grind
 .have ox:On cs k x:=#[on.lt,by have:=on.lo;grind,λz=>by
   by_cases y:tt cs (k+1)<x
   .exact absurd #[z,y] c
   .grind]
  rw[Bw r.o.up ox,Bw r.o.up on];have p:=qA9 s0 (show 0<x-t from ⋯);grind
theorem II {cs:Cs}{m x:Rat}(r:C1 cs m)(hm:m=0)(x0:0<=x):val cs m x<=vv cs (↥cs-1):=by
 have n:=r.o.ne;by_cases c:tt cs (↥cs-1)<=x
 .rw[BR n c,hm];grind
 .exact Rq r () x0 ⋯
theorem Xf {cs:Cs}{m h:Rat}(r:C1 cs m){n:Nat}(hn:n<=↥cs)(cut:∀i,i<↥cs->decide (vv cs i<h)=decide (i<n)) :
 (n=0->Rch cs m h (some 0))/\∀k,n=k+1->(slp cs m k=0->Rch cs m h none)/\(slp cs m k≠0->Rch cs m h (some (tt cs k+(h-vv cs k)/slp cs m k))):=by
 have c':∀i,i<↥cs->(vv cs i<h ↔ i<n):=λi hi=>decide_eq_decide.mp (cut i hi);refine#[λe=>?_,λk e=>#[λs=>?_,λs=>?_]]
 .subst e;have:=mt (c' 0 r.o.ne).mp ();exact#[qAb,.inr #[rfl,by rw[Bz r.o];exact qAI.mp this],λx a b=>⋯]
 .have hk:k<↥cs:=();have v1:=(c' k hk).mpr ();have last:¬k+1<↥cs:=λc=>by
   have v2:=mt (c' (k+1) c).mp ();have e2:=EV (m:=m) r.o.up c;rw[s]at e2;grind
  have m0:m=0:=by rw[Az last]at s;exact s
  intro x x0;have:=II r m0 x0;rw[show ↥cs-1=k from ()]at this;grind
 .have hk:k<↥cs:=();have v1:=(c' k hk).mpr ();obtain⟨on,ev⟩:=met r hk s (qAj v1) (λc=>qAI.mp (mt (c' (k+1) c).mp ()));have t0:0<=tt cs k:=by
   have:=AU r.o.up (i:=0) (j:=k) () hk;rw[r.o.t0]at this;exact this
  refine#[by have:=on.lo;grind,.inl ev,λx x0 hx=>?_];have:=ZC r on s x0 hx (by rw[ev];exact v1);rw[ev]at this;exact this
theorem Xl {cs:Cs}{m h:Rat}(r:C1 cs m){n:Nat}(hn:n<=↥cs)(cut:∀i,i<↥cs->(!decide (h<vv cs i))=decide (i<n)) :
 (n=0->Psd cs m h none)/\∀k,n=k+1->(slp cs m k=0->Psd cs m h none)/\(slp cs m k≠0->Psd cs m h (some (tt cs k+(h-vv cs k)/slp cs m k))):=by
 have c':∀i,i<↥cs->(¬h<vv cs i ↔ i<n):=λi hi=>by
  have:=cut i hi;rw[<-decide_not]at this;exact decide_eq_decide.mp this
 refine#[λe=>?_,λk e=>#[λs=>?_,λs=>?_]]
 .subst e;have:=mt (c' 0 r.o.ne).mp ();exact .inl (by rw[Bz r.o];grind)
 .have hk:k<↥cs:=();have v1:=(c' k hk).mpr ();have last:¬k+1<↥cs:=λc=>by
   have v2:=mt (c' (k+1) c).mp ();have e2:=EV (m:=m) r.o.up c;rw[s]at e2;grind
  have m0:m=0:=by rw[Az last]at s;exact s
  refine .inr λx x0=>?_;have:=II r m0 x0;rw[show ↥cs-1=k from ()]at this;grind
 .have hk:k<↥cs:=();have v1:=(c' k hk).mpr ();have v2:k+1<↥cs->h<vv cs (k+1):=λc=>by
   have:=mt (c' (k+1) c).mp ();grind
  obtain⟨on,ev⟩:=met r hk s (qAI.mp v1) (λc=>qAj (v2 c));have t0:0<=tt cs k:=by
   have:=AU r.o.up (i:=0) (j:=k) () hk;rw[r.o.t0]at this;exact this
  refine#[by have:=on.lo;grind,ev,λx hx=>?_];have:=ZH r on s hx (λc=>by rw[ev];exact v2 c);rw[ev]at this;exact this
def T (ts:List Rat)(i:Nat):Rat:=ts.getD i 0
structure Tms (cs ds:Cs)(ts:List Rat):Prop where
 ne:0<↥ts
 t0:T ts 0=0
 up:∀i,i+1<↥ts->T ts i<T ts (i+1)
 a:∀k,k<↥cs->∃i,i<↥ts/\T ts i=tt cs k
 b:∀k,k<↥ds->∃i,i<↥ts/\T ts i=tt ds k
 of:∀i,i<↥ts->(∃k,k<↥cs/\T ts i=tt cs k)\/∃k,k<↥ds/\T ts i=tt ds k
theorem Gw {ts:List Rat}(u:∀i,i+1<↥ts->T ts i<T ts (i+1)){i:Nat}:∀{j:Nat},i<=j->j<↥ts->T ts i<=T ts j
 |0,h,_=>by have:i=0:=()
            subst this;exact qAb
 |j+1,h,hj=>by
  by_cases e:i=j+1
  .subst e;exact qAb
  .have h1:=Gw u (i:=i) (j:=j) () ();have h2:=u j hj;grind
theorem JZ {cs ds:Cs}{ts:List Rat}(t:Tms cs ds ts){i:Nat}(h:i<↥ts):0<=T ts i:=by
 have:=Gw t.up (i:=0) (j:=i) () h;rw[t.t0]at this;exact this
theorem Tms.swap {cs ds:Cs}{ts:List Rat}(t:Tms cs ds ts):Tms ds cs ts:=#[t.ne,t.t0,t.up,t.b,t.a,λi h=>(t.of i h).symm]
theorem OM {cs ds:Cs}{ts:List Rat}(o:Ord cs)(t:Tms cs ds ts){i:Nat}(hi:i<↥ts){x:Rat}(h1:T ts i<=x)(h2:i+1<↥ts->x<=T ts (i+1)):On cs (plc cs (T ts i) ↥cs) x:=by
 have on:=Dq o (JZ t hi);obtain⟨_,p2,p3⟩:=D0 (cs:=cs) (t:=T ts i) (by rw[o.t0];exact JZ t hi) ↥cs o.ne;refine#[on.lt,by have:=on.lo;grind,λc=>?_];have lt:=p3 _ (qBU _) c;obtain⟨j,hj,ej⟩:=t.a _ c;have ij:i<j:=by
  by_cases z:i<j
  .exact z
  .have:=Gw t.up (i:=j) (j:=i) () hi;rw[ej]at this;grind
 have:=h2 ();have h3:=Gw t.up (i:=i+1) (j:=j) () hj;rw[ej]at h3;grind
theorem Iw {cs ds:Cs}{ts:List Rat}{m:Rat}(o:Ord cs)(t:Tms cs ds ts){i:Nat}(hi:i<↥ts){x:Rat}(h1:T ts i<=x)(h2:i+1<↥ts->x<=T ts (i+1)) :
 val cs m x=val cs m (T ts i)+slp cs m (plc cs (T ts i) ↥cs)*(x-T ts i):=by
 rw[Bw o.up (OM o t hi h1 h2),Bw o.up (OM o t hi qAb (λc=>qAj (t.up i c)))];grind
theorem Ir {cs ds:Cs}{ts:List Rat}{m:Rat}(o:Ord cs)(t:Tms cs ds ts):slp cs m (plc cs (T ts (↥ts-1)) ↥cs)=m:=by
 have n:=o.ne;obtain⟨j,hj,ej⟩:=t.a (↥cs-1) ();have:=Gw t.up (i:=j) (j:=↥ts-1) () (by have:=t.ne;omega);rw[ej]at this;rw[Nx n this];exact Az ()
theorem L7 {ts:List Rat}(ne:0<↥ts)(t0:T ts 0=0){x:Rat}(x0:0<=x):∃i,i<↥ts/\T ts i<=x/\(i+1<↥ts->x<=T ts (i+1)):=by
 have all:∀n,n<↥ts->T ts n<=x\/∃i,i<↥ts/\T ts i<=x/\(i+1<↥ts->x<=T ts (i+1)):=by
  intro n
  induction n with
  |zero=>intro _;exact .inl (by rw[t0];exact x0)
  |succ n ih=>
   intro h;rcases ih () with h1|h1
   .by_cases c:T ts (n+1)<=x
    .exact .inl c
    .exact .inr #[n,(),h1,λ_=>⋯]
   .exact .inr h1
 rcases all (↥ts-1) () with h|h
 .exact#[↥ts-1,(),h,λc=>()]
 .exact h
def gap (cs:Cs)(m:Rat)(ds:Cs)(k:Rat)(x:Rat):Rat:=val cs m x-val ds k x
structure Mrg (cs ds:Cs)(i p:Nat)(ts:List Rat):Prop where
 inc:ts.Pairwise (· < ·)
 of:∀x∈ts,(∃a,a<i/\x=tt cs a)\/∃b,b<p/\x=tt ds b
 a:∀k,k<i->tt cs k∈ts
 b:∀k,k<p->tt ds k∈ts
 lt:∀x∈ts,∀k,p<=k->k<↥ds->x<tt ds k
 len:↥ts<=i+p
theorem Kt {cs:Cs}(u:Up cs){i j:Nat}(h:i<j)(hj:j<↥cs):tt cs i<tt cs j:=by
 have h1:=u i ();have h2:=AU u (i:=i+1) (j:=j) () hj;grind
theorem Mrg.nil (cs ds:Cs):Mrg cs ds 0 0 []:=#[List.Pairwise.nil,(λx h=>by cases h),(λk h=>()),(λk h=>()),(λx h=>by cases h),qA4 _]
theorem Mrg.other {cs ds:Cs}{i p:Nat}{ts:List Rat}(g:Mrg cs ds i p ts)(up:Up ds)(hp:p<↥ds)(hi:∀x∈ts,x<tt cs i)(h:tt ds p<tt cs i):Mrg cs ds i (p+1) (ts++[tt ds p])/\∀x∈ts++[tt ds p],x<tt cs i:=by
 refine#[#[?_,λx hx=>?_,λk hk=>qAS _ (g.a k hk),λk hk=>?_,λx hx k k1 k2=>?_,by rw[qAp];have:=g.len;simp;omega],λx hx=>?_]
 .rw[qCh];exact#[g.inc,qCA _ _,λx hx y hy=>by rw[qAM.mp hy];exact g.lt x hx p (qAg _) hp]
 .rcases qAq.mp hx with hx|hx
  .rcases g.of x hx with z|⟨b,hb,e⟩
   .exact .inl z
   .exact .inr #[b,(),e]
  .exact .inr #[p,(),qAM.mp hx]
 .by_cases e:k=p
  .subst e;exact qAA _ (qAM.mpr rfl)
  .exact qAS _ (g.b k ())
 .rcases qAq.mp hx with hx|hx
  .exact g.lt x hx k () k2
  .rw[qAM.mp hx];exact Kt up () k2
 .rcases qAq.mp hx with hx|hx
  .exact hi x hx
  .rw[qAM.mp hx];exact h
theorem Mrg.one {cs ds:Cs}{i p q:Nat}{ts:List Rat}(g:Mrg cs ds i p ts)(hpq:q=p\/(q=p+1/\p<↥ds/\tt ds p=tt cs i))(hi:∀x∈ts,x<tt cs i)(hb:∀k,q<=k->k<↥ds->tt cs i<tt ds k):Mrg cs ds (i+1) q (ts++[tt cs i]):=by
 refine#[?_,λx hx=>?_,λk hk=>?_,λk hk=>?_,λx hx k k1 k2=>?_,?_]
 .rw[qCh];exact#[g.inc,qCA _ _,λx hx y hy=>by rw[qAM.mp hy];exact hi x hx]
 .rcases qAq.mp hx with hx|hx
  .rcases g.of x hx with⟨a,ha,e⟩|⟨b,hb,e⟩
   .exact .inl #[a,(),e]
   .exact .inr #[b,(),e]
  .exact .inl #[i,(),qAM.mp hx]
 .by_cases e:k=i
  .subst e;exact qAA _ (qAM.mpr rfl)
  .exact qAS _ (g.a k ())
 .by_cases e:k<p
  .exact qAS _ (g.b k e)
  .rcases hpq with z|⟨z,_,e2⟩
   .omega
   .have:k=p:=();subst this;rw[e2];exact qAA _ (qAM.mpr rfl)
 .rcases qAq.mp hx with hx|hx
  .exact g.lt x hx k () k2
  .rw[qAM.mp hx];exact hb k k1 k2
 .rw[qAp];have:=g.len;simp;omega
theorem M6 {ts:List Rat}{i:Nat}(h:i<↥ts):T ts i=ts[i]:=by
 unfold T;rw[qAe,qAc h];rfl
theorem TJ {ts:List Rat}{x:Rat}(h:x∈ts):∃i,i<↥ts/\T ts i=x:=by
 obtain⟨i,hi,e⟩:=qBa.mp h;exact#[i,hi,by rw[M6 hi];exact e]
def rst (ds:Cs)(p:Nat):List Rat:=(ds.drop p).map (·.1)
theorem Hb {ds:Cs}{p j:Nat}(h:p+j<↥ds):(rst ds p)[j]? = some (tt ds (p+j)):=by
 unfold rst;rw[qAd,qBo,qAc h];unfold tt;rw[qAe,qAc h];rfl
theorem OZ {ds:Cs}{p:Nat}{x:Rat}(h:x∈rst ds p):∃k,p<=k/\k<↥ds/\x=tt ds k:=by
 obtain⟨j,hj,e⟩:=qBa.mp h;have hj':p+j<↥ds:=by unfold rst at hj;rw[qAa,qAP]at hj;omega
 have:=Hb hj';rw[qAc hj,e]at this;exact#[p+j,(),hj',qAo this]
theorem Te {ds:Cs}{p k:Nat}(h:p<=k)(hk:k<↥ds):tt ds k∈rst ds p:=by
 have:=Hb (ds:=ds) (p:=p) (j:=k-p) ();rw[show p+(k-p)=k from ()]at this;exact qAB this
theorem YS {cs ds:Cs}{p:Nat}{ts:List Rat}(o:Ord cs)(q:Ord ds)(g:Mrg cs ds ↥cs p ts)(hp:p<=↥ds):Tms cs ds (ts++rst ds p):=by
 have inc:(ts++rst ds p).Pairwise (· < ·):=by
  rw[qCh];refine#[g.inc,?_,λx hx y hy=>?_]
  .rw[qBI];intro i j hi hj hij;have lr:(rst ds p).length=↥ds-p:=by unfold rst;rw[qAa,qAP]
   have e1:=Hb (ds:=ds) (p:=p) (j:=i) ();have e2:=Hb (ds:=ds) (p:=p) (j:=j) ();rw[qAc hi]at e1;rw[qAc hj]at e2;rw[qAo e1,qAo e2];exact Kt q.up () ()
  .obtain⟨k,k1,k2,e⟩:=OZ hy;rw[e];exact g.lt x hx k k1 k2
 have z:tt cs 0∈ts++rst ds p:=qAS _ (g.a 0 o.ne);have ne:0<(ts++rst ds p).length:=qCH z;have of:∀x∈ts++rst ds p,(∃k,k<↥cs/\x=tt cs k)\/∃k,k<↥ds/\x=tt ds k:=λx hx=>by
  rcases qAq.mp hx with hx|hx
  .rcases g.of x hx with h|⟨b,hb,e⟩
   .exact .inl h
   .exact .inr #[b,(),e]
  .obtain⟨k,_,k2,e⟩:=OZ hx;exact .inr #[k,k2,e]
 have up:∀i,i+1<(ts++rst ds p).length->T (ts++rst ds p) i<T (ts++rst ds p) (i+1):=λi hi=>by
  rw[M6 (),M6 hi];exact qBI.mp inc i (i+1) () hi ()
 refine#[ne,?_,up,λk hk=>TJ (qAS _ (g.a k hk)),λk hk=>?_,λi hi=>?_]
 .obtain⟨i,hi,e⟩:=TJ z;rw[o.t0]at e;have h1:=Gw up (i:=0) (j:=i) () hi;rw[e]at h1;have nn:0<=T (ts++rst ds p) 0:=by
   rw[M6 ne];rcases of _ (qA0 ne) with⟨k,hk,ek⟩|⟨k,hk,ek⟩
   .rw[ek];have:=AU o.up (i:=0) (j:=k) () hk;rw[o.t0]at this;exact this
   .rw[ek];have:=AU q.up (i:=0) (j:=k) () hk;rw[q.t0]at this;exact this
  grind
 .by_cases c:k<p
  .exact TJ (qAS _ (g.b k c))
  .exact TJ (qAA _ (Te () hk))
 .rw[M6 hi];exact of _ (qA0 hi)
theorem LN {ds:Cs}{p:Int}(k:Nat)(hp:p=(k:Int))(h:k<↥ds):atI ((rst ds 0).map qd) p=some (qd (tt ds k)):=by
 subst hp;have lr:(rst ds 0).length=↥ds:=by unfold rst;rw[qAa,qAP];omega
 rw[atI_nat (by rw[qAa,lr];exact h),qAd];have:=Hb (ds:=ds) (p:=0) (j:=k) ();rw[this,Nat.zero_add];rfl
theorem DY (ds:Cs)(p:Nat):(rst ds p).length=↥ds-p:=by unfold rst;rw[qAa,qAP]
theorem SM {ds:Cs}{p:Nat}(h:p<=↥ds):FV ((rst ds 0).map qd) (some (p:Int)) none=(rst ds p).map qd:=by
 unfold FV;have lr:((rst ds 0).map qd).length=↥ds:=by rw[qAa,DY];omega
 rw[lr,HT.sIx_nat,HT.sIx_none,qBP h];rw[qBk (by rw[qAP,lr];omega),<-qBX]
 congr 1
 unfold rst;rw[<-qBX,List.drop_drop,Nat.zero_add]
def rw3 (cs:Cs)(m:Rat)(ds:Cs)(k:Rat)(t:Rat):D:=.tup [qd t,qd (val cs m t),qd (val ds k t)]
def gcs (cs:Cs)(m:Rat)(ds:Cs)(k:Rat)(ts:List Rat):Cs:=ts.map λt=>(t,gap cs m ds k t)
theorem B3 {cs:Cs}{m:Rat}{ds:Cs}{k:Rat}{ts:List Rat}:(gcs cs m ds k ts).length=↥ts:=by unfold gcs;rw[qAa]
theorem Be {cs:Cs}{m:Rat}{ds:Cs}{k:Rat}{ts:List Rat}{i:Nat}(h:i<↥ts):tt (gcs cs m ds k ts) i=T ts i/\vv (gcs cs m ds k ts) i=gap cs m ds k (T ts i):=by
 have e:(gcs cs m ds k ts).getD i (0,0)=(T ts i,gap cs m ds k (T ts i)):=by
  unfold gcs;rw[qAe,qAd,qAc h,M6 h];rfl
 unfold tt vv;rw[e];exact#[rfl,rfl]
theorem M5 {ts:List Rat}{i:Nat}{t:Rat}(h:ts[i]? = some t):i<↥ts/\T ts i=t:=by
 obtain⟨h1,h2⟩:=qAf.mp h;exact#[h1,by rw[M6 h1];exact h2]
theorem Bs {α:Type}{f:α->D}{xs:List α}{i:Nat}{x:D}(h:(xs.map f)[i]? = some x):∃a,xs[i]? = some a/\x=f a:=by
 rw[qAd]at h;cases e:xs[i]? with
 |none=>rw[e]at h;cases h
 |some a=>rw[e]at h;exact#[a,rfl,(qAo h).symm]
theorem Dj {α:Type}(xs:List α)(f:α->D):(xs.map λa=>some (f a)).filterMap id=xs.map f:=by
 rw[qBy];exact congrFun (qB8 (f:=f)) _
def IsL (h:Rat->Rat)(t v:Rat):Prop:=0<=v/\(v=0\/∃s,0<=s/\s<=t/\h s=v)/\∀s,0<=s->s<=t->h s<=v
theorem IsL.uniq {h:Rat->Rat}{t v w:Rat}(a:IsL h t v)(b:IsL h t w):v=w:=by
 have le:∀{v w:Rat},IsL h t v->IsL h t w->v<=w:=λ{v w} a b=>by
  rcases a.2.1 with e|⟨s,s0,st,e⟩
  .rw[e];exact b.1
  .rw[<-e];exact b.2.2 s s0 st
 exact Rat.le_antisymm (le a b) (le b a)
theorem IsL.on {h:Rat->Rat}{T B G s t:Rat}(a:IsL h T B)(T0:0<=T)(hG:h T=G)(tT:T<=t)(lin:∀x,T<=x->x<=t->h x=G+s*(x-T)){v:Rat}(hv:v=B\/v=G+s*(t-T))(h1:B<=v)(h2:G+s*(t-T)<=v):IsL h t v:=by
 have gB:G<=B:=by rw[<-hG];exact a.2.2 T T0 qAb
 refine#[qAm a.1 h1,?_,λx x0 xt=>?_]
 .rcases hv with e|e
  .rcases a.2.1 with z|⟨y,y0,y1,ey⟩
   .exact .inl (e.trans z)
   .exact .inr #[y,y0,qAm y1 tT,ey.trans e.symm]
  .exact .inr #[t,qAm T0 tT,qAb,(lin t tT qAb).trans e.symm]
 .by_cases c:x<=T
  .exact qAm (a.2.2 x x0 c) h1
  .rw[lin x ⋯ xt];by_cases s0:0<=s
   .have:=qAh s0 (show 0<=t-x from ⋯);grind
   .have:=qAh (show 0<=-s from ⋯) (show 0<=x-T from ⋯);grind
structure Lft (h:Rat->Rat)(C:Cs)(T B M:Rat)(nx:Option Rat):Prop where
 o:Ord C
 lo:T<=tt C (↥C-1)
 hi:∀t,nx=some t->tt C (↥C-1)<t
 b:vv C (↥C-1)=B
 M0:0<=M
 v:∀t,0<=t->(∀u,nx=some u->t<=u)->IsL h t (val C M t)
 l:IsL h T B
theorem Lft.next {h:Rat->Rat}{C:Cs}{T B M u B':Rat}(a:Lft h C T B M (some u))(hB:IsL h u B'):Ord (C++[(u,B')])/\∀(M' t:Rat),0<=t->t<=u->val (C++[(u,B')]) M' t=val C M t:=by
 have n:=a.o.ne;have lt:=a.hi u rfl;have t0:0<=tt C (↥C-1):=by
  have:=AU a.o.up (i:=0) (j:=↥C-1) () ();rw[a.o.t0]at this;exact this
 have eB:B'=val C M u:=hB.uniq (a.v u ⋯ (λw hw=>by cases hw;exact qAb));have ev:val C M u=vv C (↥C-1)+M*(u-tt C (↥C-1)):=BR n (qAj lt);have mn:=qAh a.M0 (show 0<=u-tt C (↥C-1) from ⋯);have sl:(B'-vv C (↥C-1))/(u-tt C (↥C-1))=M:=by
  rw[eB,ev];have ne:u-tt C (↥C-1)≠0:=⋯;generalize tt C (↥C-1)=X at ne;generalize vv C (↥C-1)=Y;grind
 refine#[a.o.snoc (c:=(u,B')) lt (by show _<=B';rw[eB,ev];grind),λM' t t0 tu=>?_];rw[La (c:=(u,B')) (M:=M) n sl];by_cases c:t<u
 .rw[if_pos c]
 .rw[if_neg c];have e:t=u:=⋯;show B'+M'*(t-u)=_;rw[e,eB];grind
structure Lf0 (h:Rat->Rat)(C:Cs)(T B:Rat):Prop where
 o:Ord C
 t:tt C (↥C-1)=T
 b:vv C (↥C-1)=B
 l:IsL h T B
 v:∀(M t:Rat),0<=t->t<=T->IsL h t (val C M t)
theorem Lf0.t0 {h:Rat->Rat}{C:Cs}{T B:Rat}(a:Lf0 h C T B):0<=T:=by
 have:=AU a.o.up (i:=0) (j:=↥C-1) () (by have:=a.o.ne;omega);rw[a.o.t0,a.t]at this;exact this
theorem Lf0.go {h:Rat->Rat}{C:Cs}{T B G s M:Rat}{nx:Option Rat}(a:Lf0 h C T B)(hG:h T=G)(hnx:∀u,nx=some u->T<u)(lin:∀x,T<=x->(∀u,nx=some u->x<=u)->h x=G+s*(x-T))(M0:0<=M)
 (val':∀x,T<=x->(∀u,nx=some u->x<=u)->(B+M*(x-T)=B\/B+M*(x-T)=G+s*(x-T))/\G+s*(x-T)<=B+M*(x-T)):Lft h C T B M nx:=by
 refine#[a.o,by rw[a.t];exact qAb,λu hu=>by rw[a.t];exact hnx u hu,a.b,M0,λt t0 ht=>?_,a.l];by_cases c:t<=T
 .exact a.v M t t0 c
 .have cT:T<=t:=⋯;have e:val C M t=B+M*(t-T):=by rw[BR a.o.ne (by rw[a.t];exact cT),a.t,a.b]
  rw[e];obtain⟨v1,v2⟩:=val' t cT ht;have mn:=qAh M0 (show 0<=t-T from ⋯);exact a.l.on a.t0 hG cT (λx x1 x2=>lin x x1 (λu hu=>qAm x2 (ht u hu))) v1 ⋯ v2
theorem Lf0.flat {h:Rat->Rat}{C:Cs}{T B G s X:Rat}(a:Lf0 h C T B)(hG:h T=G)(hX:T<X)(lin:∀x,T<=x->x<=X->h x=G+s*(x-T))(hB:G+s*(X-T)=B):Lf0 h (C++[(X,B)]) X B:=by
 have f:Lft h C T B 0 (some X):=a.go (s:=s) hG (λu hu=>by cases hu;exact hX) (λx x1 x2=>lin x x1 (x2 X rfl)) qAb (λx x1 x2=>by
  have x2:=x2 X rfl;have gB:G<=B:=by rw[<-hG];exact a.l.2.2 T a.t0 qAb
  refine#[.inl ⋯,?_];by_cases s0:0<=s
  .have:=qAh s0 (show 0<=X-x from ⋯);grind
  .have:=qAh (show 0<=-s from ⋯) (show 0<=x-T from ⋯);grind)
 have lX:IsL h X B:=by
  have:=f.v X (by have:=a.t0;grind) (λw hw=>by cases hw;exact qAb);rw[BR a.o.ne (by rw[a.t];exact qAj hX),a.t,a.b]at this;have e:B+0*(X-T)=B:=⋯;rw[e]at this;exact this
 obtain⟨o,vs⟩:=f.next lX;have ln:(C++[(X,B)]).length-1=↥C:=by rw[Bq];omega
 exact#[o,by rw[ln,OD],by rw[ln,Pa],lX,λM t t0 tX=>by rw[vs M t t0 tX];exact f.v t t0 (λw hw=>by cases hw;exact tX)]
theorem Lft.step {h:Rat->Rat}{C:Cs}{T B M u B':Rat}(a:Lft h C T B M (some u))(hB:IsL h u B'):Lf0 h (C++[(u,B')]) u B':=by
 obtain⟨o,vs⟩:=a.next hB;have ln:(C++[(u,B')]).length-1=↥C:=by rw[Bq];omega
 exact#[o,by rw[ln,OD],by rw[ln,Pa],hB,λM t t0 tu=>by rw[vs M t t0 tu];exact a.v t t0 (λw hw=>by cases hw;exact tu)]
def mx (a b:Rat):Rat:=if a<b then b else a
theorem GP (a b:Rat):a<=mx a b/\b<=mx a b/\(mx a b=a\/mx a b=b):=by
 unfold mx;split<;>grind
def Ab (h:Rat->Rat)(B s:Rat):Option Rat->Prop
 |some u=>B<h u
 |none=>0<s
theorem Lf0.turn {h:Rat->Rat}{C:Cs}{T B G s:Rat}{nx:Option Rat}(a:Lf0 h C T B)(hG:h T=G)(hnx:∀u,nx=some u->T<u)(lin:∀x,T<=x->(∀u,nx=some u->x<=u)->h x=G+s*(x-T)) :
 (¬G<B->Lft h C T B (mx 0 s) nx) /\
 (G<B->¬Ab h B s nx->Lft h C T B 0 nx) /\
 (G<B->Ab h B s nx->0<s/\Lft h (C++[(T+(B-G)/s,B)]) T B s nx):=by
 have gB:G<=B:=by rw[<-hG];exact a.l.2.2 T a.t0 qAb
 have m0:=GP 0 s;refine#[λc=>?_,λc1 c2=>?_,λc1 c2=>?_]
 .have e:G=B:=⋯;refine a.go hG hnx lin m0.1 (λx x1 x2=>#[?_,?_])
  .rcases m0.2.2 with z|z
   .rw[z];exact .inl ⋯
   .rw[z,e];exact .inr rfl
  .have:=qAh (show 0<=mx 0 s-s from ⋯) (show 0<=x-T from ⋯);grind
 .refine a.go hG hnx lin qAb (λx x1 x2=>#[.inl ⋯,?_]);cases nx with
  |none=>
   have sn:¬0<s:=c2;have:=qAh (show 0<=-s from ⋯) (show 0<=x-T from ⋯);grind
  |some u=>
   have hu:¬B<h u:=c2;have tu:=hnx u rfl;have xu:=x2 u rfl;have e:=lin u (qAj tu) (λw hw=>by cases hw;exact qAb);by_cases s0:0<=s
   .have:=qAh s0 (show 0<=u-x from ⋯);grind
   .have:=qAh (show 0<=-s from ⋯) (show 0<=x-T from ⋯);grind
 .have s0:0<s:=by
   cases nx with
   |none=>exact c2
   |some u=>
    have hu:B<h u:=c2;have tu:=hnx u rfl;have e:=lin u (qAj tu) (λw hw=>by cases hw;exact qAb);by_cases z:0<s
    .exact z
    .have:=qAh (show 0<=-s from ⋯) (show 0<=u-T from ⋯);grind
  have ne:s≠0:=⋯;have d:=T4 (show 0<B-G from ⋯) s0;have eX:s*(T+(B-G)/s-T)=B-G:=⋯;have inX:∀u,nx=some u->T+(B-G)/s<u:=λu hu=>by
   subst hu;have hu:B<h u:=c2;have tu:=hnx u rfl;have e:=lin u (qAj tu) (λw hw=>by cases hw;exact qAb);by_cases z:T+(B-G)/s<u
   .exact z
   .have:=qAh (qAj s0) (show 0<=T+(B-G)/s-u from ⋯);grind
  have f:=a.flat (X:=T+(B-G)/s) (s:=s) hG ⋯ (λx x1 x2=>lin x x1 (λu hu=>qAm x2 (qAj (inX u hu)))) (by rw[eX];grind);have hX:h (T+(B-G)/s)=B:=by rw[lin _ ⋯ (λu hu=>qAj (inX u hu)),eX];grind
  have g:=f.go (s:=s) (M:=s) (nx:=nx) hX inX (λx x1 x2=>by rw[lin x ⋯ x2];grind) (qAj s0) (λx x1 x2=>#[.inr rfl,qAb]);exact#[s0,g.o,by have:=g.lo;grind,g.hi,g.b,g.M0,g.v,a.l]
theorem IsL.nxt {h:Rat->Rat}{T B G s u:Rat}(a:IsL h T B)(T0:0<=T)(hG:h T=G)(tu:T<=u)(lin:∀x,T<=x->x<=u->h x=G+s*(x-T)):IsL h u (mx B (h u)):=by
 have e:=lin u tu qAb;obtain⟨m1,m2,m3⟩:=GP B (h u);refine a.on T0 hG tu lin ?_ m1 (by rw[<-e];exact m2);rcases m3 with z|z
 .exact .inl z
 .exact .inr (z.trans e)
theorem EX {cs ds:Cs}{ts:List Rat}{m k:Rat}(o:Ord cs)(q:Ord ds)(t:Tms cs ds ts){i:Nat}(hi:i<↥ts) :
 (∀x,T ts i<=x->(i+1<↥ts->x<=T ts (i+1))->gap cs m ds k x=gap cs m ds k (T ts i)+slp (gcs cs m ds k ts) (m-k) i*(x-T ts i)) /\
  slp (gcs cs m ds k ts) (m-k) i=slp cs m (plc cs (T ts i) ↥cs)-slp ds k (plc ds (T ts i) ↥ds):=by
 have main:∀x,T ts i<=x->(i+1<↥ts->x<=T ts (i+1))->gap cs m ds k x=gap cs m ds k (T ts i)+(slp cs m (plc cs (T ts i) ↥cs)-slp ds k (plc ds (T ts i) ↥ds))*(x-T ts i):=λx h1 h2=>by
  unfold gap;rw[Iw (m:=m) o t hi h1 h2,Iw (m:=k) q t.swap hi h1 h2];grind
 have e:slp (gcs cs m ds k ts) (m-k) i=slp cs m (plc cs (T ts i) ↥cs)-slp ds k (plc ds (T ts i) ↥ds):=by
  by_cases c:i+1<↥ts
  .rw[Cd (by rw[B3];exact c),(Be hi).1,(Be hi).2,(Be c).1,(Be c).2];have u:=t.up i c;have g:=main (T ts (i+1)) (qAj u) (λ_=>qAb);exact Mt ⋯ ⋯
  .rw[Az (by rw[B3];exact c)];have e:i=↥ts-1:=();rw[e,Ir o t,Ir q t.swap]
 exact#[λx h1 h2=>by rw[e];exact main x h1 h2,e]
theorem RY {f:Rat->Rat}{a b v p n s:Rat}(h:∀x,p<=x->x<=n->f x=a+b*x)(hp:f p<=v)(hn:f n<=v)(h1:p<=s)(h2:s<=n):f s<=v:=by
 have e1:=h p qAb (qAm h1 h2);have e2:=h n (qAm h1 h2) qAb;have e3:=h s h1 h2;by_cases b0:0<=b
 .have:=qAh b0 (show 0<=n-s from ⋯);grind
 .have:=qAh (show 0<=-b from ⋯) (show 0<=s-p from ⋯);grind
theorem Ci {cs:Cs}{k:Nat}(h:k<↥cs):tt cs k=cs[k].1/\vv cs k=cs[k].2:=by
 unfold tt vv;rw[qAe,qAc h];exact#[rfl,rfl]
theorem WG {cs ds:Cs}{ts:List Rat}{m k v:Rat}(o:Ord cs)(q:Ord ds)(t:Tms cs ds ts)(h:∀i,i<↥ts->gap cs m ds k (T ts i)<=v)(hl:m-k<=0){x:Rat}(x0:0<=x):gap cs m ds k x<=v:=by
 obtain⟨i,hi,h1,h2⟩:=L7 t.ne t.t0 x0;have lin:=EX (m:=m) (k:=k) o q t hi;by_cases c:i+1<↥ts
 .refine RY (p:=T ts i) (n:=T ts (i+1)) (a:=gap cs m ds k (T ts i)-slp (gcs cs m ds k ts) (m-k) i*T ts i) (b:=slp (gcs cs m ds k ts) (m-k) i) (λx x1 x2=>?_) (h i hi) (h _ c) h1 (h2 c);rw[lin.1 x x1 (λ_=>x2)];grind
 .have s:slp (gcs cs m ds k ts) (m-k) i=m-k:=Az (by rw[B3];exact c);rw[lin.1 x h1 h2,s];have a:=h i hi;have b:=qAh (show 0<=-(m-k) from ⋯) (show 0<=x-T ts i from ⋯);grind
structure Tal (cs:Cs)(m:Rat)(ds:Cs)(k v:Rat):Prop where
 nn:0<=v
 le:∀t,0<=t->gap cs m ds k t<=v
 at_:v=0\/∃c∈cs++ds,gap cs m ds k c.1=v
theorem UK {cs ds:Cs}{ts:List Rat}{m k v:Rat}(o:Ord cs)(q:Ord ds)(t:Tms cs ds ts)(h:∀i,i<↥ts->gap cs m ds k (T ts i)<=v)(hl:m-k<=0)(v0:0<=v)(ha:v=0\/∃i,i<↥ts/\gap cs m ds k (T ts i)=v):Tal cs m ds k v:=by
 refine#[v0,λx x0=>WG o q t h hl x0,?_];rcases ha with e|⟨i,hi,e⟩
 .exact .inl e
 .refine .inr ?_;rcases t.of i hi with⟨j,hj,ej⟩|⟨j,hj,ej⟩
  .exact#[cs[j],qAS _ (qA0 hj),by rw[<-(Ci hj).1,<-ej];exact e]
  .exact#[ds[j],qAA _ (qA0 hj),by rw[<-(Ci hj).1,<-ej];exact e]
theorem Wq.le_iff {k n:Nat}{a b c d:Int}{p q:Rat}(h:Wq k a b p)(g:Wq n c d q):a*d<=c*b ↔ p<=q:=by
 have:=g.lt_iff h;constructor
 .intro z;exact qAI.mp (λy=>absurd (this.mpr y) ())
 .intro z;exact Int.not_lt.mp (λy=>absurd (this.mp y) (qAI.mpr z))
structure Chk (cs:Cs)(m:Rat)(ds:Cs)(k d:Rat):Prop where
 one:∀c∈cs,c.2<=val ds k (c.1+d)
 two:∀c∈ds,0<=c.1-d->val cs m (c.1-d)<=c.2
theorem NZ {cs:Cs}{m:Rat}(o:Ord cs){c:Rat×Rat}(h:c∈cs):val cs m c.1=c.2/\0<=c.1/\c.2<=vv cs (↥cs-1):=by
 obtain⟨i,hi,rfl⟩:=qBa.mp h;have e:=BU (m:=m) o hi;have t:=AU o.up (i:=0) (j:=i) () hi;rw[o.t0]at t;rw[(Ci hi).1,(Ci hi).2]at e;rw[(Ci hi).1]at t;refine#[e,t,?_];rw[<-(Ci hi).2];have mono:∀j,i<=j->j<↥cs->vv cs i<=vv cs j:=by
  intro j
  induction j with
  |zero=>intro h1 _;rw[show i=0 from ()];exact qAb
  |succ j ih=>
   intro h1 h2;by_cases z:i<=j
   .exact qAm (ih z ()) (o.vu j h2)
   .rw[show i=j+1 from ()];exact qAb
 exact mono _ () ()
theorem Q9 {cs ds:Cs}{m k d t:Rat}(o:Ord cs)(q:Ord ds)(mk:m<=k)(d0:0<=d)(h:Chk cs m ds k d)(t0:0<=t):val cs m t<=val ds k (t+d):=by
 have oi:=Dq o t0;have oj:=Dq q (show 0<=t+d from ⋯);generalize plc cs t ↥cs=i at oi;generalize plc ds (t+d) ↥ds=j at oj;have c0:∀i,i<↥cs->0<=tt cs i/\vv cs i<=val ds k (tt cs i+d)/\val cs m (tt cs i)=vv cs i:=λi hi=>by
  have:=AU o.up (i:=0) (j:=i) () hi;rw[o.t0]at this;have a:=h.one cs[i] (qA0 hi);rw[<-(Ci hi).1,<-(Ci hi).2]at a;exact#[this,a,BU o hi]
 have d1:∀j,j<↥ds->0<=tt ds j-d->val cs m (tt ds j-d)<=vv ds j/\val ds k (tt ds j-d+d)=vv ds j:=λj hj z=>by
  have a:=h.two ds[j] (qA0 hj);rw[<-(Ci hj).1,<-(Ci hj).2]at a;exact#[a z,by rw[show tt ds j-d+d=tt ds j from ⋯];exact BU q hj]
 have P:∃p,tt cs i<=p/\tt ds j<=p+d/\p<=t/\val cs m p<=val ds k (p+d):=by
  have a:=c0 i oi.lt;have lo:=oj.lo;by_cases c:tt ds j<=tt cs i+d
  .exact#[tt cs i,qAb,c,oi.lo,by rw[a.2.2];exact a.2.1]
  .have b:=d1 j oj.lt ⋯;exact#[tt ds j-d,⋯,⋯,⋯,by rw[b.2];exact b.1]
 obtain⟨p,p1,p2,p3,p4⟩:=P;have lin:∀x,p<=x->(i+1<↥cs->x<=tt cs (i+1))->(j+1<↥ds->x+d<=tt ds (j+1))->val cs m x-val ds k (x+d)=(vv cs i-slp cs m i*tt cs i-(vv ds j+slp ds k j*(d-tt ds j)))+(slp cs m i-slp ds k j)*x:=λx x1 x2 x3=>by
  rw[Bw o.up (k:=i) #[oi.lt,⋯,x2],Bw q.up (k:=j) #[oj.lt,⋯,x3]];grind
 have fin:∀n,t<=n->(i+1<↥cs->n<=tt cs (i+1))->(j+1<↥ds->n+d<=tt ds (j+1))->val cs m n<=val ds k (n+d)->val cs m t<=val ds k (t+d):=λn n1 n2 n3 n4=>by
  have:=RY (f:=λx=>val cs m x-val ds k (x+d)) (v:=0) (p:=p) (n:=n) (s:=t) (λx x1 x2=>lin x x1 (λz=>qAm x2 (n2 z)) (λz=>by have:=n3 z;grind)) (by show val cs m p-val ds k (p+d)<=0;grind) (by show val cs m n-val ds k (n+d)<=0;grind) p3 n1;have:val cs m t-val ds k (t+d)<=0:=this;grind
 by_cases ci:i+1<↥cs
 .have a:=c0 (i+1) ci;by_cases cj:j+1<↥ds
  .by_cases c:tt cs (i+1)+d<=tt ds (j+1)
   .exact fin (tt cs (i+1)) (oi.hi ci) (λ_=>qAb) (λ_=>c) (by rw[a.2.2];exact a.2.1)
   .have hj:=oj.hi cj;have b:=d1 (j+1) cj ⋯;exact fin (tt ds (j+1)-d) ⋯ (λ_=>⋯) (λ_=>⋯) (by rw[b.2];exact b.1)
  .exact fin (tt cs (i+1)) (oi.hi ci) (λ_=>qAb) (λz=>absurd z cj) (by rw[a.2.2];exact a.2.1)
 .by_cases cj:j+1<↥ds
  .have hj:=oj.hi cj;have b:=d1 (j+1) cj ⋯;exact fin (tt ds (j+1)-d) ⋯ (λz=>absurd z ci) (λ_=>⋯) (by rw[b.2];exact b.1)
  .have e1:=lin t p3 (λz=>absurd z ci) (λz=>absurd z cj);have e2:=lin p qAb (λz=>absurd z ci) (λz=>absurd z cj);rw[Az ci,Az cj]at e1 e2;have:=qAh (show 0<=k-m from ⋯) (show 0<=t-p from ⋯);grind
def btw:Option Rat->Option Rat->Rat
 |some x,some y=>y-x
 |_,_=>0
theorem Wh {cs ds:Cs}{m k h t1 t2 d:Rat}(a:Rch cs m h (some t1))(b:Rch ds k h (some t2))(d0:0<=d)(lt:d<t2-t1):¬∀t,0<=t->val cs m t<=val ds k (t+d):=λz=>by
 obtain⟨a0,a1,_⟩:=a;have x:=b.2.2 (t1+d) ⋯ ⋯;have y:=z t1 a0;rcases a1 with e|⟨e,e'⟩
 .grind
 .subst e;grind
theorem Wr {cs ds:Cs}{m k h t1 t2 d:Rat}(a:Psd cs m h (some t1))(b:Psd ds k h (some t2))(lt:d<t2-t1):¬∀t,0<=t->val cs m t<=val ds k (t+d):=λz=>by
 obtain⟨a0,_,a2⟩:=a;have x:=a2 (t2-d) ⋯;have y:=z (t2-d) ⋯;rw[show t2-d+d=t2 from ⋯,b.2.1]at y;grind
theorem QH {ds:Cs}{k h:Rat}(r:C1 ds k)(b:∀x,0<=x->val ds k x<=h):k=0:=by
 have n:=r.o.ne;by_cases z:k=0
 .exact z
 .have k0:0<k:=qBp r.m0 (λe=>z e.symm);have t0:=AU r.o.up (i:=0) (j:=↥ds-1) () ();rw[r.o.t0]at t0;have e:=BU (m:=k) r.o (show ↥ds-1<↥ds from ());have b1:=b _ t0;rw[e]at b1;have dn:=MG (show 0<=h-vv ds (↥ds-1) from ⋯) k0;have b2:=b (tt ds (↥ds-1)+(h-vv ds (↥ds-1))/k+1) ⋯;rw[BR n ⋯]at b2;generalize tt ds (↥ds-1)=X at *
  generalize vv ds (↥ds-1)=Y at *
  have:k*(X+(h-Y)/k+1-X)=h-Y+k:=⋯;grind
theorem Nb {ds:Cs}{k h:Rat}(r:C1 ds k):(Rch ds k h none->k=0/\vv ds (↥ds-1)<h)/\∀t,Rch ds k h (some t)->¬(k=0/\vv ds (↥ds-1)<h):=by
 have n:=r.o.ne;refine#[λa=>#[QH (h:=h) r (λx x0=>qAj (a x x0)),?_],λt a z=>?_]
 .have t0:=AU r.o.up (i:=0) (j:=↥ds-1) () ();rw[r.o.t0]at t0;have:=a _ t0;rw[BU r.o (show ↥ds-1<↥ds from ())]at this;exact this
 .have f:=II r z.1 a.1;rcases a.2.1 with e|⟨e,e'⟩
  .grind
  .rw[e]at f;grind
def Hts (cs:Cs)(m:Rat)(ds:Cs)(k d:Rat):Prop:=∀c∈cs++ds,∃rf rg pf pg,Rch cs m c.2 rf/\Rch ds k c.2 rg/\Psd cs m c.2 pf/\Psd ds k c.2 pg/\btw rf rg<=d/\btw pf pg<=d
theorem Xw {cs ds:Cs}{m k d:Rat}(r:C1 cs m)(s:C1 ds k)(mk:m<=k)(d0:0<=d)(ne:¬(k=0/\vv ds (↥ds-1)<vv cs (↥cs-1)))(H:Hts cs m ds k d):Chk cs m ds k d:=by
 have rg_some:∀{h:Rat}{rg:Option Rat},h<=vv cs (↥cs-1)->Rch ds k h rg->∃t,rg=some t:=λ{h rg} hl a=>by
  cases rg with
  |some t=>exact#[t,rfl]
  |none=>have:=(Nb s).1 a;exact absurd #[this.1,⋯] ne
 have ge:∀{h t:Rat},Rch ds k h (some t)->h<=val ds k t:=λ{h t} a=>by
  rcases a.2.1 with e|⟨e,e'⟩
  .rw[e];exact qAb
  .rw[e];exact e'
 refine#[λc hc=>?_,λc hc z=>?_]
 .obtain⟨rf,rg,pf,pg,a,b,_,_,le,_⟩:=H c (qAS _ hc);obtain⟨ev,c0,cl⟩:=NZ (m:=m) r.o hc;obtain⟨t2,rfl⟩:=rg_some cl b;cases rf with
  |none=>have:=a c.1 c0;grind
  |some t1=>
   have le:t2-t1<=d:=le;have t1c:t1<=c.1:=qAI.mp (λy=>by have:=a.2.2 c.1 c0 y;grind);exact qAm (ge b) (Bh s b.1 ⋯)
 .obtain⟨rf,rg,pf,pg,_,_,a,b,_,le⟩:=H c (qAA _ hc);obtain⟨ev,c0,cl⟩:=NZ (m:=k) s.o hc;cases pg with
  |none=>
   rcases b with b|b
   .have:=Bh s (x:=0) (y:=c.1) qAb c0;grind
   .have k0:=QH s b;have m0:m=0:=by have:=r.m0;grind
    have f:=II r m0 z;have n:¬vv ds (↥ds-1)<vv cs (↥cs-1):=λy=>ne #[k0,y];have t0:=AU s.o.up (i:=0) (j:=↥ds-1) () (by have:=s.o.ne;omega);rw[s.o.t0]at t0;have e:=b _ t0;rw[BU s.o (show ↥ds-1<↥ds by have:=s.o.ne;omega)]at e;grind
  |some p2=>
   have cp:c.1<=p2:=qAI.mp (λy=>by have:=b.2.2 c.1 y;grind);cases pf with
   |some p1=>
    have le:p2-p1<=d:=le;have:=Bh r z (show c.1-d<=p1 from ⋯);rw[a.2.1]at this;exact this
   |none=>
    rcases a with a|a
    .have hm:cs[0]'r.o.ne∈cs++ds:=qAS _ (qA0 _);have e0:(cs[0]'r.o.ne).2=val cs m 0:=by rw[Bz r.o,(Ci r.o.ne).2]
     obtain⟨rf,rg,_,_,a',b',_,_,le',_⟩:=H _ hm;rw[e0]at a' b';have l0:val cs m 0<=vv cs (↥cs-1):=by rw[<-e0];exact(NZ (m:=m) r.o (qA0 _)).2.2
     obtain⟨t2,rfl⟩:=rg_some l0 b';cases rf with
     |none=>have:=a' 0 qAb;grind
     |some t1=>
      have le':t2-t1<=d:=le';have t10:t1<=0:=qAI.mp (λy=>by have:=a'.2.2 0 qAb y;grind);have g:=ge b';have:c.1<t2:=by
       by_cases y:c.1<t2
       .exact y
       .have:=Bh s b'.1 (show t2<=c.1 from ⋯);grind
      grind
    .exact a _ z
structure Wid (cs:Cs)(m:Rat)(ds:Cs)(k d:Rat):Prop where
 nn:0<=d
 ok:Chk cs m ds k d
 least:∀d',0<=d'->d'<d->¬Chk cs m ds k d'
theorem XQ {cs ds:Cs}{m k d:Rat}(r:C1 cs m)(s:C1 ds k)(mk:m<=k)(d0:0<=d)(ne:¬(k=0/\vv ds (↥ds-1)<vv cs (↥cs-1)))(H:Hts cs m ds k d)
 (at_:d=0\/∃h rf rg,d=btw rf rg/\((Rch cs m h rf/\Rch ds k h rg)\/(Psd cs m h rf/\Psd ds k h rg))):Wid cs m ds k d:=by
 refine#[d0,Xw r s mk d0 ne H,λd' d0' lt c=>?_];have all:=λt t0=>Q9 (t:=t) r.o s.o mk d0' c t0;rcases at_ with e|⟨h,rf,rg,e,w⟩
 .grind
 .cases rf with
  |none=>rw[show btw none rg=0 by cases rg<;>rfl]at e;grind
  |some t1=>
   cases rg with
   |none=>have e:d=0:=e;grind
   |some t2=>
    have e:d=t2-t1:=e;rcases w with⟨a,b⟩|⟨a,b⟩
    .exact Wh a b d0' ⋯ all
    .exact Wr a b ⋯ all
theorem YB {cs:Cs}{m:Rat}:∀k,k<↥cs->∀i,i<(kp cs m k).length->∃j,j<↥cs/\tt (kp cs m k) i=tt cs j
 |0,hk=>λi hi=>by
  have:i=0:=by simp[kp]at hi;omega
  subst this;exact#[0,hk,rfl]
 |k+1,hk=>by
  have ih:=YB (cs:=cs) (m:=m) k ();by_cases e:slp cs m k=slp cs m (k+1)
  .rw[Js e];exact ih
  .rw[RU e];intro i hi;by_cases c:i<(kp cs m k).length
   .rw[M7 c];exact ih i c
   .rw[Bq]at hi;rw[show i=(kp cs m k).length from (),OD];exact#[k+1,hk,rfl]
theorem ZL {α:Type}{f:α->D}{xs:List α}{h:Nat}(hh:h<=↥xs):FV (xs.map f) none (some (h:Int))=(xs.take h).map f:=by
 unfold FV;rw[HT.sIx_nat,qAa,qBP hh];show((xs.map f).drop 0).take (h-0)=_;rw[List.drop_zero,Nat.sub_zero,List.map_take]
theorem Wf {α:Type}{f:α->D}{xs:List α}{h:Nat}(hh:h<=↥xs):FV (xs.map f) (some (h:Int)) none=(xs.drop h).map f:=by
 unfold FV;rw[HT.sIx_nat,qAa,qBP hh];show((xs.map f).drop h).take (↥xs-h)=_;rw[<-qBX,qBk (by rw[qAa,qAP];exact qAg _)]
end CH
namespace L3
open PySem PySem.Spec PyProof.Rows L2
section
variable {X:Cx}
end
end L3
namespace CH
open PySem L2 L3
def dB (cs:Cs)(m:Rat)(ds:Cs)(k:Rat):Option Rat->Prop
 |none=>k<m
 |some v=>¬k<m/\Tal cs m ds k v
def aY (cs:Cs)(m:Rat)(ds:Cs)(k:Rat):Prop:=k<m\/(k=0/\vv ds (↥ds-1)<vv cs (↥cs-1))
def eK (cs:Cs)(m:Rat)(ds:Cs)(k:Rat):Option Rat->Prop
 |none=>aY cs m ds k
 |some v=>¬aY cs m ds k/\Wid cs m ds k v
def mn (a b:Rat):Rat:=if b<a then b else a
structure LS (a b c:Nat)(cs:Cs)(m:Rat):Prop where
 tm:∀i,i<↥cs->Sz a (tt cs i)
 sl:∀t,0<=t->Sz b (sat cs m t)
 ic:∀t,0<=t->Sz c (val cs m t-sat cs m t*t)
theorem LS.va {a b c n:Nat}{cs:Cs}{m t:Rat}(z:LS a b c cs m)(t0:0<=t)(ht:Sz n t):Sz (b+n+c+1) (val cs m t):=by
 have h:=(z.ic t t0).add ((z.sl t t0).mul ht);rw[show val cs m t-sat cs m t*t+sat cs m t*t=val cs m t from ⋯]at h;exact h.mono ()
theorem LS.m {a b c:Nat}{cs:Cs}{m:Rat}(z:LS a b c cs m)(o:Ord cs):Sz b m:=by
 have n:=o.ne;have t0:=AU o.up (i:=0) (j:=↥cs-1) () ();rw[o.t0]at t0;have:=z.sl _ t0;rw[NJ n qAb]at this;exact this
theorem LS.szk {a b c n:Nat}{cs:Cs}{m:Rat}(z:LS a b c cs m)(o:Ord cs)(hl:↥cs<=100000)(h:a+b+c+1<=n):SzK n cs m:=by
 refine#[hl,λi hi=>?_,(z.m o).mono ()];have t0:=AU o.up (i:=0) (j:=i) () hi;rw[o.t0]at t0;have:=z.va t0 (z.tm i hi);rw[BU o hi]at this;exact#[(z.tm i hi).mono (),this.mono ()]
theorem LS.mono {a b c a' b' c':Nat}{cs:Cs}{m:Rat}(z:LS a b c cs m)(h1:a<=a')(h2:b<=b')(h3:c<=c'):LS a' b' c' cs m:=
 #[λi hi=>(z.tm i hi).mono h1,λt t0=>(z.sl t t0).mono h2,λt t0=>(z.ic t t0).mono h3]
theorem LS.kept {a b c:Nat}{cs:Cs}{m:Rat}(z:LS a b c cs m)(o:Ord cs):LS a b c (kp cs m (↥cs-1)) m:=by
 have n:=o.ne;refine#[λi hi=>?_,λt t0=>by rw[(G0 o t).2];exact z.sl t t0,λt t0=>by rw[(G0 o t).1,(G0 o t).2];exact z.ic t t0];obtain⟨j,hj,e⟩:=YB (cs:=cs) (m:=m) _ () i hi;rw[e];exact z.tm j hj
def Til (nx:Option Rat)(x:Rat):Prop:=∀u,nx=some u->x<=u
structure Pc (cs:Cs)(m:Rat)(ds:Cs)(k:Rat)(a:Rat)(nx:Option Rat):Prop where
 f:∀x,a<=x->Til nx x->val cs m x=val cs m a+sat cs m a*(x-a)
 g:∀x,a<=x->Til nx x->val ds k x=val ds k a+sat ds k a*(x-a)
 s:(∀x,a<=x->Til nx x->val cs m x<=val ds k x)\/(∀x,a<=x->Til nx x->val ds k x<=val cs m x)
 e:nx=none->sat cs m a=m/\sat ds k a=k
def nxU (us:List Rat)(nx:Option Rat)(i:Nat):Option Rat:=if i+1<↥us then some (T us (i+1)) else nx
structure Cx (cs:Cs)(m:Rat)(ds:Cs)(k:Rat)(us:List Rat)(nx:Option Rat):Prop where
 ne:0<↥us
 t0:T us 0=0
 up:∀i,i+1<↥us->T us i<T us (i+1)
 pc:∀i,i<↥us->Pc cs m ds k (T us i) (nxU us nx i)
theorem T_l {us:List Rat}{a:Rat}{i:Nat}(h:i<↥us):T (us++[a]) i=T us i:=by
 unfold T;rw[qAe,qAt h,qAe]
theorem T_r {us:List Rat}{a:Rat}:T (us++[a]) ↥us=a:=by
 unfold T;rw[qAe,qAw (qAg _),qCv];rfl
theorem Cx.one {cs ds:Cs}{m k:Rat}{nx:Option Rat}(h:Pc cs m ds k 0 nx):Cx cs m ds k [0] nx:=by
 refine#[Nat.one_pos,rfl,λi hi=>?_,λi hi=>?_]
 .have:i+1<1:=hi;omega
 .have:i=0:=by have:i<1:=hi;omega
  subst this;exact h
theorem Cx.snoc {cs ds:Cs}{m k a:Rat}{us:List Rat}{nx:Option Rat}(x:Cx cs m ds k us (some a))(hl:T us (↥us-1)<a)(h:Pc cs m ds k a nx):Cx cs m ds k (us++[a]) nx:=by
 have n:=x.ne;have ll:(us++[a]).length=↥us+1:=by simp
 refine#[(),by rw[T_l n];exact x.t0,λi hi=>?_,λi hi=>?_]
 .by_cases c:i+1<↥us
  .rw[T_l c,T_l ()];exact x.up i c
  .rw[show i+1=↥us from (),T_r,T_l (),show i=↥us-1 from ()];exact hl
 .by_cases c:i<↥us
  .have p:=x.pc i c;rw[T_l c];have e:nxU (us++[a]) nx i=nxU us (some a) i:=by
    unfold nxU;rw[if_pos ()];by_cases c2:i+1<↥us
    .rw[if_pos c2,T_l c2]
    .rw[if_neg c2,show i+1=↥us from (),T_r]
   rw[e];exact p
  .have e:i=↥us:=();subst e;rw[T_r];unfold nxU;rw[if_neg ()];exact h
def Opp (p q:Rat):Prop:=(p<0/\0<q)\/(0<p/\q<0)
instance (p q:Rat):Decidable (Opp p q):=inferInstanceAs (Decidable ((p<0/\0<q)\/(0<p/\q<0)))
theorem Vd {a u y s:Rat}(h:a<u)(n:¬Opp y (y+s*(u-a))):(∀x,a<=x->x<=u->y+s*(x-a)<=0)\/(∀x,a<=x->x<=u->0<=y+s*(x-a)):=by
 have lin:∀x,a<=x->x<=u->(y<=0->y+s*(u-a)<=0->y+s*(x-a)<=0)/\(0<=y->0<=y+s*(u-a)->0<=y+s*(x-a)):=λx h1 h2=>by
  by_cases b0:0<=s
  .have A:=qAh b0 (show 0<=u-x from ⋯);have B:=qAh b0 (show 0<=x-a from ⋯);constructor
   .intro p q;grind
   .intro p q;grind
  .have A:=qAh (show 0<=-s from ⋯) (show 0<=u-x from ⋯);have B:=qAh (show 0<=-s from ⋯) (show 0<=x-a from ⋯);constructor
   .intro p q;grind
   .intro p q;grind
 unfold Opp at n;by_cases c:y<=0/\y+s*(u-a)<=0
 .exact .inl λx h1 h2=>(lin x h1 h2).1 c.1 c.2
 .exact .inr λx h1 h2=>(lin x h1 h2).2 ⋯ ⋯
theorem Tz {a y s:Rat}(n:¬Opp y s):(∀x,a<=x->y+s*(x-a)<=0)\/(∀x,a<=x->0<=y+s*(x-a)):=by
 unfold Opp at n;by_cases c:y<=0/\s<=0
 .refine .inl λx h1=>?_;have A:=qAh (show 0<=-s from ⋯) (show 0<=x-a from ⋯);grind
 .refine .inr λx h1=>?_;have A:=qAh (show 0<=s from ⋯) (show 0<=x-a from ⋯);grind
theorem LI {a y s t:Rat}(h:s≠0)(e:t=a+(0-y)/s)(x:Rat):y+s*(x-a)=s*(x-t):=by
 subst e;grind
theorem Tv {a u y s:Rat}(h:a<u)(o:Opp y (y+s*(u-a))):s≠0/\a<a+(0-y)/s/\a+(0-y)/s<u:=by
 have s0:s≠0:=λz=>by
  unfold Opp at o;rw[z]at o;grind
 have E:=LI (a:=a) (y:=y) (t:=a+(0-y)/s) s0 rfl;generalize a+(0-y)/s=t at E;have e1:=E a;have e2:=E u;have e3:y=s*(a-t):=by rw[<-e1];grind
 rw[e2]at o;rw[e3]at o;clear E e1 e2 e3;unfold Opp at o;refine#[s0,?_,?_]
 .refine qA1.mp λz=>?_;rcases o with⟨p,q⟩|⟨p,q⟩
  .by_cases b0:0<=s
   .have A:=qAh b0 (show 0<=a-t from ⋯);grind
   .have A:=qAh (show 0<=-s from ⋯) (show 0<=u-t from ⋯);grind
  .by_cases b0:0<=s
   .have A:=qAh b0 (show 0<=u-t from ⋯);grind
   .have A:=qAh (show 0<=-s from ⋯) (show 0<=a-t from ⋯);grind
 .refine qA1.mp λz=>?_;rcases o with⟨p,q⟩|⟨p,q⟩
  .by_cases b0:0<=s
   .have A:=qAh b0 (show 0<=t-u from ⋯);grind
   .have A:=qAh (show 0<=-s from ⋯) (show 0<=t-a from ⋯);grind
  .by_cases b0:0<=s
   .have A:=qAh b0 (show 0<=t-a from ⋯);grind
   .have A:=qAh (show 0<=-s from ⋯) (show 0<=t-u from ⋯);grind
theorem Q4 {a y s:Rat}(o:Opp y s):s≠0/\a<a+(0-y)/s:=by
 have s0:s≠0:=λz=>by
  unfold Opp at o;rw[z]at o;grind
 have E:=LI (a:=a) (y:=y) (t:=a+(0-y)/s) s0 rfl;generalize a+(0-y)/s=t at E;have e1:=E a;have e3:y=s*(a-t):=by rw[<-e1];grind
 rw[e3]at o;clear E e1 e3;unfold Opp at o;refine#[s0,qA1.mp λz=>?_];rcases o with⟨p,q⟩|⟨p,q⟩
 .have A:=qAh (show 0<=s from ⋯) (show 0<=a-t from ⋯);grind
 .have A:=qAh (show 0<=-s from ⋯) (show 0<=a-t from ⋯);grind
theorem Oj {cs ds:Cs}{ts:List Rat}{m:Rat}(o:Ord cs)(t:Tms cs ds ts){i:Nat}(hi:i<↥ts){x:Rat}(h1:T ts i<=x)(h2:i+1<↥ts->x<T ts (i+1)):sat cs m x=sat cs m (T ts i):=by
 have on:=Dq o (JZ t hi);obtain⟨_,p2,p3⟩:=D0 (cs:=cs) (t:=T ts i) (by rw[o.t0];exact JZ t hi) ↥cs o.ne;unfold sat;rw[HS o.up (k:=plc cs (T ts i) ↥cs) (qAm on.lo h1) (λc=>?_) _ on.lt (qAg _)];have lt:=p3 _ (qBU _) c;obtain⟨j,hj,ej⟩:=t.a _ c;have ij:i<j:=by
  by_cases z:i<j
  .exact z
  .have:=Gw t.up (i:=j) (j:=i) () hi;rw[ej]at this;grind
 have:=h2 ();have h3:=Gw t.up (i:=i+1) (j:=j) () hj;rw[ej]at h3;grind
def nxT (ts:List Rat)(i:Nat):Option Rat:=if i+1<↥ts then some (T ts (i+1)) else none
theorem LK {ts:List Rat}{i:Nat}{x:Rat}(h:Til (nxT ts i) x):i+1<↥ts->x<=T ts (i+1):=λc=>h _ (by unfold nxT;rw[if_pos c])
def HC (cs:Cs)(m:Rat)(ds:Cs)(k:Rat)(ts:List Rat)(i:Nat):Rat:=if i+1<↥ts then gap cs m ds k (T ts (i+1)) else m-k
theorem UD {cs ds:Cs}{ts:List Rat}{m k:Rat}(o:Ord cs)(q:Ord ds)(t:Tms cs ds ts){i:Nat}(hi:i<↥ts) :
 (∀x,T ts i<=x->Til (nxT ts i) x->val cs m x=val cs m (T ts i)+sat cs m (T ts i)*(x-T ts i)) /\
 (∀x,T ts i<=x->Til (nxT ts i) x->val ds k x=val ds k (T ts i)+sat ds k (T ts i)*(x-T ts i)) /\
 (nxT ts i=none->sat cs m (T ts i)=m/\sat ds k (T ts i)=k):=by
 refine#[λx h1 h2=>Iw o t hi h1 (LK h2),λx h1 h2=>Iw q t.swap hi h1 (LK h2),λh=>?_];have c:¬i+1<↥ts:=λc=>by unfold nxT at h;rw[if_pos c]at h;cases h
 have e:i=↥ts-1:=();subst e;exact#[Ir o t,Ir q t.swap]
theorem V2 {cs ds:Cs}{ts:List Rat}{m k:Rat}(o:Ord cs)(q:Ord ds)(t:Tms cs ds ts){i:Nat}(hi:i<↥ts)(n:¬Opp (gap cs m ds k (T ts i)) (HC cs m ds k ts i)):Pc cs m ds k (T ts i) (nxT ts i):=by
 obtain⟨F,G,E⟩:=UD (m:=m) (k:=k) o q t hi;refine#[F,G,?_,E];have g:∀x,T ts i<=x->Til (nxT ts i) x->val cs m x-val ds k x=gap cs m ds k (T ts i)+(sat cs m (T ts i)-sat ds k (T ts i))*(x-T ts i):=λx h1 h2=>by
  rw[F x h1 h2,G x h1 h2];unfold gap;grind
 by_cases c:i+1<↥ts
 .have u:=t.up i c;have e:=g (T ts (i+1)) (qAj u) (λv hv=>by unfold nxT at hv;rw[if_pos c]at hv;cases hv;exact qAb);unfold HC at n;rw[if_pos c]at n;have e2:gap cs m ds k (T ts (i+1))=gap cs m ds k (T ts i)+(sat cs m (T ts i)-sat ds k (T ts i))*(T ts (i+1)-T ts i):=e;rw[e2]at n;rcases Vd u n with h|h
  .exact .inl λx h1 h2=>by have:=h x h1 (LK h2 c);have:=g x h1 h2;grind
  .exact .inr λx h1 h2=>by have:=h x h1 (LK h2 c);have:=g x h1 h2;grind
 .unfold HC at n;rw[if_neg c]at n;obtain⟨e1,e2⟩:=E (by unfold nxT;rw[if_neg c]);rw[e1,e2]at g;rcases Tz (a:=T ts i) n with h|h
  .exact .inl λx h1 h2=>by have:=h x h1;have:=g x h1 h2;grind
  .exact .inr λx h1 h2=>by have:=h x h1;have:=g x h1 h2;grind
theorem Y0 {cs ds:Cs}{ts:List Rat}{m k t':Rat}(o:Ord cs)(q:Ord ds)(t:Tms cs ds ts){i:Nat}(hi:i<↥ts)(n:Opp (gap cs m ds k (T ts i)) (HC cs m ds k ts i))(et:t'=T ts i+(0-gap cs m ds k (T ts i))/(sat cs m (T ts i)-sat ds k (T ts i))) :
 sat cs m (T ts i)-sat ds k (T ts i)≠0/\T ts i<t'/\(∀u,nxT ts i=some u->t'<u)/\Pc cs m ds k (T ts i) (some t')/\Pc cs m ds k t' (nxT ts i)/\val ds k t'=val cs m t'/\sat cs m t'=sat cs m (T ts i)/\sat ds k t'=sat ds k (T ts i):=by
 obtain⟨F,G,E⟩:=UD (m:=m) (k:=k) o q t hi;have g:∀x,T ts i<=x->Til (nxT ts i) x->val cs m x-val ds k x=gap cs m ds k (T ts i)+(sat cs m (T ts i)-sat ds k (T ts i))*(x-T ts i):=λx h1 h2=>by
  rw[F x h1 h2,G x h1 h2];unfold gap;grind
 have K:sat cs m (T ts i)-sat ds k (T ts i)≠0/\T ts i<t'/\(∀u,nxT ts i=some u->t'<u):=by
  subst et;by_cases c:i+1<↥ts
  .have u:=t.up i c;have e:=g (T ts (i+1)) (qAj u) (λv hv=>by unfold nxT at hv;rw[if_pos c]at hv;cases hv;exact qAb);unfold HC at n;rw[if_pos c]at n;have e2:gap cs m ds k (T ts (i+1))=gap cs m ds k (T ts i)+(sat cs m (T ts i)-sat ds k (T ts i))*(T ts (i+1)-T ts i):=e;rw[e2]at n;obtain⟨a1,a2,a3⟩:=Tv u n;exact#[a1,a2,λv hv=>by unfold nxT at hv;rw[if_pos c]at hv;cases hv;exact a3]
  .unfold HC at n;rw[if_neg c]at n;obtain⟨e1,e2⟩:=E (by unfold nxT;rw[if_neg c]);rw[<-e1,<-e2]at n;rw[e1,e2]at n ⊢;obtain⟨a1,a2⟩:=Q4 (a:=T ts i) n;exact#[a1,a2,λv hv=>by unfold nxT at hv;rw[if_neg c]at hv;cases hv]
 obtain⟨s0,lt,ltn⟩:=K;have C:=LI s0 et;have tl:Til (nxT ts i) t':=λu hu=>qAj (ltn u hu);have ti:∀x,Til (some t') x->Til (nxT ts i) x:=λx hx u hu=>qAm (hx t' rfl) (tl u hu);have s1:sat cs m t'=sat cs m (T ts i):=Oj o t hi (qAj lt) (λc=>ltn _ (by unfold nxT;rw[if_pos c]));have s2:sat ds k t'=sat ds k (T ts i):=Oj q t.swap hi (qAj lt) (λc=>ltn _ (by unfold nxT;rw[if_pos c]));have g2:∀x,T ts i<=x->Til (nxT ts i) x->val cs m x-val ds k x=(sat cs m (T ts i)-sat ds k (T ts i))*(x-t'):=λx h1 h2=>by rw[g x h1 h2,C x]
 have ev:val ds k t'=val cs m t':=by have:=g2 t' (qAj lt) tl;grind
 refine#[s0,lt,ltn,#[λx h1 h2=>F x h1 (ti x h2),λx h1 h2=>G x h1 (ti x h2),?_,λh=>by cases h],#[λx h1 h2=>?_,λx h1 h2=>?_,?_,λh=>by rw[s1,s2];exact E h],ev,s1,s2]
 .by_cases b0:0<=sat cs m (T ts i)-sat ds k (T ts i)
  .refine .inl λx h1 h2=>?_;have A:=qAh b0 (show 0<=t'-x by have:=h2 t' rfl;grind);have:=g2 x h1 (ti x h2);grind
  .refine .inr λx h1 h2=>?_;have A:=qAh (show 0<=-(sat cs m (T ts i)-sat ds k (T ts i)) from ⋯) (show 0<=t'-x by have:=h2 t' rfl;grind);have:=g2 x h1 (ti x h2);grind
 .have a1:=F x (qAm (qAj lt) h1) h2;have a2:=F t' (qAj lt) tl;rw[s1];grind
 .have a1:=G x (qAm (qAj lt) h1) h2;have a2:=G t' (qAj lt) tl;rw[s2];grind
 .by_cases b0:0<=sat cs m (T ts i)-sat ds k (T ts i)
  .refine .inr λx h1 h2=>?_;have A:=qAh b0 (show 0<=x-t' from ⋯);have:=g2 x (qAm (qAj lt) h1) h2;grind
  .refine .inl λx h1 h2=>?_;have A:=qAh (show 0<=-(sat cs m (T ts i)-sat ds k (T ts i)) from ⋯) (show 0<=x-t' from ⋯);have:=g2 x (qAm (qAj lt) h1) h2;grind
structure P6 (op:Rat->Rat->Rat):Prop where
 w:((∀x y,x<=y->op x y=x)/\(∀x y,y<=x->op x y=y))\/((∀x y,x<=y->op x y=y)/\(∀x y,y<=x->op x y=x))
theorem JK:P6 mn:=by
 refine#[.inl #[λx y h=>?_,λx y h=>?_]]
 .unfold mn;rw[if_neg (qAI.mpr h)]
 .unfold mn;split
  .rfl
  .grind
theorem IP:P6 mx:=by
 refine#[.inr #[λx y h=>?_,λx y h=>?_]]
 .unfold mx;split
  .rfl
  .grind
 .unfold mx;rw[if_neg (qAI.mpr h)]
theorem P6.or {op:Rat->Rat->Rat}(P:P6 op)(x y:Rat):op x y=x\/op x y=y:=by
 rcases P.w with⟨a,b⟩|⟨a,b⟩
 .by_cases c:x<=y
  .exact .inl (a x y c)
  .exact .inr (b x y ⋯)
 .by_cases c:x<=y
  .exact .inr (a x y c)
  .exact .inl (b x y ⋯)
theorem P6.mono {op:Rat->Rat->Rat}(P:P6 op){x y x' y':Rat}(h1:x<=x')(h2:y<=y'):op x y<=op x' y':=by
 rcases P.w with⟨a,b⟩|⟨a,b⟩
 .by_cases c:x<=y
  .by_cases d:x'<=y'
   .rw[a x y c,a x' y' d];exact h1
   .rw[a x y c,b x' y' ⋯];grind
  .by_cases d:x'<=y'
   .rw[b x y ⋯,a x' y' d];grind
   .rw[b x y ⋯,b x' y' ⋯];exact h2
 .by_cases c:x<=y
  .by_cases d:x'<=y'
   .rw[a x y c,a x' y' d];exact h2
   .rw[a x y c,b x' y' ⋯];grind
  .by_cases d:x'<=y'
   .rw[b x y ⋯,a x' y' d];grind
   .rw[b x y ⋯,b x' y' ⋯];exact h1
theorem Ky {f0 g0 m k a:Rat}(h:∀x,a<=x->f0+m*(x-a)<=g0+k*(x-a)):m<=k:=by
 refine qAI.mp λc=>?_;have h0:=h a qAb;have d0:0<m-k:=⋯;have q0:0<=(g0-f0)/(m-k):=by
  rw[qCI];exact qAh ⋯ (qAj (Rat.inv_pos.mpr d0))
 have:=h (a+(g0-f0)/(m-k)+1) ⋯;have e:(m-k)*((g0-f0)/(m-k))=g0-f0:=by
  have:m-k≠0:=⋯;grind
 generalize (g0-f0)/(m-k)=y at *
 grind
theorem Pc.pick {cs ds:Cs}{m k a:Rat}{nx:Option Rat}{op:Rat->Rat->Rat}(h:Pc cs m ds k a nx)(P:P6 op):∃(c:Cs)(n:Rat),((c=cs/\n=m)\/(c=ds/\n=k))/\(∀x,a<=x->Til nx x->op (val cs m x) (val ds k x)=val c n x)/\(∀x,a<=x->Til nx x->val c n x=val c n a+sat c n a*(x-a))/\(nx=none->op m k=n/\sat c n a=n):=by
 have le:nx=none->(∀x,a<=x->Til nx x->val cs m x<=val ds k x)->m<=k:=λe H=>by
  have tl:∀x,Til nx x:=λx u hu=>by rw[e]at hu;cases hu
  refine Ky (f0:=val cs m a) (g0:=val ds k a) (a:=a) λx hx=>?_;have:=H x hx (tl x);have f:=h.f x hx (tl x);have g:=h.g x hx (tl x);rw[(h.e e).1]at f;rw[(h.e e).2]at g;grind
 have ge:nx=none->(∀x,a<=x->Til nx x->val ds k x<=val cs m x)->k<=m:=λe H=>by
  have tl:∀x,Til nx x:=λx u hu=>by rw[e]at hu;cases hu
  refine Ky (f0:=val ds k a) (g0:=val cs m a) (a:=a) λx hx=>?_;have:=H x hx (tl x);have f:=h.f x hx (tl x);have g:=h.g x hx (tl x);rw[(h.e e).1]at f;rw[(h.e e).2]at g;grind
 rcases P.w with⟨p,q⟩|⟨p,q⟩
 .rcases h.s with s|s
  .exact#[cs,m,.inl #[rfl,rfl],λx h1 h2=>p _ _ (s x h1 h2),h.f,λe=>#[p _ _ (le e s),(h.e e).1]]
  .exact#[ds,k,.inr #[rfl,rfl],λx h1 h2=>q _ _ (s x h1 h2),h.g,λe=>#[q _ _ (ge e s),(h.e e).2]]
 .rcases h.s with s|s
  .exact#[ds,k,.inr #[rfl,rfl],λx h1 h2=>p _ _ (s x h1 h2),h.g,λe=>#[p _ _ (le e s),(h.e e).2]]
  .exact#[cs,m,.inl #[rfl,rfl],λx h1 h2=>q _ _ (s x h1 h2),h.f,λe=>#[q _ _ (ge e s),(h.e e).1]]
def ocs (op:Rat->Rat->Rat)(cs:Cs)(m:Rat)(ds:Cs)(k:Rat)(us:List Rat):Cs:=us.map λt=>(t,op (val cs m t) (val ds k t))
section
variable {op:Rat->Rat->Rat}{cs ds:Cs}{m k:Rat}{us:List Rat}
theorem CF:(ocs op cs m ds k us).length=↥us:=qAa _
theorem De {i:Nat}(h:i<↥us):tt (ocs op cs m ds k us) i=T us i/\vv (ocs op cs m ds k us) i=op (val cs m (T us i)) (val ds k (T us i)):=by
 rw[(Ci (show i<(ocs op cs m ds k us).length by rw[CF];exact h)).1,(Ci (show i<(ocs op cs m ds k us).length by rw[CF];exact h)).2,M6 h];unfold ocs;rw[List.getElem_map];exact#[rfl,rfl]
theorem Cx.nn {nx:Option Rat}(x:Cx cs m ds k us nx){i:Nat}(h:i<↥us):0<=T us i:=by
 have:=Gw x.up (i:=0) (j:=i) () h;rw[x.t0]at this;exact this
theorem JN (P:P6 op)(r:C1 cs m)(s:C1 ds k)(x:Cx cs m ds k us none):Ord (ocs op cs m ds k us):=by
 have n:=x.ne;refine#[by rw[CF];exact n,by rw[(De n).1];exact x.t0,?_,λi hi=>?_,λi hi=>?_]
 .rw[(De n).2,x.t0,Bz r.o,Bz s.o];have:=r.o.v0;have:=s.o.v0;rcases P.or (vv cs 0) (vv ds 0) with e|e<;>rw[e]<;>assumption
 .rw[CF]at hi;rw[(De (show i<↥us from ())).1,(De hi).1];exact x.up i hi
 .rw[CF]at hi;have i0:i<↥us:=();rw[(De i0).2,(De hi).2];exact P.mono (Bh r (x.nn i0) (qAj (x.up i hi))) (Bh s (x.nn i0) (qAj (x.up i hi)))
theorem Sg (P:P6 op)(x:Cx cs m ds k us none){i:Nat}(hi:i<↥us):∃(c:Cs)(n:Rat),((c=cs/\n=m)\/(c=ds/\n=k))/\slp (ocs op cs m ds k us) (op m k) i=sat c n (T us i)/\(∀y,T us i<=y->(i+1<↥us->y<=T us (i+1))->op (val cs m y) (val ds k y)=val c n y/\val c n y=val c n (T us i)+sat c n (T us i)*(y-T us i)):=by
 obtain⟨c,n,w,h1,h2,h3⟩:=(x.pc i hi).pick P;have tl:∀y,(i+1<↥us->y<=T us (i+1))->Til (nxU us none i) y:=λy h u hu=>by
  unfold nxU at hu;split at hu
  .next e=>cases hu;exact h e
  .cases hu
 refine#[c,n,w,?_,λy y1 y2=>#[h1 y y1 (tl y y2),h2 y y1 (tl y y2)]];by_cases e:i+1<↥us
 .rw[Cd (by rw[CF];exact e),(De hi).1,(De hi).2,(De e).1,(De e).2];have u:=x.up i e;have a0:=h1 (T us i) qAb (tl _ λ_=>qAj u);have a1:=h1 (T us (i+1)) (qAj u) (tl _ λ_=>qAb);have b:=h2 (T us (i+1)) (qAj u) (tl _ λ_=>qAb);rw[a0,a1];exact Mt ⋯ ⋯
 .rw[Az (by rw[CF];exact e)];obtain⟨q1,q2⟩:=h3 (by unfold nxU;rw[if_neg e]);rw[q1,q2]
theorem RD (P:P6 op)(r:C1 cs m)(s:C1 ds k)(x:Cx cs m ds k us none){y:Rat}(y0:0<=y):val (ocs op cs m ds k us) (op m k) y=op (val cs m y) (val ds k y):=by
 obtain⟨i,hi,h1,h2⟩:=L7 x.ne x.t0 y0;obtain⟨c,n,_,sl,pc⟩:=Sg P x hi;have O:=JN P r s x;have on:On (ocs op cs m ds k us) i y:=#[by rw[CF];exact hi,by rw[(De hi).1];exact h1,λz=>by rw[CF]at z;rw[(De z).1];exact h2 z];rw[Bw O.up on,sl,(De hi).1,(De hi).2,(pc _ qAb (λz=>qAj (x.up i z))).1,(pc y h1 h2).1,(pc y h1 h2).2]
theorem UN (P:P6 op)(r:C1 cs m)(s:C1 ds k)(x:Cx cs m ds k us none){a b c:Nat}(z1:LS a b c cs m)(z2:LS a b c ds k)(zt:∀i,i<↥us->Sz a (T us i)):LS a b c (ocs op cs m ds k us) (op m k):=by
 have O:=JN P r s x;have key:∀y,0<=y->Sz b (sat (ocs op cs m ds k us) (op m k) y)/\Sz c (val (ocs op cs m ds k us) (op m k) y-sat (ocs op cs m ds k us) (op m k) y*y):=λy y0=>by
  have on:=Dq O y0;have ev:val (ocs op cs m ds k us) (op m k) y=vv (ocs op cs m ds k us) (plc (ocs op cs m ds k us) y (ocs op cs m ds k us).length)+slp (ocs op cs m ds k us) (op m k) (plc (ocs op cs m ds k us) y (ocs op cs m ds k us).length)*(y-tt (ocs op cs m ds k us) (plc (ocs op cs m ds k us) y (ocs op cs m ds k us).length)):=rfl;have es:sat (ocs op cs m ds k us) (op m k) y=slp (ocs op cs m ds k us) (op m k) (plc (ocs op cs m ds k us) y (ocs op cs m ds k us).length):=rfl;generalize plc (ocs op cs m ds k us) y (ocs op cs m ds k us).length=i at on ev es;have hi:i<↥us:=by have:=on.lt;rw[CF]at this;exact this
  obtain⟨C,n,w,sl,pc⟩:=Sg P x hi;rw[ev,es,sl,(De hi).1,(De hi).2,(pc _ qAb (λz=>qAj (x.up i z))).1];have e:val C n (T us i)+sat C n (T us i)*(y-T us i)-sat C n (T us i)*y=val C n (T us i)-sat C n (T us i)*T us i:=⋯;rw[e];have t0:=x.nn hi;rcases w with⟨rfl,rfl⟩|⟨rfl,rfl⟩
  .exact#[z1.sl _ t0,z1.ic _ t0]
  .exact#[z2.sl _ t0,z2.ic _ t0]
 exact#[λi hi=>by rw[CF]at hi;rw[(De hi).1];exact zt i hi,λt t0=>(key t t0).1,λt t0=>(key t t0).2]
end
theorem QS {a b c n:Nat}{cs ds:Cs}{m k t:Rat}(z1:LS a b c cs m)(z2:LS a b c ds k)(t0:0<=t)(s0:sat cs m t-sat ds k t≠0)(h:2*b+2*c+2<=n):Sz n (t+(0-gap cs m ds k t)/(sat cs m t-sat ds k t)):=by
 have q:=((z2.ic t t0).sub (z1.ic t t0)).div ((z1.sl t t0).sub (z2.sl t t0)) s0;have e:t+(0-gap cs m ds k t)/(sat cs m t-sat ds k t)=((val ds k t-sat ds k t*t)-(val cs m t-sat cs m t*t))/(sat cs m t-sat ds k t):=by
  unfold gap;generalize sat cs m t=p at *
  generalize sat ds k t=q at *
  grind
 rw[e];exact q.mono ()
theorem WL (p q:Rat):p.num*q.num<0 ↔ Opp p q:=by
 unfold Opp;have N:∀x:Rat,x.num<0 ↔ x<0:=λx=>by rw[<-qA1,<-Int.not_le,qCO]
 have N2:∀x:Rat,0<x.num ↔ 0<x:=λx=>by
  have:=N (-x);rw[Rat.neg_num]at this;constructor
  .intro h;have:=this.mp ();grind
  .intro h;have:=this.mpr ⋯;omega
 rw[<-N2 p,<-N2 q,<-N p,<-N q];constructor
 .intro h;by_cases c:0<p.num
  .refine .inr #[c,Int.not_le.mp λz=>?_];have:=qBS (qCP c) z;omega
  .by_cases d:p.num=0
   .rw[d]at h;omega
   .refine .inl #[(),Int.not_le.mp λz=>?_];have:=qBS (show 0<=- p.num from ()) (show 0<=- q.num from ());rw[Int.neg_mul_neg]at this;omega
 .rintro (⟨a,b⟩|⟨a,b⟩)
  .exact Int.mul_neg_of_neg_of_pos a b
  .exact Int.mul_neg_of_pos_of_neg a b
def sdL (cs:Cs)(m:Rat)(ds:Cs)(k:Rat)(ts:List Rat):List Rat:=(List.range ↥ts).map (HC cs m ds k ts)
theorem VP (cs:Cs)(m:Rat)(ds:Cs)(k:Rat)(ts:List Rat)(h:0<↥ts):(((gcs cs m ds k ts).drop 1).map λc=>some (qd c.2)).filterMap id++[qd (m-k)]=(sdL cs m ds k ts).map qd:=by
 rw[Dj ((gcs cs m ds k ts).drop 1) (λc=>qd c.2)];have gl:=B3 (cs:=cs) (m:=m) (ds:=ds) (k:=k) (ts:=ts);refine List.ext_getElem (by simp[sdL,gl];omega) λi h1 h2=>?_;have hi:i<↥ts:=by simpa [sdL] using h2
 have e2:((sdL cs m ds k ts).map qd)[i]=qd (HC cs m ds k ts i):=by simp[sdL]
 rw[e2];by_cases c:i+1<↥ts
 .have hg:i+1<(gcs cs m ds k ts).length:=by rw[gl];exact c
  rw[List.getElem_append_left (by simp[gl];omega)];have e:=(Ci hg).2;rw[(Be c).2]at e;unfold HC;rw[if_pos c,e];simp[qB2]
 .rw[List.getElem_append_right (by simp[gl];omega)];unfold HC;rw[if_neg c];simp
theorem aA {cs:Cs}{m:Rat}{ds:Cs}{k:Rat}{ts:List Rat}{i:Int}(j:Nat)(e:i=(j:Int))(h:j<↥ts):atI ((sdL cs m ds k ts).map qd) i=some (qd (HC cs m ds k ts j)):=by
 subst e;rw[CH.atI_nat (by simp[sdL];exact h)];simp[sdL,h]
theorem Cx.turn {cs ds:Cs}{m k:Rat}{ts us:List Rat}{i:Nat}{nx:Option Rat}(t:Tms cs ds ts)(hi:i<↥ts)(h0:i=0->us=[])(hp:0<i->Cx cs m ds k us (nxT ts (i-1))/\∀u,nxT ts (i-1)=some u->T us (↥us-1)<u)(p:Pc cs m ds k (T ts i) nx):Cx cs m ds k (us++[T ts i]) nx:=by
 by_cases z:i=0
 .rw[h0 z];subst z;rw[t.t0]at p ⊢;exact Cx.one p
 .obtain⟨x,hl⟩:=hp ();have e:nxT ts (i-1)=some (T ts i):=by unfold nxT;rw[show i-1+1=i from (),if_pos hi]
  rw[e]at x;exact x.snoc (hl _ e) p
theorem R9 {us:List Rat}{a:Rat}:T (us++[a]) ((us++[a]).length-1)=a:=by
 rw[qAp];exact T_r
theorem N3 {us:List Rat}{a:Rat}{n:Nat}(h:∀i,i<↥us->Sz n (T us i))(ha:Sz n a):∀i,i<(us++[a]).length->Sz n (T (us++[a]) i):=λi hi=>by
 by_cases c:i<↥us
 .rw[T_l c];exact h i c
 .rw[qAp]at hi;have:i=↥us:=by have:i<↥us+1:=hi;omega
  rw[this,T_r];exact ha
def Ln (p g:Nat)(C:Cs)(M:Rat):Prop:=∀i,i<↥C->Sz p (slp C M i)/\Sz g (vv C i-slp C M i*tt C i)
theorem Ln.one {p g:Nat}{c:Rat×Rat}{M:Rat}(h1:Sz p M)(h2:Sz g (c.2-M*c.1)):Ln p g [c] M:=λi hi=>by
 have:i=0:=by have:i<1:=hi;omega
 subst this;rw[Az (by show ¬0+1<1;decide)];exact#[h1,h2]
theorem Ln.snoc {p g:Nat}{C:Cs}{c:Rat×Rat}{M M':Rat}(a:Ln p g C M)(h:(c.2-vv C (↥C-1))/(c.1-tt C (↥C-1))=M)(h1:Sz p M')(h2:Sz g (c.2-M'*c.1)):Ln p g (C++[c]) M':=λi hi=>by
 rw[Bq]at hi;by_cases e:i<↥C
 .rw[FH e h,M7 e,M9 e];exact a i e
 .have:i=↥C:=();subst this;rw[ID,OD,Pa];exact#[h1,h2]
theorem Lft.slope {h:Rat->Rat}{C:Cs}{T B M u B':Rat}(a:Lft h C T B M (some u))(hB:IsL h u B'):(B'-vv C (↥C-1))/(u-tt C (↥C-1))=M:=by
 have n:=a.o.ne;have lt:=a.hi u rfl;have t0:0<=tt C (↥C-1):=by
  have:=AU a.o.up (i:=0) (j:=↥C-1) () ();rw[a.o.t0]at this;exact this
 have eB:B'=val C M u:=hB.uniq (a.v u ⋯ (λw hw=>by cases hw;exact qAb));have ev:val C M u=vv C (↥C-1)+M*(u-tt C (↥C-1)):=BR n (qAj lt);rw[eB,ev];have ne:u-tt C (↥C-1)≠0:=⋯;generalize tt C (↥C-1)=X at ne;generalize vv C (↥C-1)=Y;grind
theorem Ln.ls {a p g:Nat}{C:Cs}{M:Rat}(n:Ln p g C M)(o:Ord C)(ht:∀i,i<↥C->Sz a (tt C i)):LS a p g C M:=by
 refine#[ht,λt t0=>?_,λt t0=>?_]
 .exact(n _ (Dq o t0).lt).1
 .have on:=Dq o t0;have ev:val C M t=vv C (plc C t ↥C)+slp C M (plc C t ↥C)*(t-tt C (plc C t ↥C)):=rfl;have es:sat C M t=slp C M (plc C t ↥C):=rfl;generalize plc C t ↥C=j at on ev es;have z:=(n j on.lt).2;rw[ev,es];rw[show vv C j+slp C M j*(t-tt C j)-slp C M j*t=vv C j-slp C M j*tt C j from ⋯];exact z
section
variable {a b c a2 b2 c2:Nat}{cs ds:Cs}{m k:Rat}
theorem OR (z1:LS a b c cs m)(z2:LS a2 b2 c2 ds k){t:Rat}(t0:0<=t):Sz (c+c2+1) (gap cs m ds k t-(sat cs m t-sat ds k t)*t):=by
 have q:=(z1.ic t t0).sub (z2.ic t t0);have e:(val cs m t-sat cs m t*t)-(val ds k t-sat ds k t*t)=gap cs m ds k t-(sat cs m t-sat ds k t)*t:=by unfold gap;grind
 rw[e]at q;exact q
theorem YE (z1:LS a b c cs m)(z2:LS a2 b2 c2 ds k){t:Rat}{n:Nat}(t0:0<=t)(ht:Sz n t):Sz (b+b2+c+c2+n+3) (gap cs m ds k t):=by
 have q:=(OR z1 z2 t0).add (((z1.sl t t0).sub (z2.sl t t0)).mul ht);rw[show gap cs m ds k t-(sat cs m t-sat ds k t)*t+(sat cs m t-sat ds k t)*t=gap cs m ds k t from ⋯]at q;exact q.mono ()
theorem TM (z1:LS a b c cs m)(z2:LS a2 b2 c2 ds k){t B:Rat}{n:Nat}(t0:0<=t)(hB:Sz n B)(s0:sat cs m t-sat ds k t≠0):Sz (n+(b+b2+c+c2+3)) (t+(B-gap cs m ds k t)/(sat cs m t-sat ds k t)):=by
 have q:=(hB.sub (OR z1 z2 t0)).div ((z1.sl t t0).sub (z2.sl t t0)) s0;have e:t+(B-gap cs m ds k t)/(sat cs m t-sat ds k t)=(B-(gap cs m ds k t-(sat cs m t-sat ds k t)*t))/(sat cs m t-sat ds k t):=by
  generalize sat cs m t-sat ds k t=s at *
  generalize gap cs m ds k t=G at *
  grind
 rw[e];exact q.mono ()
end
theorem N4 {C:Cs}{x y:Rat}{p g:Nat}(h:∀j,j<↥C->Sz p (tt C j)/\Sz g (vv C j))(hx:Sz p x)(hy:Sz g y):∀j,j<(C++[(x,y)]).length->Sz p (tt (C++[(x,y)]) j)/\Sz g (vv (C++[(x,y)]) j):=λj hj=>by
 rw[Bq]at hj;by_cases e:j<↥C
 .rw[M7 e,M9 e];exact h j e
 .have:j=↥C:=();subst this;rw[OD,Pa];exact#[hx,hy]
end CH
namespace L3
open PySem PySem.Spec PyProof.Rows L2
section
variable {X:L2.Cx}{e1 e2:Expr}{ti te:TE3}{pos:Pos}
end
end L3
namespace CH
open PySem L2 L3
section
variable {a b c a2 b2 c2:Nat}{cs ds:Cs}{m k:Rat}{ts:List Rat}
theorem WB (o:Ord cs)(p:Ord ds)(t:Tms cs ds ts)(inc:∀x y,0<=x->x<=y->gap cs m ds k x<=gap cs m ds k y)(g0:0<=gap cs m ds k 0):Ord (gcs cs m ds k ts):=by
 have n:=t.ne;refine#[by rw[B3];exact n,by rw[(Be n).1];exact t.t0,by rw[(Be n).2,t.t0];exact g0,λi hi=>?_,λi hi=>?_]
 .rw[B3]at hi;rw[(Be (show i<↥ts from ())).1,(Be hi).1];exact t.up i hi
 .rw[B3]at hi;have i0:i<↥ts:=();rw[(Be i0).2,(Be hi).2];exact inc _ _ (JZ t i0) (qAj (t.up i hi))
theorem SW (o:Ord cs)(p:Ord ds)(t:Tms cs ds ts)(inc:∀x y,0<=x->x<=y->gap cs m ds k x<=gap cs m ds k y):0<=m-k:=by
 have n:=t.ne;have hi:↥ts-1<↥ts:=();obtain⟨l1,l2⟩:=EX (m:=m) (k:=k) o p t hi;rw[Az (by rw[B3];omega)]at l1;have t0:=JZ t hi;have e:=l1 (T ts (↥ts-1)+1) ⋯ (λz=>absurd z ());have:=inc (T ts (↥ts-1)) (T ts (↥ts-1)+1) t0 ⋯;grind
theorem WY (o:Ord cs)(p:Ord ds)(t:Tms cs ds ts)(O:Ord (gcs cs m ds k ts)){x:Rat}(x0:0<=x):val (gcs cs m ds k ts) (m-k) x=gap cs m ds k x:=by
 obtain⟨i,hi,h1,h2⟩:=L7 t.ne t.t0 x0;have on:On (gcs cs m ds k ts) i x:=#[by rw[B3];exact hi,by rw[(Be hi).1];exact h1,λz=>by rw[B3]at z;rw[(Be z).1];exact h2 z];rw[Bw O.up on,(Be hi).1,(Be hi).2,(EX (m:=m) (k:=k) o p t hi).1 x h1 h2]
theorem Yp (o:Ord cs)(p:Ord ds)(t:Tms cs ds ts)(O:Ord (gcs cs m ds k ts))(z1:LS a b c cs m)(z2:LS a2 b2 c2 ds k){n:Nat}(h1:a<=n)(h2:a2<=n):LS n (b+b2+1) (c+c2+1) (gcs cs m ds k ts) (m-k):=by
 refine Ln.ls (λi hi=>?_) O (λi hi=>?_)
 .rw[B3]at hi;have t0:=JZ t hi;have es:slp (gcs cs m ds k ts) (m-k) i=sat cs m (T ts i)-sat ds k (T ts i):=(EX (m:=m) (k:=k) o p t hi).2;rw[es,(Be hi).1,(Be hi).2];exact#[(z1.sl _ t0).sub (z2.sl _ t0),OR z1 z2 t0]
 .rw[B3]at hi;rw[(Be hi).1];rcases t.of i hi with⟨j,hj,e⟩|⟨j,hj,e⟩
  .rw[e];exact(z1.tm j hj).mono h1
  .rw[e];exact(z2.tm j hj).mono h2
end
theorem Tn {C A L:Rat->Rat}(cm:∀x y,0<=x->x<=y->C x<=C y)(am:∀x y,0<=x->x<=y->A x<=A y)(hl:∀t,0<=t->IsL (λx=>C x-A x) t (L t)){x y:Rat}(x0:0<=x)(xy:x<=y):C x-L x<=C y-L y:=by
 have y0:=qAm x0 xy;have hx:=hl x x0;have hy:=hl y y0;have c1:=cm x y x0 xy;rcases hy.2.1 with e|⟨s,s0,s1,e⟩
 .have:=hx.1;grind
 .have e:C s-A s=L y:=e;by_cases c:s<=x
  .have h:=hx.2.2 s s0 c;have h:C s-A s<=L x:=h;grind
  .have h:=hx.2.2 x x0 qAb;have h:C x-A x<=L x:=h;have a1:=am x s x0 ⋯;have c2:=cm s y s0 s1;grind
theorem QA {C A L:Rat->Rat}(c0:0<=C 0)(a0:0<=A 0)(hl:IsL (λx=>C x-A x) 0 (L 0)):0<=C 0-L 0:=by
 rcases hl.2.1 with e|⟨s,s0,s1,e⟩
 .grind
 .have e:C s-A s=L 0:=e;have:s=0:=⋯;subst this;grind
theorem LS.ln {a b c:Nat}{cs:Cs}{m:Rat}(z:LS a b c cs m)(o:Ord cs):Ln b c cs m:=λi hi=>by
 have t0:0<=tt cs i:=by
  have:=AU o.up (i:=0) (j:=i) () hi;rw[o.t0]at this;exact this
 have e:sat cs m (tt cs i)=slp cs m i:=by
  unfold sat;rw[HS o.up (k:=i) qAb (λh=>o.up i h) _ hi (qAg _)]
 have z1:=z.sl _ t0;have z2:=z.ic _ t0;rw[e]at z1 z2;rw[BU o hi]at z2;exact#[z1,z2]
section
variable {h:Rat->Rat}{ts:List Rat}{S:Nat->Rat}{a b c g X:Nat}
end
end CH
namespace L3
open PySem PySem.Spec PyProof.Rows L2
section
variable {X:L2.Cx}{x:Str}{px pos:Pos}{scope:Scope}{N:List Str}{idx:List Nat}{elt iter:Expr}{ifs:List Expr}{wi:TI}{ws:TX3}{tt:TT3}{te:TE3}
end
section
variable {X:L2.Cx}{pos:Pos}
end
abbrev SpM:=List D->List D->(List D->Prop)->Prop
noncomputable def Px (a:Addr)(H:Hp):Hp:=λb=>if b=a then none else H b
theorem VB {a:Addr}{H:Hp}:BQ (Px a H) H:=λb o h=>by
 unfold Px at h;split at h
 .cases h
 .exact h
theorem JV {a b:Addr}{H:Hp}(h:b≠a):Px a H b=H b:=if_neg h
theorem Wn {a:Addr}{H:Hp}:Px a H a=none:=if_pos rfl
def P1 (K:W.Frag)(sp:SpM):Sp:=λvs H Q _=>∃(z:Hp)(a:Addr)(ws vs0:List V)(xs0 ds:List D)(R:List D->Prop),
 vs=.ref a::ws/\BQ z H/\z a=none/\K.lookup a=none/\H a=some (.lst vs0)/\Iss K z vs0 xs0/\Iss K z ws ds/\sp xs0 ds R /\
 ∀(q:HZ)(vs1:List V)(xs1:List D),Ext #[Px a H,z] q->q.h a=some (.lst vs1)->q.z a=none->Iss K q.z vs1 xs1->R xs1->Q .non q.h
def Pe (X:Cx)(a:Addr):Cx:={ X with lent:=some (0,a) }
section
variable {X:Cx}{pins:List (Addr×Obj)}{σ:St}{H H':Hp}{s s':Shared}{a:Addr}
theorem TH (I:Inv X pins σ H s):Inv (Pe X a) pins σ H s:=
 #[#[I.ok.mod,I.ok.kind,I.ok.glob,I.ok.blt,I.ok.above,I.ok.inj,I.ok.has,I.ok.cab,I.ok.hd,I.ok.frames,I.ok.stk,I.ok.exf,I.ok.bs,I.ok.bsz,I.ok.noex,I.ok.exfs,I.ok.funs,I.ok.frf,I.ok.tb],I.os,I.bare,I.base,I.loc,I.cell,I.free,I.freeC,I.pin,I.hok,I.len]
theorem Fy (I:Inv (Pe X a) pins σ H s):Inv X pins σ H s:=
 #[#[I.ok.mod,I.ok.kind,I.ok.glob,I.ok.blt,I.ok.above,I.ok.inj,I.ok.has,I.ok.cab,I.ok.hd,I.ok.frames,I.ok.stk,I.ok.exf,I.ok.bs,I.ok.bsz,I.ok.noex,I.ok.exfs,I.ok.funs,I.ok.frf,I.ok.tb],I.os,I.bare,I.base,I.loc,I.cell,I.free,I.freeC,I.pin,I.hok,I.len]
theorem Sb {D2:PD}{f:Flow}(h:SP (Pe X a) pins D2 f s):SP X pins D2 f s:=by
 cases f with
 |next=>obtain⟨σ',H',I',q⟩:=h;exact#[σ',H',Fy I',q]
 |cont=>obtain⟨σ',H',I',q⟩:=h;exact#[σ',H',Fy I',q]
 |brk=>obtain⟨σ',H',I',q⟩:=h;exact#[σ',H',Fy I',q]
 |ret v=>obtain⟨x,σ',H',I',r,q⟩:=h;exact#[x,σ',H',Fy I',r,q]
theorem Ts {st:List Stmt}{t:TS}(h:PSs (Pe X a) st t):PSs X st t:=λpins s σ H D I q=>
 thn (h pins s σ H D (TH I) q) λf s1 h1=>Sb h1
theorem Tc {N:List Str}{ws vs0:List V}{xs0 ds:List D}{z:Hp}(hz:BQ z H)(hza:z a=none)(hk:X.K.lookup a=none)(hv:H a=some (.lst vs0))(iv:Iss X.K z vs0 xs0)(iw:Iss X.K z ws ds) :
 Rep (Pe X a) #[Px a H,z] (CP N (.l xs0::ds.map S.d)) (L2.start N (.ref a::ws)) #[H,z]:=by
 have len:(V.ref a::ws).length=(S.l xs0::ds.map S.d).length:=by simp[iw.1]
 have st:∀(i:Nat)(s:S),(CP N (.l xs0::ds.map S.d))[i]? = some (some s)->(S.l xs0::ds.map S.d)[i]? = some s:=λi s h=>Ji h;have sg:∀(i:Nat)(v:V),(V.ref a::ws)[i]? = some v->(L2.start N (.ref a::ws))[i]? = some (some v):=λi v h=>by
  have hi:=(qAf.mp h).1;unfold L2.start;rw[qAt (by simpa using hi),qAd,h];rfl
 have onlyl:∀(i:Nat)(s:S),(S.l xs0::ds.map S.d)[i]? = some s->s.isL=true->i=0:=λi s h hl=>by
  cases i with
  |zero=>rfl
  |succ i=>
   rw[qBL,qAd]at h;cases e:ds[i]? with
   |none=>rw[e]at h;cases h
   |some d=>rw[e]at h;cases h;cases hl
 refine#[by unfold L2.start CP;simp[iw.1],#[VB,BQ.refl _,hz,λ_ _ e=>.inl e],λi s h=>?_,λi xs c h1 h2=>?_,λi j xs s c hij h1 h2 hs h3=>?_,(λh=>by cases h),λi c h=>?_]
 .have h':=st i s h;cases i with
  |zero=>
   cases h';exact#[.ref a,sg 0 _ rfl,a,vs0,rfl,hv,iv]
  |succ i=>
   rw[qBL,qAd]at h';cases e:ds[i]? with
   |none=>rw[e]at h';cases h'
   |some d=>
    rw[e]at h';cases h';have hi:=(qAf.mp e).1;have hw:ws[i]? = some (ws[i]'(by rw[iw.1];exact hi)):=qAc (by rw[iw.1];exact hi);exact#[_,sg (i+1) _ (by rw[qBL];exact hw),iw.2 i _ d hw e]
 .have e0:=onlyl i _ (st i _ h1) rfl;subst e0;have:=sg 0 (.ref a) rfl;rw[h2]at this;cases this;exact#[Wn,hk,hza]
 .have e1:=onlyl i _ (st i _ h1) rfl;have e2:=onlyl j _ (st j _ h2) hs;exact absurd (e1.trans e2.symm) hij
 .cases h;exact sg 0 _ rfl
end
section
variable {P:Program}{w:World}{K:W.Frag}{mg:Str->Option Value}{base:Heap}
theorem fnM {x qual:Str}{st:Stmt}{f:Addr}{fd:FuncData}{N ps:List Str}{k:Nat}{sp:SpM}(F:Fun K x qual st f fd)(Sc:Ae N ps (Ac st))(len:∀xs ds R,sp xs ds R->↥ds+1=↥ps)
 (hbody:∀(cdv:Value)(A:Around)(outer:List Env)(s:Shared)(H:Hp)(E:XK)(a:Addr)(xs ds:List D)(R:List D->Prop),FI k (A.deeper (envOfC qual (Ac st) s.heap.objs.size f cdv))->sp xs ds R ->
  ∃t,Dt (Pe (Md CX0 P w K mg base N qual (Ac st) f cdv A outer s H E).nox a) (CC st) t/\t { nx:=λτ=>∃ys,τ[0]? = some (some (.l ys))/\R ys,rt:=λ_=>False } (CP N (.l xs::ds.map S.d))):Ap P w K mg base CX0 (k+1) f fd ps (P1 K sp):=by
 refine F.ok Sc (λvs H Q E hh=>by obtain⟨z,a,ws,vs0,xs0,ds,R,rfl,_,_,_,_,_,iw,h3,_⟩:=hh;rw[qAQ,iw.1];exact len _ _ _ h3) λcdv A outer s H vs Q E hr hh=>?_;obtain⟨z,a,ws,vs0,xs0,ds,R,rfl,hz,hza,hk,hv,iv,iw,h3,q⟩:=hh;obtain⟨t,ht,hq⟩:=hbody cdv A outer s H E a xs0 ds R hr h3;refine#[_,Ts ht.out,#[Px a H,z],z,CP N (.l xs0::ds.map S.d),_,Tc hz hza hk hv iv iw,hq,#[λτ σ p r h=>?_,λ_ _ _ _ z=>z.elim,λ_ _ _ _ z=>z.elim,λs v p e i f h=>h.elim]];obtain⟨ys,hy,hR⟩:=h;have pn:=r.pin 0 a rfl;obtain⟨vs1,e1,e2⟩:=r.own_list hy pn;exact q p vs1 ys r.ext e1 (r.own 0 ys a hy pn).2.2 e2 hR
end
structure Y2 (P:Program)(w:World)(K:W.Frag)(mg:Str->Option Value)(base:Heap)(k:Nat)(x:Str)(ps:List Str)(sp:SpM):Prop where
 ex:∃f fd,Ap P w K mg base CX0 k f fd ps (P1 K sp)/\mg x=some (.ref f)/\W.keepIn K (.ref f)=true/\L2.Binds K fd ps []
theorem mkM {P:Program}{w:World}{K:W.Frag}{mg:Str->Option Value}{base h:Heap}(X:K.In h)(G:h.Ns mainGlobals mg){n:Str}{st:Stmt}(r:Rw K n st){k:Nat}{ps:List Str}{sp:SpM}(ok:∀{f:Addr}{fd:FuncData},L2.Fun K n n st f fd->rA K n f->Ap P w K mg base CX0 k f fd ps (P1 K sp))
 (hb:Bnd st n ps:=by(intro _ _ _ _ _ _ us hl;first|(obtain⟨x0,rfl⟩:=WT hl;rfl)|(obtain⟨x0,x1,rfl⟩:=WE hl;rfl)|(obtain⟨x0,x1,x2,rfl⟩:=Wv hl;rfl)|(obtain⟨x0,x1,x2,x3,rfl⟩:=VR hl;rfl))):Y2 P w K mg base k n ps sp:=by
 obtain⟨a,l,c,k⟩:=r;have F:=Oz (st:=st) l c k;exact#[#[_,_,ok F a,qBN X G a,k,F.binds hb]]
section
variable {X:Cx}{e:Expr}{es:List Expr}{tr:TA3}
theorem U9 {K:W.Frag}{H:Hp}{a c:Addr}{vs:List V}(h:SqL K H c vs)(n:c≠a):SqL K (Px a H) c vs:=by
 rcases h with (h|⟨o,h⟩)|h
 .exact .inl (.inl (by rw[JV n];exact h))
 .exact .inl (.inr #[o,by rw[JV n];exact h])
 .exact .inr h
theorem Rep.grown {B p q:HZ}{τ:Tau}{σ:St}{j:Nat}{a:Addr}{xs xs1:List D}{vs1:List V}(r:Rep X B τ σ p)(hj:τ[j]? = some (some (.l xs)))(hσ:σ[j]? = some (some (.ref a)))(e:Ext #[Px a p.h,p.z] q)(hq:q.h a=some (.lst vs1))(hz:q.z a=none)(hi:Iss X.K q.z vs1 xs1) :
 Rep X B (τ.set j (some (.l xs1))) σ q:=by
 obtain⟨o1,o2,o3⟩:=r.own j xs a hj hσ;have up:∀b o,B.h b=some o->Px a p.h b=some o:=λb o h=>by
  have:b≠a:=λz=>by rw[z,o1]at h;cases h
  rw[JV this];exact r.ext.hh b o h
 have apart:∀(i:Nat)(s:S)(c:Addr),i≠j->τ[i]? = some (some s)->s.isL=true->σ[i]? = some (some (.ref c))->c≠a:=λi s c hn h1 h2 h3 z=>by
  rw[z]at h3;exact r.sep j i xs s a (λz=>hn z.symm) hj h1 h2 hσ h3
 refine#[by simp[r.len],#[λb o h=>e.hh b o (up b o h),r.ext.zz.trans e.zz,e.sub,λb o h=>?_],λi s h=>?_,λi ys c h1 h2=>?_,λi k ys s c hik h1 h2 hs h3=>?_,r.top,r.pin]
 .rcases e.new b o h with x|x
  .exact r.ext.new b o x
  .right;cases y:B.h b with
   |none=>rfl
   |some o'=>
    have x':Px a p.h b=none:=x;rw[up b o' y]at x';cases x'
 .rcases Ay h with⟨rfl,rfl⟩|⟨hn,h'⟩
  .exact#[.ref a,hσ,a,vs1,rfl,hq,hi]
  .obtain⟨v,h1,h2⟩:=r.val i s h';refine#[v,h1,?_];cases s with
   |d x=>exact Is.mono e.zz h2
   |l zs=>
    obtain⟨c,us,rfl,q1,q2⟩:=h2;exact#[c,us,rfl,e.hh c _ (by show Px a p.h c=_;rw[JV (apart i _ c hn h' rfl h1)];exact q1),q2.mono e.zz]
   |r zs=>
    obtain⟨c,us,rfl,q1,q2⟩:=h2;exact#[c,us,rfl,e.hh.seq (U9 q1 (apart i _ c hn h' rfl h1)),q2.mono e.zz]
 .rcases Ay h1 with⟨rfl,e1⟩|⟨hn,h1'⟩
  .rw[hσ]at h2;cases h2;exact#[o1,o2,hz]
  .obtain⟨w1,w2,w3⟩:=r.own i ys c h1' h2;refine#[w1,w2,?_];obtain⟨us,y1,_⟩:=r.own_list h1' h2;cases y:q.z c with
   |none=>rfl
   |some o=>
    rcases e.new c o y with x|x
    .have x':p.z c=some o:=x;rw[w3]at x';cases x'
    .have x':Px a p.h c=none:=x;rw[JV (apart i _ c hn h1' rfl h2),y1]at x';cases x'
 .rcases Ay h1 with⟨rfl,e1⟩|⟨hn,h1'⟩
  .rcases Ay h2 with⟨e3,_⟩|⟨_,h2'⟩
   .exact absurd e3.symm hik
   .exact r.sep i k xs s c hik hj h2' hs h3
  .rcases Ay h2 with⟨rfl,e4⟩|⟨_,h2'⟩
   .exact r.sep i k ys (.l xs) c hik h1' hj rfl h3
   .exact r.sep i k ys s c hik h1' h2' hs h3
def Uv (j:Nat)(sp:SpM)(tr:TA3):TS3:=λD3 τ=>match τ[j]? with
 |some (some (.l xs))=>tr τ λss=>match U8 ss with
  |some ds=>sp xs ds (λys=>D3.nx (τ.set j (some (.l ys))))
  |none=>False
 |_=>False
theorem JP {k j:Nat}{x y:Str}{ps:List Str}{sp:SpM}{p py pos pa:Pos}(c:Y2 X.prog X.w X.K X.mg X.base k x ps sp)(hr:FI k X.A)(hg:Gl X x)(hv:PE X (.Name y py) (P7 j))(ha:PA3 X (e::es) tr)
 (hdb:(x==("__debug__":Str))=false:=by decide)(he:starEach (.Name y py::e::es) X.env=(false,eval (.Name y py) X.env)::starEach (e::es) X.env:=by exact Dv rfl)(hpl:(backTo pos (starEach (e::es) X.env)).any (·.1)=false:=by exact FZ rfl)
 (hs:swapsWith (.Call (.Name x p) (.Name y py::e::es) [] pos) none pa.line X.env=pure false:=by rfl) :
 PS3 X (.Expr (.Call (.Name x p) (.Name y py::e::es) [] pos) pa) (Uv j sp tr):=by
 refine#[?_];obtain⟨f,fd,F,hm,hk,hb⟩:=c.ex;refine CQ (BF (Rb F hr hg hm hk hb .nil aD (A7 hv ha.out he) hdb he hpl) hs) λD2 σ H hh=>?_;obtain⟨B,z,τ,D3,r,ht,ct⟩:=hh;unfold Uv at ht;split at ht
 .rename_i xs hx;obtain⟨v,h1,a,vs,rfl,h3,h4⟩:=r.val j _ hx;refine#[.ref a,h1,B,_,τ,_,r,ht,λss ws q1 e1 i1 h2=>?_];split at h2
  .rename_i ds hd;rw[Iq hd]at i1;have iw:=L1 i1;have r1:=r.mono e1;obtain⟨o1,o2,o3⟩:=r1.own j xs a hx h1;obtain⟨vs',hv',iv'⟩:=r1.own_list hx h1;show P1 X.K sp ((.ref a::ws)++[]) q1.h _ E0;rw[qBA];exact#[q1.z,a,ws,vs',xs,ds,_,rfl,e1.sub,o3,o2,hv',iv',iw,h2,λq vs1 xs1 e2 g1 g2 g3 hR=>ct.nx _ _ _ (r1.grown hx h1 e2 g1 g2 g3) hR]
  .exact h2.elim
 .exact ht.elim
end
section
variable {X:Cx}{e:Expr}
def aW (j:Nat):TT3:=λτ R=>match τ[j]? with
 |some (some (.l xs))=>R (!xs.isEmpty)
 |some (some (.r xs))=>R (!xs.isEmpty)
 |_=>False
theorem Mn {K:W.Frag}{H:Hp}{vs:List V}{xs:List D}(h:Iss K H vs xs):(!vs.isEmpty)=!xs.isEmpty:=by
 have:=h.1;cases vs<;>cases xs<;>first|rfl|(simp at this)
theorem ZU {j:Nat}(h:PE X e (P7 j))(he:∀whole,isTrue e X.env whole=(do let v <-whole;standAt e.pos;holding [v] (truthy v)):=by intro _;rfl):PT3 X e (aW j):=#[OT (TR h he) λσ H Q hh=>by
 obtain⟨B,z,τ,R,r,ht,q⟩:=hh;unfold aW at ht;split at ht
 .rename_i xs hs;obtain⟨v,h1,a,vs,rfl,h3,h4⟩:=r.val j _ hs;exact#[.ref a,h1,!vs.isEmpty,.inl #[vs,SqL.of h3,rfl],q _ #[H,z] (Ext.refl r.ext.sub) (by rw[Mn h4];exact ht)]
 .rename_i xs hs;obtain⟨v,h1,a,vs,rfl,h3,h4⟩:=r.val j _ hs;exact#[.ref a,h1,!vs.isEmpty,.inl #[vs,h3,rfl],q _ #[H,z] (Ext.refl r.ext.sub) (by rw[Mn h4];exact ht)]
 .exact ht.elim]
end
open PySem PySem.Spec PyProof.Rows
structure Qo (P:Program)(w:World)(A:Around)(i l:Addr)(us:Array Value)(st:Nat->Heap->Prop):Prop where
 item:∀(t:Shared)(k:Nat)(u:Value)(Q:Value->Shared->Prop)(E:Value->Shared->Prop),st k t.heap->us[k]? = some u->(∀h1,st (k+1) h1->Heap.SameBut i t.heap h1->Q u { t with heap:=h1 })->wpAny (model P w) A (Builtin.SmallTypes.nextOf (.ref i)) Q E t
 done:∀(t:Shared)(k:Nat)(Q:Value->Shared->Prop)(E:Value->Shared->Prop),st k t.heap->us[k]? = none->(∀h1 x,Heap.ExtBut i t.heap h1->(∃o,h1.get? x=some o/\o.cls=.type "StopIteration")->E (.ref x) { t with heap:=h1 })->wpAny (model P w) A (Builtin.SmallTypes.nextOf (.ref i)) Q E t
 keep:∀(k:Nat)(h h1:Heap),st k h->(∀b o,b=i\/b=l->h.get? b=some o->h1.get? b=some o)->st k h1
def stL (i l:Addr)(us:Array Value)(k:Nat)(h:Heap):Prop:=h.IsListIter i l k/\h.IsList l us
def stT (i l:Addr)(us:Array Value)(k:Nat)(h:Heap):Prop:=h.IsTupleIter i l k/\h.IsTuple l us
section
variable {P:Program}{w:World}{A:Around}
theorem S3 (hd:A.handled=none){i l:Addr}(ne:l≠i)(us:Array Value):Qo P w A i l us (stL i l us) where
 item:=λt k u Q E s1 hu q=>wpAny_nextOf_list_item s1.1 s1.2 hu λh1 a b=>q h1 #[a,s1.2.extBut b.extBut ne] b
 done:=λt k Q E s1 hu q=>wpAny_nextOf_list_end hd s1.1 s1.2 hu q
 keep:=λk h h1 s1 e=>#[s1.1.at λo z=>e i o (.inl rfl) z,s1.2.at λo z=>e l o (.inr rfl) z]
theorem R8 (hd:A.handled=none){i l:Addr}(ne:l≠i)(us:Array Value):Qo P w A i l us (stT i l us) where
 item:=λt k u Q E s1 hu q=>by
  obtain⟨⟨ob,g1,g2,g3⟩,oT,f1,f2,nT,f3⟩:=id s1;have ty:=s1.1.typeIs (s:=t);refine wpAny_bind (wpAny_callSpecial?_slot (name:=Str.ofString "__next__") ty qBF (wpAny_call_entry qBF ty qCn ?_ (qCl _)));refine(wpAny_bind (wpAny_field g1 g3 (x:=Value.ref l) rfl ?_):wpAny _ _ (field (Value.ref i) 0 >>= _) _ _ t);refine(?_:wpAny _ _ (if (Value.ref l==Value.none)=true then _ else _) _ _ t);rw[if_neg (by intro z;cases z)];refine(wpAny_bind (wpAny_field g1 g3 (x:=Value.int k 0) rfl ?_):wpAny _ _ (field (Value.ref i) 1 >>= _) _ _ t);refine(wpAny_bind (wpAny_seqItems f1 f3 ?_):wpAny _ _ (seqItems? (Value.ref l) >>= _) _ _ t);simp only[qBG,hu];refine wpAny_bind (wpAny_setField g1 g3 (by simp) (wpAny_pure #[u,rfl,wpAny_pure (q _ #[?_,s1.2.extBut (Heap.SameBut.update ..).extBut ne] (Heap.SameBut.update ..))]));refine#[_,qCM _ g1 (Obj.isFreed_of_fields (Obj.data_mapFields g3 _)),(Obj.cls_mapFields ..).trans g2,?_];rw[Obj.data_mapFields g3];simp[rawInt]
 done:=λt k Q E s1 hu q=>by
  obtain⟨⟨ob,g1,g2,g3⟩,oT,f1,f2,nT,f3⟩:=id s1;have ty:=s1.1.typeIs (s:=t);refine wpAny_bind (wpAny_callSpecial?_slot (name:=Str.ofString "__next__") ty qBF (wpAny_call_entry qBF ty qCn ?_ (qCl _)));refine(wpAny_bind (wpAny_field g1 g3 (x:=Value.ref l) rfl ?_):wpAny _ _ (field (Value.ref i) 0 >>= _) _ _ t);refine(?_:wpAny _ _ (if (Value.ref l==Value.none)=true then _ else _) _ _ t);rw[if_neg (by intro z;cases z)];refine(wpAny_bind (wpAny_field g1 g3 (x:=Value.int k 0) rfl ?_):wpAny _ _ (field (Value.ref i) 1 >>= _) _ _ t);refine(wpAny_bind (wpAny_seqItems f1 f3 ?_):wpAny _ _ (seqItems? (Value.ref l) >>= _) _ _ t);simp only[qBG,hu];refine wpAny_bind (wpAny_rule (wpAny_bind (wpAny_setField g1 g3 (by simp) ?_)));refine(wpAny_bind ?_:wpAny _ _ (newExc (.type "StopIteration") [] >>= _) _ _ _);simp only[newExc,newTuple];refine wpAny_bind (wpAny_newObj_type ?_ (by size_fits));refine wpAny_bind (m:=firstArgMember _ _) (wpAny_of_eq (a:=Value.none) (by first|rfl|(unfold firstArgMember;rfl)) ?_);refine wpAny_newObj_type ?_ (by size_fits);unfold raiseNew;refine wpAny_bind (wpAny_handled ?_);have hd1:A.in1.handled=none:=hd;rw[hd1];exact wpAny_bind (wpAny_pure (wpAny_throw (q _ _ (((Heap.SameBut.update ..).extBut.push _).push _) #[_,qAF _ rfl,rfl])))
 keep:=λk h h1 s1 e=>by
  obtain⟨⟨ob,g1,g2⟩,oT,f1,f2⟩:=s1;exact#[#[ob,e i ob (.inl rfl) g1,g2],oT,e l oT (.inr rfl) f1,f2]
structure ZAp (z TI TO i1 i2 l1 l2:Addr):Prop where
 a1:TI≠z/\TO≠z/\i1≠z/\i2≠z/\l1≠z/\l2≠z
 a2:TI≠TO/\i1≠TO/\i2≠TO/\l1≠TO/\l2≠TO
 a3:TI≠i1/\i2≠i1/\l2≠i1/\TI≠i2/\l1≠i2
 a4:l1≠i1/\l2≠i2
variable {z TI TO i1 i2 l1 l2:Addr}{us1 us2:Array Value}{st1 st2:Nat->Heap->Prop}{s:Shared}{E:Value->Shared->Prop}
theorem T1 (D:ZAp z TI TO i1 i2 l1 l2)(S1:Qo P w A i1 l1 us1 st1)(S2:Qo P w A i2 l2 us2 st2){k:Nat}{x y a b:Value}{Q:Value->Shared->Prop}(Hz:IsZip s.heap z TI TO .none)(Ht:IsPair s.heap TI (.ref i1) (.ref i2))(Ho:IsPair s.heap TO a b)
 (c1:st1 k s.heap) (c2:st2 k s.heap) (hx:us1[k]? = some x) (hy:us2[k]? = some y)
 (fin:∀h',IsZip h' z TI TO (rawInt s.heap.objs.size)->IsPair h' TO x y->st1 (k+1) h'->st2 (k+1) h'->IsPair h' s.heap.objs.size x y->(∀c o,c≠z->c≠TO->c≠i1->c≠i2->s.heap.get? c=some o->h'.get? c=some o)->Q (.ref s.heap.objs.size) { s with heap:=h' }) :
 wpAny (model P w) A (Builtin.«zip.__next__» #[[.ref z],[]]) (λf s'=>∃v,f=.done (.ret v)/\Q v s') E s:=by
 obtain⟨⟨d1,d2,d3,d4,d5,d6⟩,⟨e1,e2,e3,e4,e5⟩,⟨f1,f2,f3,f4,f5⟩,_⟩:=D;refine(wpAny_bind (wpAny_field Hz rfl (x:=Value.bool false) rfl ?_):wpAny _ _ (field (Value.ref z) 2 >>= _) _ _ _);refine(wpAny_bind (wpAny_field Hz rfl (x:=Value.ref TI) rfl ?_):wpAny _ _ (field (Value.ref z) 3 >>= _) _ _ _);refine wpAny_bind (wpAny_seqItems Ht rfl ?_);refine(wpAny_bind ?_:wpAny _ _ (Builtin.SmallTypes.ownedTupleIsFree (Value.ref z) >>= _) _ _ _);refine wpAny_bind (wpAny_field Hz rfl (x:=Value.none) rfl (wpAny_pure ?_));simp only[if_true];refine wpAny_bind (wpAny_rule (wpAny_bind (wpAny_field Hz rfl (x:=Value.ref TO) rfl (wpAny_bind (wpAny_setField_rec Hz (by simp) λg1 Hz1 m1=>?_)))));have Hz1:IsZip g1 z TI TO .ellipsis:=Hz1;refine wpAny_bind ?_;simp only[List.zipIdx_cons,List.zipIdx_nil,qCg,List.forIn_nil];have c1a:st1 k g1:=S1.keep k _ _ c1 λb o hb e=>by
  rcases hb with rfl|rfl
  .exact m1.extBut _ _ d3 e
  .exact m1.extBut _ _ d5 e
 refine wpAny_bind (wpAny_bind (wpAny_onRaise (?_:wpAny _ _ (Builtin.SmallTypes.nextOf (Value.ref i1) >>= _) _ _ _)));refine wpAny_bind (S1.item _ k x _ _ c1a hx λg2 c1b m2=>wpAny_pure ?_);have Ho2:IsPair g2 TO a b:=m2.extBut _ _ (Ne.symm e2) (m1.extBut _ _ d2 Ho);refine wpAny_bind (wpAny_seqItems Ho2 rfl (wpAny_bind (wpAny_updateSeq_pair Ho2 λg3 Ho3 m3=>wpAny_bind (wpAny_letGo (wpAny_pure ?_)))));have Ho3:IsPair g3 TO x b:=Ho3;have c2a:st2 k g3:=S2.keep k _ _ c2 λb o hb e=>by
  rcases hb with rfl|rfl
  .exact m3.extBut _ _ e3 (m2.extBut _ _ f2 (m1.extBut _ _ d4 e))
  .exact m3.extBut _ _ e5 (m2.extBut _ _ f3 (m1.extBut _ _ d6 e))
 refine wpAny_bind (wpAny_bind (wpAny_onRaise (?_:wpAny _ _ (Builtin.SmallTypes.nextOf (Value.ref i2) >>= _) _ _ _)));refine wpAny_bind (S2.item _ k y _ _ c2a hy λg4 c2b m4=>wpAny_pure ?_);have Ho4:IsPair g4 TO x b:=m4.extBut _ _ (Ne.symm e3) Ho3;refine wpAny_bind (wpAny_seqItems Ho4 rfl (wpAny_bind (wpAny_updateSeq_pair Ho4 λg5 Ho5 m5=>wpAny_bind (wpAny_letGo (wpAny_pure (wpAny_pure ?_))))));have Ho5:IsPair g5 TO x y:=Ho5;have sz:g5.objs.size=s.heap.objs.size:=by rw[m5.1,m4.1,m3.1,m2.1,m1.1]
 have Hz5:IsZip g5 z TI TO .ellipsis:=m5.extBut _ _ (Ne.symm d2) (m4.extBut _ _ (Ne.symm d4) (m3.extBut _ _ (Ne.symm d2) (m2.extBut _ _ (Ne.symm d3) Hz1)));have old:∀c o,c≠z->c≠TO->c≠i1->c≠i2->s.heap.get? c=some o->g5.get? c=some o:=λc o n1 n2 n3 n4 e=>
  m5.extBut _ _ n2 (m4.extBut _ _ n4 (m3.extBut _ _ n2 (m2.extBut _ _ n3 (m1.extBut _ _ n1 e))))
 have at5:∀b o,b≠TO->b≠i2->g2.get? b=some o->g5.get? b=some o:=λb o n1 n2 e=>m5.extBut _ _ n1 (m4.extBut _ _ n2 (m3.extBut _ _ n1 e));have lz:z<g5.objs.size:=qAk Hz5;refine wpAny_bind (wpAny_seqItems Ho5 rfl (wpAny_bind (wpAny_newTuple ?_)));refine(wpAny_bind ?_:wpAny _ _ (Builtin.SmallTypes.ownedTupleHandOut (Value.ref z) (Value.ref g5.objs.size) >>= _) _ _ _);have Hz6:IsZip (g5.push { cls:=.type "tuple",data:=.seq (List.toArray [x,y]) }) z TI TO .ellipsis:=qAi _ Hz5;refine wpAny_bind (wpAny_setField_rec Hz6 (by simp) λg7 Hz7 m7=>?_);have Hz7:IsZip g7 z TI TO (rawInt g5.objs.size):=Hz7;refine wpAny_setField_rec Hz7 (by simp) λg8 Hz8 m8=>?_;have Hz8:IsZip g8 z TI TO (rawInt g5.objs.size):=Hz8;have up:∀c o,c≠z->g5.get? c=some o->g8.get? c=some o:=λc o n e=>m8.extBut _ _ n (m7.extBut _ _ n (qAi _ e));have new8:IsPair g8 g5.objs.size x y:=m8.extBut _ _ (qBt lz) (m7.extBut _ _ (qBt lz) (qAF _ rfl));rw[sz]at Hz8 new8;have k1:st1 (k+1) g8:=S1.keep _ _ _ c1b λb o hb e=>by
  rcases hb with rfl|rfl
  .exact up _ _ d3 (at5 _ _ e2 (Ne.symm f2) e)
  .exact up _ _ d5 (at5 _ _ e4 f5 e)
 have k2:st2 (k+1) g8:=S2.keep _ _ _ c2b λb o hb e=>by
  rcases hb with rfl|rfl
  .exact up _ _ d4 (m5.extBut _ _ e3 e)
  .exact up _ _ d6 (m5.extBut _ _ e5 e)
 refine wpAny_pure #[_,rfl,(?_:Q (.ref g5.objs.size) _)];rw[sz];exact fin g8 Hz8 (up _ _ d2 Ho5) k1 k2 new8 λc o n1 n2 n3 n4 e=>up c o n1 (old c o n1 n2 n3 n4 e)
theorem SS (hd:A.handled=none)(D:ZAp z TI TO i1 i2 l1 l2)(S1:Qo P w A i1 l1 us1 st1)(S2:Qo P w A i2 l2 us2 st2){k:Nat}{a b:Value}{Q:Fin->Shared->Prop}(Hz:IsZip s.heap z TI TO .none)(Ht:IsPair s.heap TI (.ref i1) (.ref i2))(Ho:IsPair s.heap TO a b)
 (c1:st1 k s.heap) (c2:st2 k s.heap) (he:us1[k]? = none\/us2[k]? = none)
 (fin:∀h' e,(∀c o,c≠z->c≠TO->c≠i1->c≠i2->s.heap.get? c=some o->h'.get? c=some o)->(∃o,h'.get? e=some o/\o.cls=.type "StopIteration")->E (.ref e) { s with heap:=h' }) :
 wpAny (model P w) A (Builtin.«zip.__next__» #[[.ref z],[]]) Q E s:=by
 obtain⟨⟨d1,d2,d3,d4,d5,d6⟩,⟨e1,e2,e3,e4,e5⟩,⟨f1,f2,f3,f4,f5⟩,_⟩:=D;refine(wpAny_bind (wpAny_field Hz rfl (x:=Value.bool false) rfl ?_):wpAny _ _ (field (Value.ref z) 2 >>= _) _ _ _);refine(wpAny_bind (wpAny_field Hz rfl (x:=Value.ref TI) rfl ?_):wpAny _ _ (field (Value.ref z) 3 >>= _) _ _ _);refine wpAny_bind (wpAny_seqItems Ht rfl ?_);refine(wpAny_bind ?_:wpAny _ _ (Builtin.SmallTypes.ownedTupleIsFree (Value.ref z) >>= _) _ _ _);refine wpAny_bind (wpAny_field Hz rfl (x:=Value.none) rfl (wpAny_pure ?_));simp only[if_true];refine wpAny_bind (wpAny_rule (wpAny_bind (wpAny_field Hz rfl (x:=Value.ref TO) rfl (wpAny_bind (wpAny_setField_rec Hz (by simp) λg1 Hz1 m1=>?_)))));have Hz1:IsZip g1 z TI TO .ellipsis:=Hz1;refine wpAny_bind ?_;simp only[List.zipIdx_cons,List.zipIdx_nil,qCg,List.forIn_nil];have c1a:st1 k g1:=S1.keep k _ _ c1 λb o hb e=>by
  rcases hb with rfl|rfl
  .exact m1.extBut _ _ d3 e
  .exact m1.extBut _ _ d5 e
 refine wpAny_bind (wpAny_bind (wpAny_onRaise (?_:wpAny _ _ (Builtin.SmallTypes.nextOf (Value.ref i1) >>= _) _ _ _)));have out:∀{g:Heap}{x:Addr}(n:IsZip g z TI TO .ellipsis) (g':Heap) (m:Heap.SameBut z g g'),(∃o,g.get? x=some o/\o.cls=.type "StopIteration")->∃o,g'.get? x=some o/\o.cls=.type "StopIteration":=λ{g x} n g' m #[o,h1,h2]=>
  #[o,m.extBut _ _ (λy=>by subst y;rw[n]at h1;cases h1;simp at h2) h1,h2]
 cases hx:us1[k]? with
 |none=>
  refine wpAny_bind (S1.done _ k _ _ c1a hx λg2 x m2 hs=>?_);have Hz2:IsZip g2 z TI TO .ellipsis:=m2 _ _ (Ne.symm d3) Hz1;exact wpAny_setField_rec Hz2 (by simp) λg3 _ m3=>fin g3 x (λc o n1 _ n3 _ e=>m3.extBut _ _ n1 (m2 _ _ n3 (m1.extBut _ _ n1 e))) (out Hz2 g3 m3 hs)
 |some x=>
  have hy:us2[k]? = none:=he.resolve_left (by rw[hx];simp);refine wpAny_bind (S1.item _ k x _ _ c1a hx λg2 c1b m2=>wpAny_pure ?_);have Ho2:IsPair g2 TO a b:=m2.extBut _ _ (Ne.symm e2) (m1.extBut _ _ d2 Ho);refine wpAny_bind (wpAny_seqItems Ho2 rfl (wpAny_bind (wpAny_updateSeq_pair Ho2 λg3 Ho3 m3=>wpAny_bind (wpAny_letGo (wpAny_pure ?_)))));have c2a:st2 k g3:=S2.keep k _ _ c2 λb o hb e=>by
   rcases hb with rfl|rfl
   .exact m3.extBut _ _ e3 (m2.extBut _ _ f2 (m1.extBut _ _ d4 e))
   .exact m3.extBut _ _ e5 (m2.extBut _ _ f3 (m1.extBut _ _ d6 e))
  refine wpAny_bind (wpAny_bind (wpAny_onRaise (?_:wpAny _ _ (Builtin.SmallTypes.nextOf (Value.ref i2) >>= _) _ _ _)));refine wpAny_bind (S2.done _ k _ _ c2a hy λg4 x m4 hs=>?_);have Hz4:IsZip g4 z TI TO .ellipsis:=m4 _ _ (Ne.symm d4) (m3.extBut _ _ (Ne.symm d2) (m2.extBut _ _ (Ne.symm d3) Hz1));exact wpAny_setField_rec Hz4 (by simp) λg5 _ m5=>fin g5 x (λc o n1 n2 n3 n4 e=>m5.extBut _ _ n1 (m4 _ _ n4 (m3.extBut _ _ n2 (m2.extBut _ _ n3 (m1.extBut _ _ n1 e))))) (out Hz4 g5 m5 hs)
end
abbrev zpA (h:Heap)(l1:Addr):Heap:=h.push { cls:=.type "tuple_iterator",data:=.fields (List.toArray [.ref l1,.int 0 0]) }
abbrev zpB (h:Heap)(l1 l2:Addr):Heap:=(zpA h l1).push { cls:=.type "list_iterator",data:=.fields (List.toArray [.ref l2,.int 0 0]) }
abbrev zpC (h:Heap)(l1 l2:Addr):Heap:=(zpB h l1 l2).push { cls:=.type "tuple",data:=.seq (List.toArray [.ref h.objs.size,.ref (zpA h l1).objs.size]) }
abbrev zpD (h:Heap)(l1 l2:Addr):Heap:=(zpC h l1 l2).push { cls:=.type "tuple",data:=.seq (List.toArray [.none,.none]) }
abbrev zpE (h:Heap)(l1 l2:Addr):Heap:=(zpD h l1 l2).push { cls:=.type "zip",data:=.fields (List.toArray [.none,.bool false,.bool false,.ref (zpB h l1 l2).objs.size,.ref (zpC h l1 l2).objs.size]) }
theorem SD (l1 l2:Addr)(xs ys:Array Value) :
 Meets (Builtin.«zip.__new__» #[[.type "zip",.ref l1,.ref l2],[]]) (λ_ R s=>s.heap.IsTuple l1 xs/\s.heap.IsList l2 ys/\R (.ok (.ret (.ref (zpD s.heap l1 l2).objs.size))) { s with heap:=zpE s.heap l1 l2 }):=
 .of_wp λprog w A R s h=>by
  obtain⟨hp,g,d,tk,os⟩:=s;obtain⟨t1,t2,h⟩:=h;have hsub:=sub_zip;have q1:Heap.IsTuple (Shared.heap #[hp,g,d,tk,os]) l1 xs:=t1;have q2:Heap.IsList (Shared.heap #[hp.push { cls:=.type "tuple_iterator",data:=.fields (List.toArray [.ref l1,.int 0 0]) },g,d,tk,os]) l2 ys:=Heap.IsList.push t2 _
  wp_walk using wpAny_pyIter_tuple q1,wpAny_pyIter_list q2
  exact#[_,rfl,h]
section
variable {P:Program}{w:World}{A:Around}{E:Value->Shared->Prop}{s:Shared}
theorem Pn {l1 l2:Addr}{xs ys:Array Value}{Q:Value->Shared->Prop}(t1:s.heap.IsTuple l1 xs)(t2:s.heap.IsList l2 ys)
 (fin:∀h',IsZip h' (s.heap.objs.size+4) (s.heap.objs.size+2) (s.heap.objs.size+3) .none->IsPair h' (s.heap.objs.size+2) (.ref s.heap.objs.size) (.ref (s.heap.objs.size+1))->IsPair h' (s.heap.objs.size+3) .none .none ->
  h'.IsTupleIter s.heap.objs.size l1 0->h'.IsListIter (s.heap.objs.size+1) l2 0->(∀c o,s.heap.get? c=some o->h'.get? c=some o)->Q (.ref (s.heap.objs.size+4)) { s with heap:=h' }) :
 wpAny (model P w) A (call (.type "zip") [.ref l1,.ref l2]) Q E s:=by
 refine callType_new F.called_zip ∅ (F.typeCall_zip_2 _ _) (F.newCall_zip_2 _ _) (λob=>F.args_object_init_3 ob _ _) F.entry_zip_new (SD l1 l2 xs ys) #[t1,t2,?_];have n1:(zpA s.heap l1).objs.size=s.heap.objs.size+1:=qBR ..;have n2:(zpB s.heap l1 l2).objs.size=s.heap.objs.size+2:=by rw[qBR,n1]
 have n3:(zpC s.heap l1 l2).objs.size=s.heap.objs.size+3:=by rw[qBR,n2]
 have n4:(zpD s.heap l1 l2).objs.size=s.heap.objs.size+4:=by rw[qBR,n3]
 have o5:(zpE s.heap l1 l2).get? (zpD s.heap l1 l2).objs.size=some _:=qAF _ rfl;have o4:(zpE s.heap l1 l2).get? (zpC s.heap l1 l2).objs.size=some _:=qAi _ (qAF _ rfl);have o3:(zpE s.heap l1 l2).get? (zpB s.heap l1 l2).objs.size=some _:=qAi _ (qAi _ (qAF _ rfl));have o2:(zpE s.heap l1 l2).get? (zpA s.heap l1).objs.size=some _:=qAi _ (qAi _ (qAi _ (qAF _ rfl)));have o1:(zpE s.heap l1 l2).get? s.heap.objs.size=some _:=qAi _ (qAi _ (qAi _ (qAi _ (qAF _ rfl))));refine(?_:_/\_);rw[n2,n3,n4]at o5;rw[n1,n2]at o3;rw[n3]at o4;rw[n1]at o2;rw[n4];exact#[#[_,o5,rfl],fin _ o5 o3 o4 #[_,o1,rfl,rfl] #[_,o2,rfl,rfl] λc o x=>qAi _ (qAi _ (qAi _ (qAi _ (qAi _ x))))]
variable {z TI TO i1 i2 l1 l2:Addr}{us1 us2:Array Value}{st1 st2:Nat->Heap->Prop}
theorem SV (D:ZAp z TI TO i1 i2 l1 l2)(S1:∀A':Around,A'.handled=A.handled->Qo P w A' i1 l1 us1 st1)(S2:∀A':Around,A'.handled=A.handled->Qo P w A' i2 l2 us2 st2){k:Nat}{x y a b:Value}{Q:Option Value->Shared->Prop}(Hz:IsZip s.heap z TI TO .none)(Ht:IsPair s.heap TI (.ref i1) (.ref i2))(Ho:IsPair s.heap TO a b)
 (c1:st1 k s.heap) (c2:st2 k s.heap) (hx:us1[k]? = some x) (hy:us2[k]? = some y)
 (fin:∀h',IsZip h' z TI TO (rawInt s.heap.objs.size)->IsPair h' TO x y->st1 (k+1) h'->st2 (k+1) h'->IsPair h' s.heap.objs.size x y->(∀c o,c≠z->c≠TO->c≠i1->c≠i2->s.heap.get? c=some o->h'.get? c=some o)->Q (some (.ref s.heap.objs.size)) { s with heap:=h' }) :
 wpAny (model P w) A (pyNext (.ref z)) Q E s:=by
 have ty:s.TypeIs (.ref z) "zip":=#[_,Hz,rfl];refine wpAny_bind (wpAny_attempt (wpAny_callSpecial?_slot (name:=Str.ofString "__next__") ty qCi (wpAny_call_entry qCi ty F.entry_zip_next ?_ (F.args_zip_next_1 _))));refine T1 (A:=A.in1) D (S1 A.in1 rfl) (S2 A.in1 rfl) Hz Ht Ho c1 c2 hx hy λh' b1 b2 b3 b4 b5 b6=>?_;exact wpAny_pure (fin h' b1 b2 b3 b4 b5 b6)
theorem Tw (hd:A.handled=none)(D:ZAp z TI TO i1 i2 l1 l2)(S1:∀A':Around,A'.handled=A.handled->Qo P w A' i1 l1 us1 st1)(S2:∀A':Around,A'.handled=A.handled->Qo P w A' i2 l2 us2 st2){k:Nat}{a b:Value}{Q:Option Value->Shared->Prop}(Hz:IsZip s.heap z TI TO .none)(Ht:IsPair s.heap TI (.ref i1) (.ref i2))(Ho:IsPair s.heap TO a b)
 (c1:st1 k s.heap) (c2:st2 k s.heap) (he:us1[k]? = none\/us2[k]? = none)
 (fin:∀h',(∀c o,c≠z->c≠TO->c≠i1->c≠i2->s.heap.get? c=some o->h'.get? c=some o)->Q none { s with heap:=h' }):wpAny (model P w) A (pyNext (.ref z)) Q E s:=by
 have ty:s.TypeIs (.ref z) "zip":=#[_,Hz,rfl];refine wpAny_bind (wpAny_attempt (wpAny_callSpecial?_slot (name:=Str.ofString "__next__") ty qCi (wpAny_call_entry qCi ty F.entry_zip_next ?_ (F.args_zip_next_1 _))));refine SS (A:=A.in1) hd D (S1 A.in1 rfl) (S2 A.in1 rfl) Hz Ht Ho c1 c2 he λh' e kp hs=>?_;obtain⟨o,g1,g2⟩:=hs;exact wpAny_bind (wpAny_isInstance (T:="StopIteration") (b:=true) #[o,g1,g2] isSubtype_stop (wpAny_pure (fin _ kp)))
end
def SqB (K:W.Frag)(b:Bool)(H:Hp)(a:Addr)(xs:List V):Prop:=if b=true then SqT K H a xs else SqL K H a xs
def ItB (b:Bool)(h:Heap)(i l:Addr)(k:Nat):Prop:=if b=true then h.IsTupleIter i l k else h.IsListIter i l k
def Itz (K:W.Frag)(b1 b2:Bool)(l1 l2:Addr):It:=
 #[λi H=>∃xs ys x y,SqB K b1 H l1 xs/\SqB K b2 H l2 ys/\xs[i]? = some x/\ys[i]? = some y,
  λi H v H'=>∃p x y,H p=none/\v=.ref p/\(∀xs,SqB K b1 H l1 xs->xs[i]? = some x)/\(∀ys,SqB K b2 H l2 ys->ys[i]? = some y)/\H'=upd H p (.tup [x,y]),
  λi H=>∃xs ys,SqB K b1 H l1 xs/\SqB K b2 H l2 ys/\(↥xs<=i\/↥ys<=i)]
theorem IJ {b:Bool}{h h':Heap}{i l:Addr}{k:Nat}(a:ItB b h i l k)(e:∀o,h.get? i=some o->h'.get? i=some o):ItB b h' i l k:=by
 unfold ItB at *
 split at a
 .rename_i c;rw[if_pos c];obtain⟨o,g1,g2⟩:=a;exact#[o,e o g1,g2]
 .rename_i c;rw[if_neg c];exact a.at λo z=>e o z
theorem Lg {b:Bool}{h:Heap}{i l:Addr}{k:Nat}(a:ItB b h i l k):∃o,h.get? i=some o/\∀v,o.data≠.cell v:=by
 unfold ItB at a;split at a
 .obtain⟨o,g1,g2,g3⟩:=a;exact#[o,g1,λv z=>by rw[g3]at z;cases z]
 .obtain⟨o,g1,g2,g3⟩:=a;exact#[o,g1,λv z=>by rw[g3]at z;cases z]
def stB (b:Bool)(i l:Addr)(us:Array Value)(k:Nat)(h:Heap):Prop:=if b=true then stT i l us k h else stL i l us k h
theorem SU {P:Program}{w:World}{A:Around}(hd:A.handled=none)(b:Bool){i l:Addr}(ne:l≠i)(us:Array Value):Qo P w A i l us (stB b i l us):=by
 cases b with
 |true=>exact R8 hd ne us
 |false=>exact S3 hd ne us
section
variable {X:Cx}{pins:List (Addr×Obj)}{σ:St}{H:Hp}{s:Shared}
theorem Lr {b:Bool}{l:Addr}{xs:List V}(I:Inv X pins σ H s)(q:SqB X.K b H l xs):∃its:List Value,Cb xs its/\∀i k,ItB b s.heap i l k->stB b i l its.toArray k s.heap:=by
 unfold SqB at q;cases b with
 |true=>
  obtain⟨its,rv,p,hz⟩:=I.tuple q;exact#[its,rv,λi k a=>#[a,p]]
 |false=>
  obtain⟨its,rv,p,hz⟩:=I.list q;exact#[its,rv,λi k a=>#[a,p.isList]]
theorem RH {b:Bool}{l:Addr}{xs ys:List V}(I:Inv X pins σ H s)(q:SqB X.K b H l xs)(r:SqB X.K b H l ys):ys=xs:=by
 unfold SqB at q r;cases b with
 |true=>exact I.tuple_inj r q
 |false=>exact I.list_inj r q
end
def tnZ (b1 b2:Bool)(z TI TO i1 i2 l1 l2:Addr)(i:Nat)(h:Heap):Prop:=IsZip h z TI TO .none/\IsPair h TI (.ref i1) (.ref i2)/\(∃a b,IsPair h TO a b)/\ItB b1 h i1 l1 i/\ItB b2 h i2 l2 i
theorem Uw {b:Bool}{i l:Addr}{us:Array Value}{k:Nat}{h:Heap}(a:stB b i l us k h):ItB b h i l k:=by
 unfold stB at a;unfold ItB;split at a
 .rename_i c;rw[if_pos c];exact a.1
 .rename_i c;rw[if_neg c];exact a.1
theorem TX {P:Program}{w:World}{K:W.Frag}{elts:List Expr}{x1:Nat}{tpos:Pos}(b1 b2:Bool){z TI TO i1 i2 l1 l2:Addr}(D:ZAp z TI TO i1 i2 l1 l2):UX P w K (.Tuple elts x1 tpos) (Itz K b1 b2 l1 l2) [z,TI,TO,i1,i2] z (tnZ b1 b2 z TI TO i1 i2 l1 l2) where
 mem:=by simp
 obj:=λi h st b hb=>by
  obtain⟨g1,g2,⟨a,c,g3⟩,g4,g5⟩:=st;simp only[qAl,qBK,or_false]at hb;rcases hb with rfl|rfl|rfl|rfl|rfl
  .exact#[_,g1,λv y=>by cases y]
  .exact#[_,g2,λv y=>by cases y]
  .exact#[_,g3,λv y=>by cases y]
  .exact Lg g4
  .exact Lg g5
 keep:=λi h h' st k=>by
  obtain⟨g1,g2,⟨a,c,g3⟩,g4,g5⟩:=st;exact#[k z (by simp) _ g1,k TI (by simp) _ g2,#[a,c,k TO (by simp) _ g3],IJ g4 λo e=>k i1 (by simp) o e,IJ g5 λo e=>k i2 (by simp) o e]
 item:=by
  intro X hP hw hK hc i pins s σ H E I hf st hg;subst hP hw hK;obtain⟨xs,ys,x,y,q1,q2,hx,hy⟩:=hg;obtain⟨its1,rv1,src1⟩:=Lr I q1;obtain⟨its2,rv2,src2⟩:=Lr I q2;obtain⟨u,hu,ru⟩:=rv1.get hx;obtain⟨v,hv,rv⟩:=rv2.get hy;obtain⟨g1,g2,⟨a,c,g3⟩,g4,g5⟩:=st;have hd:=I.ok.hd hc;have fz:=hf z (by simp);have fI:=hf TI (by simp);have fO:=hf TO (by simp);have f1:=hf i1 (by simp);have f2:=hf i2 (by simp);refine SV D (λA' e=>SU (e.trans hd) b1 D.a4.1 its1.toArray) (λA' e=>SU (e.trans hd) b2 D.a4.2 its2.toArray) g1 g2 g3 (src1 i1 i g4) (src2 i2 i g5) (x:=u) (y:=v) (by simpa using hu) (by simpa using hv) λh1 k1 k2 k3 k4 k5 k6=>#[_,rfl,wpAny_letOwnedTupleGo_zip (s:={ s with heap:=h1 }) k1 λh2 m1 m2=>?_];have m2':Heap.SameBut z h1 h2:=m2;have lt:∀{b:Addr}{o:Obj},s.heap.get? b=some o->s.heap.objs.size≠b:=λe=>qBt (qAk e);have hn:H s.heap.objs.size=none:=I.hok.fresh (qAg _);have old2:∀b o,b≠z->b≠TO->b≠i1->b≠i2->s.heap.get? b=some o->h2.get? b=some o:=λb o n1 n2 n3 n4 y=>(m2'.2 b n1).trans (k6 b o n1 n2 n3 n4 y);have tup2:h2.get? s.heap.objs.size=some { cls:=.type "tuple",data:=.seq (List.toArray [u,v]) }:=(m2'.2 _ (lt g1)).trans k5;have trk:∀{b:Addr}{o:HO},H b=some o->b≠z/\b≠TO/\b≠i1/\b≠i2:=λ{b o} q=>#[(λy=>by rw[y,fz.1]at q;cases q),(λy=>by rw[y,fO.1]at q;cases q),(λy=>by rw[y,f1.1]at q;cases q),(λy=>by rw[y,f2.1]at q;cases q)];have hok2:HOk X.prog X.w (upd H s.heap.objs.size (.tup [x,y])) h2:=λb o q=>by
   by_cases hb:b=s.heap.objs.size
   .subst hb;rw[Au]at q;cases q;exact#[by show 2<=sizeLine;decide,[u,v],.cons ru (.cons rv .nil),#[_,tup2,rfl,_,rfl]]
   .rw[Ao hb]at q;refine(I.hok b o q).stay (hf:=λc w1 w2 y=>by rw[Ao (AJ y hn)];exact y) (λc o hc' y=>?_) (λc y=>by rw[Ao (AJ y hn)];exact y) λc ys y=>by rw[Ao (AJ y hn)];exact y
    have t:c≠z/\c≠TO/\c≠i1/\c≠i2:=by
     rcases hc' with rfl|hc'
     .exact trk q
     .exact trk hc'
    exact old2 c o t.1 t.2.1 t.2.2.1 t.2.2.2 y
  have nin:∀{b:Addr},b∉[z,TO,i1,i2]->b≠z/\b≠TO/\b≠i1/\b≠i2:=λ{b} h=>#[(λy=>h (by simp[y])),(λy=>h (by simp[y])),(λy=>h (by simp[y])),(λy=>h (by simp[y]))];have I2:Inv X pins σ (upd H s.heap.objs.size (.tup [x,y])) { s with heap:=h2,toks:=s.toks }:=by
   refine I.step (g':=s.gens) (d':=s.drawn) (ch:=[z,TO,i1,i2]) (λb hb=>?_) (λb o _ _ hb q _=>old2 b o (nin hb).1 (nin hb).2.1 (nin hb).2.2.1 (nin hb).2.2.2 q) (λb o _ _ hb q _=>#[o.slots,old2 b o (nin hb).1 (nin hb).2.1 (nin hb).2.2.1 (nin hb).2.2.2 q])
    (λb o _ q n=>by rw[Ao (qAx (qAk q))];exact n) (λb o hb q=>#[o,old2 b o (nin hb).1 (nin hb).2.1 (nin hb).2.2.1 (nin hb).2.2.2 q])
    (λb ys y=>by rw[Ao (AJ y hn)];exact y) (λb o ys y=>by rw[Ao (AJ y hn)];exact y) (λb ps y=>#[(List.toArray []),by rw[Ao (AJ y hn),y];simp]) (λm hm=>?_) hok2 I.bare
   .simp only[qAl,qBK,or_false]at hb;rcases hb with rfl|rfl|rfl|rfl
    .exact#[fz.2.2.2.1,fz.2.1,fz.2.2.2.2.1,fz.2.2.2.2.2]
    .exact#[fO.2.2.2.1,fO.2.1,fO.2.2.2.2.1,fO.2.2.2.2.2]
    .exact#[f1.2.2.2.1,f1.2.1,f1.2.2.2.2.1,f1.2.2.2.2.2]
    .exact#[f2.2.2.2.1,f2.2.1,f2.2.2.2.2.1,f2.2.2.2.2.2]
   .obtain⟨o,es,ep,ho,r⟩:=hm;exact#[o,es,ep,old2 _ o (Ne.symm fz.2.1) (Ne.symm fO.2.1) (Ne.symm f1.2.1) (Ne.symm f2.2.1) ho,r]
  have ob1:=Lg g4;have ob2:=Lg g5;refine#[.ref s.heap.objs.size,_,I2,rfl,#[_,x,y,hn,rfl,λzs hz=>by rw[RH I q1 hz];exact hx,λzs hz=>by rw[RH I q2 hz];exact hy,rfl],#[m1,?_,#[u,v,?_],?_,?_],λb hb=>?_]
  .exact(m2'.2 _ D.a1.1).trans (k6 _ _ D.a1.1 D.a2.1 D.a3.1 D.a3.2.2.2.1 g2)
  .exact(m2'.2 _ D.a1.2.1).trans k2
  .exact IJ (Uw k3) λo e=>(m2'.2 _ D.a1.2.2.1).trans e
  .exact IJ (Uw k4) λo e=>(m2'.2 _ D.a1.2.2.2.1).trans e
  .have ne:∀{b:Addr}{o:Obj},s.heap.get? b=some o->b≠s.heap.objs.size:=λe=>qAx (qAk e);simp only[qAl,qBK,or_false]at hb;rcases hb with rfl|rfl|rfl|rfl|rfl
   .rw[Ao (ne g1)];exact fz.1
   .rw[Ao (ne g2)];exact fI.1
   .rw[Ao (ne g3)];exact fO.1
   .obtain⟨o,e,_⟩:=ob1;rw[Ao (ne e)];exact f1.1
   .obtain⟨o,e,_⟩:=ob2;rw[Ao (ne e)];exact f2.1
 done:=by
  intro X hP hw hK hc i pins s σ H E I hf st hg;subst hP hw hK;obtain⟨xs,ys,q1,q2,he⟩:=hg;obtain⟨its1,rv1,src1⟩:=Lr I q1;obtain⟨its2,rv2,src2⟩:=Lr I q2;obtain⟨g1,g2,⟨a,c,g3⟩,g4,g5⟩:=st;have hd:=I.ok.hd hc;have fz:=hf z (by simp);have fO:=hf TO (by simp);have f1:=hf i1 (by simp);have f2:=hf i2 (by simp);refine Tw hd D (λA' e=>SU (e.trans hd) b1 D.a4.1 its1.toArray) (λA' e=>SU (e.trans hd) b2 D.a4.2 its2.toArray) g1 g2 g3 (src1 i1 i g4) (src2 i2 i g5) ?_ λh' kp=>#[rfl,?_]
  .have e1:=↥rv1;have e2:=↥rv2;rcases he with he|he
   .left;rw[qBB,qAR];omega
   .right;rw[qBB,qAR];omega
  .have nin:∀{b:Addr},b∉[z,TO,i1,i2]->b≠z/\b≠TO/\b≠i1/\b≠i2:=λ{b} h=>#[(λy=>h (by simp[y])),(λy=>h (by simp[y])),(λy=>h (by simp[y])),(λy=>h (by simp[y]))];have old2:∀b o,b∉[z,TO,i1,i2]->s.heap.get? b=some o->h'.get? b=some o:=λb o hb q=>kp b o (nin hb).1 (nin hb).2.1 (nin hb).2.2.1 (nin hb).2.2.2 q;have trk:∀{b:Addr}{o:HO},H b=some o->b∉[z,TO,i1,i2]:=λ{b o} q hb=>by
    simp only[qAl,qBK,or_false]at hb;rcases hb with rfl|rfl|rfl|rfl
    .rw[fz.1]at q;cases q
    .rw[fO.1]at q;cases q
    .rw[f1.1]at q;cases q
    .rw[f2.1]at q;cases q
   have hok2:HOk X.prog X.w H h':=λb o q=>by
    refine(I.hok b o q).stay (λc o hc' y=>old2 c o ?_ y) (λ_ y=>y) λ_ _ y=>y;rcases hc' with rfl|hc'
    .exact trk q
    .exact trk hc'
   refine I.step (t':=s.toks) (g':=s.gens) (d':=s.drawn) (ch:=[z,TO,i1,i2]) (λb hb=>?_) (λb o _ _ hb q _=>old2 b o hb q) (λb o _ _ hb q _=>#[o.slots,old2 b o hb q]) (λb o _ q n=>n) (λb o hb q=>#[o,old2 b o hb q])
    (λb ys y=>y) (λb o ys y=>y) (λb ps y=>#[(List.toArray []),by rw[y];simp]) (λm hm=>?_) hok2 I.bare
   .simp only[qAl,qBK,or_false]at hb;rcases hb with rfl|rfl|rfl|rfl
    .exact#[fz.2.2.2.1,fz.2.1,fz.2.2.2.2.1,fz.2.2.2.2.2]
    .exact#[fO.2.2.2.1,fO.2.1,fO.2.2.2.2.1,fO.2.2.2.2.2]
    .exact#[f1.2.2.2.1,f1.2.1,f1.2.2.2.2.1,f1.2.2.2.2.2]
    .exact#[f2.2.2.2.1,f2.2.1,f2.2.2.2.2.1,f2.2.2.2.2.2]
   .obtain⟨o,es,ep,ho,r⟩:=hm;refine#[o,es,ep,kp _ o (Ne.symm fz.2.1) (Ne.symm fO.2.1) (Ne.symm f1.2.1) (Ne.symm f2.2.1) ho,r]
 self:=λA i s Q E st h=>wpAny_pyIter_zip st.1 h
section
variable {X:Cx}{pos:Pos}
def Y1 (K:W.Frag)(ta:TA):TI:=λσ H R=>ta σ H λvs H1=>∃a1 a2,vs=[.ref a1,.ref a2]/\∃b:Bool,(∃xs,SqB K b H1 a1 xs)/\(∃ys,SqL K H1 a2 ys)/\R (Itz K b false a1 a2) H1
theorem WR {n l1 l2:Addr}(h1:l1<n)(h2:l2<n):ZAp (n+4) (n+2) (n+3) n (n+1) l1 l2:=by
 have up:∀{a:Addr}(j:Nat),a<n->a≠n+j:=λ{a} j h=>qAx (qAs h (qBV n j));have lt:∀{i j:Nat},i<j->n+i≠n+j:=λh=>qAx (Nat.add_lt_add_left h n);have gt:∀{i j:Nat},j<i->n+i≠n+j:=λh=>qBt (Nat.add_lt_add_left h n);exact#[#[lt ∅,lt ∅,lt (i:=0) ∅,lt ∅,up 4 h1,up 4 h2],#[lt ∅,lt (i:=0) ∅,lt ∅,up 3 h1,up 3 h2],#[gt (j:=0) ∅,gt (j:=0) ∅,up 0 h2,gt ∅,up 1 h1],#[up 0 h1,up 1 h2]]
theorem U5 {e1 e2:Expr}{elts:List Expr}{x1:Nat}{tpos p:Pos}{ta:TA}(hg:Gl X "zip")(hm:X.mg "zip"=none)(ha:PA X [e1,e2] ta)(hs:starEach [e1,e2] X.env=[(false,eval e1 X.env),(false,eval e2 X.env)]:=by rfl)(hs2:starEach [e2] X.env=[(false,eval e2 X.env)]:=by rfl) :
 PI X (.Tuple elts x1 tpos) (.Call (.Name "zip" p) [e1,e2] [] pos) (Y1 X.K ta):=by
 intro pins s σ H R I h;refine Call_ (H0 I hg hm PyProof.Rows.boot_zip (qBc (thn (ha pos pins s σ H _ I h) λus s1 #[vs,H1,I1,r1,q1]=>?_) (by rw[hs,hs2]) (by rw[hs2];rfl)));obtain⟨a1,a2,e,b,⟨xs,h1⟩,⟨ys,h2⟩,q⟩:=q1;subst e;cases r1 with
 |cons r rr=>
  cases rr with
  |cons r' rr=>
   cases rr;cases r;cases r';obtain⟨its2,rv2,p2,hz2⟩:=I1.list h2;have fin:∀h',IsZip h' (s1.heap.objs.size+4) (s1.heap.objs.size+2) (s1.heap.objs.size+3) .none->IsPair h' (s1.heap.objs.size+2) (.ref s1.heap.objs.size) (.ref (s1.heap.objs.size+1))->IsPair h' (s1.heap.objs.size+3) .none .none ->
    ItB b h' s1.heap.objs.size a1 0->ItB false h' (s1.heap.objs.size+1) a2 0->(∀c o,s1.heap.get? c=some o->h'.get? c=some o)->a1<s1.heap.objs.size->a2<s1.heap.objs.size ->
    wpAny (model X.prog X.w) X.A (pyIter (.ref (s1.heap.objs.size+4))) (PIE X pins σ (.Tuple elts x1 tpos) R) X.xe { s1 with heap:=h' }:=λh' g1 g2 g3 g4 g5 old n1 n2=>by
    have I2:Inv X pins σ H1 { s1 with heap:=h' }:=I1.kept (t':=s1.toks) old;refine wpAny_pyIter_zip (s:={ s1 with heap:=h' }) g1 ?_;refine#[s1.heap.objs.size+4,_,_,_,H1,rfl,I2,TX b false (WR n1 n2),#[g1,g2,#[_,_,g3],g4,g5],λc hc=>?_,q];have ge:s1.heap.objs.size<=c:=by
     simp only[qAl,qBK,or_false]at hc;rcases hc with rfl|rfl|rfl|rfl|rfl
     .exact qBV _ 4
     .exact qBV _ 2
     .exact qBV _ 3
     .exact qAg _
     .exact qBV _ 1
    exact I1.fpOk ge (I1.hok.fresh ge)
   have n2:a2<s1.heap.objs.size:=by obtain⟨o,e,_⟩:=p2.isList;exact qAk e
   cases b with
   |true=>
    obtain⟨its1,rv1,p1,hz1⟩:=I1.tuple h1;have t1:s1.heap.IsTuple a1 its1.toArray:=p1;have n1:a1<s1.heap.objs.size:=by obtain⟨o,e,_⟩:=t1;exact qAk e
    exact Pn t1 p2.isList λh' g1 g2 g3 g4 g5 old=>fin h' g1 g2 g3 g4 g5 old n1 n2
   |false=>
    obtain⟨its1,rv1,p1,hz1⟩:=I1.list h1;have n1:a1<s1.heap.objs.size:=by obtain⟨o,e,_⟩:=p1.isList;exact qAk e
    exact call_zip_2 p1.isList p2.isList λh' g1 g2 g3 g4 g5 _ old=>fin h' g1 g2 g3 g4 g5 old n1 n2
end
structure Ec (X:Cx)(x y':Str)(scope:Scope)(N:List Str)(idx:List Nat):Prop where
 kind:scope.kind=.function
 cell:∀y∈scope.names,y.2≠.cell
 names:∀y∈scope.names,y.2=.local->scope.names.lookup y.1=some .local
 own:scope.names.lookup x=some .local
 own2:scope.names.lookup y'=some .local
 free:∀y∈scope.names,y.2=.free->X.env.kindOf y.1=some .cell
 nd:N.Nodup
 fst:N[0]? = some x
 snd:N[1]? = some y'
 len:↥N=↥idx+2
 cap:∀(k j:Nat),idx[k]? = some j->∃y,N[k+2]? = some y/\X.N[j]? = some y/\scope.names.lookup y=some .free
section
variable {X:Cx}{pins:List (Addr×Obj)}{σ:St}{H2:Hp}{s2:Shared}{x y':Str}{px py' pt:Pos}{kt:Nat}{tg:Expr}{scope:Scope}{N:List Str}{idx:List Nat}{J:It}{fp:List Addr}{it:Addr}{tn:Nat->Heap->Prop}{cl:List (Str×Addr)}
theorem NF (O:Ec X x y' scope N idx)(I2:Inv X pins σ H2 s2)(T:UX X.prog X.w X.K tg J fp it tn)(st2:tn 0 s2.heap)(f2:∀b∈fp,PQ X pins H2 b)
 (hcl:∀y c,cl.lookup y=some c->X.env.cells.lookup y=some c)(hcl2:∀y,(y,NameKind.free)∈scope.names->∃c,cl.lookup y=some c)
 {h1:Heap}{C:Addr}{m:Str->Option Value}{tk:Nat}(hC:s2.heap.objs.size<C) (hns:h1.Ns C m) (old:∀b o,s2.heap.get? b=some o->h1.get? b=some o)
 (hD:h1.get? s2.heap.objs.size=some { cls:=.type "list",data:=.seq ([]:List Value).toArray }) :
 Inv (AB X N scope cl C s2 H2 fp) [] (none::none::D8 σ idx) (upd H2 s2.heap.objs.size (.lst [])) { s2 with heap:=h1,toks:=tk }:=by
 have inHeap:∀b∈fp,b<s2.heap.objs.size:=λb hb=>by
  obtain⟨o,e,_⟩:=T.obj 0 _ st2 b hb;exact qAk e
 have hDn:H2 s2.heap.objs.size=none:=I2.hok.fresh (qAg _);refine#[#[I2.ok.mod,O.kind,I2.ok.glob,I2.ok.blt,?_,?_,?_,(λ_ _ z=>by cases z),I2.ok.hd,I2.ok.frames,.inl rfl,?_,λb o e=>I2.bs b o e,qAO I2.ok.bsz I2.sz,?_,?_,I2.stack,I2.stkFree,I2.tb],rfl,I2.bare,?_,#[m,hns,?_],?_,?_,?_,?_,?_,?_]
 .exact qBs hC
 .intro y z c h1 h2;exact I2.ok.inj y z c (hcl y c h1) (hcl z c h2)
 .intro y hy;have key:∀k,(relabel scope X.env).names.lookup y=some k->(k=.cell\/k=.free)->∃c,cl.lookup y=some c:=λk e hk=>by
   obtain⟨k0,h1,h2⟩:=C8 e;have hf:k0=.free:=by
    rcases h2 with rfl|h2
    .rcases hk with rfl|rfl
     .exact absurd rfl (O.cell _ h1)
     .rfl
    .exact h2
   subst hf;exact hcl2 y h1
  rcases hy with e|e
  .exact key _ e (.inl rfl)
  .exact key _ e (.inr rfl)
 .intro b hb;have:=inHeap b hb;exact#[qAx (qBi this hC),λy c e=>(f2 b hb).2.2.2.2.1 y c (hcl y c e)]
 .intro b o e hb;rcases(f2 b hb).2.2.2.1 with z|z
  .exact I2.ok.noex b o e z
  .exact absurd (qAs (qAk e) (qAO I2.ok.bsz z)) (qAX _)
 .intro b hb hf;rcases qAl.mp (I2.stkSub b hf) with e|e
  .exact(f2 b hb).2.1 e
  .exact(f2 b hb).2.2.1 e
 .exact Un.laid old (qAg _) hDn
 .intro i y v e1 e2 e3;cases i with
  |zero=>cases e2
  |succ k=>
   cases k with
   |zero=>cases e2
   |succ k=>
    obtain⟨j,ej,es⟩:=Iy (k:=k) e2;obtain⟨y',n1,n2,n3⟩:=O.cap k j ej;have ey:y'=y:=qAo (n1.symm.trans e1);subst ey;have kc:=O.free _ (BP n3) rfl;obtain⟨m0,hn0,hl0⟩:=I2.loc;obtain⟨u,ru,lk⟩:=hl0 j y' v n2 es (.inr (.inl kc));refine#[u,ru,?_];rcases lk with⟨k1,_⟩|⟨_,c,hc,ic⟩
    .rw[kc]at k1;cases k1
    .obtain⟨c',hc'⟩:=hcl2 y' (BP n3);have:c'=c:=qAo ((hcl y' c' hc').symm.trans hc);subst this;exact .inr #[.inl (Cq I2.ok.kind kc n3),c',hc',ic.keeps old]
 .intro y c e;obtain⟨v,ic⟩:=I2.cell y c (hcl y c e);exact#[v,ic.keeps old]
 .show upd H2 _ _ C=none;rw[Ao (qBt hC)];exact I2.hok.fresh (qBs hC)
 .intro y c e;obtain⟨v,ic⟩:=I2.cell y c (hcl y c e);rw[Ao (qAx ic.lt)];exact I2.freeC y c (hcl y c e)
 .intro p hp;cases hp
 .exact I2.hok.laid old (qAg _) #[qA4 _,[],_,.nil,hD]
 .show(none::none::D8 σ idx).length=↥N;rw[O.len,qAQ,qAQ];unfold D8;rw[qAa]
def OE (K:W.Frag)(idx:List Nat)(wi:TI)(te:Hp->TE):TE:=λσ H Q=>wi σ H λJ H1=>∀D,H1 D=none->K.lookup D=none->∃W:Nat->Nat->List V->Hp->Prop,(∃m,W 0 m [] (upd H1 D (.lst []))) /\
 ∀i m ys H,H D=some (.lst ys)->W i m ys H->(J.stop i H/\Q (.ref D) H)\/(J.go i H/\∀x H',J.yld i H x H'->∃p v1 v2,x=.ref p/\SqT K H' p [v1,v2] /\
  te H1 (some v1::some v2::D8 σ idx) H' (λv H3=>H3 D=some (.lst ys)/\↥ys<sizeLine/\∃m',m'<m/\W (i+1) m' (ys++[v]) (upd H3 D (.lst (ys++[v])))))
theorem My {elt iter:Expr}{wi:TI}{te:Hp->TE}{pos:Pos}{s:Shared}{H:Hp}{Q:VK}{use:Option (Value->Sem Unit)}{QQ:Value->Shared->Prop}(O:Ec X x y' scope N idx)(hc:X.calm=true)(hi:PI X (.Tuple [.Name x px,.Name y' py'] kt pt) iter wi)
 (helt:∀cl C s₀ H₀ fp,PE (AB X N scope cl C s₀ H₀ fp) elt (te H₀))
 (hs:∀x,foldedSetIterable iter X.env x=pure x)(I:Inv X pins σ H s)(h:OE X.K idx wi te σ H Q)
 (fin:∀(s2:Shared)(H2:Hp)(fp:List Addr)(cl:List (Str×Addr))(C D:Addr)(σ':St)(H':Hp)(s':Shared),Inv X pins σ H2 s2->(∀b∈fp,PQ X pins H2 b)->s2.heap.objs.size<C->Inv (AB X N scope cl C s2 H2 fp) [] σ' H' s'->Q (.ref D) H' ->
  compPost (model X.prog X.w) X.A X.xe use QQ (.ref D) C (.ok .next) s') :
 wpAny (model X.prog X.w) X.A (comprehension (.ListComp elt [#[.Tuple [.Name x px,.Name y' py'] kt pt,iter,[],0]] scope pos) scope X.env (firstIterPos [#[.Tuple [.Name x px,.Name y' py'] kt pt,iter,[],0]] pos) (newList []) false (eval iter X.env) use) QQ X.xe s:=by
 obtain⟨cl,ecl,hcl,hcl2⟩:=Fz (scope:=scope) (env:=X.env) λy hy hf=>I.ok.has y.1 (.inl (O.free y hy hf));refine wpAny_comprehension_free (use:=use) (cl:=cl) rfl hs ecl O.kind O.names ?_;refine thn (hi pins s σ H _ I h) λv s1 h1=>thn h1 λitv s2 h2=>?_;obtain⟨it,fp,tn,J,H2,rfl,I2,T,st2,f2,hD⟩:=h2;refine wpAny_newObj_type (wpAny_newFunctionEnv O.cell (by intro y hy;simp at hy) (λh1 hns hsb=>?_) O.kind);dsimp only at hns hsb ⊢;generalize hG:s2.heap.push { cls:=.type "list",dict:=none,data:=.seq ([]:List Value).toArray }=G at hns hsb ⊢;have hCs:s2.heap.objs.size<G.objs.size:=by rw[<-hG,qBR];exact qBU _
 have old:∀b o,s2.heap.get? b=some o->h1.get? b=some o:=λb o e=>hsb.extBut b o (qAx (qBi (qAk e) hCs)) (qAi _ (hG ▸ qAi _ e));have hDl:h1.get? s2.heap.objs.size=some { cls:=.type "list",data:=.seq ([]:List Value).toArray }:=hsb.extBut _ _ (qAx hCs) (qAi _ (hG ▸ qAF _ rfl));have hDn:H2 s2.heap.objs.size=none:=I2.hok.fresh (qAg _);have hDk:X.K.lookup s2.heap.objs.size=none:=by
  cases e:X.K.lookup s2.heap.objs.size with
  |none=>rfl
  |some o=>exact absurd (qAk (I2.kIn _ _ e)) (qAX _)
 obtain⟨W,⟨m0,w0⟩,step⟩:=hD _ hDn hDk;have I4:Inv (AB X N scope cl G.objs.size s2 H2 fp) [] (none::none::D8 σ idx) (upd H2 s2.heap.objs.size (.lst [])) { s2 with heap:=h1,toks:=s2.toks+([]:List (Str×Value)).length }:=
  NF O I2 T st2 f2 hcl hcl2 hCs hns old hDl
 generalize hCC:G.objs.size=C at I4 hCs ⊢;clear hsb hns hG hCC;generalize hDD:s2.heap.objs.size=D at hDn hDk step w0 I4 hDl ⊢;have st4:tn 0 h1:=T.keep 0 _ _ st2 λb _ o e=>old b o e;have frD:∀b∈fp,(upd H2 D (.lst [])) b=none:=λb hb=>by
  obtain⟨o,e,_⟩:=T.obj 0 _ st2 b hb;rw[Ao (by rw[<-hDD];exact qAx (qAk e))];exact(f2 b hb).1
 have stat:∀{H':Hp},(∀b∈fp,H' b=none)->∀b∈fp,PQ (AB X N scope cl C s2 H2 fp) [] H' b:=λhn b hb=>
  #[hn b hb,(I4.ok.exf b hb).1,I4.ok.exfs b hb,.inl hb,(I4.ok.exf b hb).2,λp hp=>by cases hp]
 have hloc:(AB X N scope cl C s2 H2 fp).env.scope.names.lookup x=some .local:=lookup_relabel_local O.own;have hloc2:(AB X N scope cl C s2 H2 fp).env.scope.names.lookup y'=some .local:=lookup_relabel_local O.own2;have pg:PG (AB X N scope cl C s2 H2 fp) (.Tuple [.Name x px,.Name y' py'] kt pt) (Zz X.K 2 (Qb (Fo 0) (Qb (Fo 1) ZM))):=
  Oh (X:=AB X N scope cl C s2 H2 fp) hc (DV (AM O.nd O.fst (.inl hloc) (.inr hloc)) (DV (AM O.nd O.snd (.inl hloc2) (.inr hloc2)) KW))
 have loop:∀s3:Shared,s3={ s2 with heap:=h1,toks:=s2.toks+([]:List (Str×Value)).length } ->
  codeAny (model X.prog X.w) X.A (.compLoop (.ListComp elt [#[.Tuple [.Name x px,.Name y' py'] kt pt,iter,[],0]] scope pos) 0 (.ref it) (.ref D) (compEnvC scope cl C X.env)) (compPost (model X.prog X.w) X.A X.xe use QQ (.ref D) C) s3:=by
  rintro s3 rfl;refine LCp.codeAny_compLoop_pair (λn s'=>∃i z1 z2 H' ys,Inv (AB X N scope cl C s2 H2 fp) [] (z1::z2::D8 σ idx) H' s'/\tn i s'.heap/\(∀b∈fp,H' b=none)/\H' D=some (.lst ys)/\W i n ys H') ?_ m0 #[0,none,none,_,[],I4,st4,frD,Au,w0];rintro n s5 ⟨i,z1,z2,H5,ys,I5,st5,fr5,hD5,w5⟩;rcases step i n ys H5 hD5 w5 with⟨stop,q⟩|⟨go,next⟩
  .refine wpAny_mono (T.done (AB X N scope cl C s2 H2 fp) rfl rfl rfl hc i [] s5 _ H5 (λ_ _=>False) I5 (stat fr5) st5 stop) (λr s6 hh=>?_) λ_ _ z=>z.elim;obtain⟨hr,I6⟩:=hh;subst hr;exact fin s2 H2 fp cl C D _ H5 s6 I2 f2 hCs I6 q
  .refine wpAny_mono (T.item (AB X N scope cl C s2 H2 fp) rfl rfl rfl hc i [] s5 _ H5 (λ_ _=>False) I5 (stat fr5) st5 go) (λr s6 hh=>?_) λ_ _ z=>z.elim;obtain⟨u,hr,h6⟩:=hh;subst hr;dsimp only;refine wpAny_mono h6 (λ_ s7 h7=>?_) λ_ _ z=>z.elim;obtain⟨xv,H7,I7,r7,y7,st7,fr7⟩:=h7;have I7':=I7.pinned (stat fr7) (T.obj _ _ st7);obtain⟨p,v1,v2,e7,sq7,nx7⟩:=next xv H7 y7
   subst e7;refine wpAny_mono (pg _ s7 _ H7 (.ref p) u (λσ' H'=>σ'=some v1::some v2::D8 σ idx/\H'=H7) I7' r7 #[p,[v1,v2],rfl,sq7,rfl,v1,[v2],rfl,v2,[],rfl,rfl,rfl,rfl]) (λ_ s8 h8=>?_) λ_ _ z=>z.elim;obtain⟨σ8,H8,I8,e8,e8'⟩:=h8;subst e8 e8';have again:∀{H9:Hp}{s9:Shared}{ys':List V}{m':Nat},Inv (AB X N scope cl C s2 H2 fp) ([]++KC fp s7.heap) (some v1::some v2::D8 σ idx) H9 s9->H9 D=some (.lst ys')->m'<n->W (i+1) m' ys' H9 ->
    ∃m,m<n/\∃i z1 z2 H' ys,Inv (AB X N scope cl C s2 H2 fp) [] (z1::z2::D8 σ idx) H' s9/\tn i s9.heap/\(∀b∈fp,H' b=none)/\H' D=some (.lst ys)/\W i m ys H':=λ{H9 s9 ys' m'} I9 hD9 hm w9=>by
    refine#[m',hm,i+1,some v1,some v2,H9,ys',I9.unpinned,T.keep _ _ _ st7 λb hb o e=>(I9.pin (b,o) (qAA _ (qAA _ (DE hb e)))).1,λb hb=>?_,hD9,w9];obtain⟨o,e,d⟩:=T.obj _ _ st7 b hb;exact(I9.pin (b,o) (qAA _ (qAA _ (DE hb e)))).2.1
   refine wpAny_mono (helt cl C s2 H2 fp _ s8 _ H8 _ I8 nx7) (λy s10 hh=>?_) λ_ _ z=>z.elim;obtain⟨v,H10,I10,r10,hD10,hl,m',hm,w'⟩:=hh;refine wpAny_mono (AY (X:=AB X N scope cl C s2 H2 fp) _ s10 _ H10 (.ref D) [v] (.ref D) [y] (λ_ H'=>H'=upd H10 D (.lst (ys++[v]))) I10 rfl (.cons r10 .nil) #[D,ys,v,rfl,rfl,hD10,hl,rfl]) (λ_ s11 hh=>?_) λ_ _ z=>z.elim;obtain⟨_,H11,I11,_,e11⟩:=hh;subst e11;exact again I11 Au hm w'
 exact codeAny_compStart_list (loop _ rfl) (T.self X.A 0 _ _ _ st4 (loop _ rfl))
theorem TC {elt iter:Expr}{wi:TI}{te:Hp->TE}{pos:Pos}(O:Ec X x y' scope N idx)(hc:X.calm=true)(hi:PI X (.Tuple [.Name x px,.Name y' py'] kt pt) iter wi)
 (helt:∀cl C s₀ H₀ fp,PE (AB X N scope cl C s₀ H₀ fp) elt (te H₀))
 (hs:∀x,foldedSetIterable iter X.env x=pure x:=by intro _;rfl):PE X (.ListComp elt [#[.Tuple [.Name x px,.Name y' py'] kt pt,iter,[],0]] scope pos) (OE X.K idx wi te):=by
 intro pins s σ H Q I h;rw[eval_ListComp];refine My (use:=none) O hc hi helt hs I h λs2 H2 fp cl C D σ' H' s' I2 f2 hC I' q=>?_;obtain⟨m,hn,_⟩:=I'.loc;exact#[m,hn,λh' hs'=>#[.ref D,H',Hj I2 f2 hC I' hs',rfl,q]]
theorem Nv {i:Nat}{y:Str}{py spos:Pos}{elt iter:Expr}{wi:TI}{te:Hp->TE}{pos:Pos}(O:Ec X x y' scope N idx)(hc:X.calm=true)(hi:PI X (.Tuple [.Name x px,.Name y' py'] kt pt) iter wi)
 (helt:∀cl C s₀ H₀ fp,PE (AB X N scope cl C s₀ H₀ fp) elt (te H₀))(hN:X.N.Nodup)(hy:X.N[i]? = some y)(hly:Loc X.env.scope y)
 (hsw:swapsWith (.ListComp elt [#[.Tuple [.Name x px,.Name y' py'] kt pt,iter,[],0]] scope pos) (some (.Name y py)) spos.line X.env=pure true:=by rfl)(hs:∀x,foldedSetIterable iter X.env x=pure x:=by intro _;rfl)
 (hfn:X.fn y=true\/X.env.scope.names.lookup y=some .local:=by first|exact .inl rfl|exact .inr rfl|assumption) :
 PS X (.Assign [.Name y py] (.ListComp elt [#[.Tuple [.Name x px,.Name y' py'] kt pt,iter,[],0]] scope pos) spos) (W9 i (OE X.K idx wi te)):=by
 intro pins s σ H D I h;rw[exec_Assign_Name_used _ _ _ _ hsw];refine wpAny_bind (wpAny_standAt (wpAny_bind ?_));show wpAny _ X.A (do let _ <-comprehension (.ListComp elt [#[.Tuple [.Name x px,.Name y' py'] kt pt,iter,[],0]] scope pos) scope X.env _ (newList []) false (eval iter X.env) (some (assign (.Name y py) X.env))) _ _ s;refine wpAny_bind (wpAny_mono (My (use:=some (assign (.Name y py) X.env)) (QQ:=λ_ s'=>SP X pins D .next s') O hc hi helt hs I h λs2 H2 fp cl C E σ' H' s' I2 f2 hC I' q=>?_) (λ_ s' hq=>wpAny_pure (wpAny_pure hq)) λ_ _ e=>e);have I3:Inv X pins σ H' s':=Hj (h':=s'.heap) I2 f2 hC I' #[rfl,λ_ _=>rfl];obtain⟨mC,hnC,_⟩:=I'.loc;have h0:X.s₀.heap.objs.size<=C:=qAO I2.sz (qBs hC);have hCL:C≠X.env.locals:=qBt (qBi I2.lt hC);have hCc:∀y c,X.env.cells.lookup y=some c->c≠C:=λy c e=>by
  obtain⟨v,ic⟩:=I2.cell y c e;exact qAx (qBi ic.lt hC)
 have hCp:∀p∈X.pn++pins,p.1≠C:=λp hp=>qAx (qBi (qAk (I2.pin p hp).1) hC);show wpAny _ X.A (assign (.Name y py) X.env (.ref E)) _ _ _;refine wpAny_assign_Name (JQ (v:=.ref E) I3 hN hy hly rfl (λs4 I4 hb=>?_) hfn);obtain⟨a,hsa,ha⟩:=hb;have hCa:C≠a:=by
  rcases ha with rfl|ha
  .exact hCL
  .exact λz=>hCc y a ha z.symm
 exact#[mC,hnC.sameBut hsa hCa,λh' hs'=>#[_,H',Rv I4 hs' h0 I'.free hCL hCc hCp,q]]
end
def Ud (τ:Tau)(idx:List Nat)(x y:D):Tau:=some (.d x)::some (.d y)::(D8 τ idx).map (Option.map S.share)
section
variable {X:Cx}{x y':Str}{px py' pt pos:Pos}{kt:Nat}{scope:Scope}{N:List Str}{idx:List Nat}{σ:St}{τ:Tau}{elt:Expr}{ta:TA3}{te:TE3}
theorem RB {B p p0 q:HZ}{d e:D}{v u:V}(r:Rep X B τ σ p)(e0:Ext p p0)(e':Ext p0 q)(iv:Is X.K q.z v d)(iu:Is X.K q.z u e):Rep (cxC X N scope p0.h) p0 (Ud τ idx d e) (some v::some u::D8 σ idx) q:=by
 have base:=Oe (N:=N) (scope:=scope) (idx:=idx) r e0 e' iu;have no:∀(i:Nat)(xs:List D),¬(Ud τ idx d e)[i]? = some (some (.l xs)):=λi xs z=>by
  cases i with
  |zero=>cases z
  |succ k=>
   have z':(Ux τ idx e)[k]? = some (some (.l xs)):=z;cases k with
   |zero=>cases z'
   |succ k=>
    have z2:((D8 τ idx).map (Option.map S.share))[k]? = some (some (.l xs)):=z';rw[qAd]at z2;cases q:(D8 τ idx)[k]? with
    |none=>rw[q]at z2;cases z2
    |some o=>
     rw[q]at z2;cases o with
     |none=>cases z2
     |some s0=>
      have z3:s0.share=.l xs:=qAo (qAo z2);cases s0<;>cases z3
 refine#[?_,e',λi s hs=>?_,λi xs a z _=>absurd z (no i xs),λi j xs s a _ z _ _ _=>absurd z (no i xs),λ_=>BQ.refl _,λk a h=>by cases h]
 .have:=base.len;show(some u::D8 σ idx).length+1=(Ux τ idx e).length+1;rw[this]
 .cases i with
  |zero=>cases hs;exact#[v,rfl,iv]
  |succ k=>exact base.val k s hs
def RC (idx:List Nat)(ta:TA3)(te:TE3):TE3:=λτ R=>ta τ λss=>∃(s1 s2:S)(xs ys:List D),ss=[s1,s2]/\items s1=some xs/\(s2=.r ys\/s2=.d (.lst ys))/\∃os:List D,↥os=min ↥xs ↥ys /\
 (∀(n:Nat)(x y:D),xs[n]? = some x->ys[n]? = some y->te (Ud τ idx x y) (λs=>dd s.arg λd=>os[n]? = some d))/\↥os<=100000/\R (.l os)
theorem Zy {K:W.Frag}{p:HZ}{v:V}{s:S}{xs:List D}(h:IsS K p v s)(hz:BQ p.z p.h)(hs:items s=some xs):∃a vs b,v=.ref a/\SqB K b p.h a vs/\Iss K p.z vs xs:=by
 cases s with
 |d z=>
  cases z with
  |tup zs=>cases hs;obtain⟨a,vs,rfl,h3,h4⟩:=Is.tup_inv h;exact#[a,vs,true,rfl,SqT.same hz h3,h4]
  |lst zs=>cases hs;obtain⟨a,vs,rfl,h3,h4⟩:=Is.lst_inv h;exact#[a,vs,false,rfl,hz.seq h3,h4]
  |_=>cases hs
 |l zs=>cases hs;obtain⟨a,vs,rfl,h3,h4⟩:=h;exact#[a,vs,false,rfl,SqL.of h3,h4]
 |r zs=>cases hs;obtain⟨a,vs,rfl,h3,h4⟩:=h;exact#[a,vs,false,rfl,h3,h4]
theorem SqB.same {K:W.Frag}{b:Bool}{H H':Hp}{a:Addr}{vs:List V}(e:BQ H H')(h:SqB K b H a vs):SqB K b H' a vs:=by
 unfold SqB at *
 cases b with
 |true=>exact SqT.same e h
 |false=>exact e.seq h
theorem Mb {Q:VK}{H:Hp}(h:FE X (RC idx ta te) σ H Q):OE X.K idx (Y1 X.K (FA X ta)) (λH₀=>FE (cxC X N scope H₀) te) σ H Q:=by
 obtain⟨B,z,τ,R,r,ht,q⟩:=h;refine#[B,z,τ,_,r,ht,λss vs p1 e1 i1 h1=>?_];obtain⟨s1,s2,xs,ys,rfl,hx,hy,os,hlen,hel,hsz,hR⟩:=h1;obtain⟨w1,w2,rfl,is1,is2⟩:∃w1 w2,vs=[w1,w2]/\IsS X.K p1 w1 s1/\IsS X.K p1 w2 s2:=by
  have hl:=i1.1
  match vs,hl with
  |[w1,w2],_=>exact#[w1,w2,rfl,(i1.2 0 w1 s1 rfl rfl).1,(i1.2 1 w2 s2 rfl rfl).1]
 obtain⟨a1,vs1,b,rfl,q1,j1⟩:=Zy is1 e1.sub hx;have hy':items s2=some ys:=by rcases hy with rfl|rfl<;>rfl
 obtain⟨a2,vs2,q2,j2,rfl⟩:∃a2 vs2,SqL X.K p1.h a2 vs2/\Iss X.K p1.z vs2 ys/\w2=.ref a2:=by
  rcases hy with rfl|rfl
  .obtain⟨p,us,e,h3,h4⟩:=is2;exact#[p,us,h3,h4,e]
  .obtain⟨p,us,e,h3,h4⟩:=Is.lst_inv is2;exact#[p,us,e1.sub.seq h3,h4,e]
 refine#[a1,a2,rfl,b,#[vs1,q1],#[vs2,q2],λD' hD hK=>?_];have sz:(100000:Nat)<sizeLine:=∅;have q2':SqB X.K false p1.h a2 vs2:=q2;refine#[λi m us H'=>m=↥os-i/\i<=↥os/\∃z',Ext p1 #[H',z']/\z' D'=none/\Iss X.K z' us (os.take i),#[↥os,rfl,qA4 _,p1.z,Ext.own e1.sub hD _,e1.sub.free hD,Iss.nil],?_];rintro i m us H' hD' ⟨rfl,hi,z',hs,hzD,hiss⟩;have q1h:SqB X.K b H' a1 vs1:=q1.same hs.hh;have q2h:SqB X.K false H' a2 vs2:=q2'.same hs.hh;have l1:=j1.1;have l2:=j2.1;by_cases hlt:i<↥os
 .have n1:i<↥vs1:=();have n2:i<↥vs2:=();refine .inr #[#[vs1,vs2,_,_,q1h,q2h,qAc n1,qAc n2],λv H'' hy2=>?_];obtain⟨p,v1,v2,hp,rfl,g1,g2,rfl⟩:=hy2;obtain⟨d1,hd1,id1⟩:=EC j1 (g1 vs1 q1h);obtain⟨d2,hd2,id2⟩:=EC j2 (g2 vs2 q2h);have eo:Ext #[H',z'] #[upd H' p (.tup [v1,v2]),z']:=Ext.own hs.sub hp _;have hs2:=hs.trans eo;refine#[p,v1,v2,rfl,.inl (.inl Au),?_];have rr:Rep (cxC X N scope p1.h) p1 (Ud τ idx d1 d2) (some v1::some v2::D8 σ idx) #[upd H' p (.tup [v1,v2]),z']:=RB r e1 hs2 (id1.mono hs.zz) (id2.mono hs.zz);have hDp:D'≠p:=by rintro rfl;rw[hD']at hp;cases hp
  have hD2:upd H' p (.tup [v1,v2]) D'=some (.lst us):=by rw[Ao hDp];exact hD'
  have hys:↥us<=i:=by rw[hiss.1,qAZ];omega
  have keep:∀q:HZ,Ext #[upd H' p (.tup [v1,v2]),z'] q->q.z D'=none:=λq e=>by
   cases y:q.z D' with
   |none=>rfl
   |some o=>
    rcases e.new D' o y with y|y
    .exact nomatch (hzD.symm.trans y)
    .exact nomatch (hD2.symm.trans y)
  refine#[_,_,_,_,rr,hel i d1 d2 hd1 hd2,λs v3 q4 e4 i4 f4 h4=>?_];obtain⟨y,hy',h4⟩:=EY h4;obtain⟨z5,e5,i5⟩:=EW e4 i4 f4;rw[hy']at i5;have hD4:q4.h D'=some (.lst us):=e5.hh _ _ hD2;have hz5:z5 D'=none:=keep _ e5;refine#[hD4,(),↥os-(i+1),(),rfl,hlt,z5,?_,hz5,?_]
  .have e15:=hs2.trans e5;refine#[λb o hb'=>?_,e15.zz,λb o hb'=>?_,e15.new]
   .have hne:b≠D':=by rintro rfl;rw[hD]at hb';cases hb'
    show upd q4.h D' _ b=some o;rw[Ao hne];exact e15.hh b o hb'
   .have hne:b≠D':=by
     rintro rfl;have hb2:z5 b=some o:=hb';rw[hz5]at hb2;cases hb2
    show upd q4.h D' _ b=some o;rw[Ao hne];exact e15.sub b o hb'
  .rw[qBH,h4];exact(hiss.mono e5.zz).snoc i5
 .have ei:i=↥os:=();subst ei;rw[List.take_length]at hiss;refine .inl #[#[vs1,vs2,q1h,q2h,()],q (.l os) _ #[H',z'] (e1.trans hs) #[D',us,rfl,hD',hiss] (λxs a _ h2=>?_) hR];cases h2;exact#[e1.hh.free hD,hK,hzD]
variable {e1 e2:Expr}{np pn:Pos}
theorem WI (O:Ec X x y' scope N idx)(hc:X.calm=true)(hi:PI X (.Tuple [.Name x px,.Name y' py'] kt pt) (.Call (.Name "zip" np) [e1,e2] [] pn) (Y1 X.K (FA X ta)))(helt:∀cl C s₀ H₀ fp,PE3 (AB X N scope cl C s₀ H₀ fp) elt te)
 (hs:∀x,foldedSetIterable (.Call (.Name "zip" np) [e1,e2] [] pn) X.env x=pure x:=by intro _;rfl):PE3 X (.ListComp elt [#[.Tuple [.Name x px,.Name y' py'] kt pt,.Call (.Name "zip" np) [e1,e2] [] pn,[],0]] scope pos) (RC idx ta te):=
 #[BJ (TC O hc hi (Lc helt) hs) λσ H Q h=>Mb h]
theorem XU {i:Nat}{y:Str}{py spos:Pos}(O:Ec X x y' scope N idx)(hc:X.calm=true)(hi:PI X (.Tuple [.Name x px,.Name y' py'] kt pt) (.Call (.Name "zip" np) [e1,e2] [] pn) (Y1 X.K (FA X ta)))(helt:∀cl C s₀ H₀ fp,PE3 (AB X N scope cl C s₀ H₀ fp) elt te)
 (hN:X.N.Nodup)(hy:X.N[i]? = some y)(hly:Loc X.env.scope y)
 (hsw:swapsWith (.ListComp elt [#[.Tuple [.Name x px,.Name y' py'] kt pt,.Call (.Name "zip" np) [e1,e2] [] pn,[],0]] scope pos) (some (.Name y py)) spos.line X.env=pure true:=by rfl)(hs:∀x,foldedSetIterable (.Call (.Name "zip" np) [e1,e2] [] pn) X.env x=pure x:=by intro _;rfl)
 (hfn:X.fn y=true\/X.env.scope.names.lookup y=some .local:=by first|exact .inl rfl|exact .inr rfl|assumption)(hp:E9 X i:=by first|exact Fj rfl|exact E8 rfl ∅|assumption) :
 PS3 X (.Assign [.Name y py] (.ListComp elt [#[.Tuple [.Name x px,.Name y' py'] kt pt,.Call (.Name "zip" np) [e1,e2] [] pn,[],0]] scope pos) spos) (Y4 i (RC idx ta te)):=
 #[CQ (Nv O hc hi (Lc helt) hN hy hly hsw hs hfn) λD2 σ H hh=>by obtain⟨B,z,τ,D3,r,ht,c⟩:=hh;exact Mb #[B,z,τ,_,r,ht,λs v H' e i f h=>by
  cases s with
  |r _=>exact h.elim
  |d y=>exact c.nx _ _ _ (r.set e i f rfl hp) h
  |l ys=>exact c.nx _ _ _ (r.set e i f rfl hp) h]]
end
def LP (fN:List Str)(scope:Scope)(N:List Str):Nat->List Nat->Bool
 |_,[]=>true
 |k,j::r=>(match N[k+2]?,fN[j]? with
  |some y,some y'=>y==y'&&(scope.names.lookup y==some NameKind.free)
  |_,_=>false)&&LP fN scope N (k+1) r
def O0 (fsc:Scope)(fN:List Str)(x z:Str)(scope:Scope)(N:List Str)(idx:List Nat):Bool:=
 (scope.kind == .function)&&scope.names.all (λy=>!(y.2 == .cell))&&scope.names.all (λy=>!(y.2 == .local)||scope.names.lookup y.1==some .local)&&(scope.names.lookup x==some NameKind.local)&&(scope.names.lookup z==some NameKind.local) &&
 scope.names.all (λy=>!(y.2 == .free)||fsc.names.lookup y.1==some .cell)&&decide N.Nodup&&(N[0]? == some x)&&(N[1]? == some z)&&(↥N==↥idx+2)&&LP fN scope N 0 idx
theorem Si {fN:List Str}{scope:Scope}{N:List Str}:∀{idx:List Nat}{k0:Nat},LP fN scope N k0 idx=true->∀(k j:Nat),idx[k]? = some j->∃y,N[k0+k+2]? = some y/\fN[j]? = some y/\scope.names.lookup y=some .free
 |[],_,_,_,_,h=>by simp at h
 |i::r,k0,h,k,j,hk=>by
  unfold LP at h;rw[qAW]at h;cases k with
  |zero=>
   have e:i=j:=by simpa using hk
   subst e;obtain⟨h1,_⟩:=h;split at h1
   .rename_i y y' e1 e2;rw[qAW]at h1;have ey:y=y':=by simpa using h1.1
    subst ey;exact#[y,e1,e2,by simpa using h1.2]
   .cases h1
  |succ k=>
   obtain⟨y,a,b,c⟩:=Si h.2 k j (by simpa using hk);exact#[y,by rw[<-a];congr 1;omega,b,c]
theorem Ec.mk' {X:Cx}{x z:Str}{scope:Scope}{N:List Str}{idx:List Nat}(fsc:Scope)(fN:List Str)(h1:X.env.scope=fsc)(h2:X.N=fN)(h:O0 fsc fN x z scope N idx=true):Ec X x z scope N idx:=by
 subst h1 h2;unfold O0 at h;simp only[qAW]at h;obtain⟨⟨⟨⟨⟨⟨⟨⟨⟨⟨a1,a2⟩,a3⟩,a4⟩,b4⟩,a5⟩,a6⟩,a7⟩,b7⟩,a8⟩,a9⟩:=h;refine#[by simpa using a1,λy hy=>?_,λy hy hl=>?_,by simpa using a4,by simpa using b4,λy hy hf=>?_,by simpa using a6,by simpa using a7,by simpa using b7,by simpa using a8,λk j hk=>?_]
 .have:=qAN.mp a2 y hy;simpa using this
 .have:=qAN.mp a3 y hy;rw[hl]at this;simpa using this
 .have:=qAN.mp a5 y hy;rw[hf]at this;show X.env.scope.names.lookup y.1=some .cell;simpa using this
 .have:=Si a9 k j hk;simpa using this
theorem LX {α β:Type}{f g:α->Option β}:∀{l:List α},(∀a∈l,f a=g a)->l.filterMap f=l.filterMap g
 |[],_=>rfl
 |a::l,h=>by
  rw[qBh,qBh,h a (qAl.mpr (.inl rfl)),LX λb hb=>h b (qAl.mpr (.inr hb))]
theorem Tu (items:List Value):slicePick items.toArray none none (some (-1))=items.reverse.toArray:=by
 unfold slicePick
 congr 1
 have e:sliceBounds none none (some (-1)) items.toArray.size=((items.length:Int)-1,-1,-1):=by
  unfold sliceBounds;simp
 rw[e];unfold sliceRange;have c:(if (-1:Int)>0 then (if ((items.length:Int)-1) < -1 then ((-1:Int)-((items.length:Int)-1) + -1-1) / -1 else 0) else (if ((items.length:Int)-1) > -1 then (((items.length:Int)-1) - -1 - -1-1)/(- -1) else 0))=(items.length:Int):=by
  rw[if_neg ∅];split
  .rw[show(- -1:Int)=1 from ∅,Int.ediv_one];omega
  .omega
 show((List.range (if (-1:Int)>0 then (if ((items.length:Int)-1) < -1 then ((-1:Int)-((items.length:Int)-1) + -1-1) / -1 else 0) else (if ((items.length:Int)-1) > -1 then (((items.length:Int)-1) - -1 - -1-1)/(- -1) else 0)).toNat).map fun(k:Nat)=>(((items.length:Int)-1) + -1*(k:Int)).toNat).filterMap (items.toArray[·]?)=_;rw[c,qBG];have q:((List.range items.length).map fun(k:Nat)=>(((items.length:Int)-1) + -1*(k:Int)).toNat).filterMap (items.toArray[·]?)=(List.range items.length).filterMap λk=>items[items.length-1-k]? := by
  rw[qBy];refine LX λk hk=>?_;have hk:=qAu.mp hk;show items.toArray[(((items.length:Int)-1) + -1*(k:Int)).toNat]? = _;rw[show(((items.length:Int)-1) + -1*(k:Int)).toNat=items.length-1-k from (),qBB]
 rw[q];have g:(List.range items.length).filterMap (λk=>items[items.length-1-k]?)=(List.range items.length).filterMap (λk=>items.reverse[k]?):=by
  refine LX λk hk=>?_;have hk:=qAu.mp hk;rw[qBC hk]
 rw[g];have all:∀(l:List Value),(List.range ↥l).filterMap (λk=>l[k]?)=l:=λl=>by
  induction l with
  |nil=>rfl
  |cons a l ih=>
   rw[qAQ,List.range_succ_eq_map,qBh,qBy];show a::_=_
   congr 1
 have:=all items.reverse;rw[qBw]at this;exact this
section
variable {X:Cx}{e st:Expr}{te ts:TE3}{pos p2:Pos}
def dU (K:W.Frag)(t:TE)(ts:TE):TE:=λσ H Q=>t σ H λx H1=>ts σ H1 λu H2=>u=.int (-1)/\∃a xs,x=.ref a/\SqL K H2 a xs/\∀p,H2 p=none->K.lookup p=none->Q (.ref p) (upd H2 p (.lst xs.reverse))
theorem XC {t t2:TE}(he:PE X e t)(hs:PE X st t2):PE X (.Subscript e (.Slice none none (some st) p2) pos) (dU X.K t t2):=by
 intro pins s σ H Q I h;refine Subscript_ (thn (he pins s σ H _ I h) λv s1 hh=>?_);obtain⟨x,H1,I1,r1,q1⟩:=hh;refine wpAny_Slice ?_;rw[evalPart_none];refine wpAny_pure (wpAny_pure ?_);rw[evalPart_some];refine thn (hs pins s1 σ H1 _ I1 q1) λvs s3 hh=>?_;obtain⟨u,H3,I3,r3,e3,a,xs,e4,hx,q⟩:=hh;subst e3 e4;obtain⟨tk,rfl⟩:=r3;cases r1;have I4:Inv X pins σ H3 { s3 with heap:=s3.heap.push { cls:=.type "slice",data:=.fields (List.toArray [.none,.none,.int (-1) tk]) } }:=I3.kept (t':=s3.toks) λb ob q=>qAi _ q;obtain⟨its,r,ht,hz⟩:=I4.list hx;have hlen:=↥r;have go:wpAny (model X.prog X.w) X.A (getItem (.ref a) (.ref s3.heap.objs.size)) (EP X pins σ Q) X.xe { s3 with heap:=s3.heap.push { cls:=.type "slice",data:=.fields (List.toArray [.none,.none,.int (-1) tk]) } }:=by
  refine wpAny_getItem_list_slice ht.isList (Heap.IsSliceOf.new ..) .none .none (.int (-1) tk) ∅ ?_ (by rw[qAv]<;>omega);rw[Tu];refine#[.ref _,_,I4.laid (t':=s3.toks) (o:=.lst xs.reverse) (λb ob q=>qAi _ q) (qAg _) ?_,rfl,q _ (I4.hok.fresh (qAg _)) ?_]
  .exact#[by rw[qBw];exact hz,_,0,r.reverse,qAF _ rfl]
  .cases e:X.K.lookup _ with
   |none=>rfl
   |some o=>exact absurd (qAk (I4.kIn _ _ e)) (qAX _)
 show wpAny (model X.prog X.w) X.A (subscriptTail e (.Slice none none (some st) p2) (.ref a) (.ref s3.heap.objs.size)) (EP X pins σ Q) X.xe _;exact tail_any (ops:=[.ref a,.ref s3.heap.objs.size]) ht.isList.typeIs slot_list_getitem.lookup go (by with_unfolding_all rfl)
def dN (te ts:TE3):TE3:=λτ R=>te τ λs=>∃xs,(s=.r xs\/s=.l xs\/s=.d (.lst xs))/\ts τ λu=>u=.d (.int (-1))/\R (.l xs.reverse)
theorem We {K:W.Frag}{H:Hp}{vs:List V}{xs:List D}(h:Iss K H vs xs):Iss K H vs.reverse xs.reverse:=by
 refine#[by rw[qBw,qBw];exact h.1,λi v x h1 h2=>?_];have hi:i<↥vs:=by have:=(qAf.mp h1).1;rw[qBw]at this;exact this
 rw[qBC hi]at h1;rw[qBC (by rw[<-h.1];exact hi),<-h.1]at h2;exact h.2 _ v x h1 h2
theorem Z3 (he:PE3 X e te)(hs:PE3 X st ts):PE3 X (.Subscript e (.Slice none none (some st) p2) pos) (dN te ts):=
 #[BJ (XC he.out hs.out) λσ H Q hh=>by
  obtain⟨B,z,τ,R,r,ht,q⟩:=hh;refine#[B,z,τ,_,r,ht,λs v q1 e1 i1 f1 h1=>?_];obtain⟨xs,hx,h1⟩:=h1;refine#[B,_,τ,_,r.mono e1,h1,λu v2 q2 e2 i2 f2 h2=>?_];obtain⟨rfl,hR⟩:=h2;have i1':=IsS.mono e2 i1;refine#[Is.int_inv i2,?_];have fin:∀(a:Addr)(vs:List V),v=.ref a->SqL X.K q2.h a vs->Iss X.K q2.z vs xs->∃a xs,v=.ref a/\SqL X.K q2.h a xs/\∀p,q2.h p=none->X.K.lookup p=none->Q (.ref p) (upd q2.h p (.lst xs.reverse)):=λa vs hv hq hi=>
   #[a,vs,hv,hq,λp hp hk=>q (.l xs.reverse) _ #[_,q2.z] ((e1.trans e2).trans (Ext.own e2.sub hp _)) #[p,_,rfl,Au,We hi] (λys a _ h2=>by
    cases h2;exact#[(e1.trans e2).hh.free hp,hk,e2.sub.free hp]) hR]
  rcases hx with rfl|rfl|rfl
  .obtain⟨a,vs,rfl,h3,h4⟩:=i1';exact fin a vs rfl h3 h4
  .obtain⟨a,vs,rfl,h3,h4⟩:=i1';exact fin a vs rfl (SqL.of h3) h4
  .obtain⟨a,vs,rfl,h3,h4⟩:=Is.lst_inv i1';exact fin a vs rfl (e2.sub.seq h3) h4]
end
section
variable {X:Cx}{pos:Pos}{e:Expr}{te tb:TE3}
def Wu (sp:SpL)(U:Str->Prop)(idx:List Nat)(te tb:TE3):TE3:=λτ R=>te τ λs=>∃(dom:D->Prop)(p:D->Bool),(∀x,dom x->tb (some (.d x)::J4 τ idx) λs=>s=.d (.bl (p x)))/\∀a,sp a dom p [s.arg,.d (.ref a)] R U
theorem Ip {k kb:Nat}{g x y:Str}{np lp:Pos}{ps:List Str}{sp:SpL}{c T:Addr}{params:Arguments}{body:Expr}{scope:Scope}{N:List Str}{idx:List Nat}(cal:Y8 X.prog X.w X.K X.mg X.base k (kb+1) g ps sp)(hr:FI k X.A)(hg:Gl X g)
 (ht:W.tabIn X.K y=some (c,T))(hp:(recsOf X.prog).any (λd=>d.name==y)=true)(hcode:X.env.code=.ref c)(O:Ba X x scope N idx)(he:PE3 X e te)
 (hb:∀cl nm a cdv A outer s H,FI kb (A.deeper (W.envX nm scope s.heap.objs.size a cdv cl))->PE3 (SJ X N scope cl nm a cdv A outer s H) body tb)
 (hfn:∀y,X.fn y=true:=by intro _;rfl)(hdef:defaultsOf params X.env=([],[]):=by rfl)(hco:scope.isCoroutine=false:=by rfl)(hgen:scope.isGenerator=false:=by rfl)
 (hbind:∀(q:Str)(cl:List (Str×Addr))(pm cv ct u:Value),bindArgs (qB4 "<lambda>" q params body scope cl pm cv ct) #[[u],[]]=pure [(x,u)]:=by intros;rfl)
 (hdb:(g==("__debug__":Str))=false:=by decide)(hs:starEach [e,.Lambda params body scope lp] X.env=(false,eval e X.env)::starEach [.Lambda params body scope lp] X.env:=by exact Dv rfl) :
 PE3 X (.Call (.Name g np) [e,.Lambda params body scope lp] [] pos) (Wu sp NoU idx te tb):=by
 refine#[λpins s σ H Q I hh=>?_];obtain⟨B,z,τ,R,r,ht1,q⟩:=hh;obtain⟨f,fd,F,hm,hk,hbi⟩:=cal.ex;obtain⟨cl,ecl,hcl,hcl2⟩:=Fz (scope:=scope) (env:=X.env) λy hy hf=>I.ok.has y.1 (.inl (O.free y hy hf));refine wpAny_Call_Name_kw (IS I hg hm ?_ hdb);refine qCm (h₀:=X.base) I.ok.mod.kin hk ?_ hs rfl;rw[hs];refine Calls.spliced_cons (thn (he.out pins s σ H (λv1 H1=>∃z1 d,Ext #[H,z] #[H1,z1]/\IsS X.K #[H1,z1] v1 d/\d.own=false/\∃(dom:D->Prop)(p:D->Bool),(∀x,dom x->tb (some (.d x)::J4 τ idx) λs=>s=.d (.bl (p x)))/\∀a,sp a dom p [d,.d (.ref a)] R NoU) I #[B,z,τ,_,r,ht1,λs2 v2 q2 e2 i2 f2 h2=>?_]) λu1 s1 #[v1,H1,I1,rv1,z1,d,e1,i1,ow,dom,p,hdom,hsp]=>?_)
 .obtain⟨dom,p,hdom,h3⟩:=h2;obtain⟨z5,e5,i5⟩:=EW e2 i2 f2;exact#[z5,s2.arg,e5,i5,Sk s2,dom,p,hdom,h3]
 have hs2:starEach [Expr.Lambda params body scope lp] X.env=(false,eval (.Lambda params body scope lp) X.env)::starEach [] X.env:=Dv rfl;rw[hs2];refine Calls.spliced_cons (OY I1 ht hp hcode hdef ecl λa c' H2 s2 fo oc fs nm qual tq pm ctv I2 sm ha hfo hc hoc hfs=>?_);refine Calls.spliced_nil #[I2.kIn,?_];have e12:Ext #[H,z] #[H2,z1]:=e1.trans (Ext.grow e1.sub sm);have r2:Rep X B τ σ #[H2,z1]:=r.mono e12;have hL:=Uj O hfn I2 hcl hcl2 ha hfo hc hoc hfs hco hgen hbind hb r2 hdom;have i1':IsS X.K #[H2,z1] v1 d:=IsS.mono (Ext.grow e1.sub sm) i1;have hl:[u1,Value.ref a].length=↥ps:=F.len a dom p _ _ _ (hsp a);have rvs:Cb [v1,V.ref a] [u1,Value.ref a]:=.cons rv1 (.cons rfl .nil);refine wpAny_call (codeAny_mono (F.run X.A X.stack s2 H2 #[[u1,.ref a],[]] [u1,.ref a] [v1,.ref a] Q (λ_ _ _=>False) a dom p hr I2.env0 ?_ rvs hL #[z1,[d,.d (.ref a)],R,NoU,e12.sub,#[rfl,λi v s h1 h2=>?_],hsp a,λs v q3 e3 i3 f3 h3=>q s v q3 (e12.trans e3) i3 (K7 e12 f3) h3,λ_ _ _ _ _ z=>z.elim]) λrr s3 hq=>?_)
 .have:=hbi s2 [u1,.ref a] I2.kIn (by simpa using hl);simpa using this
 .match i,h1,h2 with
  |0,h1,h2=>cases h1;cases h2;exact#[i1',ow]
  |1,h1,h2=>cases h1;cases h2;exact#[Is.ref a,rfl]
 cases rr with
 |error e=>exact(show False from hq).elim
 |ok fl=>
  cases fl with
  |ret u=>exact I2.after hq
  |next=>exact False.elim hq
  |brk=>exact False.elim hq
  |cont=>exact False.elim hq
end
section
variable {X:Cx}{e a b:Expr}{te ta tb:TE3}{pos:Pos}
end
end L3
namespace CH
abbrev Ln2:=Rat×Rat
def ev (l:Ln2)(t:Rat):Rat:=l.1*t+l.2
abbrev Ps:=List (Rat×Ln2)
def bg (P:Ps)(i:Nat):Rat:=(P.getD i (0,(0,0))).1
def ln (P:Ps)(i:Nat):Ln2:=(P.getD i (0,(0,0))).2
def LeO (t:Rat):Option Rat->Prop
 |none=>True
 |some u=>t<=u
def LtO (t:Rat):Option Rat->Prop
 |none=>True
 |some u=>t<u
theorem LtO.le {t:Rat}{T:Option Rat}(h:LtO t T):LeO t T:=by
 cases T with
 |none=>trivial
 |some u=>exact qAj h
structure PU (P:Ps)(h:Rat->Rat)(T:Option Rat):Prop where
 up:∀i,i+1<↥P->bg P i<bg P (i+1)
 lt:∀i,i<↥P->LtO (bg P i) T
 v:∀i,i<↥P->∀t,bg P i<=t->(i+1<↥P->t<=bg P (i+1))->LeO t T->h t=ev (ln P i) t
theorem L9 {P:Ps}{c:Rat×Ln2}{i:Nat}(h:i<↥P):bg (P++[c]) i=bg P i/\ln (P++[c]) i=ln P i:=by
 have e:(P++[c]).getD i (0,(0,0))=P.getD i (0,(0,0)):=by
  rw[qAe,qAe,qAt h]
 unfold bg ln;rw[e];exact#[rfl,rfl]
theorem Y6 {P:Ps}{c:Rat×Ln2}:bg (P++[c]) ↥P=c.1/\ln (P++[c]) ↥P=c.2:=by
 have e:(P++[c]).getD ↥P (0,(0,0))=c:=by
  rw[qAe,qAw (qAg _),qCv];rfl
 unfold bg ln;rw[e];exact#[rfl,rfl]
theorem PU.push {P:Ps}{h:Rat->Rat}{T:Option Rat}{b:Rat}{l:Ln2}(p:PU P h (some b))(hb:LtO b T)(hv:∀t,b<=t->LeO t T->h t=ev l t):PU (P++[(b,l)]) h T:=by
 have hl:(P++[(b,l)]).length=↥P+1:=by simp
 have r:=Y6 (P:=P) (c:=(b,l));refine#[λi hi=>?_,λi hi=>?_,λi hi t h1 h2 h3=>?_]
 .rw[hl]at hi;have hi':i<↥P:=();rw[(L9 hi').1];by_cases c:i+1<↥P
  .rw[(L9 c).1];exact p.up i c
  .rw[show i+1=↥P from (),r.1];exact p.lt i hi'
 .rw[hl]at hi;by_cases c:i<↥P
  .rw[(L9 c).1];have:=p.lt i c;cases T with
   |none=>trivial
   |some u=>
    have h1:bg P i<b:=this;have h2:b<u:=hb;show bg P i<u;grind
  .rw[show i=↥P from (),r.1];exact hb
 .rw[hl]at hi h2;by_cases c:i<↥P
  .rw[(L9 c).2];rw[(L9 c).1]at h1;have h2':=h2 ();by_cases c2:i+1<↥P
   .rw[(L9 c2).1]at h2';exact p.v i c t h1 (λ_=>h2') (by
     have:=p.lt _ c2;have h1:bg P (i+1)<b:=this;show t<=b;grind)
   .rw[show i+1=↥P from (),r.1]at h2';exact p.v i c t h1 (λz=>absurd z c2) h2'
  .have e:i=↥P:=();subst e;rw[r.1]at h1;rw[r.2];exact hv t h1 h3
theorem PU.skip {P:Ps}{h:Rat->Rat}{T:Option Rat}{b:Rat}{l:Ln2}(p:PU P h (some b))(hb:LtO b T)(ne:0<↥P)(e:ln P (↥P-1)=l)(hv:∀t,b<=t->LeO t T->h t=ev l t):PU P h T:=by
 refine#[p.up,λi hi=>?_,λi hi t h1 h2 h3=>?_]
 .have:=p.lt i hi;cases T with
  |none=>trivial
  |some u=>
   have h1:bg P i<b:=this;have h2:b<u:=hb;show bg P i<u;grind
 .by_cases c:t<=b
  .exact p.v i hi t h1 h2 c
  .have hn:¬i+1<↥P:=λz=>by
    have h4:=h2 z;have h5:bg P (i+1)<b:=p.lt _ z;grind
   rw[show i=↥P-1 from (),e];exact hv t ⋯ h3
def mp (a b:Rat):Rat:=if a<b then a else b
theorem Y5 {a b:Rat}(h:a<=b):mp a b=a:=by unfold mp;split<;>grind
theorem ZW {a b:Rat}(h:b<=a):mp a b=b:=by unfold mp;split<;>grind
def aV (l1 l2:Ln2)(a:Rat):Option Rat->Prop
 |some u=>a<u/\ev l1 u<=ev l2 u
 |none=>l1.1<=l2.1
def ZA (l1 l2:Ln2)(a:Rat):Option Rat->Prop
 |some u=>a<u/\ev l2 u<ev l1 u
 |none=>l2.1<l1.1
theorem Mi {l1 l2:Ln2}{a t:Rat}{T:Option Rat}(ha:a<=t)(ht:LeO t T)(n:ev l1 a<=ev l2 a)(th:aV l1 l2 a T):ev l1 t<=ev l2 t:=by
 cases T with
 |none=>
  unfold ev at *
  have h1:l1.1<=l2.1:=th;have h2:0<=(l2.1-l1.1)*(t-a):=qAh ⋯ ⋯;grind
 |some u=>
  obtain⟨h0,h1⟩:=th;unfold ev at *
  have h2:t<=u:=ht;have h3:0<u-a:=⋯;have k1:0<=(l2.1*a+l2.2-(l1.1*a+l1.2))*(u-t):=qAh ⋯ ⋯;have k2:0<=(l2.1*u+l2.2-(l1.1*u+l1.2))*(t-a):=qAh ⋯ ⋯;have k3:(l2.1*t+l2.2-(l1.1*t+l1.2))*(u-a)=(l2.1*a+l2.2-(l1.1*a+l1.2))*(u-t)+(l2.1*u+l2.2-(l1.1*u+l1.2))*(t-a):=⋯;refine qAI.mp λz=>?_;have k4:(l2.1*t+l2.2-(l1.1*t+l1.2))*(u-a)<0:=by
   have:=qA9 (a:=l1.1*t+l1.2-(l2.1*t+l2.2)) (b:=u-a) ⋯ h3;grind
  grind
def xg (l1 l2:Ln2):Rat:=(l2.2-l1.2)/(l1.1-l2.1)
theorem Pm {l1 l2:Ln2}(h:l1.1≠l2.1):ev l1 (xg l1 l2)=ev l2 (xg l1 l2):=by
 unfold ev xg;have:l1.1-l2.1≠0:=⋯;have k:(l2.2-l1.2)/(l1.1-l2.1)*(l1.1-l2.1)=l2.2-l1.2:=qA7 this;grind
theorem WM {l1 l2:Ln2}:xg l1 l2=xg l2 l1:=by
 unfold xg;by_cases h:l1.1=l2.1
 .rw[h,show l2.1-l2.1=0 from ⋯];rw[qCI,qCI];simp
 .have x1:=Pm h;have x2:=Pm (l1:=l2) (l2:=l1) (Ne.symm h);unfold xg at x1 x2;unfold ev at x1 x2;have k:(l1.1-l2.1)*((l2.2-l1.2)/(l1.1-l2.1)-(l1.2-l2.2)/(l2.1-l1.1))=0:=⋯;rcases qBg.mp k with z|z
  .grind
  .grind
theorem Jt {l1 l2:Ln2}{a:Rat}{T:Option Rat}(n:ev l1 a<ev l2 a)(th:ZA l1 l2 a T):l1.1≠l2.1/\a<xg l1 l2/\LtO (xg l1 l2) T:=by
 have s:l2.1<l1.1:=by
  cases T with
  |none=>exact th
  |some u=>
   obtain⟨h0,h1⟩:=th;unfold ev at n h1;refine qA1.mp λz=>?_;have k:0<=(l2.1-l1.1)*(u-a):=qAh ⋯ ⋯;grind
 have ne:l1.1≠l2.1:=⋯;have x:=Pm ne;have key:∀t,(l1.1-l2.1)*(xg l1 l2-t)=ev l2 t-ev l1 t:=λt=>by
  unfold ev at x ⊢;grind
 have pos:∀t,ev l1 t<ev l2 t->t<xg l1 l2:=λt h=>by
  refine qA1.mp λz=>?_;have k1:=key t;have k2:0<=(l1.1-l2.1)*(t-xg l1 l2):=qAh ⋯ ⋯;grind
 have neg:∀t,ev l2 t<ev l1 t->xg l1 l2<t:=λt h=>by
  refine qA1.mp λz=>?_;have k1:=key t;have k2:0<=(l1.1-l2.1)*(xg l1 l2-t):=qAh ⋯ ⋯;grind
 refine#[ne,pos a n,?_];cases T with
 |none=>trivial
 |some u=>exact neg u th.2
def sg (x:Rat):Int:=if x<0 then -1 else if 0<x then 1 else 0
theorem Rj {x:Rat}:sg x<0 ↔ x<0:=by unfold sg;split<;>(try split)<;>constructor<;>intro h<;>first|grind|omega
theorem QO {x:Rat}:0<sg x ↔ 0<x:=by unfold sg;split<;>(try split)<;>constructor<;>intro h<;>first|grind|omega
theorem Vr {x:Rat}:sg x=0 ↔ x=0:=by unfold sg;split<;>(try split)<;>constructor<;>intro h<;>first|grind|omega
def Ek (l1 l2:Ln2):Option Rat->Rat
 |some u=>ev l1 u-ev l2 u
 |none=>l1.1-l2.1
theorem VF {l1 l2:Ln2}{a:Rat}{T:Option Rat}(ha:LtO a T)(h:Ek l1 l2 T<=0):aV l1 l2 a T:=by
 cases T with
 |none=>exact(by have h':l1.1-l2.1<=0:=h;show l1.1<=l2.1;grind)
 |some u=>exact#[ha,by have h':ev l1 u-ev l2 u<=0:=h;grind]
theorem O7 {l1 l2:Ln2}{a:Rat}{T:Option Rat}(ha:LtO a T)(h:0<Ek l1 l2 T):ZA l1 l2 a T:=by
 cases T with
 |none=>exact(by have h':0<l1.1-l2.1:=h;show l2.1<l1.1;grind)
 |some u=>exact#[ha,by have h':0<ev l1 u-ev l2 u:=h;grind]
theorem HG {l1 l2:Ln2}{T:Option Rat}:Ek l2 l1 T=- Ek l1 l2 T:=by
 cases T with
 |none=>show l2.1-l1.1=-(l1.1-l2.1);grind
 |some u=>show ev l2 u-ev l1 u=-(ev l1 u-ev l2 u);grind
theorem MN {l1 l2:Ln2}{a:Rat}{T:Option Rat}(n:ev l1 a<ev l2 a)(th:ZA l1 l2 a T) :
 a<xg l1 l2/\LtO (xg l1 l2) T/\(∀t,a<=t->t<=xg l1 l2->ev l1 t<=ev l2 t)/\∀t,xg l1 l2<=t->LeO t T->ev l2 t<=ev l1 t:=by
 obtain⟨ne,x1,x2⟩:=Jt n th;have x:=Pm ne;refine#[x1,x2,λt h1 h2=>?_,λt h1 h2=>?_]
 .exact Mi (T:=some (xg l1 l2)) h1 h2 (qAj n) #[x1,by rw[x];exact qAb]
 .refine Mi (T:=T) h1 h2 (by rw[x];exact qAb) ?_;cases T with
  |none=>exact qAj th
  |some u=>exact#[x2,qAj th.2]
open PySem L2 L3
abbrev RL:=Int×Int×Int
abbrev RP:=(Int×Int)×RL
def lnD (l:RL):D:=.tup [.int l.1,.int l.2.1,.int l.2.2]
def rpD (p:RP):D:=.tup [.tup [.int p.1.1,.int p.1.2],lnD p.2]
structure LW (k:Nat)(l:RL)(q:Ln2):Prop where
 s:Wq k l.1 l.2.2 q.1
 c:Wq k l.2.1 l.2.2 q.2
structure PW1 (k m:Nat)(p:RP)(q:Rat×Ln2):Prop where
 t:Wq m p.1.1 p.1.2 q.1
 l:LW k p.2 q.2
structure PL (k m:Nat)(ps:List RP)(P:Ps):Prop where
 len:↥ps=↥P
 at_:∀(i:Nat)(p:RP)(q:Rat×Ln2),ps[i]? = some p->(P:List (Rat×Ln2))[i]? = some q->PW1 k m p q
theorem PL.snoc {k m:Nat}{ps:List RP}{P:Ps}{p:RP}{q:Rat×Ln2}(h:PL k m ps P)(w:PW1 k m p q):PL k m (ps++[p]) (P++[q]):=by
 refine#[by simp[h.len],λi p' q' h1 h2=>?_];by_cases c:i<↥ps
 .rw[qAt c]at h1;rw[qAt (by rw[<-h.len];exact c)]at h2;exact h.at_ i p' q' h1 h2
 .rw[qAw ()]at h1;rw[qAw (by rw[<-h.len];omega),<-h.len]at h2;cases e:i-↥ps with
  |zero=>rw[e]at h1 h2;cases h1;cases h2;exact w
  |succ n=>rw[e]at h1;cases h1
theorem LW.at_ {k m:Nat}{l:RL}{q:Ln2}{tn td:Int}{t:Rat}(h:LW k l q)(w:Wq m tn td t):Wq (k+m+1) (l.1*tn+l.2.1*td) (l.2.2*td) (ev q t):=by
 have w1:=h.s.mul w;refine#[qA5 h.s.pos w.pos,?_,?_,Bc w1.lb ()]
 .have e1:=h.s.eq;have e2:=h.c.eq;have e3:=w.eq;unfold ev;rw[qBd,qAn,qAn,qAn,e1,e2,e3];grind
 .have b1:=Aq h.s.la w.la;have b2:=Aq h.c.la w.lb;exact HU b1 b2
theorem LW.uniq {k k':Nat}{l:RL}{q q':Ln2}(h:LW k l q)(h':LW k' l q'):q=q':=by
 have hb:(l.2.2:Rat)≠0:=by
  have:=h.s.pos;intro z;have:l.2.2=0:=qBD.mp z;omega
 have cn:∀a b:Rat,a*(l.2.2:Rat)=b*(l.2.2:Rat)->a=b:=λa b e=>by
  have:(a-b)*(l.2.2:Rat)=0:=⋯;rcases qBg.mp this with z|z
  .grind
  .exact absurd z hb
 have e1:=cn _ _ (h.s.eq.symm.trans h'.s.eq);have e2:=cn _ _ (h.c.eq.symm.trans h'.c.eq);exact Prod.ext e1 e2
theorem Xm {a b:Int}{q:Rat}(hb:0<b)(e:(a:Rat)=q*(b:Rat)):sg q=a.sign:=by
 have hb:(0:Rat)<(b:Rat):=qAY.mpr hb;unfold sg;by_cases c1:q<0
 .rw[if_pos c1];have:(a:Rat)<0:=by
   have:=qA9 (a:=-q) (b:=(b:Rat)) ⋯ hb;rw[e];grind
  have:a<0:=Rat.intCast_neg_iff.mp this;rw[qBW this]
 .rw[if_neg c1];by_cases c2:0<q
  .rw[if_pos c2];have:(0:Rat)<(a:Rat):=by rw[e];exact qA9 c2 hb
   have:0<a:=qAY.mp this;rw[qB6 this]
  .rw[if_neg c2];have z:q=0:=⋯;rw[z]at e;have:(a:Rat)=0:=by rw[e];grind
   have:a=0:=qBD.mp this;rw[this];rfl
theorem VV {k m:Nat}{l1 l2:RL}{q1 q2:Ln2}{tn td:Int}{t:Rat}(h1:LW k l1 q1)(h2:LW k l2 q2)(w:Wq m tn td t) :
 ((l1.1*tn+l1.2.1*td)*l2.2.2-(l2.1*tn+l2.2.1*td)*l1.2.2).sign=sg (ev q1 t-ev q2 t):=by
 refine(Xm (b:=l1.2.2*l2.2.2*td) (qA5 (qA5 h1.s.pos h2.s.pos) w.pos) ?_).symm;have e1:=h1.s.eq;have e2:=h1.c.eq;have e3:=h2.s.eq;have e4:=h2.c.eq;have e5:=w.eq;unfold ev;simp only[qBe,qBd,qAn];rw[e1,e2,e3,e4,e5];grind
theorem Wa {k:Nat}{l1 l2:RL}{q1 q2:Ln2}(h1:LW k l1 q1)(h2:LW k l2 q2):(l1.1*l2.2.2-l2.1*l1.2.2).sign=sg (q1.1-q2.1):=by
 refine(Xm (b:=l1.2.2*l2.2.2) (qA5 h1.s.pos h2.s.pos) ?_).symm;have e1:=h1.s.eq;have e3:=h2.s.eq;simp only[qBe,qAn];rw[e1,e3];grind
theorem OJ {k:Nat}{l1 l2:RL}{q1 q2:Ln2}(h1:LW k l1 q1)(h2:LW k l2 q2)(ne:q1.1≠q2.1) :
 l1.1*l2.2.2-l2.1*l1.2.2≠0/\Rat.divInt (l2.2.1*l1.2.2-l1.2.1*l2.2.2) (l1.1*l2.2.2-l2.1*l1.2.2)=xg q1 q2:=by
 have e1:=h1.s.eq;have e2:=h1.c.eq;have e3:=h2.s.eq;have e4:=h2.c.eq;have p1:(l1.2.2:Rat)≠0:=by have:=qAY.mpr h1.s.pos;grind
 have p2:(l2.2.2:Rat)≠0:=by have:=qAY.mpr h2.s.pos;grind
 have eb:((l1.1*l2.2.2-l2.1*l1.2.2:Int):Rat)=(q1.1-q2.1)*((l1.2.2:Rat)*(l2.2.2:Rat)):=by
  simp only[qBe,qAn];rw[e1,e3];grind
 have ea:((l2.2.1*l1.2.2-l1.2.1*l2.2.2:Int):Rat)=(q2.2-q1.2)*((l1.2.2:Rat)*(l2.2.2:Rat)):=by
  simp only[qBe,qAn];rw[e2,e4];grind
 have np:(l1.2.2:Rat)*(l2.2.2:Rat)≠0:=λz=>by
  rcases qBg.mp z with z|z
  .exact p1 z
  .exact p2 z
 have nb:((l1.1*l2.2.2-l2.1*l1.2.2:Int):Rat)≠0:=λz=>by
  rw[eb]at z;rcases qBg.mp z with z|z
  .grind
  .exact np z
 refine#[λz=>nb (by rw[z];rfl),?_];rw[qAG,ea,eb];unfold xg;have n1:q1.1-q2.1≠0:=⋯;generalize (l1.2.2:Rat)*(l2.2.2:Rat)=B at *
 have k1:(q2.2-q1.2)/(q1.1-q2.1)*(q1.1-q2.1)=q2.2-q1.2:=qA7 n1;have n2:(q1.1-q2.1)*B≠0:=λz=>by
  rcases qBg.mp z with z|z
  .exact n1 z
  .exact np z
 have k2:(q2.2-q1.2)*B/((q1.1-q2.1)*B)*((q1.1-q2.1)*B)=(q2.2-q1.2)*B:=qA7 n2;have k3:((q2.2-q1.2)*B/((q1.1-q2.1)*B)-(q2.2-q1.2)/(q1.1-q2.1))*((q1.1-q2.1)*B)=0:=⋯;rcases qBg.mp k3 with z|z
 .grind
 .exact absurd z n2
theorem Zp {k:Nat}{l1 l2:RL}{q1 q2:Ln2}(h1:LW k l1 q1)(h2:LW k l2 q2)(ne:q1.1≠q2.1):Sz (k+k+1) (xg q1 q2):=by
 obtain⟨n,e⟩:=OJ h1 h2 ne;rw[<-e];exact DH n (GI (Aq h2.c.la h1.s.lb) (Aq h1.c.la h2.s.lb)) (GI (Aq h1.s.la h2.s.lb) (Aq h2.s.la h1.s.lb))
theorem Yu (a b:RL):eqN 1 (lnD a) (lnD b)=decide (a=b):=by
 have e:eqN 1 (lnD a) (lnD b)=((a.1==b.1&&(a.2.1==b.2.1&&(a.2.2==b.2.2&&true)))&&true):=rfl;rw[e];by_cases h:a=b
 .subst h;simp
 .rw[decide_eq_false h];cases c:((a.1==b.1&&(a.2.1==b.2.1&&(a.2.2==b.2.2&&true)))&&true) with
  |false=>rfl
  |true=>
   exfalso
   apply h;simp only[qCp,qAW,beq_iff_eq]at c;exact Prod.ext c.1 (Prod.ext c.2.1 c.2.2)
theorem Ls {α:Type}{f:α->D}{xs:List α}{a:α}(h:xs[↥xs-1]? = some a):atI (xs.map f) (-1)=some (f a):=by
 have hl:0<↥xs:=by
  cases xs with
  |nil=>cases h
  |cons _ _=>simp
 unfold atI ixN;rw[qAa,if_neg (),if_pos ()];have e:((-1:Int)+(↥xs:Int)).toNat=↥xs-1:=();show(xs.map f)[((-1:Int)+(↥xs:Int)).toNat]? = _;rw[e,qAd,h];rfl
theorem cR {a b:RL}{A B:Prop}(h1:¬a=b->A)(h2:a=b->B):if (!eqN 1 (lnD a) (lnD b))=true then A else B:=by
 rw[Yu];exact KN h1 h2
theorem LW.moved {k m:Nat}{l:RL}{q:Ln2}{wn wd vn vd:Int}{w v:Rat}(h:LW k l q)(hw:Wq m wn wd w)(hv:Wq m vn vd v) :
 LW (k+m+m+2) (l.1*(wd*vd),l.2.1*(wd*vd)-l.1*wn*vd+l.2.2*vn*wd,l.2.2*(wd*vd)) (q.1,q.2-q.1*w+v):=by
 have e1:=h.s.eq;have e2:=h.c.eq;have e3:=hw.eq;have e4:=hv.eq;have pb:0<l.2.2*(wd*vd):=qA5 h.s.pos (qA5 hw.pos hv.pos);have sb:=Aq h.s.lb (Aq hw.lb hv.lb);refine#[#[pb,?_,Bc (Aq h.s.la (Aq hw.lb hv.lb)) (),Bc sb ()],#[pb,?_,?_,Bc sb ()]]
 .show((l.1*(wd*vd):Int):Rat)=_;simp only[qAn];rw[e1];grind
 .show((l.2.1*(wd*vd)-l.1*wn*vd+l.2.2*vn*wd:Int):Rat)=_;simp only[qAn,qBd,qBe];rw[e1,e2,e3,e4];grind
 .have b1:=Bc (Aq h.c.la (Aq hw.lb hv.lb)) (show k+(m+m)<=k+m+m from ());have b2:=Aq (Aq h.s.la hw.la) hv.lb;have b3:=Aq (Aq h.s.lb hv.la) hw.lb;have b4:=HU (GI b1 b2) (Bc b3 (qBY _));exact b4
theorem Wq.moved {m n:Nat}{a b wn wd:Int}{t w:Rat}(h:Wq m a b t)(hw:Wq n wn wd w):Wq (m+n+1) (a*wd+wn*b) (b*wd) (t+w):=by
 refine#[qA5 h.pos hw.pos,?_,?_,Bc (Aq h.lb hw.lb) ()]
 .have e1:=h.eq;have e2:=hw.eq;simp only[qAn,qBd];rw[e1,e2];grind
 .exact HU (Aq h.la hw.lb) (Bc (Aq hw.la h.lb) ())
theorem S8 {q:Ln2}{w v t:Rat}:ev (q.1,q.2-q.1*w+v) t=ev q (t-w)+v:=by
 unfold ev;grind
def mvP (w v:Rat)(p:Rat×Ln2):Rat×Ln2:=(p.1+w,(p.2.1,p.2.2-p.2.1*w+v))
def mvR (wn wd vn vd:Int)(p:RP):RP:=((p.1.1*wd+wn*p.1.2,p.1.2*wd),(p.2.1*(wd*vd),p.2.2.1*(wd*vd)-p.2.1*wn*vd+p.2.2.2*vn*wd,p.2.2.2*(wd*vd)))
theorem PL.get {k m:Nat}{ps:List RP}{P:Ps}(h:PL k m ps P){i:Nat}{p:RP}(hp:ps[i]? = some p):∃q:Rat×Ln2,(P:List (Rat×Ln2))[i]? = some q/\PW1 k m p q:=by
 have hi:=(qAf.mp hp).1;rw[h.len]at hi;exact#[_,qAc hi,h.at_ i p _ hp (qAc hi)]
theorem PL.moved {k m n:Nat}{ps:List RP}{P:Ps}{wn wd vn vd:Int}{w v:Rat}(h:PL k m ps P)(hw:Wq n wn wd w)(hv:Wq n vn vd v):PL (k+n+n+2) (m+n+1) (ps.map (mvR wn wd vn vd)) (P.map (mvP w v)):=by
 refine#[by simp[h.len],λi p q h1 h2=>?_];rw[qAd]at h1 h2;cases e1:ps[i]? with
 |none=>rw[e1]at h1;cases h1
 |some p0=>
  obtain⟨q0,e2,w0⟩:=h.get e1;rw[e1]at h1;rw[e2]at h2;cases h1;cases h2;exact#[w0.t.moved hw,w0.l.moved hw hv]
theorem GB {α:Type}{f:α->D}{xs:List α}:(xs.map λx=>some (f x)).filterMap id=xs.map f:=by
 induction xs with
 |nil=>rfl
 |cons x xs ih=>simp[ih]
def flP (p:Rat×Ln2):Rat×Ln2:=(p.1,(-p.2.1,-p.2.2))
def flR (p:RP):RP:=(p.1,(-p.2.1,-p.2.2.1,p.2.2.2))
theorem Wq.neg {k:Nat}{a b:Int}{q:Rat}(h:Wq k a b q):Wq k (-a) b (-q):=by
 refine#[h.pos,?_,?_,h.lb]
 .have e:=h.eq;rw[Rat.intCast_neg,e];grind
 .have l:=h.la;show(-a).natAbs<2^k;rw[Int.natAbs_neg];exact l
theorem PL.flipped {k m:Nat}{ps:List RP}{P:Ps}(h:PL k m ps P):PL k m (ps.map flR) (P.map flP):=by
 refine#[by simp[h.len],λi p q h1 h2=>?_];rw[qAd]at h1 h2;cases e1:ps[i]? with
 |none=>rw[e1]at h1;cases h1
 |some p0=>
  obtain⟨q0,e2,w0⟩:=h.get e1;rw[e1]at h1;rw[e2]at h2;cases h1;cases h2;exact#[w0.t,#[w0.l.s.neg,w0.l.c.neg]]
theorem VG {p:Rat×Ln2}{t:Rat}:ev (flP p).2 t=- ev p.2 t:=by
 unfold flP ev;grind
theorem IW {k m:Nat}{p:RP}{q:Rat×Ln2}(w:PW1 k m p q):Rat.divInt p.1.1 p.1.2=q.1/\Rat.divInt (p.2.1*p.1.1+p.2.2.1*p.1.2) (p.2.2.2*p.1.2)=ev q.2 q.1:=by
 have wa:=w.l.at_ w.t;have key:∀{j:Nat}{a b:Int}{x:Rat},Wq j a b x->Rat.divInt a b=x:=λ{j a b x} h=>by
  have hb:(b:Rat)≠0:=by have:=qAY.mpr h.pos;grind
  rw[qAG,h.eq];have k2:x*(b:Rat)/(b:Rat)*(b:Rat)=x*(b:Rat):=qA7 hb;have k3:(x*(b:Rat)/(b:Rat)-x)*(b:Rat)=0:=⋯;rcases qBg.mp k3 with z|z
  .grind
  .exact absurd z hb
 exact#[key w.t,key wa]
theorem Zt {k l:Nat}{a b c d:Int}{p q:Rat}(h1:Wq k a b p)(h2:Wq l c d q):decide (a*d<c*b)=decide (p<q):=by
 have pb:(0:Rat)<(b:Rat):=qAY.mpr h1.pos;have pd:(0:Rat)<(d:Rat):=qAY.mpr h2.pos;have pp:(0:Rat)<(b:Rat)*(d:Rat):=qA9 pb pd;have ea:((a*d:Int):Rat)=p*((b:Rat)*(d:Rat)):=by rw[qAn,h1.eq];grind
 have eb:((c*b:Int):Rat)=q*((b:Rat)*(d:Rat)):=by rw[qAn,h2.eq];grind
 refine decide_eq_decide.mpr #[λh=>?_,λh=>?_]
 .have h':((a*d:Int):Rat)<((c*b:Int):Rat):=qBj.mpr h;rw[ea,eb]at h';refine qA1.mp λz=>?_;have:0<=(p-q)*((b:Rat)*(d:Rat)):=qAh ⋯ (qAj pp);grind
 .have h':=qA9 (a:=q-p) (b:=(b:Rat)*(d:Rat)) ⋯ pp;refine qBj.mp ?_;rw[ea,eb];grind
theorem Qn {n j:Nat}{m b:Rat}(hm:Sz n m)(hb:Sz j b):LW (n+j) (m.num*(b.den:Int),b.num*(m.den:Int),(m.den:Int)*(b.den:Int)) (m,b):=by
 have wm:=Wq.of hm;have wb:=Wq.of hb;refine#[#[qA5 wm.pos wb.pos,?_,Aq wm.la wb.lb,Aq wm.lb wb.lb],#[qA5 wm.pos wb.pos,?_,Bc (Aq wb.la wm.lb) (),Aq wm.lb wb.lb]]
 .have e:=wm.eq;simp only[qAn];rw[e];grind
 .have e:=wb.eq;simp only[qAn];rw[e];grind
structure Cnt (B S:List Rat)(P:Ps):Prop where
 up:∀i,i+1<↥P->bg P i<bg P (i+1)
 sl:∀i,i<↥P->(ln P i).1∈S
 st:∀i,i+1<↥P->bg P (i+1)∈B\/(ln P (i+1)).1<(ln P i).1
def bel (S:List Rat)(x:Rat):Nat:=(S.filter λs=>decide (s<x)).length
theorem US {S:List Rat}{x y:Rat}(h:x∈S)(l:x<y):bel S x+1<=bel S y:=by
 unfold bel
 induction S with
 |nil=>cases h
 |cons a S ih=>
  have mono:∀T:List Rat,(T.filter λs=>decide (s<x)).length<=(T.filter λs=>decide (s<y)).length:=λT=>by
   induction T with
   |nil=>exact qAg _
   |cons b T ih2=>
    rw[qBn,qBn];by_cases c:b<x
    .have c2:b<y:=⋯;rw[if_pos (by simp[c]),if_pos (by simp[c2])];simp;exact ih2
    .rw[if_neg (by simp[c])];split
     .simp;omega
     .exact ih2
  rw[qBn,qBn];rcases qAl.mp h with rfl|h'
  .rw[if_neg (by simp[qA8]),if_pos (by simp[l])];have:=mono S;simp;omega
  .have:=ih h';by_cases c:a<x
   .have c2:a<y:=⋯;rw[if_pos (by simp[c]),if_pos (by simp[c2])];simp;omega
   .rw[if_neg (by simp[c])];split
    .simp;omega
    .exact this
theorem QT {S:List Rat}{x:Rat}(h:x∈S):bel S x+1<=S.length:=by
 unfold bel
 induction S with
 |nil=>cases h
 |cons a S ih=>
  rw[qBn];rcases qAl.mp h with rfl|h'
  .rw[if_neg (by simp[qA8])];have:=qBE (λs=>decide (s<x)) S;simp;omega
  .have:=ih h';split
   .simp;omega
   .simp;omega
theorem Cnt.count {B S:List Rat}{P:Ps}(h:Cnt B S P):∀i,i<↥P->i+1+bel S (ln P i).1<=(bel B (bg P i)+(if bg P i∈B then 1 else 0)+1)*S.length:=by
 intro i
 induction i with
 |zero=>
  intro hi;have:=QT (h.sl 0 hi);have k:1*S.length<=(bel B (bg P 0)+(if bg P 0∈B then 1 else 0)+1)*S.length:=qBb _ ();omega
 |succ i ih=>
  intro hi;have ih:=ih ();have u:=h.up i hi;have sm:=h.sl (i+1) hi;have le1:bel B (bg P i)+(if bg P i∈B then 1 else 0)<=bel B (bg P (i+1)):=by
   split
   .exact US (by assumption) u
   .unfold bel;have:∀T:List Rat,(T.filter λs=>decide (s<bg P i)).length<=(T.filter λs=>decide (s<bg P (i+1))).length:=λT=>by
     induction T with
     |nil=>exact qAg _
     |cons b T ih2=>
      rw[qBn,qBn];by_cases c:b<bg P i
      .have c2:b<bg P (i+1):=⋯;rw[if_pos (by simp[c]),if_pos (by simp[c2])];simp;exact ih2
      .rw[if_neg (by simp[c])];split
       .simp;omega
       .exact ih2
    exact this B
  by_cases c:bg P (i+1)∈B
  .rw[if_pos c];have b1:=QT sm;have k:(bel B (bg P i)+(if bg P i∈B then 1 else 0)+1)*S.length<=(bel B (bg P (i+1))+1)*S.length:=qBb _ ();have e:(bel B (bg P (i+1))+1+1)*S.length=(bel B (bg P (i+1))+1)*S.length+S.length:=Nat.succ_mul _ _;omega
  .rw[if_neg c];rcases h.st i hi with z|z
   .exact absurd z c
   .have b1:=US sm z;have k:(bel B (bg P i)+(if bg P i∈B then 1 else 0)+1)*S.length<=(bel B (bg P (i+1))+0+1)*S.length:=qBb _ ();omega
theorem Cnt.len {B S:List Rat}{P:Ps}(h:Cnt B S P):↥P<=(↥B+1)*S.length:=by
 rcases qBq ↥P with z|z
 .rw[z];exact qA4 _
 .have c:=h.count (↥P-1) ();have k:(bel B (bg P (↥P-1))+(if bg P (↥P-1)∈B then 1 else 0)+1)*S.length<=(↥B+1)*S.length:=by
   refine qBb _ ?_;split
   .have:=QT (S:=B) (by assumption);omega
   .have:bel B (bg P (↥P-1))<=↥B:=qBE _ _;omega
  omega
def M8 (ps:List RP)(p:RP)(ps':List RP):Prop:=(ps'=ps++[p]/\∀q,ps[↥ps-1]? = some q->q.2≠p.2)\/(ps'=ps/\∃q,ps[↥ps-1]? = some q/\q.2=p.2)
theorem M8.len {ps ps':List RP}{p:RP}(h:M8 ps p ps'):↥ps'<=↥ps+1:=by
 rcases h with⟨rfl,_⟩|⟨rfl,_⟩
 .simp
 .omega
structure FQ (B S:List Rat)(G:Ln2->Prop)(U:Rat->Prop)(k m:Nat)(h:Rat->Rat)(T:Option Rat)(qs:List RP)(Q:Ps):Prop where
 pl:PL k m qs Q
 pu:PU Q h T
 cn:Cnt B S Q
 gd:∀i,i<↥Q->G (ln Q i)/\U (bg Q i)
theorem Cnt.snoc {B S:List Rat}{P:Ps}{b:Rat}{l:Ln2}(c:Cnt B S P)(hb:0<↥P->bg P (↥P-1)<b)(hs:l.1∈S)(st:0<↥P->b∈B\/l.1<(ln P (↥P-1)).1):Cnt B S (P++[(b,l)]):=by
 have hl:(P++[(b,l)]).length=↥P+1:=by simp
 have r:=Y6 (P:=P) (c:=(b,l));refine#[λi hi=>?_,λi hi=>?_,λi hi=>?_]
 .rw[hl]at hi;by_cases z:i+1<↥P
  .rw[(L9 (show i<↥P from ())).1,(L9 z).1];exact c.up i z
  .have:i=↥P-1:=();rw[(L9 (show i<↥P from ())).1,show i+1=↥P from (),r.1,this];exact hb ()
 .rw[hl]at hi;by_cases z:i<↥P
  .rw[(L9 z).2];exact c.sl i z
  .rw[show i=↥P from (),r.2];exact hs
 .rw[hl]at hi;by_cases z:i+1<↥P
  .rw[(L9 (show i<↥P from ())).2,(L9 z).1,(L9 z).2];exact c.st i z
  .have:i=↥P-1:=();rw[(L9 (show i<↥P from ())).2,show i+1=↥P from (),r.1,r.2,this];exact st ()
theorem G5 {P:Ps}{i:Nat}{q:Rat×Ln2}(h:(P:List (Rat×Ln2))[i]? = some q):bg P i=q.1/\ln P i=q.2:=by
 unfold bg ln;rw[qAe,h];exact#[rfl,rfl]
theorem PL.lnw {k m:Nat}{qs:List RP}{Q:Ps}(h:PL k m qs Q){i:Nat}{q:RP}(hq:qs[i]? = some q):LW k q.2 (ln Q i)/\Wq m q.1.1 q.1.2 (bg Q i)/\i<↥Q:=by
 obtain⟨r,h1,h2⟩:=h.get hq;rw[(G5 h1).1,(G5 h1).2];exact#[h2.l,h2.t,(qAf.mp h1).1]
def Few (B:List Rat)(qs:List RP)(k:Nat)(b:Rat)(p:RL)(l:Ln2):Prop:=b∈B\/qs=[]\/∃q ql,qs[↥qs-1]? = some q/\LW k q.2 ql/\(q.2=p\/l.1<ql.1)
theorem FQ.add {B S:List Rat}{G:Ln2->Prop}{U:Rat->Prop}{k m:Nat}{h:Rat->Rat}{T:Option Rat}{qs qs':List RP}{Q:Ps}{b:Rat}{p:RP}{l:Ln2}(r:FQ B S G U k m h (some b) qs Q)(w:PW1 k m p (b,l))(a:M8 qs p qs')(hb:LtO b T)(hv:∀t,b<=t->LeO t T->h t=ev l t)(hs:l.1∈S)(hG:G l)(hU:U b)(few:Few B qs k b p.2 l) :
 ∃Q',FQ B S G U k m h T qs' Q'/\(∃q,qs'[↥qs'-1]? = some q/\q.2=p.2)/\(qs=[]->bg Q' 0=b)/\(qs≠[]->bg Q' 0=bg Q 0)/\(∀i,i<↥qs->qs'[i]? = qs[i]?):=by
 have len:=r.pl.len;rcases a with⟨rfl,hn⟩|⟨rfl,q,hq,e⟩
 .refine#[Q++[(b,l)],#[r.pl.snoc w,r.pu.push hb hv,r.cn.snoc (λz=>r.pu.lt _ ()) hs λz=>?_,λi hi=>?_],#[p,by simp,rfl],λz=>?_,λz=>?_,λi hi=>qAt hi]
  .rcases few with f|f|⟨q,ql,h1,h2,f⟩
   .exact .inl f
   .rw[f]at len;simp at len;omega
   .have u:=(r.pl.lnw h1).1;rw[len]at u;rcases f with f|f
    .exact absurd f (hn q h1)
    .right;rw[u.uniq h2];exact f
  .rw[qAp]at hi;by_cases z:i<↥Q
   .rw[(L9 z).1,(L9 z).2];exact r.gd i z
   .have hi':i<↥Q+1:=hi;rw[show i=↥Q from (),Y6.1,Y6.2];exact#[hG,hU]
  .subst z;simp at len;have:Q=[]:=qAT len.symm;subst this;rfl
  .have:0<↥qs:=List.length_pos_iff.mpr z;exact(L9 (show 0<↥Q from ())).1
 .have u:=r.pl.lnw hq;have e2:ln Q (↥Q-1)=l:=by
   rw[<-len];have:=u.1;rw[e]at this;exact this.uniq w.l
  have q0:0<↥Q:=by have:=u.2.2;omega
  refine#[Q,#[r.pl,r.pu.skip hb q0 e2 hv,r.cn,r.gd],#[q,hq,e],λz=>?_,λ_=>rfl,λ_ _=>rfl];rw[z]at hq;cases hq
def bE (qs:List RP)(r1 r2:RL)(now thn:Rat):Prop:=∃q,qs[↥qs-1]? = some q/\((q.2=r1/\(thn<0\/(now<0/\thn=0)))\/(q.2=r2/\(0<thn\/(thn=0/\0<=now))))
def SZ (ps:List RP)(tm:Int×Int)(l1 l2:RL)(now thn:Int)(x:Rat)(ps':List RP):Prop:=
 ∃ps1,(if now<0\/(now=0/\thn<0) then M8 ps (tm,l1) ps1 else M8 ps (tm,l2) ps1) /\
  (if now<0/\0<thn then M8 ps1 ((x.num,(x.den:Int)),l2) ps' else if 0<now/\thn<0 then M8 ps1 ((x.num,(x.den:Int)),l1) ps' else ps'=ps1)
theorem FQ.row {B S:List Rat}{G:Ln2->Prop}{U:Rat->Prop}{k m:Nat}{h f g:Rat->Rat}{T:Option Rat}{qs qs':List RP}{Q:Ps}{a:Rat}{tm:Int×Int}{r1 r2:RL}{l1 l2:Ln2}(r:FQ B S G U k m h (some a) qs Q)(ha:LtO a T)(wt:Wq m tm.1 tm.2 a)(w1:LW k r1 l1)(w2:LW k r2 l2)(hm:k+k+1<=m)
 (hf:∀t,a<=t->LeO t T->f t=ev l1 t)(hg:∀t,a<=t->LeO t T->g t=ev l2 t)(hh:∀t,a<=t->LeO t T->h t=mp (f t) (g t))(s1:l1.1∈S)(s2:l2.1∈S)(g1:G l1)(g2:G l2)(ua:U a)(ux:∀l l',G l->G l'->l.1≠l'.1->U (xg l l'))
 (few:a∈B\/qs=[]\/∃q ql,qs[↥qs-1]? = some q/\LW k q.2 ql/\if ev l1 a-ev l2 a<0\/(ev l1 a-ev l2 a=0/\Ek l1 l2 T<0) then (q.2=r1\/l1.1<ql.1) else (q.2=r2\/l2.1<ql.1))
 (ad:SZ qs tm r1 r2 (sg (ev l1 a-ev l2 a)) (sg (Ek l1 l2 T)) (xg l1 l2) qs') :
 ∃Q',FQ B S G U k m h T qs' Q'/\bE qs' r1 r2 (ev l1 a-ev l2 a) (Ek l1 l2 T)/\(qs=[]->bg Q' 0=a)/\(qs≠[]->bg Q' 0=bg Q 0):=by
 obtain⟨ps1,a1,a2⟩:=ad;have i1:∀x:Rat,(sg x<0)=(x<0):=λx=>propext Rj;have i2:∀x:Rat,(0<sg x)=(0<x):=λx=>propext QO;have i3:∀x:Rat,(sg x=0)=(x=0):=λx=>propext Vr;simp only[i1,i2,i3]at a1 a2;have xw:l1.1≠l2.1->Wq m (xg l1 l2).num ((xg l1 l2).den:Int) (xg l1 l2):=λne=>(Wq.of (Zp w1 w2 ne)).mono hm;have inT:∀{x:Rat},LtO x T->∀t,LeO t (some x)->LeO t T:=λ{x} hx t ht=>by
  cases T with
  |none=>trivial
  |some u=>
   have h1:t<=x:=ht;have h2:x<u:=hx;show t<=u;grind
 have id':∀t,LeO t T->LeO t T:=λ_ h=>h;have one:∀{V:Option Rat},(∀t,LeO t V->LeO t T)->(∀t,a<=t->LeO t V->ev l1 t<=ev l2 t)->∀t,a<=t->LeO t V->h t=ev l1 t:=λhU le t h1 h2=>by
  rw[hh t h1 (hU t h2),hf t h1 (hU t h2),hg t h1 (hU t h2)];exact Y5 (le t h1 h2)
 have two:∀{V:Option Rat},(∀t,LeO t V->LeO t T)->(∀t,a<=t->LeO t V->ev l2 t<=ev l1 t)->∀t,a<=t->LeO t V->h t=ev l2 t:=λhU le t h1 h2=>by
  rw[hh t h1 (hU t h2),hf t h1 (hU t h2),hg t h1 (hU t h2)];exact ZW (le t h1 h2)
 have fewA:∀{c:RL}{l:Ln2},(∀q ql,(if ev l1 a-ev l2 a<0\/(ev l1 a-ev l2 a=0/\Ek l1 l2 T<0) then (q=r1\/l1.1<ql) else (q=r2\/l2.1<ql))->(q=c\/l.1<ql))->Few B qs k a c l:=λ{c l} F=>by
  rcases few with f|f|⟨q,ql,h1,h2,f⟩
  .exact .inl f
  .exact .inr (.inl f)
  .exact .inr (.inr #[q,ql,h1,h2,F q.2 ql.1 f])
 by_cases c1:ev l1 a-ev l2 a<0
 .rw[if_pos (.inl c1)]at a1;have F1:Few B qs k a r1 l1:=fewA (λq ql z=>by rw[if_pos (.inl c1)]at z;exact z);by_cases c2:0<Ek l1 l2 T
  .rw[if_pos #[c1,c2]]at a2;have am:=Jt (T:=T) (l1:=l1) (l2:=l2) (a:=a) ⋯ (O7 ha c2);obtain⟨x1,x2,y1,y2⟩:=MN (T:=T) (l1:=l1) (l2:=l2) (a:=a) ⋯ (O7 ha c2);obtain⟨Q1,R1,⟨q,hq,eq⟩,b1,b2,_⟩:=r.add (T:=some (xg l1 l2)) #[wt,w1] a1 x1 (one (inT x2) (λt h1 h2=>y1 t h1 h2)) s1 g1 ua F1;have ne1:ps1≠[]:=λz=>by rw[z]at hq;cases hq
   have sl:l2.1<l1.1:=by
    have e:=Pm am.1;unfold ev at e c1;refine qA1.mp λz=>?_;have:0<=(l2.1-l1.1)*(xg l1 l2-a):=qAh ⋯ ⋯;grind
   obtain⟨Q2,R2,E2,b3,b4,_⟩:=R1.add (T:=T) (l:=l2) #[xw am.1,w2] a2 x2 (λt h1 h2=>by
    have ht:a<=t:=⋯;rw[hh t ht h2,hf t ht h2,hg t ht h2];exact ZW (y2 t h1 h2)) s2 g2 (ux _ _ g1 g2 am.1) (.inr (.inr #[q,l1,hq,by rw[eq];exact w1,.inr sl]))
   obtain⟨q2,hq2,eq2⟩:=E2;exact#[Q2,R2,#[q2,hq2,.inr #[eq2,.inl c2]],λz=>(b4 ne1).trans (b1 z),λz=>(b4 ne1).trans (b2 z)]
  .rw[if_neg (λz=>c2 z.2),if_neg (λz=>⋯)]at a2;subst a2;obtain⟨Q1,R1,⟨q,hq,eq⟩,b1,b2,_⟩:=r.add (T:=T) #[wt,w1] a1 ha (one id' λt h1 h2=>Mi h1 h2 ⋯ (VF ha ⋯)) s1 g1 ua F1;exact#[Q1,R1,#[q,hq,.inl #[eq,⋯]],b1,b2]
 .by_cases c3:ev l1 a-ev l2 a=0/\Ek l1 l2 T<0
  .rw[if_pos (.inr c3)]at a1;have F1:Few B qs k a r1 l1:=fewA (λq ql z=>by rw[if_pos (.inr c3)]at z;exact z);rw[if_neg (λz=>c1 z.1),if_neg (λz=>⋯)]at a2;subst a2;obtain⟨Q1,R1,⟨q,hq,eq⟩,b1,b2,_⟩:=r.add (T:=T) #[wt,w1] a1 ha (one id' λt h1 h2=>Mi h1 h2 ⋯ (VF ha ⋯)) s1 g1 ua F1;exact#[Q1,R1,#[q,hq,.inl #[eq,.inl c3.2]],b1,b2]
  .have nc:¬(ev l1 a-ev l2 a<0\/(ev l1 a-ev l2 a=0/\Ek l1 l2 T<0)):=λz=>z.elim c1 c3;rw[if_neg nc]at a1;have F2:Few B qs k a r2 l2:=fewA (λq ql z=>by rw[if_neg nc]at z;exact z);rw[if_neg (λz=>c1 z.1)]at a2;by_cases c4:0<ev l1 a-ev l2 a/\Ek l1 l2 T<0
   .rw[if_pos c4]at a2;have c5:0<Ek l2 l1 T:=by rw[HG];grind
    have am:=Jt (T:=T) (l1:=l2) (l2:=l1) (a:=a) ⋯ (O7 ha c5);obtain⟨x1,x2,y1,y2⟩:=MN (T:=T) (l1:=l2) (l2:=l1) (a:=a) ⋯ (O7 ha c5);have xc:xg l2 l1=xg l1 l2:=WM;rw[xc]at am x1 x2 y1 y2;obtain⟨Q1,R1,⟨q,hq,eq⟩,b1,b2,_⟩:=r.add (T:=some (xg l1 l2)) #[wt,w2] a1 x1 (two (inT x2) (λt h1 h2=>y1 t h1 h2)) s2 g2 ua F2;have ne1:ps1≠[]:=λz=>by rw[z]at hq;cases hq
    have sl:l1.1<l2.1:=by
     have e:=Pm (Ne.symm am.1);have c4':=c4.1;unfold ev at e c4';refine qA1.mp λz=>?_;have:0<=(l1.1-l2.1)*(xg l1 l2-a):=qAh ⋯ ⋯;grind
    obtain⟨Q2,R2,E2,b3,b4,_⟩:=R1.add (T:=T) (l:=l1) #[xw (Ne.symm am.1),w1] a2 x2 (λt h1 h2=>by
     have ht:a<=t:=⋯;rw[hh t ht h2,hf t ht h2,hg t ht h2];exact Y5 (y2 t h1 h2)) s1 g1 (ux _ _ g1 g2 (Ne.symm am.1)) (.inr (.inr #[q,l2,hq,by rw[eq];exact w2,.inr sl]))
    obtain⟨q2,hq2,eq2⟩:=E2;exact#[Q2,R2,#[q2,hq2,.inl #[eq2,.inl c4.2]],λz=>(b4 ne1).trans (b1 z),λz=>(b4 ne1).trans (b2 z)]
   .rw[if_neg c4]at a2;subst a2;obtain⟨Q1,R1,⟨q,hq,eq⟩,b1,b2,_⟩:=r.add (T:=T) #[wt,w2] a1 ha (two id' λt h1 h2=>Mi h1 h2 ⋯ (VF ha (by grind [HG]))) s2 g2 ua F2;exact#[Q1,R1,#[q,hq,.inr #[eq,⋯]],b1,b2]
structure Sbs (P O:Ps)(N:Nat)(a:Nat->Rat)(i j:Nat->Nat):Prop where
 n0:0<N
 a0:a 0=bg O 0
 j0:j 0=0
 iP:∀n,n<N->i n<↥P
 jO:∀n,n<N->j n<↥O
 bi:∀n,n<N->bg P (i n)<=a n
 bj:∀n,n<N->bg O (j n)<=a n
 up:∀n,n+1<N->a n<a (n+1)
 ei:∀n,n<N->i n+1<↥P->n+1<N/\a (n+1)<=bg P (i n+1)
 ej:∀n,n<N->j n+1<↥O->n+1<N/\a (n+1)<=bg O (j n+1)
 si:∀n,n+1<N->i (n+1)=i n\/(i (n+1)=i n+1/\a (n+1)=bg P (i n+1))
 sj:∀n,n+1<N->j (n+1)=j n\/(j (n+1)=j n+1/\a (n+1)=bg O (j n+1))
 mv:∀n,n+1<N->i (n+1)=i n->j (n+1)≠j n
def TmN (N:Nat)(a:Nat->Rat)(n:Nat):Option Rat:=if n<N then some (a n) else none
section
variable {P O:Ps}{N:Nat}{a:Nat->Rat}{i j:Nat->Nat}{h g:Rat->Rat}
theorem Sbs.hP (s:Sbs P O N a i j)(p:PU P h none){n:Nat}(hn:n<N){t:Rat}(h1:a n<=t)(h2:LeO t (TmN N a (n+1))):h t=ev (ln P (i n)) t:=by
 refine p.v (i n) (s.iP n hn) t (qAm (s.bi n hn) h1) (λz=>?_) trivial;obtain⟨z1,z2⟩:=s.ei n hn z;unfold TmN at h2;rw[if_pos z1]at h2;exact qAm h2 z2
theorem Sbs.hO (s:Sbs P O N a i j)(p:PU O g none){n:Nat}(hn:n<N){t:Rat}(h1:a n<=t)(h2:LeO t (TmN N a (n+1))):g t=ev (ln O (j n)) t:=by
 refine p.v (j n) (s.jO n hn) t (qAm (s.bj n hn) h1) (λz=>?_) trivial;obtain⟨z1,z2⟩:=s.ej n hn z;unfold TmN at h2;rw[if_pos z1]at h2;exact qAm h2 z2
theorem Sbs.lt (s:Sbs P O N a i j){n:Nat}(hn:n<N):LtO (a n) (TmN N a (n+1)):=by
 unfold TmN;split
 .exact s.up n (by assumption)
 .trivial
theorem Sbs.ge (s:Sbs P O N a i j){n:Nat}:n<N->a 0<=a n:=by
 induction n with
 |zero=>intro _;exact qAb
 |succ n ih=>
  intro hn;have:=ih ();have:=s.up n hn;grind
theorem Sbs.next (s:Sbs P O N a i j)(p:PU P h none)(q:PU O g none){n:Nat}(hn:n+1<N):ev (ln P (i n)) (a (n+1))=ev (ln P (i (n+1))) (a (n+1))/\ev (ln O (j n)) (a (n+1))=ev (ln O (j (n+1))) (a (n+1)):=by
 have e:TmN N a (n+1)=some (a (n+1)):=if_pos hn;have l1:LeO (a (n+1)) (TmN N a (n+1)):=by rw[e];exact qAb
 have l2:=(s.lt (n:=n+1) hn).le;have u:=qAj (s.up n hn);rw[<-s.hP p () u l1,<-s.hP p hn qAb l2,<-s.hO q () u l1,<-s.hO q hn qAb l2];exact#[rfl,rfl]
theorem Sbs.thn (s:Sbs P O N a i j)(p:PU P h none)(q:PU O g none){n:Nat}(hn:n+1<N):Ek (ln P (i n)) (ln O (j n)) (TmN N a (n+1))=ev (ln P (i (n+1))) (a (n+1))-ev (ln O (j (n+1))) (a (n+1)):=by
 have e:TmN N a (n+1)=some (a (n+1)):=if_pos hn;rw[e];obtain⟨e1,e2⟩:=s.next p q hn;show ev _ _-ev _ _=_;rw[e1,e2]
end
def Vf (a0:Rat)(h g:Rat->Rat)(t:Rat):Rat:=if t<a0 then h t else mp (h t) (g t)
def VW (O:Ps):List Rat:=O.map (·.1)
theorem Oy {O:Ps}{j:Nat}(h:j<↥O):bg O j∈VW O:=by
 refine qAy.mpr #[O[j],qA0 h,?_];exact(G5 (qAc h)).1.symm
structure Ws (B S:List Rat)(G:Ln2->Prop)(U:Rat->Prop)(k m:Nat)(ps os:List RP)(P O:Ps)(h g:Rat->Rat)(N:Nat)(a:Nat->Rat)(i j:Nat->Nat)(n:Nat)(qs:List RP)(Q:Ps):Prop where
 r:FQ (B++VW O) S G U k m (Vf (bg O 0) h g) (TmN N a n) qs Q
 e:∀n',n=n'+1->∀p1 p2,ps[i n']? = some p1->os[j n']? = some p2->bE qs p1.2 p2.2 (ev (ln P (i n')) (a n')-ev (ln O (j n')) (a n')) (Ek (ln P (i n')) (ln O (j n')) (TmN N a n))
 b:(n=0->qs≠[]->bg Q 0=bg P 0)/\(0<n->qs≠[]/\bg Q 0=bg P 0)
theorem Tg {l1 l2:Ln2}{a u:Rat}(h:a<u)(h1:ev l1 a<ev l2 a)(h2:ev l1 u=ev l2 u):l2.1<l1.1:=by
 unfold ev at *
 refine qA1.mp λz=>?_;have:0<=(l2.1-l1.1)*(u-a):=qAh ⋯ ⋯;grind
theorem Wz {l1 l2:Ln2}{a:Rat}{T:Option Rat}(ha:LtO a T)(h1:ev l1 a=ev l2 a)(h2:Ek l1 l2 T<0):l1.1<l2.1:=by
 cases T with
 |none=>have h:l1.1-l2.1<0:=h2;grind
 |some u=>
  have h:ev l1 u-ev l2 u<0:=h2;have hl:a<u:=ha;unfold ev at *
  refine qA1.mp λz=>?_;have:0<=(l1.1-l2.1)*(u-a):=qAh ⋯ ⋯;grind
section
variable {B S:List Rat}{G:Ln2->Prop}{U:Rat->Prop}{k m:Nat}{ps os:List RP}{P O:Ps}{h g:Rat->Rat}{N:Nat}{a:Nat->Rat}{i j:Nat->Nat}
theorem Ws.step (rP:FQ B S G U k m h none ps P)(lo:PL k m os O)(pO:PU O g none)(sO:∀x,x<↥O->(ln O x).1∈S)(gO:∀x,x<↥O->G (ln O x)/\U (bg O x))(ux:∀l l',G l->G l'->l.1≠l'.1->U (xg l l'))(hm:k+k+1<=m)(s:Sbs P O N a i j)(hb:bg P 0<=bg O 0){n:Nat}{qs qs':List RP}{Q:Ps}(li:Ws B S G U k m ps os P O h g N a i j n qs Q)(hn:n<N){tm:Int×Int}(wt:Wq m tm.1 tm.2 (a n)){p1 p2:RP}(h1:ps[i n]? = some p1)(h2:os[j n]? = some p2)
 (ad:SZ qs tm p1.2 p2.2 (sg (ev (ln P (i n)) (a n)-ev (ln O (j n)) (a n))) (sg (Ek (ln P (i n)) (ln O (j n)) (TmN N a (n+1)))) (xg (ln P (i n)) (ln O (j n))) qs') (h0:n=0->qs=[]->bg P 0=bg O 0) :
 ∃Q',Ws B S G U k m ps os P O h g N a i j (n+1) qs' Q':=by
 have lp:=rP.pl;have pP:=rP.pu;have cP:=rP.cn;have ua:U (a n):=by
  cases n with
  |zero=>rw[s.a0];exact(gO 0 (by have:=s.jO 0 hn;omega)).2
  |succ n=>
   rcases s.sj n hn with jj|⟨jj,ja⟩
   .rcases s.si n hn with ii|⟨ii,ia⟩
    .exact absurd jj (s.mv n hn ii)
    .rw[ia];exact(rP.gd _ (by rw[<-ii];exact s.iP _ hn)).2
   .rw[ja];exact(gO _ (by rw[<-jj];exact s.jO _ hn)).2
 have w1:=(lp.lnw h1).1;have w2:=(lo.lnw h2).1;have eT:TmN N a n=some (a n):=if_pos hn;have r:=li.r;rw[eT]at r;have hg0:bg O 0<=a n:=by rw[<-s.a0];exact s.ge hn
 have few:a n∈B++VW O\/qs=[]\/∃q ql,qs[↥qs-1]? = some q/\LW k q.2 ql/\if ev (ln P (i n)) (a n)-ev (ln O (j n)) (a n)<0\/(ev (ln P (i n)) (a n)-ev (ln O (j n)) (a n)=0/\Ek (ln P (i n)) (ln O (j n)) (TmN N a (n+1))<0) then (q.2=p1.2\/(ln P (i n)).1<ql.1) else (q.2=p2.2\/(ln O (j n)).1<ql.1):=by
  cases n with
  |zero=>
   left;rw[s.a0];exact qAq.mpr (.inr (Oy (by have:=s.jO 0 hn;omega)))
  |succ n=>
   rcases s.sj n hn with jj|⟨jj,ja⟩
   .rcases s.si n hn with ii|⟨ii,ia⟩
    .exact absurd jj (s.mv n hn ii)
    .have il:=s.iP (n+1) hn;rw[ii]at il;rcases cP.st (i n) il with z|z
     .left;rw[ia];exact qAq.mpr (.inl z)
     .right;right;have i0:=s.iP n ();have hp:i n<↥ps:=by rw[lp.len];exact i0
      have h1':=qAc hp;have h2':os[j n]? = some p2:=by rw[<-jj];exact h2
      obtain⟨q,hq,e⟩:=li.e n rfl _ _ h1' h2';have w1':=(lp.lnw h1').1;have tn:=s.thn pP pO hn;have u:=s.up n hn;have hl:=s.lt (n:=n+1) hn;rw[tn]at e;have nx:=s.next pP pO hn;rw[jj]at e ⊢;rw[ii]at e nx ⊢;rw[jj]at nx;rcases e with⟨e1,e2⟩|⟨e1,e2⟩
      .refine#[q,ln P (i n),hq,by rw[e1];exact w1',?_];split
       .exact .inr z
       .right;rename_i nc;have:ev (ln P (i n)) (a n)-ev (ln O (j n)) (a n)<0/\ev (ln P (i n+1)) (a (n+1))-ev (ln O (j n)) (a (n+1))=0:=by
         rcases e2 with e2|e2
         .exact absurd (.inl e2) nc
         .exact e2
        exact Tg u ⋯ ⋯
      .refine#[q,ln O (j n),hq,by rw[e1,<-jj];exact w2,?_];split
       .right;rename_i c;have:ev (ln P (i n+1)) (a (n+1))-ev (ln O (j n)) (a (n+1))=0/\Ek (ln P (i n+1)) (ln O (j n)) (TmN N a (n+1+1))<0:=by
         rcases c with c|c
         .rcases e2 with e2|e2<;>grind
         .exact c
        exact Wz hl ⋯ this.2
       .exact .inl e1
   .left;rw[ja];exact qAq.mpr (.inr (Oy (by have:=s.jO (n+1) hn;omega)))
 obtain⟨Q',R',E',b1,b2⟩:=r.row (T:=TmN N a (n+1)) (f:=h) (g:=g) (s.lt hn) wt w1 w2 hm (λt t1 t2=>s.hP pP hn t1 t2) (λt t1 t2=>s.hO pO hn t1 t2) (λt t1 _=>by
  unfold Vf;rw[if_neg ⋯]) (cP.sl _ (s.iP n hn)) (sO _ (s.jO n hn)) (rP.gd _ (s.iP n hn)).1 (gO _ (s.jO n hn)).1 ua ux few ad
 have ne':qs'≠[]:=λz=>by obtain⟨q,hq,_⟩:=E';rw[z]at hq;cases hq
 refine#[Q',R',λn' e p1' p2' g1 g2=>?_,λz=>absurd z (),λ_=>#[ne',?_]]
 .have:n'=n:=();subst this;rw[h1]at g1;rw[h2]at g2;cases g1;cases g2;exact E'
 .rcases qBq n with z|z
  .by_cases c:qs=[]
   .rw[b1 c,z,s.a0];exact(h0 z c).symm
   .rw[b2 c];exact li.b.1 z c
  .have:=li.b.2 z;rw[b2 this.1];exact this.2
theorem Bn {P:Ps}{c x:Nat}(h:x<c):bg (P.take c) x=bg P x/\ln (P.take c) x=ln P x:=by
 unfold bg ln;rw[qAe,qAe,qB0 h];exact#[rfl,rfl]
theorem Ws.zero (rP:FQ B S G U k m h none ps P)(s:Sbs P O N a i j){c:Nat}(hc:c<=↥P)(c1:∀x,x<c->bg P x<bg O 0)(c2:c<↥P->bg O 0<=bg P c)(hj:0<c->h (bg O 0)<=g (bg O 0)):Ws B S G U k m ps os P O h g N a i j 0 (ps.take c) (P.take c):=by
 have lp:=rP.pl;have pP:=rP.pu;have cP:=rP.cn;have tl:(P.take c).length=c:=by rw[qAZ];omega
 have eT:TmN N a 0=some (bg O 0):=by unfold TmN;rw[if_pos s.n0,s.a0]
 refine#[#[#[by rw[qAZ,qAZ,lp.len],λx p q h1 h2=>?_],?_,#[λx hx=>?_,λx hx=>?_,λx hx=>?_],λx hx=>by rw[tl]at hx;rw[(Bn hx).1,(Bn hx).2];exact rP.gd x ()],λn' e=>absurd e (),λ_ z=>?_,λz=>absurd z ()]
 .have hx:x<c:=by
   have:=(qAf.mp h2).1;rw[tl]at this;exact this
  rw[qB0 hx]at h1 h2;exact lp.at_ x p q h1 h2
 .rw[eT];refine#[λx hx=>?_,λx hx=>?_,λx hx t t1 t2 t3=>?_]
  .rw[tl]at hx;rw[(Bn (show x<c from ())).1,(Bn hx).1];exact pP.up x ()
  .rw[tl]at hx;rw[(Bn hx).1];exact c1 x hx
  .rw[tl]at hx t2;rw[(Bn hx).1]at t1;rw[(Bn hx).2];have t3:t<=bg O 0:=t3;have ev1:h t=ev (ln P x) t:=by
    refine pP.v x () t t1 (λz=>?_) trivial;by_cases z2:x+1<c
    .have:=t2 z2;rw[(Bn z2).1]at this;exact this
    .have:x+1=c:=();rw[this];exact qAm t3 (c2 ())
   unfold Vf;split
   .exact ev1
   .have:t=bg O 0:=⋯;rw[this]at ev1 ⊢;rw[Y5 (hj ())];exact ev1
 .rw[tl]at hx;rw[(Bn (show x<c from ())).1,(Bn hx).1];exact pP.up x ()
 .rw[tl]at hx;rw[(Bn hx).2];exact cP.sl x ()
 .rw[tl]at hx;rw[(Bn (show x<c from ())).2,(Bn hx).1,(Bn hx).2];rcases cP.st x () with z|z
  .exact .inl (qAq.mpr (.inl z))
  .exact .inr z
 .have:0<c:=by
   rcases qBq c with y|y
   .subst y;exact absurd rfl z
   .exact y
  exact(Bn this).1
end
def EK (cs:Cs)(m:Rat):Ps:=(List.range ↥cs).map λk=>(tt cs k,(slp cs m k,vv cs k-slp cs m k*tt cs k))
theorem Bb {cs:Cs}{m:Rat}:(EK cs m).length=↥cs:=by unfold EK;simp
theorem Cr {cs:Cs}{m:Rat}{k:Nat}(h:k<↥cs):bg (EK cs m) k=tt cs k/\ln (EK cs m) k=(slp cs m k,vv cs k-slp cs m k*tt cs k):=by
 refine G5 (q:=(tt cs k,(slp cs m k,vv cs k-slp cs m k*tt cs k))) ?_;unfold EK;rw[qAd,qAJ h];rfl
theorem SE {cs:Cs}{m:Rat}(o:Ord cs):PU (EK cs m) (val cs m) none:=by
 refine#[λi hi=>?_,λi hi=>trivial,λi hi t h1 h2 _=>?_]
 .rw[Bb]at hi;rw[(Cr (show i<↥cs from ())).1,(Cr hi).1];exact o.up i hi
 .rw[Bb]at hi h2;rw[(Cr hi).1]at h1;rw[(Cr hi).2];have on:On cs i t:=#[hi,h1,λz=>by have:=h2 z;rw[(Cr z).1]at this;exact this];rw[Bw o.up on];unfold ev;grind
theorem Cf {P:Ps}{F:Rat×Ln2->Rat×Ln2}{i:Nat}(h:i<↥P):bg (P.map F) i=(F (bg P i,ln P i)).1/\ln (P.map F) i=(F (bg P i,ln P i)).2:=by
 have e:P[i]? = some (bg P i,ln P i):=by
  have g:=qAc h;rw[g];have:=G5 g;rw[this.1,this.2]
 refine G5 ?_;rw[qAd,e];rfl
theorem PU.flip {P:Ps}{h:Rat->Rat}{T:Option Rat}(p:PU P h T):PU (P.map flP) (λt=>-h t) T:=by
 refine#[λi hi=>?_,λi hi=>?_,λi hi t h1 h2 h3=>?_]
 .rw[qAa]at hi;rw[(Cf (show i<↥P from ())).1,(Cf hi).1];exact p.up i hi
 .rw[qAa]at hi;rw[(Cf hi).1];exact p.lt i hi
 .rw[qAa]at hi h2;rw[(Cf hi).1]at h1;rw[(Cf hi).2];show -h t=_;rw[p.v i hi t h1 (λz=>by have:=h2 z;rw[(Cf z).1]at this;exact this) h3];exact VG.symm
theorem PU.move {P:Ps}{h:Rat->Rat}(w v:Rat)(p:PU P h none):PU (P.map (mvP w v)) (λt=>h (t-w)+v) none:=by
 refine#[λi hi=>?_,λi hi=>trivial,λi hi t h1 h2 _=>?_]
 .rw[qAa]at hi;rw[(Cf (show i<↥P from ())).1,(Cf hi).1];have:=p.up i hi;show bg P i+w<bg P (i+1)+w;grind
 .rw[qAa]at hi h2;rw[(Cf hi).1]at h1;rw[(Cf hi).2];have h1:bg P i+w<=t:=h1;show h (t-w)+v=_;rw[p.v i hi (t-w) ⋯ (λz=>by
   have:=h2 z;rw[(Cf z).1]at this;have this:t<=bg P (i+1)+w:=this;grind) trivial]
  exact S8.symm
def frN (P:Ps)(c:Nat):Ps:=(0,ln P (c-1))::P.drop c
theorem F8 {P:Ps}{c i:Nat}:bg (frN P c) (i+1)=bg P (c+i)/\ln (frN P c) (i+1)=ln P (c+i):=by
 unfold frN bg ln;rw[qAe,qBL,qBo,qAe];exact#[rfl,rfl]
theorem E6 {P:Ps}{c:Nat}:(frN P c).length=↥P-c+1:=by unfold frN;rw[qAQ,qAP]
theorem PU.fromN {P:Ps}{h:Rat->Rat}{c:Nat}(p:PU P h none)(c0:0<c)(cl:c<=↥P)(h1:∀i,i<c->bg P i<=0)(h2:c<↥P->0<bg P c):PU (frN P c) h none:=by
 have e0:bg (frN P c) 0=0/\ln (frN P c) 0=ln P (c-1):=#[rfl,rfl];refine#[λi hi=>?_,λi hi=>trivial,λi hi t t1 t2 _=>?_]
 .rw[E6]at hi;cases i with
  |zero=>rw[e0.1,F8.1];exact h2 ()
  |succ i=>rw[F8.1,F8.1];exact p.up (c+i) ()
 .rw[E6]at hi t2;cases i with
  |zero=>
   rw[e0.1]at t1;rw[e0.2];refine p.v (c-1) () t (qAm (h1 _ ()) t1) (λz=>?_) trivial;have:=t2 ();rw[F8.1]at this;rw[show c-1+1=c+0 from ()];exact this
  |succ i=>
   rw[F8.1]at t1;rw[F8.2];refine p.v (c+i) () t t1 (λz=>?_) trivial;have:=t2 ();rw[F8.1]at this;exact this
def Hq (P:Ps)(far:Rat):Ps:=((List.range ↥P).map λk=>((if k+1<↥P then -bg P (k+1) else -far),((-(ln P k).1,(ln P k).2):Ln2))).reverse++[(0,((0,(ln P 0).2):Ln2))]
theorem Gf {P:Ps}{far:Rat}:(Hq P far).length=↥P+1:=by unfold Hq;simp
theorem GR {P:Ps}{far:Rat}{i:Nat}(h:i<↥P):bg (Hq P far) i=(if 0<i then -bg P (↥P-i) else -far)/\ln (Hq P far) i=(-(ln P (↥P-1-i)).1,(ln P (↥P-1-i)).2):=by
 have e:(Hq P far:List (Rat×Ln2))[i]? = some ((if 0<i then -bg P (↥P-i) else -far),(-(ln P (↥P-1-i)).1,(ln P (↥P-1-i)).2)):=by
  unfold Hq;rw[qAt (by simp;exact h),qBC (by simp;exact h)];rw[qAa,qAz,qAd,qAJ ()];show some _=_
  congr 1
  refine Prod.ext ?_ rfl;show(if ↥P-1-i+1<↥P then _ else _)=_;by_cases c:0<i
  .rw[if_pos c,if_pos (),show ↥P-1-i+1=↥P-i from ()]
  .rw[if_neg c,if_neg ()]
 exact G5 e
theorem HI {P:Ps}{far:Rat}:bg (Hq P far) ↥P=0/\ln (Hq P far) ↥P=(0,(ln P 0).2):=by
 have e:(Hq P far:List (Rat×Ln2))[↥P]? = some (0,(0,(ln P 0).2)):=by
  unfold Hq;rw[qAw (by simp)];simp
 exact G5 e
theorem PU.turn {P:Ps}{g:Rat->Rat}{far:Rat}(p:PU P g none)(ne:0<↥P)(b0:bg P 0=0)(hf:bg P (↥P-1)<far):PU (Hq P far) (λt=>g (if t<=0 then -t else 0)) none:=by
 have pos:∀i,i<↥P->0<=bg P i:=λi=>by
  induction i with
  |zero=>intro _;rw[b0];exact qAb
  |succ i ih=>intro hi;have:=ih ();have:=p.up i hi;grind
 have neg:∀i,i<↥P->bg (Hq P far) i<0:=λi hi=>by
  rw[(GR hi).1];by_cases c:0<i
  .rw[if_pos c];have h1:=p.up (↥P-i-1) ();rw[show ↥P-i-1+1=↥P-i from ()]at h1;have:=pos (↥P-i-1) ();grind
  .rw[if_neg c];have:=pos (↥P-1) ();grind
 refine#[λi hi=>?_,λi hi=>trivial,λi hi t t1 t2 _=>?_]
 .rw[Gf]at hi;by_cases z:i+1<↥P
  .rw[(GR (show i<↥P from ())).1,(GR z).1,if_pos (show 0<i+1 from ())];by_cases c:0<i
   .rw[if_pos c];have:=p.up (↥P-(i+1)) ();rw[show ↥P-(i+1)+1=↥P-i from ()]at this;grind
   .rw[if_neg c,show ↥P-(i+1)=↥P-1 from ()];grind
  .rw[show i+1=↥P from (),HI.1];exact neg i ()
 .rw[Gf]at hi t2;by_cases z:i<↥P
  .have t3:t<=0:=by
    have:=t2 ();by_cases y:i+1<↥P
    .have:=neg (i+1) y;grind
    .rw[show i+1=↥P from (),HI.1]at this;exact this
   show g (if t<=0 then -t else 0)=_;rw[if_pos t3,(GR z).2];rw[p.v (↥P-1-i) () (-t) ?_ ?_ trivial]
   .unfold ev;show _=-(ln P (↥P-1-i)).1*t+(ln P (↥P-1-i)).2;grind
   .have:=t2 ();by_cases y:i+1<↥P
    .rw[(GR y).1,if_pos (),show ↥P-(i+1)=↥P-1-i from ()]at this;grind
    .rw[show ↥P-1-i=0 from (),b0];grind
   .intro y;rw[(GR z).1,if_pos ()]at t1;rw[show ↥P-1-i+1=↥P-i from ()];grind
  .have:i=↥P:=();subst this;rw[HI.1]at t1;rw[HI.2];have e:(if t<=0 then -t else 0)=0:=by split<;>grind
   show g (if t<=0 then -t else 0)=_;rw[e];rw[p.v 0 ne 0 (by rw[b0];exact qAb) (λy=>pos 1 y) trivial];unfold ev;show _=0*t+(ln P 0).2;grind
def Ih (Q:Ps):Cs:=Q.map λp=>(p.1,ev p.2 p.1)
theorem BV {Q:Ps}:(Ih Q).length=↥Q:=qAa _
theorem BZ {Q:Ps}{i:Nat}(h:i<↥Q):tt (Ih Q) i=bg Q i/\vv (Ih Q) i=ev (ln Q i) (bg Q i):=by
 have g:=qAc h;have e:(Ih Q)[i]? = some (bg Q i,ev (ln Q i) (bg Q i)):=by
  unfold Ih;rw[qAd,g,(G5 g).1,(G5 g).2];rfl
 unfold tt vv;rw[qAe,e];exact#[rfl,rfl]
theorem LH {Q:Ps}{H:Rat->Rat}(p:PU Q H none){i:Nat}(h:i<↥Q):slp (Ih Q) (ln Q (↥Q-1)).1 i=(ln Q i).1:=by
 by_cases c:i+1<↥Q
 .rw[Cd (by rw[BV];exact c),(BZ h).1,(BZ h).2,(BZ c).1,(BZ c).2];have u:=p.up i c;have e1:=p.v i h (bg Q (i+1)) (qAj u) (λ_=>qAb) trivial;have e2:=p.v (i+1) c (bg Q (i+1)) qAb (λz=>qAj (p.up (i+1) z)) trivial;rw[<-e2,e1];unfold ev;have ne:bg Q (i+1)-bg Q i≠0:=⋯;generalize bg Q (i+1)=y at *
  generalize bg Q i=x at *
  have k:((ln Q i).1*y+(ln Q i).2-((ln Q i).1*x+(ln Q i).2))=(ln Q i).1*(y-x):=⋯;rw[k];have k2:(ln Q i).1*(y-x)/(y-x)*(y-x)=(ln Q i).1*(y-x):=qA7 ne;have k3:((ln Q i).1*(y-x)/(y-x)-(ln Q i).1)*(y-x)=0:=⋯;rcases qBg.mp k3 with z|z
  .grind
  .exact absurd z ne
 .rw[Az (by rw[BV];exact c),show i=↥Q-1 from ()]
theorem VN {Q:Ps}{H:Rat->Rat}(p:PU Q H none)(ne:0<↥Q)(b0:bg Q 0=0)(mono:∀x y,0<=x->x<=y->H x<=H y)(h0:0<=H 0):Ord (Ih Q)/\0<=(ln Q (↥Q-1)).1/\∀t,0<=t->val (Ih Q) (ln Q (↥Q-1)).1 t=H t:=by
 have at_:∀i,i<↥Q->H (bg Q i)=ev (ln Q i) (bg Q i):=λi hi=>p.v i hi _ qAb (λz=>qAj (p.up i z)) trivial;have pos:∀i,i<↥Q->0<=bg Q i:=λi=>by
  induction i with
  |zero=>intro _;rw[b0];exact qAb
  |succ i ih=>intro hi;have:=ih ();have:=p.up i hi;grind
 have o:Ord (Ih Q):=by
  refine#[by rw[BV];exact ne,by rw[(BZ ne).1];exact b0,by rw[(BZ ne).2,<-at_ 0 ne,b0];exact h0,λi hi=>?_,λi hi=>?_]
  .rw[BV]at hi;rw[(BZ (show i<↥Q from ())).1,(BZ hi).1];exact p.up i hi
  .rw[BV]at hi;rw[(BZ (show i<↥Q from ())).2,(BZ hi).2,<-at_ i (),<-at_ (i+1) hi];exact mono _ _ (pos i ()) (qAj (p.up i hi))
 refine#[o,?_,λt t0=>?_]
 .have hl:↥Q-1<↥Q:=();have e1:=p.v (↥Q-1) hl (bg Q (↥Q-1)) qAb (λz=>absurd z ()) trivial;have e2:=p.v (↥Q-1) hl (bg Q (↥Q-1)+1) ⋯ (λz=>absurd z ()) trivial;have:=mono (bg Q (↥Q-1)) (bg Q (↥Q-1)+1) (pos _ hl) ⋯;rw[e1,e2]at this;unfold ev at this;grind
 .have on:=Dq o t0;rw[Bw (m:=(ln Q (↥Q-1)).1) o.up on];generalize plc (Ih Q) t (Ih Q).length=j at on;have hj:j<↥Q:=by have:=on.lt;rw[BV]at this;exact this
  rw[LH p hj,(BZ hj).1,(BZ hj).2];have lo:=on.lo;rw[(BZ hj).1]at lo;rw[p.v j hj t lo (λz=>by have:=on.hi (by rw[BV];exact z);rw[(BZ z).1]at this;exact this) trivial];unfold ev;grind
theorem Pr {α:Type}(key:α->Rat)(p:α->Prop):∀F:List α,(∃x∈F,p x)->∃y∈F,p y/\∀x∈F,p x->key x<=key y
 |[],#[_,h,_]=>by cases h
 |a::F,h=>by
  by_cases c:∃x∈F,p x
  .obtain⟨y,hy,py,my⟩:=Pr key p F c;by_cases d:p a/\key y<key a
   .refine#[a,qAl.mpr (.inl rfl),d.1,λx hx px=>?_];rcases qAl.mp hx with rfl|hx
    .exact qAb
    .have:=my x hx px;have:=d.2;grind
   .refine#[y,qAl.mpr (.inr hy),py,λx hx px=>?_];rcases qAl.mp hx with rfl|hx
    .exact qAI.mp λz=>d #[px,z]
    .exact my x hx px
  .obtain⟨x,hx,px⟩:=h;rcases qAl.mp hx with rfl|hx
   .refine#[x,qAl.mpr (.inl rfl),px,λz hz pz=>?_];rcases qAl.mp hz with rfl|hz
    .exact qAb
    .exact absurd #[z,hz,pz] c
   .exact absurd #[x,hx,px] c
section
variable {cs:Cs}{m:Rat}
theorem KA (o:Ord cs){a:Rat}(a0:0<=a):plc cs a ↥cs<↥cs/\tt cs (plc cs a ↥cs)<=a/\(plc cs a ↥cs+1<↥cs->a<tt cs (plc cs a ↥cs+1)):=by
 have s:=D0 (cs:=cs) (t:=a) (by rw[o.t0];exact a0) ↥cs o.ne;exact#[s.2.1,s.1,λz=>s.2.2 _ (qBU _) z]
theorem UO (o:Ord cs){a b x:Rat}(a0:0<=a)(hk:∀k,k<↥cs->tt cs k<=a\/b<=tt cs k)(h1:a<=x)(h2:x<=b):val cs m x=val cs m a+sat cs m a*(x-a):=by
 obtain⟨jl,j1,j2⟩:=KA o a0;have ev:val cs m a=vv cs (plc cs a ↥cs)+slp cs m (plc cs a ↥cs)*(a-tt cs (plc cs a ↥cs)):=rfl;have es:sat cs m a=slp cs m (plc cs a ↥cs):=rfl;generalize plc cs a ↥cs=j at *
 have on:On cs j x:=#[jl,qAm j1 h1,λz=>by
  rcases hk (j+1) z with w|w
  .have:=j2 z;grind
  .exact qAm h2 w]
 rw[Bw o.up on,ev,es];grind
theorem Sd (o:Ord cs){a x:Rat}(hk:∀k,k<↥cs->tt cs k<=a)(h1:a<=x):val cs m x=val cs m a+m*(x-a)/\sat cs m a=m:=by
 have n:=o.ne;have l:=hk (↥cs-1) ();rw[BR n (qAm l h1),BR n l,NJ n l];exact#[⋯,rfl]
theorem Rf (o:Ord cs){a c:Rat}(a0:0<=a)(ac:a<c)(hk:∀k,k<↥cs->tt cs k<=a\/c<=tt cs k)(ne:sat cs m c≠sat cs m a):∃k,0<k/\k<↥cs/\tt cs k=c/\slp cs m k=sat cs m c/\slp cs m (k-1)=sat cs m a:=by
 obtain⟨jl,j1,j2⟩:=KA o a0;have es:sat cs m a=slp cs m (plc cs a ↥cs):=rfl;have ec:sat cs m c=slp cs m (plc cs c ↥cs):=rfl;generalize plc cs a ↥cs=j at *
 by_cases z:j+1<↥cs/\tt cs (j+1)=c
 .obtain⟨z1,z2⟩:=z;have e:plc cs c ↥cs=j+1:=HS o.up (by rw[z2];exact qAb) (λw=>by rw[<-z2];exact o.up _ w) _ z1 (qAg _);exact#[j+1,(),z1,z2,by rw[ec,e],by rw[es];rfl]
 .have e:plc cs c ↥cs=j:=HS o.up (qAm j1 (qAj ac)) (λw=>by
   rcases hk (j+1) w with y|y
   .have:=j2 w;grind
   .have:tt cs (j+1)≠c:=λy=>z #[w,y];grind) _ jl (qAg _)
  rw[ec,es,e]at ne;exact absurd rfl ne
end
def bT (fc:Cs)(fm:Rat)(gc:Cs)(gm:Rat)(t u:Rat):Prop:=u=0\/(∃k,0<k/\k<↥gc/\tt gc k=u/\slp gc gm (k-1)<slp gc gm k)\/∃k,0<k/\k<↥fc/\tt fc k=t+u/\slp fc fm k<slp fc fm (k-1)
theorem N5 {fc gc:Cs}{fm gm:Rat}(of:Ord fc)(og:Ord gc)(hm:fm<=gm){t:Rat}(t0:0<=t):∃u,0<=u/\bT fc fm gc gm t u/\∀v,0<=v->val fc fm (t+v)-val gc gm v<=val fc fm (t+u)-val gc gm u:=by
 obtain⟨F,hF⟩:∃F:List Rat,F=(0:Rat)::((List.range ↥gc).map (tt gc)++((List.range ↥fc).map λk=>tt fc k-t).filter λx=>decide (0<=x)):=#[_,rfl];have f0:(0:Rat)∈F:=by rw[hF];exact qAl.mpr (.inl rfl)
 have fg:∀k,k<↥gc->tt gc k∈F:=λk hk=>by
  rw[hF];exact qAl.mpr (.inr (qAq.mpr (.inl (qAy.mpr #[k,qAu.mpr hk,rfl]))))
 have ff:∀k,k<↥fc->t<=tt fc k->tt fc k-t∈F:=λk hk h=>by
  rw[hF];exact qAl.mpr (.inr (qAq.mpr (.inr (qA6.mpr #[qAy.mpr #[k,qAu.mpr hk,rfl],decide_eq_true ⋯]))))
 have nn:∀x∈F,0<=x:=λx hx=>by
  rw[hF]at hx;rcases qAl.mp hx with rfl|hx
  .exact qAb
  .rcases qAq.mp hx with hx|hx
   .obtain⟨k,hk,rfl⟩:=qAy.mp hx;have:=AU og.up (i:=0) (j:=k) () (qAu.mp hk);rw[og.t0]at this;exact this
   .exact of_decide_eq_true (qA6.mp hx).2
 clear hF;obtain⟨w,hw⟩:∃w:Rat->Rat,w=λu=>val fc fm (t+u)-val gc gm u:=#[_,rfl];have we:∀u,w u=val fc fm (t+u)-val gc gm u:=λu=>by rw[hw]
 have amid:∀p n,p∈F->(∀x∈F,x<=p\/n<=x)->∀x,p<=x->x<=n->w x=w p+(sat fc fm (t+p)-sat gc gm p)*(x-p):=λp n hp h x x1 x2=>by
  have p0:=nn p hp;have e1:=UO (m:=fm) of (a:=t+p) (b:=t+n) (x:=t+x) ⋯ (λk hk=>by
   by_cases c:t<=tt fc k
   .rcases h _ (ff k hk c) with y|y
    .left;grind
    .right;grind
   .left;grind) ⋯ ⋯
  have e2:=UO (m:=gm) og (a:=p) (b:=n) (x:=x) p0 (λk hk=>h _ (fg k hk)) x1 x2;rw[we,we,e1,e2];grind
 have behind:∀p,p∈F->(∀x∈F,x<=p)->∀x,p<=x->w x=w p+(fm-gm)*(x-p)/\sat fc fm (t+p)=fm/\sat gc gm p=gm:=λp hp h x x1=>by
  have e1:=Sd (m:=fm) of (a:=t+p) (x:=t+x) (λk hk=>by
   by_cases c:t<=tt fc k
   .have:=h _ (ff k hk c);grind
   .have:=nn p hp;grind) ⋯
  have e2:=Sd (m:=gm) og (a:=p) (x:=x) (λk hk=>h _ (fg k hk)) x1;refine#[?_,e1.2,e2.2];rw[we,we,e1.1,e2.1];grind
 obtain⟨y0,hy0,_,my0⟩:=Pr w (λ_=>True) F #[0,f0,trivial];obtain⟨y,hy,py,my⟩:=Pr (λx=>-x) (λx=>w x=w y0) F #[y0,hy0,rfl];have Pj:∀x∈F,w x<=w y:=λx hx=>by rw[py];exact my0 x hx trivial
 have first:∀x∈F,x<y->w x<w y:=λx hx lt=>by
  refine qA1.mp λz=>?_;have b:=Pj x hx;have:=my x hx (by rw[<-py];grind);grind
 have next:∀v,(∀x∈F,x<=v)\/∃n∈F,v<n/\∀x∈F,x<=v\/n<=x:=λv=>by
  by_cases c:∃x∈F,v<x
  .obtain⟨n,hn,pn,mn'⟩:=Pr (λx=>-x) (λx=>v<x) F c;refine .inr #[n,hn,pn,λx hx=>?_];by_cases d:v<x
   .right;have:=mn' x hx d;grind
   .left;grind
  .left;intro x hx;exact qAI.mp λz=>c #[x,hx,z]
 refine#[y,nn y hy,?_,λv v0=>?_]
 .by_cases c:y=0
  .exact .inl c
  right;have y0':0<y:=by have:=nn y hy;grind
  obtain⟨p,hp,lp,mp'⟩:=Pr (λx=>x) (λx=>x<y) F #[0,f0,y0'];have gapF:∀x∈F,x<=p\/y<=x:=λx hx=>by
   by_cases d:x<y
   .left;exact mp' x hx d
   .right;grind
  have a:=amid p y hp gapF y (qAj lp) qAb;have f1:=first p hp lp
  have s1:0<sat fc fm (t+p)-sat gc gm p:=by
   refine qA1.mp λz=>?_;have:0<=(-(sat fc fm (t+p)-sat gc gm p))*(y-p):=qAh ⋯ ⋯;grind
  have s2:sat fc fm (t+y)-sat gc gm y<=0:=by
   rcases next y with h|⟨n,hn,ln,gn⟩
   .obtain⟨_,e1,e2⟩:=behind y hy h y qAb;rw[e1,e2];grind
   .have a2:=amid y n hy gn n (qAj ln) qAb;have b:=Pj n hn;refine qAI.mp λz=>?_;have:=qA9 z (show 0<n-y from ⋯);grind
  have p0:=nn p hp;by_cases d:sat gc gm p<sat gc gm y
  .left;obtain⟨k,k0,kl,e,e1,e2⟩:=Rf (m:=gm) og p0 lp (λk hk=>gapF _ (fg k hk)) ⋯;exact#[k,k0,kl,e,by rw[e1,e2];exact d]
  .right;obtain⟨k,k0,kl,e,e1,e2⟩:=Rf (m:=fm) of (a:=t+p) (c:=t+y) ⋯ ⋯ (λk hk=>by
    by_cases c:t<=tt fc k
    .rcases gapF _ (ff k hk c) with y|y
     .left;grind
     .right;grind
    .left;grind) ⋯
   exact#[k,k0,kl,e,by rw[e1,e2];grind]
 .rw[<-we,<-we];obtain⟨p,hp,lp,mp'⟩:=Pr (λx=>x) (λx=>x<=v) F #[0,f0,v0];rcases next v with h|⟨n,hn,ln,gn⟩
  .have e:=(behind p hp (λx hx=>mp' x hx (h x hx)) v lp).1;have b:=Pj p hp;have:0<=(gm-fm)*(v-p):=qAh ⋯ ⋯;grind
  .have g2:∀x∈F,x<=p\/n<=x:=λx hx=>by
    rcases gn x hx with h|h
    .left;exact mp' x hx h
    .right;exact h
   have a1:=amid p n hp g2 v lp (qAj ln);have a2:=amid p n hp g2 n ⋯ qAb;have b1:=Pj p hp;have b2:=Pj n hn;by_cases c:0<=sat fc fm (t+p)-sat gc gm p
   .have:0<=(sat fc fm (t+p)-sat gc gm p)*(n-v):=qAh c ⋯;grind
   .have:0<=(-(sat fc fm (t+p)-sat gc gm p))*(v-p):=qAh ⋯ ⋯;grind
def IsU (fc:Cs)(fm:Rat)(gc:Cs)(gm:Rat)(t v:Rat):Prop:=0<=v/\(v=0\/∃u,0<=u/\val fc fm (t+u)-val gc gm u=v)/\∀u,0<=u->val fc fm (t+u)-val gc gm u<=v
def SF (L:List (Rat->Rat))(h:Rat->Rat):Prop:=∀t,0<=t->h t<=0/\(∀c∈L,h t<=c t)/\(h t=0\/∃c∈L,h t=c t)
theorem SF.nil:SF [] (λ_=>0):=λt _=>#[qAb,(λc hc=>nomatch hc),Or.inl rfl]
theorem SF.add {L:List (Rat->Rat)}{h c:Rat->Rat}(a:SF L h):SF (L++[c]) (Vf 0 h c):=λt t0=>by
 obtain⟨a1,a2,a3⟩:=a t t0;have e:Vf 0 h c t=mp (h t) (c t):=by unfold Vf;rw[if_neg ⋯]
 rw[e];by_cases z:h t<=c t
 .rw[Y5 z];refine#[a1,λd hd=>?_,?_]
  .rcases qAq.mp hd with hd|hd
   .exact a2 d hd
   .rw[qAM.mp hd];exact z
  .rcases a3 with y|⟨d,hd,y⟩
   .exact .inl y
   .exact .inr #[d,qAq.mpr (.inl hd),y]
 .rw[ZW ⋯];refine#[⋯,λd hd=>?_,.inr #[c,qAq.mpr (.inr (qAM.mpr rfl)),rfl]];rcases qAq.mp hd with hd|hd
  .have:=a2 d hd;grind
  .rw[qAM.mp hd];exact qAb
def cA (fc:Cs)(fm:Rat)(gc:Cs)(k:Nat)(t:Rat):Rat:=-val fc fm (t-(0-tt gc k))+vv gc k
def cB (fc:Cs)(gc:Cs)(gm:Rat)(k:Nat)(t:Rat):Rat:=val gc gm (if t-tt fc k<=0 then -(t-tt fc k) else 0)+(0-vv fc k)
def stI (cs:Cs)(m:Rat):List Nat:=((List.range (↥cs-1)).filter λn=>decide (slp cs m n<slp cs m (n+1))).map (· + 1)
def flI (cs:Cs)(m:Rat):List Nat:=((List.range (↥cs-1)).filter λn=>decide (slp cs m (n+1)<slp cs m n)).map (· + 1)
theorem Ng {cs:Cs}{m:Rat}{k:Nat}:k∈stI cs m ↔ k<↥cs/\0<k/\slp cs m (k-1)<slp cs m k:=by
 unfold stI;rw[qAy];constructor
 .rintro⟨n,hn,rfl⟩;have h:=qA6.mp hn;have h1:=qAu.mp h.1;exact#[(),(),of_decide_eq_true h.2]
 .rintro⟨h1,h2,h3⟩;refine#[k-1,qA6.mpr #[qAu.mpr (),?_],()];rw[show k-1+1=k from ()];exact decide_eq_true h3
theorem Nt {cs:Cs}{m:Rat}{k:Nat}:k∈flI cs m ↔ k<↥cs/\0<k/\slp cs m k<slp cs m (k-1):=by
 unfold flI;rw[qAy];constructor
 .rintro⟨n,hn,rfl⟩;have h:=qA6.mp hn;have h1:=qAu.mp h.1;exact#[(),(),of_decide_eq_true h.2]
 .rintro⟨h1,h2,h3⟩;refine#[k-1,qA6.mpr #[qAu.mpr (),?_],()];rw[show k-1+1=k from ()];exact decide_eq_true h3
theorem NG {α:Type}{p:Nat->Bool}{f:Nat->α}:∀l:List Nat,(l.map λn=>if p n=true then some (f (n+1)) else none).filterMap id=((l.filter p).map (· + 1)).map f
 |[]=>rfl
 |a::l=>by
  have ih:=NG (p:=p) (f:=f) l;rw[qCo,qBn];by_cases c:p a=true
  .rw[if_pos c,if_pos c,qCo,qCo,<-ih];rfl
  .rw[if_neg c,if_neg c,<-ih];rfl
def Zb (fc:Cs)(fm:Rat)(gc:Cs)(gm:Rat):List (Rat->Rat):=(0::stI gc gm).map (cA fc fm gc)++(flI fc fm).map (cB fc gc gm)
section
variable {fc gc:Cs}{fm gm:Rat}
theorem BW {cs:Cs}(o:Ord cs){k:Nat}(h:k<↥cs):0<=tt cs k:=by
 have:=AU o.up (i:=0) (j:=k) () h;rw[o.t0]at this;exact this
theorem VI (og:Ord gc){k:Nat}(h:k<↥gc)(t:Rat):cA fc fm gc k t=val gc gm (tt gc k)-val fc fm (t+tt gc k):=by
 unfold cA;rw[BU og h,show t-(0-tt gc k)=t+tt gc k from ⋯];grind
theorem Yt (of:Ord fc){k:Nat}(h:k<↥fc){t:Rat}(ht:t<=tt fc k):cB fc gc gm k t=val gc gm (tt fc k-t)-val fc fm (t+(tt fc k-t)):=by
 unfold cB;rw[if_pos ⋯,show t+(tt fc k-t)=tt fc k from ⋯,BU of h,show -(t-tt fc k)=tt fc k-t from ⋯];grind
theorem X8 (of:Ord fc)(t:Rat){k:Nat}(ht:¬t<=tt fc k):cB fc gc gm k t=val gc gm 0-vv fc k:=by
 unfold cB;rw[if_neg ⋯];grind
theorem YH (rf:C1 fc fm)(rg:C1 gc gm)(hm:fm<=gm){h:Rat->Rat}(a:SF (Zb fc fm gc gm) h){t:Rat}(t0:0<=t):IsU fc fm gc gm t (-h t):=by
 obtain⟨a1,a2,a3⟩:=a t t0;have inA:∀k,k=0\/k∈stI gc gm->cA fc fm gc k∈Zb fc fm gc gm:=λk hk=>qAq.mpr (.inl (qAy.mpr #[k,qAl.mpr hk,rfl]));have inB:∀k,k∈flI fc fm->cB fc gc gm k∈Zb fc fm gc gm:=λk hk=>qAq.mpr (.inr (qAy.mpr #[k,hk,rfl]));have g0:=rg.o.ne;have z0:cA fc fm gc 0 t=val gc gm 0-val fc fm (t+0):=by rw[VI (gm:=gm) rg.o g0,rg.o.t0]
 have b0:=a2 _ (inA 0 (.inl rfl));rw[z0]at b0;refine#[⋯,?_,λu u0=>?_]
 .rcases a3 with e|⟨c,hc,e⟩
  .left;grind
  right;rcases qAq.mp hc with hc|hc
  .obtain⟨k,hk,rfl⟩:=qAy.mp hc;have kl:k<↥gc:=by
    rcases qAl.mp hk with rfl|hk
    .exact g0
    .exact(Ng.mp hk).1
   refine#[tt gc k,BW rg.o kl,?_];rw[e,VI (gm:=gm) rg.o kl];grind
  .obtain⟨k,hk,rfl⟩:=qAy.mp hc;have kl:=(Nt.mp hk).1;by_cases z:t<=tt fc k
   .refine#[tt fc k-t,⋯,?_];rw[e,Yt (fm:=fm) rf.o kl z];grind
   .refine#[0,qAb,?_];rw[X8 rf.o t z]at e;have:vv fc k<=val fc fm (t+0):=by
     rw[show t+0=t from ⋯];exact Rn rf kl ⋯
    grind
 .obtain⟨w,w0,cw,Pj⟩:=N5 rf.o rg.o hm t0;refine qAm (Pj u u0) ?_;rcases cw with rfl|⟨k,k0,kl,e,s⟩|⟨k,k0,kl,e,s⟩
  .grind
  .have:=a2 _ (inA k (.inr (Ng.mpr #[kl,k0,s])));rw[VI (gm:=gm) rg.o kl,e]at this;grind
  .have:=a2 _ (inB k (Nt.mpr #[kl,k0,s]));rw[Yt (fm:=fm) rf.o kl ⋯,e,show t+w-t=w from ⋯]at this;grind
theorem Ta (rf:C1 fc fm){x y v w:Rat}(x0:0<=x)(xy:x<=y)(a:IsU fc fm gc gm x v)(b:IsU fc fm gc gm y w):v<=w:=by
 obtain⟨a0,a1,a2⟩:=a;obtain⟨b0,b1,b2⟩:=b;rcases a1 with e|⟨u,u0,e⟩
 .grind
 .have h1:=b2 u u0;have h2:val fc fm (x+u)<=val fc fm (y+u):=Bh rf ⋯ ⋯;grind
theorem TK (rf:C1 fc fm)(rg:C1 gc gm)(hm:fm<=gm){C:Cs}{M:Rat}(o:Ord C)(a:∀t,0<=t->IsU fc fm gc gm t (val C M t)):M=fm:=by
 have fn:=rf.o.ne;have cn:=o.ne;have gn:=rg.o.ne;have f0:=BW rf.o (show ↥fc-1<↥fc from ());have c0:=BW o (show ↥C-1<↥C from ());have g0:=BW rg.o (show ↥gc-1<↥gc from ());generalize eA:tt fc (↥fc-1)+tt C (↥C-1)=A;have A0:0<=A:=⋯;have vC:∀x,A<=x->val C M x=val C M A+M*(x-A):=λx hx=>by
  rw[BR cn ⋯,BR cn (show tt C (↥C-1)<=A from ⋯)];grind
 have vF:∀x,A<=x->val fc fm x=val fc fm A+fm*(x-A):=λx hx=>by
  rw[BR fn ⋯,BR fn (show tt fc (↥fc-1)<=A from ⋯)];grind
 have low:fm<=M:=by
  refine Ky (f0:=val fc fm A-val gc gm 0) (g0:=val C M A) (a:=A) λx hx=>?_;rw[<-vC x hx];have:=(a x ⋯).2.2 0 qAb;rw[show x+0=x from ⋯,vF x hx]at this;grind
 have gb:∀u,0<=u->fm*u-val gc gm u<=fm*tt gc (↥gc-1):=λu u0=>by
  have m0:=rf.m0;by_cases c:u<=tt gc (↥gc-1)
  .have h1:0<=val gc gm u:=by
    have:=Bh rg qAb u0;rw[Bz rg.o]at this;exact qAm rg.o.v0 this
   have h2:0<=fm*(tt gc (↥gc-1)-u):=qAh m0 ⋯;grind
  .have e:=BR (M:=gm) gn (show tt gc (↥gc-1)<=u from ⋯);have h1:0<=vv gc (↥gc-1):=by
    have:=Bh rg qAb g0;rw[Bz rg.o,BU rg.o ()]at this;exact qAm rg.o.v0 this
   have h2:0<=(gm-fm)*(u-tt gc (↥gc-1)):=qAh ⋯ ⋯;grind
 have up:M<=fm:=by
  have fA:0<=val fc fm A:=by
   have:=Bh rf qAb A0;rw[Bz rf.o]at this;exact qAm rf.o.v0 this
  refine Ky (f0:=val C M A) (g0:=val fc fm A+fm*tt gc (↥gc-1)) (a:=A) λx hx=>?_;rw[<-vC x hx];have m0:=rf.m0;have k1:0<=fm*tt gc (↥gc-1):=qAh m0 g0;have k2:0<=fm*(x-A):=qAh m0 ⋯;rcases(a x ⋯).2.1 with e|⟨u,u0,e⟩
  .rw[e];grind
  .rw[<-e,vF (x+u) ⋯];have:=gb u u0;grind
 grind
end
def Od (m b:Rat):RL:=(m.num*(b.den:Int),b.num*(m.den:Int),(m.den:Int)*(b.den:Int))
def qr (q:Rat):Int×Int:=(q.num,(q.den:Int))
def Dk (cs:Cs)(m:Rat):List RP:=(List.range ↥cs).map λk=>(qr (tt cs k),Od (slp cs m k) (vv cs k-slp cs m k*tt cs k))
theorem Dl {cs:Cs}{m:Rat}:(Dk cs m).length=↥cs:=by unfold Dk;simp
theorem E4 {cs:Cs}{m:Rat}{k:Nat}(h:k<↥cs):(Dk cs m)[k]? = some (qr (tt cs k),Od (slp cs m k) (vv cs k-slp cs m k*tt cs k)):=by
 unfold Dk;rw[qAd,qAJ h];rfl
theorem T2 {cs:Cs}{m:Rat}{k:Nat}(h:k<↥cs):(EK cs m)[k]? = some (tt cs k,(slp cs m k,vv cs k-slp cs m k*tt cs k)):=by
 unfold EK;rw[qAd,qAJ h];rfl
theorem TQ {a b c:Nat}{cs:Cs}{m:Rat}(o:Ord cs)(z:LS a b c cs m):PL (b+c) a (Dk cs m) (EK cs m):=by
 have l:=z.ln o;refine#[by rw[Dl,Bb],λi p q h1 h2=>?_];have hi:i<↥cs:=by have:=(qAf.mp h1).1;rw[Dl]at this;exact this
 rw[E4 hi]at h1;rw[T2 hi]at h2;cases h1;cases h2;exact#[Wq.of (z.tm i hi),Qn (l i hi).1 (l i hi).2]
def frR (ps:List RP)(c:Nat):List RP:=((0,1),(ps.getD (c-1) ((0,1),(0,0,1))).2)::ps.drop c
theorem XD {k m:Nat}{ps:List RP}{P:Ps}(h:PL k m ps P){c:Nat}(c0:0<c)(cl:c<=↥P)(hm:1<=m):PL k m (frR ps c) (frN P c):=by
 have len:=h.len;refine#[by rw[E6];unfold frR;rw[qAQ,qAP,len],λi p q h1 h2=>?_];cases i with
 |zero=>
  cases h1;cases h2;have hg:ps[c-1]? = some (ps.getD (c-1) ((0,1),(0,0,1))):=by
   rw[qAe,qAc (show c-1<↥ps from ())];rfl
  exact#[(show Wq 1 0 1 0 from Wq.of Sz.zero).mono hm,(h.lnw hg).1]
 |succ i=>
  have g1:(ps.drop c)[i]? = some p:=h1;have g2:(P.drop c)[i]? = some q:=h2;rw[qBo]at g1 g2;exact h.at_ _ p q g1 g2
def trR (cs:Cs)(m far:Rat):List RP:=((List.range ↥cs).map λk=>((qr (if k+1<↥cs then 0-tt cs (k+1) else 0-far),(-(Od (slp cs m k) (vv cs k-slp cs m k*tt cs k)).1,(Od (slp cs m k) (vv cs k-slp cs m k*tt cs k)).2)):RP)).reverse++[((0,1),(0,(Od (slp cs m 0) (vv cs 0-slp cs m 0*tt cs 0)).2))]
theorem YR {a b c:Nat}{cs:Cs}{m far:Rat}(o:Ord cs)(z:LS a b c cs m){n:Nat}(hf:Sz n far)(ha:a+2<=n):PL (b+c) (n+2) (trR cs m far) (Hq (EK cs m) far):=by
 have l:=z.ln o;have lw:∀k,k<↥cs->LW (b+c) (Od (slp cs m k) (vv cs k-slp cs m k*tt cs k)) (slp cs m k,vv cs k-slp cs m k*tt cs k):=λk hk=>Qn (l k hk).1 (l k hk).2;have n0:=o.ne;refine#[by rw[Gf,Bb];unfold trR;simp,λi p q h1 h2=>?_];have hlen:(trR cs m far).length=↥cs+1:=by unfold trR;simp
 have hi:i<↥cs+1:=by have:=(qAf.mp h1).1;rw[hlen]at this;exact this
 by_cases c1:i<↥cs
 .unfold trR at h1;rw[qAt (by simp;exact c1),qBC (by simp;exact c1),qAa,qAz,qAd,qAJ ()]at h1;cases h1;obtain⟨e1,e2⟩:=G5 h2;have ta:=GR (P:=EK cs m) (far:=far) (i:=i) (by rw[Bb];exact c1);rw[Bb]at ta;rw[ta.1]at e1;rw[ta.2,(Cr (show ↥cs-1-i<↥cs from ())).2]at e2;have hk:=lw (↥cs-1-i) ();refine#[?_,?_]
  .rw[<-e1];dsimp only;by_cases z0:0<i
   .rw[if_pos (show ↥cs-1-i+1<↥cs from ()),if_pos z0,(Cr (show ↥cs-i<↥cs from ())).1,show ↥cs-1-i+1=↥cs-i from (),show(0:Rat)-tt cs (↥cs-i)=-tt cs (↥cs-i) from ⋯];have s0:=(Sz.zero.sub (z.tm (↥cs-i) ()));rw[show(0:Rat)-tt cs (↥cs-i)=-tt cs (↥cs-i) from ⋯]at s0;exact(Wq.of s0).mono ()
   .rw[if_neg (show ¬↥cs-1-i+1<↥cs from ()),if_neg z0,show(0:Rat)-far=-far from ⋯];have s0:=Sz.zero.sub hf;rw[show(0:Rat)-far=-far from ⋯]at s0;exact(Wq.of s0).mono ()
  .rw[<-e2];exact#[hk.s.neg,hk.c]
 .have:i=↥cs:=();subst this;unfold trR at h1;rw[qAw (by simp)]at h1;simp at h1;subst h1;obtain⟨e1,e2⟩:=G5 h2;have te:=HI (P:=EK cs m) (far:=far);rw[Bb]at te;rw[te.1]at e1;rw[te.2,(Cr n0).2]at e2;have hk:=lw 0 n0;refine#[?_,?_]
  .rw[<-e1];exact(show Wq 1 0 1 0 from Wq.of Sz.zero).mono ()
  .rw[<-e2];exact#[#[hk.c.pos,by rw[show((0:Int):Rat)=0 from rfl];grind,by show(0:Int).natAbs<_;exact Nat.two_pow_pos _,hk.c.lb],hk.c]
abbrev R4:=(Int×Int)×Nat×Nat
def tmF (rw:List R4)(n:Nat):Int×Int:=(rw.getD n ((0,1),0,0)).1
def iF' (rw:List R4)(n:Nat):Nat:=(rw.getD n ((0,1),0,0)).2.1
def jF (rw:List R4)(n:Nat):Nat:=(rw.getD n ((0,1),0,0)).2.2
def aF (rw:List R4)(n:Nat):Rat:=Rat.divInt (tmF rw n).1 (tmF rw n).2
theorem cF {rw:List R4}{r:R4}{n:Nat}(h:n<↥rw):tmF (rw++[r]) n=tmF rw n/\iF' (rw++[r]) n=iF' rw n/\jF (rw++[r]) n=jF rw n/\aF (rw++[r]) n=aF rw n:=by
 have e:(rw++[r]).getD n ((0,1),0,0)=rw.getD n ((0,1),0,0):=by
  rw[qAe,qAe,qAt h]
 unfold aF tmF iF' jF;rw[e];exact#[rfl,rfl,rfl,rfl]
theorem aZ {rw:List R4}{r:R4}:tmF (rw++[r]) ↥rw=r.1/\iF' (rw++[r]) ↥rw=r.2.1/\jF (rw++[r]) ↥rw=r.2.2/\aF (rw++[r]) ↥rw=Rat.divInt r.1.1 r.1.2:=by
 have e:(rw++[r]).getD ↥rw ((0,1),0,0)=r:=by
  rw[qAe,qAw (qAg _),qCv];rfl
 unfold aF tmF iF' jF;rw[e];exact#[rfl,rfl,rfl,rfl]
theorem V7 {rw:List R4}{n:Nat}(h:n<↥rw):rw[n]? = some (tmF rw n,iF' rw n,jF rw n):=by
 unfold tmF iF' jF;rw[qAe,qAc h];rfl
def dfR:RP:=((0,1),(0,0,1))
def VH (ps os:List RP)(r:R4):D:=.tup [.tup [.int r.1.1,.int r.1.2],lnD (ps.getD r.2.1 dfR).2,lnD (os.getD r.2.2 dfR).2]
theorem Ko {k:Nat}{a b:Int}{x:Rat}(h:Wq k a b x):Rat.divInt a b=x:=by
 have hb:(b:Rat)≠0:=by have:=qAY.mpr h.pos;grind
 rw[qAG,h.eq];have k2:x*(b:Rat)/(b:Rat)*(b:Rat)=x*(b:Rat):=qA7 hb;have k3:(x*(b:Rat)/(b:Rat)-x)*(b:Rat)=0:=⋯;rcases qBg.mp k3 with z|z
 .grind
 .exact absurd z hb
structure Sn (P O:Ps)(m:Nat)(rw:List R4):Prop where
 n0:0<↥rw
 w:∀n,n<↥rw->Wq m (tmF rw n).1 (tmF rw n).2 (aF rw n)
 a0:aF rw 0=bg O 0
 j0:jF rw 0=0
 iP:∀n,n<↥rw->iF' rw n<↥P
 jO:∀n,n<↥rw->jF rw n<↥O
 bi:∀n,n<↥rw->bg P (iF' rw n)<=aF rw n
 bj:∀n,n<↥rw->bg O (jF rw n)<=aF rw n
 up:∀n,n+1<↥rw->aF rw n<aF rw (n+1)
 ei:∀n,n+1<↥rw->iF' rw n+1<↥P->aF rw (n+1)<=bg P (iF' rw n+1)
 ej:∀n,n+1<↥rw->jF rw n+1<↥O->aF rw (n+1)<=bg O (jF rw n+1)
 li:iF' rw (↥rw-1)+1<↥P->aF rw (↥rw-1)<bg P (iF' rw (↥rw-1)+1)
 lj:jF rw (↥rw-1)+1<↥O->aF rw (↥rw-1)<bg O (jF rw (↥rw-1)+1)
 si:∀n,n+1<↥rw->iF' rw (n+1)=iF' rw n\/(iF' rw (n+1)=iF' rw n+1/\aF rw (n+1)=bg P (iF' rw n+1))
 sj:∀n,n+1<↥rw->jF rw (n+1)=jF rw n\/(jF rw (n+1)=jF rw n+1/\aF rw (n+1)=bg O (jF rw n+1))
 mv:∀n,n+1<↥rw->iF' rw (n+1)=iF' rw n->jF rw (n+1)≠jF rw n
 cnt:↥rw+iF' rw 0<=iF' rw (↥rw-1)+jF rw (↥rw-1)+1+iF' rw 0
theorem Sn.all {P O:Ps}{m:Nat}{rw:List R4}(s:Sn P O m rw)(h1:¬iF' rw (↥rw-1)+1<↥P)(h2:¬jF rw (↥rw-1)+1<↥O):Sbs P O ↥rw (aF rw) (iF' rw) (jF rw):=by
 refine#[s.n0,s.a0,s.j0,s.iP,s.jO,s.bi,s.bj,s.up,λn hn z=>?_,λn hn z=>?_,s.si,s.sj,s.mv]
 .by_cases c:n+1<↥rw
  .exact#[c,s.ei n c z]
  .rw[show n=↥rw-1 from ()]at z;exact absurd z h1
 .by_cases c:n+1<↥rw
  .exact#[c,s.ej n c z]
  .rw[show n=↥rw-1 from ()]at z;exact absurd z h2
theorem Sn.one {P O:Ps}{m:Nat}{tm:Int×Int}{i:Nat}(w:Wq m tm.1 tm.2 (bg O 0))(hi:i<↥P)(ho:0<↥O)(b:bg P i<=bg O 0)(l:i+1<↥P->bg O 0<bg P (i+1))(u:1<↥O->bg O 0<bg O 1):Sn P O m [(tm,i,0)]:=by
 have e:=Ko w;have ea:aF [(tm,i,0)] 0=bg O 0:=e;have z:∀n,n < [(tm,i,(0:Nat))].length->n=0:=λn hn=>by have:n<1:=hn;omega
 have nn:∀n,¬n+1 < [(tm,i,(0:Nat))].length:=λn hn=>by have:n+1<1:=hn;omega
 refine#[by simp,λn hn=>?_,ea,rfl,λn hn=>?_,λn hn=>?_,λn hn=>?_,λn hn=>?_,λn hn=>absurd hn (nn n),λn hn=>absurd hn (nn n),λn hn=>absurd hn (nn n),λh=>?_,λh=>?_,λn hn=>absurd hn (nn n),λn hn=>absurd hn (nn n),λn hn=>absurd hn (nn n),?_]
 .rw[z n hn,ea];exact w
 .rw[z n hn];exact hi
 .rw[z n hn];exact ho
 .rw[z n hn,ea];exact b
 .rw[z n hn,ea];exact qAb
 .show aF [(tm,i,0)] 0<_;rw[ea];exact l h
 .show aF [(tm,i,0)] 0<_;rw[ea];exact u h
 .show 1+i<=i+0+1+i;omega
theorem Sn.step {P O:Ps}{m:Nat}{rw:List R4}(s:Sn P O m rw)(uP:∀i,i+1<↥P->bg P i<bg P (i+1))(uO:∀i,i+1<↥O->bg O i<bg O (i+1)){tm:Int×Int}{x:Rat}{i' j':Nat}(w:Wq m tm.1 tm.2 x)
 (x1:iF' rw (↥rw-1)+1<↥P->x<=bg P (iF' rw (↥rw-1)+1)) (x2:jF rw (↥rw-1)+1<↥O->x<=bg O (jF rw (↥rw-1)+1))
 (x3:(iF' rw (↥rw-1)+1<↥P/\x=bg P (iF' rw (↥rw-1)+1))\/(jF rw (↥rw-1)+1<↥O/\x=bg O (jF rw (↥rw-1)+1)))
 (ei':i'=if iF' rw (↥rw-1)+1<↥P/\¬x<bg P (iF' rw (↥rw-1)+1) then iF' rw (↥rw-1)+1 else iF' rw (↥rw-1))
 (ej':j'=if jF rw (↥rw-1)+1<↥O/\¬x<bg O (jF rw (↥rw-1)+1) then jF rw (↥rw-1)+1 else jF rw (↥rw-1)):Sn P O m (rw++[(tm,i',j')]):=by
 have ln:(rw++[(tm,i',j')]).length=↥rw+1:=by simp
 have n0:=s.n0;have ex:=Ko w;have L:=λn (hn:n<↥rw)=>cF (rw:=rw) (r:=(tm,i',j')) hn;have Rr:=aZ (rw:=rw) (r:=(tm,i',j'));have rA:aF (rw++[(tm,i',j')]) ↥rw=x:=by rw[Rr.2.2.2];exact ex
 have rI:iF' (rw++[(tm,i',j')]) ↥rw=i':=Rr.2.1;have rJ:jF (rw++[(tm,i',j')]) ↥rw=j':=Rr.2.2.1;have rT:tmF (rw++[(tm,i',j')]) ↥rw=tm:=Rr.1;have hL:↥rw-1<↥rw:=();have a1:=s.iP _ hL;have a2:=s.jO _ hL;have a3:=s.bi _ hL;have a4:=s.bj _ hL;have a5:=s.li;have a6:=s.lj;have cn:=s.cnt;generalize eI:iF' rw (↥rw-1)=I0 at *
 generalize eJ:jF rw (↥rw-1)=J0 at *
 generalize eA:aF rw (↥rw-1)=A0 at *
 have lt:A0<x:=by
  rcases x3 with⟨h,e⟩|⟨h,e⟩
  .rw[e];exact a5 h
  .rw[e];exact a6 h
 have hi:(i'=I0/\(I0+1<↥P->x<bg P (I0+1)))\/(i'=I0+1/\I0+1<↥P/\x=bg P (I0+1)):=by
  by_cases c:I0+1<↥P/\¬x<bg P (I0+1)
  .rw[if_pos c]at ei';have:=x1 c.1;exact .inr #[ei',c.1,⋯]
  .rw[if_neg c]at ei';exact .inl #[ei',λh=>Decidable.byContradiction λz=>c #[h,z]]
 have hj:(j'=J0/\(J0+1<↥O->x<bg O (J0+1)))\/(j'=J0+1/\J0+1<↥O/\x=bg O (J0+1)):=by
  by_cases c:J0+1<↥O/\¬x<bg O (J0+1)
  .rw[if_pos c]at ej';have:=x2 c.1;exact .inr #[ej',c.1,⋯]
  .rw[if_neg c]at ej';exact .inl #[ej',λh=>Decidable.byContradiction λz=>c #[h,z]]
 have one:¬(i'=I0/\j'=J0):=λz=>by
  rcases x3 with⟨h,e⟩|⟨h,e⟩
  .rcases hi with y|y
   .have:=y.2 h;grind
   .omega
  .rcases hj with y|y
   .have:=y.2 h;grind
   .omega
 have old:∀{q:Nat->Prop},(∀n,n<↥rw->q n)->q ↥rw->∀n,n<(rw++[(tm,i',j')]).length->q n:=λ{q} h1 h2 n hn=>by
  rw[ln]at hn;by_cases c:n<↥rw
  .exact h1 n c
  .rw[show n=↥rw from ()];exact h2
 have old2:∀{q:Nat->Prop},(∀n,n+1<↥rw->q n)->q (↥rw-1)->∀n,n+1<(rw++[(tm,i',j')]).length->q n:=λ{q} h1 h2 n hn=>by
  rw[ln]at hn;by_cases c:n+1<↥rw
  .exact h1 n c
  .rw[show n=↥rw-1 from ()];exact h2
 have pre:↥rw-1+1=↥rw:=();have lI:iF' (rw++[(tm,i',j')]) (↥rw-1)=I0:=by rw[(L _ hL).2.1];exact eI
 have lJ:jF (rw++[(tm,i',j')]) (↥rw-1)=J0:=by rw[(L _ hL).2.2.1];exact eJ
 have lA:aF (rw++[(tm,i',j')]) (↥rw-1)=A0:=by rw[(L _ hL).2.2.2];exact eA
 have nl:(rw++[(tm,i',j')]).length-1=↥rw:=by rw[ln];omega
 refine#[(),old (λn hn=>?_) ?_,?_,?_,old (λn hn=>?_) ?_,old (λn hn=>?_) ?_,old (λn hn=>?_) ?_,old (λn hn=>?_) ?_,old2 (λn hn=>?_) ?_,old2 (λn hn=>?_) ?_,old2 (λn hn=>?_) ?_,?_,?_,old2 (λn hn=>?_) ?_,old2 (λn hn=>?_) ?_,old2 (λn hn=>?_) ?_,?_]
 .rw[(L n hn).1,(L n hn).2.2.2];exact s.w n hn
 .rw[rT,rA];exact w
 .rw[(L 0 n0).2.2.2];exact s.a0
 .rw[(L 0 n0).2.2.1];exact s.j0
 .rw[(L n hn).2.1];exact s.iP n hn
 .rw[rI];rcases hi with y|y<;>omega
 .rw[(L n hn).2.2.1];exact s.jO n hn
 .rw[rJ];rcases hj with y|y<;>omega
 .rw[(L n hn).2.1,(L n hn).2.2.2];exact s.bi n hn
 .rw[rI,rA];rcases hi with y|y
  .rw[y.1];grind
  .rw[y.1,y.2.2];exact qAb
 .rw[(L n hn).2.2.1,(L n hn).2.2.2];exact s.bj n hn
 .rw[rJ,rA];rcases hj with y|y
  .rw[y.1];grind
  .rw[y.1,y.2.2];exact qAb
 .rw[(L n ()).2.2.2,(L (n+1) hn).2.2.2];exact s.up n hn
 .rw[pre,lA,rA];exact lt
 .rw[(L n ()).2.1,(L (n+1) hn).2.2.2];exact s.ei n hn
 .rw[pre,lI,rA];exact x1
 .rw[(L n ()).2.2.1,(L (n+1) hn).2.2.2];exact s.ej n hn
 .rw[pre,lJ,rA];exact x2
 .rw[nl,rI,rA];intro h;rcases hi with y|y
  .rw[y.1]at h ⊢;exact y.2 h
  .rw[y.1]at h ⊢;rw[y.2.2];exact uP _ h
 .rw[nl,rJ,rA];intro h;rcases hj with y|y
  .rw[y.1]at h ⊢;exact y.2 h
  .rw[y.1]at h ⊢;rw[y.2.2];exact uO _ h
 .rw[(L n ()).2.1,(L (n+1) hn).2.1,(L (n+1) hn).2.2.2];exact s.si n hn
 .rw[pre,lI,rI,rA];rcases hi with y|y
  .exact .inl y.1
  .exact .inr #[y.1,y.2.2]
 .rw[(L n ()).2.2.1,(L (n+1) hn).2.2.1,(L (n+1) hn).2.2.2];exact s.sj n hn
 .rw[pre,lJ,rJ,rA];rcases hj with y|y
  .exact .inl y.1
  .exact .inr #[y.1,y.2.2]
 .rw[(L n ()).2.1,(L (n+1) hn).2.1,(L n ()).2.2.1,(L (n+1) hn).2.2.1];exact s.mv n hn
 .rw[pre,lI,lJ,rI,rJ];exact λz y=>one #[z,y]
 .rw[nl,rI,rJ,ln];rcases hi with y|y<;>rcases hj with z|z<;>omega
theorem K5 {α:Type}{f:α->D}{xs:List α}{j:Nat}{a b:Int}(e1:a=(j:Int)+1)(e2:b=(j:Int)+2):FV (xs.map f) (some a) (some b)=((xs.drop (j+1)).take 1).map f:=by
 have e1:a=((j+1:Nat):Int):=();have e2:b=((j+2:Nat):Int):=();subst e1 e2;unfold FV;rw[HT.sIx_nat,HT.sIx_nat,qAa];by_cases c:j+1<↥xs
 .rw[qBP (),qBP (),<-qBX,<-List.map_take,show j+2-(j+1)=1 from ()]
 .rw[Nat.min_eq_right (),Nat.min_eq_right (),qCv,List.take_zero,qCJ (show ↥xs<=j+1 from ())];rfl
theorem KU {ps:List RP}{j:Nat}(h:j<↥ps):(ps.drop j).take 1=[ps.getD j dfR]:=by
 have g:ps[j]? = some (ps.getD j dfR):=by
  rw[qAe,qAc h];rfl
 rw[show(1:Nat)=0+1 from rfl,qBH,qBo,Nat.add_zero,g];rfl
theorem O2 {ps:List RP}{j:Nat}(h:¬j<↥ps):(ps.drop j).take 1=[]:=by
 rw[qCJ ()];rfl
theorem cY {k m:Nat}{ps os:List RP}{P O:Ps}(lp:PL k m ps P)(lo:PL k m os O){i j:Nat}(hc:i+1<↥P\/j+1<↥O) :
 ∃(p q:RP)(s t x:Rat)(tm:Int×Int),0<((ps.drop (i+1)).take 1++(os.drop (j+1)).take 1).length/\((ps.drop (i+1)).take 1++(os.drop (j+1)).take 1).getD 0 dfR=p/\((ps.drop (i+1)).take 1++(os.drop (j+1)).take 1).getD (((ps.drop (i+1)).take 1++(os.drop (j+1)).take 1).length-1) dfR=q/\Wq m p.1.1 p.1.2 s/\Wq m q.1.1 q.1.2 t/\(if t<s then tp q.1.1 q.1.2 else tp p.1.1 p.1.2)=tp tm.1 tm.2/\Wq m tm.1 tm.2 x /\
  (i+1<↥P->x<=bg P (i+1))/\(j+1<↥O->x<=bg O (j+1))/\((i+1<↥P/\x=bg P (i+1))\/(j+1<↥O/\x=bg O (j+1))):=by
 have l1:=lp.len;have l2:=lo.len;have g:∀{zs:List RP}{n:Nat},n<↥zs->zs[n]? = some (zs.getD n dfR):=λ{zs n} h=>by
  rw[qAe,qAc h];rfl
 by_cases c1:i+1<↥P
 .have w1:=(lp.lnw (g (show i+1<↥ps from ()))).2.1;rw[KU (show i+1<↥ps from ())];by_cases c2:j+1<↥O
  .have w2:=(lo.lnw (g (show j+1<↥os from ()))).2.1;rw[KU (show j+1<↥os from ())];refine#[_,_,_,_,if bg O (j+1)<bg P (i+1) then bg O (j+1) else bg P (i+1),if bg O (j+1)<bg P (i+1) then (os.getD (j+1) dfR).1 else (ps.getD (i+1) dfR).1,by simp,rfl,rfl,w1,w2,?_,?_,λ_=>?_,λ_=>?_,?_]
   .by_cases z:bg O (j+1)<bg P (i+1)
    .rw[if_pos z,if_pos z];rfl
    .rw[if_neg z,if_neg z];rfl
   .by_cases z:bg O (j+1)<bg P (i+1)
    .rw[if_pos z,if_pos z];exact w2
    .rw[if_neg z,if_neg z];exact w1
   .split<;>grind
   .split<;>grind
   .by_cases z:bg O (j+1)<bg P (i+1)
    .rw[if_pos z];exact .inr #[c2,rfl]
    .rw[if_neg z];exact .inl #[c1,rfl]
  .rw[O2 (show ¬j+1<↥os from ())];exact#[_,_,_,_,_,(ps.getD (i+1) dfR).1,by simp,rfl,rfl,w1,w1,by rw[if_neg qA8];rfl,w1,λ_=>qAb,λz=>absurd z c2,.inl #[c1,rfl]]
 .have c2:j+1<↥O:=hc.resolve_left c1;have w2:=(lo.lnw (g (show j+1<↥os from ()))).2.1;rw[O2 (show ¬i+1<↥ps from ()),KU (show j+1<↥os from ())];exact#[_,_,_,_,_,(os.getD (j+1) dfR).1,by simp,rfl,rfl,w2,w2,by rw[if_neg qA8];rfl,w2,λz=>absurd z c1,λ_=>qAb,.inr #[c2,rfl]]
theorem Ui {P:Ps}(u:∀i,i+1<↥P->bg P i<bg P (i+1))(x:Rat):∃c,c<=↥P/\(∀i,i<c->bg P i<x)/\∀i,c<=i->i<↥P->x<=bg P i:=by
 have key:∀n,n<=↥P->∃c,c<=n/\(∀i,i<c->bg P i<x)/\∀i,c<=i->i<n->x<=bg P i:=λn=>by
  induction n with
  |zero=>intro _;exact#[0,qAg _,λi hi=>absurd hi (qBf i),λi _ hi=>absurd hi (qBf i)]
  |succ n ih=>
   intro hn;obtain⟨c,c1,c2,c3⟩:=ih ();by_cases e:c<n
   .refine#[c,(),c2,λi h1 h2=>?_];by_cases z:i<n
    .exact c3 i h1 z
    .have:=c3 (n-1) () ();have u':=u (n-1) ();rw[show n-1+1=n from ()]at u';rw[show i=n from ()];grind
   .have ec:c=n:=();subst ec;by_cases z:bg P c<x
    .exact#[c+1,qAg _,λi hi=>by
      by_cases y:i<c
      .exact c2 i y
      .rw[show i=c from ()];exact z,λi h1 h2=>()]
    .exact#[c,(),c2,λi h1 h2=>by rw[show i=c from ()];grind]
 exact key ↥P (qAg _)
theorem Qm {P:Ps}(u:∀i,i+1<↥P->bg P i<bg P (i+1))(x:Rat):∃c,c<=↥P/\(∀i,i<c->bg P i<=x)/\∀i,c<=i->i<↥P->x<bg P i:=by
 obtain⟨c,c1,c2,c3⟩:=Ui u x;by_cases z:c<↥P/\bg P c<=x
 .refine#[c+1,z.1,λi hi=>?_,λi h1 h2=>?_]
  .by_cases y:i<c
   .exact qAj (c2 i y)
   .rw[show i=c from ()];exact z.2
  .have m:∀d,c+1+d<↥P->bg P c<bg P (c+1+d):=λd=>by
    induction d with
    |zero=>intro h;exact u c h
    |succ d ih=>intro h;have:=ih ();have:=u (c+1+d) h;rw[show c+1+(d+1)=c+1+d+1 from ()];grind
   have:=m (i-(c+1)) ();rw[show c+1+(i-(c+1))=i from ()]at this;have:=c3 c (qAg _) z.1;grind
 .refine#[c,c1,λi hi=>qAj (c2 i hi),λi h1 h2=>?_];by_cases e:i=c
  .subst e;have:=c3 i h1 h2;have:¬bg P i<=x:=λy=>z #[h2,y];grind
  .have m:∀d,c+1+d<↥P->bg P c<bg P (c+1+d):=λd=>by
    induction d with
    |zero=>intro h;exact u c h
    |succ d ih=>intro h;have:=ih ();have:=u (c+1+d) h;rw[show c+1+(d+1)=c+1+d+1 from ()];grind
   have:=m (i-(c+1)) ();rw[show c+1+(i-(c+1))=i from ()]at this;have:=c3 c (qAg _) ();grind
theorem Sz.ngt {k:Nat}{q:Rat}(h:Sz k q):Sz k (-q):=h.neg
def Gz (b Z:Nat)(l:Ln2):Prop:=Sz b l.1/\Sz Z l.2
theorem Zk {b Z X:Nat}(hX:Z+Z+1+(b+b+1)<=X):∀l l',Gz b Z l->Gz b Z l'->l.1≠l'.1->Sz X (xg l l'):=λl l' h1 h2 ne=>by
 unfold xg;exact((h2.2.sub h1.2).div (h1.1.sub h2.1) ⋯).mono hX
def slS (fc:Cs)(fm:Rat)(gc:Cs)(gm:Rat):List Rat:=0::((List.range ↥fc).map λi=>-slp fc fm i)++((List.range ↥gc).map λi=>-slp gc gm i)
theorem ZT {fc gc:Cs}{fm gm:Rat}{i:Nat}(h:i<↥fc):-slp fc fm i∈slS fc fm gc gm:=by
 unfold slS;exact qAq.mpr (.inl (qAl.mpr (.inr (qAy.mpr #[i,qAu.mpr h,rfl]))))
theorem ZI {fc gc:Cs}{fm gm:Rat}{i:Nat}(h:i<↥gc):-slp gc gm i∈slS fc fm gc gm:=by
 unfold slS;exact qAq.mpr (.inr (qAy.mpr #[i,qAu.mpr h,rfl]))
theorem XG {fc gc:Cs}{fm gm:Rat}:(0:Rat)∈slS fc fm gc gm:=by
 unfold slS;exact qAq.mpr (.inl (qAl.mpr (.inl rfl)))
structure Wc (S0:List Rat)(b Z X K m:Nat)(os:List RP)(O:Ps)(c:Rat->Rat):Prop where
 pl:PL K m os O
 pu:PU O c none
 ne:0<↥O
 b0:bg O 0=0
 sl:∀x,x<↥O->(ln O x).1∈S0
 gd:∀x,x<↥O->Gz b Z (ln O x)/\Sz X (bg O x)
theorem U1 {S0:List Rat}{b Z X K m:Nat}{ps:List RP}{P:Ps}{c:Nat}{h:Rat->Rat}(pl:PL K m ps P)(pu:PU P h none)(hm:1<=m)(hX:1<=X)(c0:0<c)(cl:c<=↥P)(h1:∀i,i<c->bg P i<=0)(h2:∀i,c<=i->i<↥P->0<bg P i)
 (sl:∀x,x<↥P->(ln P x).1∈S0) (gd:∀x,x<↥P->Gz b Z (ln P x)/\Sz X (bg P x)):Wc S0 b Z X K m (frR ps c) (frN P c) h:=by
 refine#[XD pl c0 cl hm,pu.fromN c0 cl h1 (λz=>h2 c (qAg _) z),by rw[E6];omega,rfl,λx hx=>?_,λx hx=>?_]
 .rw[E6]at hx;cases x with
  |zero=>exact sl (c-1) ()
  |succ x=>rw[F8.2];exact sl _ ()
 .rw[E6]at hx;cases x with
  |zero=>exact#[(gd (c-1) ()).1,Sz.zero.mono hX]
  |succ x=>rw[F8.1,F8.2];exact gd _ ()
theorem PL.mono {k m k' m':Nat}{ps:List RP}{P:Ps}(h:PL k m ps P)(h1:k<=k')(h2:m<=m'):PL k' m' ps P:=
 #[h.len,λi p q a b=>#[(h.at_ i p q a b).t.mono h2,#[(h.at_ i p q a b).l.s.mono h1,(h.at_ i p q a b).l.c.mono h1]]]
section
variable {fc gc:Cs}{fm gm:Rat}{a b c:Nat}
def pA (fc:Cs)(fm:Rat)(gc:Cs)(k:Nat):Ps:=((EK fc fm).map flP).map (mvP (0-tt gc k) (vv gc k))
theorem Qq {k:Nat}:(pA fc fm gc k).length=↥fc:=by unfold pA;rw[qAa,qAa,Bb]
theorem Th {k i:Nat}(h:i<↥fc):bg (pA fc fm gc k) i=tt fc i+(0-tt gc k)/\ln (pA fc fm gc k) i=(-slp fc fm i,-(vv fc i-slp fc fm i*tt fc i) - -slp fc fm i*(0-tt gc k)+vv gc k):=by
 unfold pA;rw[(Cf (show i<((EK fc fm).map flP).length by rw[qAa,Bb];exact h)).1,(Cf (show i<((EK fc fm).map flP).length by rw[qAa,Bb];exact h)).2,(Cf (show i<(EK fc fm).length by rw[Bb];exact h)).1,(Cf (show i<(EK fc fm).length by rw[Bb];exact h)).2,(Cr h).1,(Cr h).2];exact#[rfl,rfl]
theorem ZJ (of:Ord fc){k:Nat}:PU (pA fc fm gc k) (cA fc fm gc k) none:=((SE of).flip).move _ _
theorem Zo (of:Ord fc)(og:Ord gc)(zf:LS a b c fc fm)(zg:LS a b c gc gm){k:Nat}(hk:k<↥gc){Z X:Nat}(hZ:2*(a+b+c)+5<=Z)(hX:3*a+4<=X):(∀x,x<(pA fc fm gc k).length->(ln (pA fc fm gc k) x).1∈slS fc fm gc gm)/\∀x,x<(pA fc fm gc k).length->Gz b Z (ln (pA fc fm gc k) x)/\Sz X (bg (pA fc fm gc k) x):=by
 refine#[λx hx=>?_,λx hx=>?_]
 .rw[Qq]at hx;rw[(Th hx).2];exact ZT hx
 .rw[Qq]at hx;rw[(Th hx).1,(Th hx).2];have l:=zf.ln of x hx;have tg:=zg.tm k hk;have vg:Sz (b+a+c+1) (vv gc k):=by
   have:=zg.va (BW og hk) tg;rw[BU og hk]at this;exact this
  refine#[#[l.1.ngt,?_],?_]
  .exact(((l.2.ngt).sub ((l.1.ngt).mul (Sz.zero.sub tg))).add vg).mono ()
  .exact((zf.tm x hx).add (Sz.zero.sub tg)).mono ()
def pB (fc:Cs)(gc:Cs)(gm far:Rat)(k:Nat):Ps:=(Hq (EK gc gm) far).map (mvP (tt fc k) (0-vv fc k))
theorem Qr {k:Nat}{far:Rat}:(pB fc gc gm far k).length=↥gc+1:=by unfold pB;rw[qAa,Gf,Bb]
theorem aI (og:Ord gc){k:Nat}{far:Rat}(hf:tt gc (↥gc-1)<far):PU (pB fc gc gm far k) (cB fc gc gm k) none:=by
 have n0:=og.ne;refine((SE og).turn (by rw[Bb];exact n0) (by rw[(Cr n0).1];exact og.t0) (by rw[Bb,(Cr (show ↥gc-1<↥gc from ())).1];exact hf)).move _ _
theorem cZ (og:Ord gc){k:Nat}{far:Rat}:bg (pB fc gc gm far k) 0=-far+tt fc k:=by
 unfold pB;rw[(Cf (show 0<(Hq (EK gc gm) far).length by rw[Gf];omega)).1];show bg (Hq (EK gc gm) far) 0+tt fc k=_;rw[(GR (show 0<(EK gc gm).length by rw[Bb];exact og.ne)).1,if_neg ∅]
theorem Z4 (of:Ord fc)(og:Ord gc)(zf:LS a b c fc fm)(zg:LS a b c gc gm){k:Nat}(hk:k<↥fc){far:Rat}(zr:Sz (2*a+1) far){Z X:Nat}(hb:1<=b)(hZ:2*(a+b+c)+5<=Z)(hX:3*a+4<=X):(∀x,x<(pB fc gc gm far k).length->(ln (pB fc gc gm far k) x).1∈slS fc fm gc gm)/\∀x,x<(pB fc gc gm far k).length->Gz b Z (ln (pB fc gc gm far k) x)/\Sz X (bg (pB fc gc gm far k) x):=by
 have n0:=og.ne;have tf:=zf.tm k hk;have vf:Sz (b+a+c+1) (vv fc k):=by
  have:=zf.va (BW of hk) tf;rw[BU of hk]at this;exact this
 have key:∀x,x<↥gc+1->((ln (Hq (EK gc gm) far) x).1∈slS fc fm gc gm/\Sz b (ln (Hq (EK gc gm) far) x).1/\Sz c (ln (Hq (EK gc gm) far) x).2/\Sz (2*a+2) (bg (Hq (EK gc gm) far) x)):=λx hx=>by
  by_cases z:x<↥gc
  .have ta:=GR (P:=EK gc gm) (far:=far) (i:=x) (by rw[Bb];exact z);rw[Bb]at ta;have hi:↥gc-1-x<↥gc:=();rw[ta.1,ta.2,(Cr hi).2];have l:=zg.ln og _ hi;refine#[ZI hi,l.1.ngt,l.2,?_];by_cases y:0<x
   .rw[if_pos y,(Cr (show ↥gc-x<↥gc from ())).1];exact(zg.tm _ ()).ngt.mono ()
   .rw[if_neg y];exact zr.ngt.mono ()
  .have te:=HI (P:=EK gc gm) (far:=far);rw[Bb]at te;rw[show x=↥gc from (),te.1,te.2,(Cr n0).2];exact#[XG,Sz.zero.mono hb,(zg.ln og 0 n0).2,Sz.zero.mono ()]
 have at_:∀x,x<↥gc+1->bg (pB fc gc gm far k) x=bg (Hq (EK gc gm) far) x+tt fc k/\ln (pB fc gc gm far k) x=((ln (Hq (EK gc gm) far) x).1,(ln (Hq (EK gc gm) far) x).2-(ln (Hq (EK gc gm) far) x).1*tt fc k+(0-vv fc k)):=λx hx=>by
  unfold pB;have hx':x<(Hq (EK gc gm) far).length:=by rw[Gf,Bb];exact hx
  rw[(Cf hx').1,(Cf hx').2];exact#[rfl,rfl]
 refine#[λx hx=>?_,λx hx=>?_]
 .rw[Qr]at hx;rw[(at_ x hx).2];exact(key x hx).1
 .rw[Qr]at hx;obtain⟨k1,k2,k3,k4⟩:=key x hx;rw[(at_ x hx).1,(at_ x hx).2];exact#[#[k2,((k3.sub (k2.mul tf)).add (Sz.zero.sub vf)).mono ()],(k4.add tf).mono ()]
theorem WA (rf:C1 fc fm)(rg:C1 gc gm)(hm:fm<=gm){B S0:List Rat}{b Z X K m:Nat}{h:Rat->Rat}{qs:List RP}{Q:Ps}(r:FQ B S0 (Gz b Z) (Sz X) K m h none qs Q)(ne:0<↥Q)(b0:bg Q 0=0)(mi:SF (Zb fc fm gc gm) h) :
 Ord (Ih (Q.map flP))/\0<=(ln (Q.map flP) ((Q.map flP).length-1)).1/\(ln (Q.map flP) ((Q.map flP).length-1)).1=fm/\(∀t,0<=t->IsU fc fm gc gm t (val (Ih (Q.map flP)) (ln (Q.map flP) ((Q.map flP).length-1)).1 t))/\LS X b Z (Ih (Q.map flP)) (ln (Q.map flP) ((Q.map flP).length-1)).1:=by
 have iu:∀t,0<=t->IsU fc fm gc gm t (-h t):=λt t0=>YH rf rg hm mi t0;have pu:=r.pu.flip;have fl:(Q.map flP).length=↥Q:=qAa _;have ne':0<(Q.map flP).length:=by rw[fl];exact ne
 have fa:∀i,i<↥Q->bg (Q.map flP) i=bg Q i/\ln (Q.map flP) i=(-(ln Q i).1,-(ln Q i).2):=λi hi=>by
  rw[(Cf hi).1,(Cf hi).2];exact#[rfl,rfl]
 obtain⟨o,m0,v⟩:=VN pu ne' (by rw[(fa 0 ne).1];exact b0) (λx y x0 xy=>Ta rf x0 xy (iu x x0) (iu y ⋯)) ((iu 0 qAb).1);have iv:∀t,0<=t->IsU fc fm gc gm t (val (Ih (Q.map flP)) (ln (Q.map flP) ((Q.map flP).length-1)).1 t):=λt t0=>by rw[v t t0];exact iu t t0
 refine#[o,m0,TK rf rg hm o iv,iv,Ln.ls (λi hi=>?_) o (λi hi=>?_)]
 .rw[BV]at hi;have hi':i<↥Q:=by rw[fl]at hi;exact hi
  rw[LH pu hi,(BZ hi).1,(BZ hi).2,(fa i hi').2,(fa i hi').1];have g:=(r.gd i hi').1;refine#[g.1.ngt,?_];have e:ev (-(ln Q i).1,-(ln Q i).2) (bg Q i) - -(ln Q i).1*bg Q i=-(ln Q i).2:=by unfold ev;grind
  rw[e];exact g.2.ngt
 .rw[BV,fl]at hi;rw[(BZ (by rw[fl];exact hi)).1,(fa i hi).1];exact(r.gd i hi).2
theorem QR {S0:List Rat}{b Z X K m:Nat}(hs:(0:Rat)∈S0)(hb:1<=b)(hZ:1<=Z)(hX:1<=X)(hK:1<=K)(hm:1<=m):FQ [] S0 (Gz b Z) (Sz X) K m (λ_=>0) none [((0,1),(0,0,1))] [(0,(0,0))]:=by
 have z1:∀i,i < [((0:Rat),((0:Rat),(0:Rat)))].length->i=0:=λi hi=>by have:i<1:=hi;omega
 have w0:Wq 1 0 1 0:=Wq.of Sz.zero;refine#[#[rfl,λi p q h1 h2=>?_],#[λi hi=>by have:i+1<1:=hi;omega,λi hi=>trivial,λi hi t _ _ _=>?_],#[λi hi=>by have:i+1<1:=hi;omega,λi hi=>?_,λi hi=>by have:i+1<1:=hi;omega],λi hi=>?_]
 .have hi:=z1 i (by have:=(qAf.mp h2).1;exact this);subst hi;cases h1;cases h2;exact#[w0.mono hm,#[w0.mono hK,w0.mono hK]]
 .rw[z1 i hi];show(0:Rat)=0*t+0;grind
 .rw[z1 i hi];exact hs
 .rw[z1 i hi];exact#[#[Sz.zero.mono hb,Sz.zero.mono hZ],Sz.zero.mono hX]
end
end CH
namespace L3
open PySem PySem.Spec PyProof.Rows L2
section
variable {P:Program}{w:World}{A:Around}{E:Value->Shared->Prop}{s:Shared}
variable {n l1 l2 l3:Nat}{us1 us2 us3:Array Value}{st1 st2 st3:Nat->Heap->Prop}
end
section
variable {P:Program}{w:World}{A:Around}{E:Value->Shared->Prop}{s:Shared}
variable {n l1 l2 l3:Nat}{us1 us2 us3:Array Value}{st1 st2 st3:Nat->Heap->Prop}
end
section
variable {P:Program}{w:World}{A:Around}{E:Value->Shared->Prop}{s:Shared}
end
section
variable {X:Cx}{pos:Pos}
end
end L3
namespace CH
open PySem L2 L3
section
variable {cs:Cs}{m σ:Rat}
end
section
variable {fc gc:Cs}{fm gm last:Rat}{W:List (Nat×Nat)}
end
section
variable {fc gc:Cs}{fm gm last:Rat}{W:List (Nat×Nat)}{i j:Nat}
end
section
variable {fc gc:Cs}{fm gm:Rat}{a b c:Nat}
theorem ON {cs:Cs}{m t:Rat}(r:C1 cs m)(t0:0<=t):0<=val cs m t:=by
 have:=Bh r qAb t0;rw[Bz r.o]at this;exact qAm r.o.v0 this
end
section
variable {fc gc:Cs}{fm gm last:Rat}{W:List (Nat×Nat)}{L:List D}{i j:Nat}
end
section
variable {fc gc:Cs}{fm gm last:Rat}{W:List (Nat×Nat)}
end
def Df (cs:Cs):Prop:=∀k,k+1<↥cs->∃e f,Sz e (tt cs (k+1)-tt cs k)/\Sz f (vv cs (k+1)-vv cs k)/\e+f<=13000
theorem Df.of {n:Nat}{cs:Cs}(h:SzC n cs)(hn:n<=3200):Df cs:=λk hk=>
 #[_,_,(h _ hk).1.sub (h k ()).1,(h _ hk).2.sub (h k ()).2,()]
structure SzD (cs:Cs)(m:Rat):Prop where
 len:↥cs<=100000
 df:Df cs
 cs:SzC 6400 cs
 m:Sz 6400 m
theorem SzK.d {n:Nat}{cs:Cs}{m:Rat}(h:SzK n cs m)(hn:n<=3200):SzD cs m:=#[h.len,Df.of h.cs hn,h.cs.mono (),h.m.mono ()]
theorem LS.df {a b c:Nat}{cs:Cs}{m:Rat}(z:LS a b c cs m)(o:Ord cs)(h:4*a+b+2<=13000):Df cs:=λk hk=>by
 have t:=(z.tm _ hk).sub (z.tm k ());have s:=(z.ln o k ()).1;have n:=G1 (o.up k hk);refine#[_,b+(a+a+1),t,?_,()];have:=s.mul t;rw[Cd hk,qA7 n]at this;exact this
theorem LS.szd {a b c:Nat}{cs:Cs}{m:Rat}(z:LS a b c cs m)(o:Ord cs)(hl:↥cs<=100000)(h:a+b+c+1<=6400)(h4:4*a+b+2<=13000):SzD cs m:=
 have k:=z.szk o hl h
 #[hl,z.df o h4,k.cs,k.m]
theorem Vy {a b c n:Nat}{cs ds:Cs}{m k t:Rat}(z:LS a b c cs m)(y:LS a b c ds k)(t0:0<=t)(ht:Sz n t):Sz (n+2*b+2*c+3) (gap cs m ds k t):=by
 have e:gap cs m ds k t=(sat cs m t-sat ds k t)*t+((val cs m t-sat cs m t*t)-(val ds k t-sat ds k t*t)):=by unfold gap;grind
 rw[e];exact((((z.sl t t0).sub (y.sl t t0)).mul ht).add ((z.ic t t0).sub (y.ic t t0))).mono ()
theorem Xh {a b c:Nat}{cs ds:Cs}{m k:Rat}{ts:List Rat}(z:LS a b c cs m)(y:LS a b c ds k)(o:Ord cs)(q:Ord ds)(t:Tms cs ds ts)(tz:∀i,i<↥ts->Sz a (T ts i))(h:4*a+2*b+3<=13000):Df (gcs cs m ds k ts):=λi hi=>by
 rw[B3]at hi;have i0:i<↥ts:=();have l:=EX (m:=m) (k:=k) o q t i0;have d:=(tz _ hi).sub (tz i i0);have t0:=JZ t i0;have s:Sz (b+b+1) (slp (gcs cs m ds k ts) (m-k) i):=by
  rw[l.2];exact(z.sl _ t0).sub (y.sl _ t0)
 have u:=t.up i hi;have e:=l.1 (T ts (i+1)) (qAj u) (λ_=>qAb);rw[(Be hi).1,(Be hi).2,(Be i0).1,(Be i0).2];refine#[_,_,d,?_,show a+a+1+(b+b+1+(a+a+1))<=_ from ()];have:=s.mul d;rw[show gap cs m ds k (T ts (i+1))-gap cs m ds k (T ts i)=slp (gcs cs m ds k ts) (m-k) i*(T ts (i+1)-T ts i) by rw[e];grind];exact this
def SL (S0:List Rat)(cs:Cs)(m:Rat):Prop:=∀t,0<=t->sat cs m t∈S0
section
variable {S0:List Rat}{cs ds fc gc:Cs}{m k fm gm last:Rat}
theorem SL.of (o:Ord cs)(h:∀i,i<↥cs->slp cs m i∈S0):SL S0 cs m:=λ_ t0=>h _ (Dq o t0).lt
theorem SL.at (h:SL S0 cs m)(o:Ord cs){i:Nat}(hi:i<↥cs):slp cs m i∈S0:=by
 have:=h _ (BW o hi);unfold sat at this;rw[HS o.up (k:=i) qAb (λh=>o.up i h) _ hi (qAg _)]at this;exact this
theorem SL.kept (h:SL S0 cs m)(o:Ord cs):SL S0 (kp cs m (↥cs-1)) m:=λt t0=>by rw[(G0 o t).2];exact h t t0
theorem Uq {op:Rat->Rat->Rat}{us:List Rat}(P:P6 op)(r:C1 cs m)(s:C1 ds k)(x:Cx cs m ds k us none)(h1:SL S0 cs m)(h2:SL S0 ds k):SL S0 (ocs op cs m ds k us) (op m k):=λy y0=>by
 have on:=Dq (JN P r s x) y0;have es:sat (ocs op cs m ds k us) (op m k) y=slp (ocs op cs m ds k us) (op m k) (plc (ocs op cs m ds k us) y (ocs op cs m ds k us).length):=rfl;generalize plc (ocs op cs m ds k us) y (ocs op cs m ds k us).length=i at on es;have hi:i<↥us:=by have:=on.lt;rw[CF]at this;exact this
 obtain⟨C,n,w,sl,_⟩:=Sg P x hi;rw[es,sl];rcases w with⟨rfl,rfl⟩|⟨rfl,rfl⟩
 .exact h1 _ (x.nn hi)
 .exact h2 _ (x.nn hi)
def slL (cs:Cs)(m:Rat):List Rat:=(List.range ↥cs).map λi=>slp cs m i
theorem KI (o:Ord cs):SL (slL cs m) cs m:=SL.of o λi hi=>qAy.mpr #[i,qAu.mpr hi,rfl]
theorem DR:(slL cs m).length=↥cs:=by unfold slL;rw[qAa,qAz]
theorem SL.mono {S1:List Rat}(h:SL S0 cs m)(e:∀x∈S0,x∈S1):SL S1 cs m:=λt t0=>e _ (h t t0)
end
section
variable {S0:List Rat}{fc gc hc jc oc:Cs}{fm gm hm jm om:Rat}
theorem VS (of:Ord fc)(og:Ord gc)(h1:SL S0 fc fm)(h2:SL S0 gc gm)(h0:(0:Rat)∈S0):∀x∈slS fc fm gc gm,x∈S0.map (λy=>-y):=λx hx=>by
 unfold slS at hx;rcases qAq.mp hx with hx|hx
 .rcases qAl.mp hx with rfl|hx
  .exact qAy.mpr #[0,h0,⋯]
  .obtain⟨i,hi,rfl⟩:=qAy.mp hx;exact qAy.mpr #[_,h1.at of (qAu.mp hi),rfl]
 .obtain⟨i,hi,rfl⟩:=qAy.mp hx;exact qAy.mpr #[_,h2.at og (qAu.mp hi),rfl]
theorem Xp {B:List Rat}{b Z X K m:Nat}{h:Rat->Rat}{qs:List RP}{Q:Ps}(r:FQ B (S0.map (λy=>-y)) (Gz b Z) (Sz X) K m h none qs Q)(o:Ord (Ih (Q.map flP))):SL S0 (Ih (Q.map flP)) (ln (Q.map flP) ((Q.map flP).length-1)).1:=SL.of o λi hi=>by
 rw[BV]at hi;have hi':i<↥Q:=by rw[qAa]at hi;exact hi
 rw[LH r.pu.flip hi,(Cf hi').2];show -(ln Q i).1∈S0;obtain⟨y,hy,e⟩:=qAy.mp (r.cn.sl i hi');rw[<-e,show - -y=y from ⋯];exact hy
end
theorem bQ {fc gc:Cs}{fm gm:Rat}(of:Ord fc)(og:Ord gc)(hm:fm<=gm){t v:Rat}(t0:0<=t)(hg:∀j,j<↥gc->val fc fm (t+tt gc j)-vv gc j<=v)(hf:∀j,j<↥fc->t<=tt fc j->vv fc j-val gc gm (tt fc j-t)<=v):∀u,0<=u->val fc fm (t+u)-val gc gm u<=v:=λu u0=>by
 obtain⟨w,w0,cw,Pj⟩:=N5 of og hm t0;refine qAm (Pj u u0) ?_;rcases cw with rfl|⟨k,_,kl,e,_⟩|⟨k,_,kl,e,_⟩
 .have:=hg 0 og.ne;rw[og.t0,<-Bz (m:=gm) og]at this;exact this
 .have:=hg k kl;rw[<-BU (m:=gm) og kl,e]at this;exact this
 .have:=hf k kl ⋯;rw[<-BU (m:=fm) of kl,e,show t+w-t=w from ⋯]at this;exact this
def lw (cs:Cs)(e:Rat):Cs:=cs.map λc=>(c.1,c.2-e)
section
variable {cs:Cs}{m e:Rat}
theorem Me:(lw cs e).length=↥cs:=qAa _
theorem HB {i:Nat}(h:i<↥cs):tt (lw cs e) i=tt cs i/\vv (lw cs e) i=vv cs i-e:=by
 have q:(lw cs e)[i]? = some (tt cs i,vv cs i-e):=by
  unfold lw;rw[qAd,qAc h,(Ci h).1,(Ci h).2];rfl
 unfold tt vv at q ⊢;rw[qAe (l:=lw cs e),q];exact#[rfl,rfl]
theorem XJ (i:Nat):slp (lw cs e) m i=slp cs m i:=by
 by_cases h:i+1<↥cs
 .rw[Cd h,Cd (by rw[Me];exact h),(HB h).1,(HB h).2,(HB (show i<↥cs from ())).1,(HB (show i<↥cs from ())).2];grind
 .rw[Az h,Az (by rw[Me];exact h)]
theorem UR (t:Rat):∀n,n<=↥cs->plc (lw cs e) t n=plc cs t n
 |0,_=>rfl
 |n+1,h=>by
  unfold plc;rw[(HB (show n<↥cs from ())).1,UR t n ()]
theorem XO (o:Ord cs)(t:Rat):val (lw cs e) m t=val cs m t-e/\sat (lw cs e) m t=sat cs m t:=by
 have p:=JY (t:=t) o.ne _ (qAg ↥cs);unfold val sat;rw[Me,UR t _ (qAg _),XJ,(HB p).1,(HB p).2];exact#[⋯,rfl]
theorem Yy (o:Ord cs)(h:e<=vv cs 0):Ord (lw cs e):=by
 have n:=o.ne;refine#[by rw[Me];exact n,by rw[(HB n).1];exact o.t0,by rw[(HB n).2];grind,λk hk=>?_,λk hk=>?_]
 all_goals rw[Me]at hk
 .rw[(HB hk).1,(HB (show k<↥cs from ())).1];exact o.up k hk
 .rw[(HB hk).2,(HB (show k<↥cs from ())).2];have:=o.vu k hk;grind
def Mo (cs:Cs)(m L b:Rat):Prop:=(b=val cs m L\/∃s,0<=s/\b=val cs m (s+L)-val cs m s)/\val cs m L<=b/\(∀j,j<↥cs->val cs m (tt cs j+L)-vv cs j<=b)/\∀j,j<↥cs->L<=tt cs j->vv cs j-val cs m (tt cs j-L)<=b
theorem ZO {L b g:Rat}(r:C1 cs m)(L0:0<=L)(h:Mo cs m L b)(u:IsU cs m cs m L g):mx (val cs m L) g=b:=by
 obtain⟨h1,h2,h3,h4⟩:=h;obtain⟨m1,m2,m3⟩:=GP (val cs m L) g;have g1:g<=b:=by
  rcases u.2.1 with e|⟨x,x0,e⟩
  .rw[e];exact qAm (ON r L0) h2
  .rw[<-e];exact bQ r.o r.o qAb L0 (λj hj=>by rw[show L+tt cs j=tt cs j+L from ⋯];exact h3 j hj) h4 x x0
 have b1:b<=mx (val cs m L) g:=by
  rcases h1 with e|⟨s,s0,e⟩
  .rw[e];exact m1
  .have:=u.2.2 s s0;rw[show L+s=s+L from ⋯]at this;grind
 rcases m3 with e|e<;>grind
end
end CH
namespace L3
open PySem L2
section
variable {X:Cx}
theorem RJ {vs:List Value}{ns:List Int}(h:PyProof.Rows.IntsAre vs ns):∃xs:List (Int×Tok),vs=xs.map (λp=>.int p.1 p.2)/\xs.map (·.1)=ns:=by
 induction h with
 |nil=>exact#[[],rfl,rfl]
 |cons n t _ ih=>
  obtain⟨xs,e1,e2⟩:=ih;exact#[(n,t)::xs,by rw[e1];rfl,by rw[<-e2];rfl]
def aJ (X:Cx):List V->Hp->VK->Prop:=λxs H Q=>∃(p:Addr)(ns:List Int),xs=[.ref p]/\SqL X.K H p (ns.map V.int)/\0<↥ns/\∀m:Int,m∈ns->(∀x∈ns,x<=m)->Q (.int m) H
theorem Qg (hc:X.calm=true):HE X (.builtin "max") (aJ X):=by
 intro pins s σ H xs us Q I r h;obtain⟨p,ns,rfl,hq,h0,q⟩:=h;obtain⟨u,rfl,rx⟩:=Li r;cases rx;obtain⟨its,r',pl,hz⟩:=I.list hq;obtain⟨ys,e1,e2⟩:=RJ (LQ r');subst e1 e2;rw[qAa]at h0;have en:∀i (hi:i<↥ys),numAt ys.toArray i=(ys.map (·.1))[i]'(by rw[qAa];exact hi):=λi hi=>by
  unfold numAt;rw[qBB,qAc hi,List.getElem_map];rfl
 refine max_intList (xs:=ys.toArray) (I.ok.hd hc) (by rw[show intItems ys.toArray=(ys.map (λp=>Value.int p.1 p.2)).toArray by unfold intItems;rw[List.map_toArray]];exact pl.isList) (by rw[qAv];exact h0) λv h' tk hv k=>?_;obtain⟨t,rfl⟩:=intItems_at hv;obtain⟨b1,b2⟩:=argBest_gt (numAt ys.toArray) (ys.toArray.size-1);rw[qAv]at b1 b2 ⊢;generalize argBest (λi j=>decide (numAt ys.toArray i>numAt ys.toArray j)) (↥ys-1)=j at b1 b2;have jl:j<↥ys:=();refine#[.int (numAt ys.toArray j),H,I.kept k,#[t,rfl],q _ ?_ λx hx=>?_]
 .rw[en j jl];exact qA0 _
 .obtain⟨i,hi,rfl⟩:=qBa.mp hx;have il:i<↥ys:=by rw[qAa]at hi;exact hi
  have:=b2 i ();rw[en i il]at this;exact this
def Zx (te:TE3):TE3:=λτ R=>te τ λs=>match Ze s with
 |some xs=>∃ns:List Int,xs=ns.map D.int/\0<↥ns/\∀m:Int,m∈ns->(∀x∈ns,x<=m)->R (.d (.int m))
 |none=>False
theorem Xo {e:Expr}{te:TE3}{p pos:Pos}(hc:X.calm=true)(he:PE3 X e te)(hg:Gl X "max")(hm:X.mg "max"=none)(hs:starEach [e] X.env=(false,eval e X.env)::starEach [] X.env:=by exact Dv rfl):PE3 X (.Call (.Name "max" p) [e] [] pos) (Zx te):=
 #[BJ (Y3 (Io (Qg hc) hg hm L3.boot_max (A7 he.out BL hs) (he:=hs))) λσ H Q hh=>by
  obtain⟨B,z,τ,R,r,ht,q⟩:=hh;exact#[B,z,τ,_,r,ht,λs v q1 e1 i1 f1 h1=>by
   split at h1
   .rename_i xs hx;obtain⟨ns,rfl,h0,h1⟩:=h1;obtain⟨a,vs,rfl,g2,g1⟩:=Sv i1 e1.sub hx;have ev:=Lz g2;subst ev;exact#[a,ns,rfl,g1,h0,λm m1 m2 hk=>q (.d (.int m)) _ q1 e1 (.int m) Ga (h1 m m1 m2)]
   .exact h1.elim]]
end
end L3
namespace CH
open PySem L2 L3
theorem X4 {fc gc fc' gc':Cs}{fm gm fm' gm' t v:Rat}(h:IsU fc fm gc gm t v)(t0:0<=t)(e1:∀x,0<=x->val fc fm x=val fc' fm' x)(e2:∀x,0<=x->val gc gm x=val gc' gm' x):IsU fc' fm' gc' gm' t v:=by
 obtain⟨a,b,c⟩:=h;refine#[a,?_,λu u0=>?_]
 .rcases b with b|⟨u,u0,b⟩
  .exact .inl b
  .exact .inr #[u,u0,by rw[<-e1 _ ⋯,<-e2 _ u0];exact b]
 .rw[<-e1 _ ⋯,<-e2 _ u0];exact c u u0
def mis (cs:Cs)(v K:Rat):Cs:=cs.map λc=>(c.1,v+K*c.1-c.2)
section
variable {cs:Cs}{m v K:Rat}
theorem Gp:(mis cs v K).length=↥cs:=qAa _
theorem Dh {i:Nat}(h:i<↥cs):tt (mis cs v K) i=tt cs i/\vv (mis cs v K) i=v+K*tt cs i-vv cs i:=by
 have q:(mis cs v K)[i]? = some (tt cs i,v+K*tt cs i-vv cs i):=by
  unfold mis;rw[qAd,qAc h,(Ci h).1,(Ci h).2];rfl
 unfold tt vv at q ⊢;rw[qAe (l:=mis cs v K),q];exact#[rfl,rfl]
theorem QN (up:Up cs)(i:Nat):slp (mis cs v K) (K-m) i=K-slp cs m i:=by
 by_cases h:i+1<↥cs
 .have u:=up i h;rw[Cd h,Cd (by rw[Gp];exact h),(Dh h).1,(Dh h).2,(Dh (show i<↥cs from ())).1,(Dh (show i<↥cs from ())).2];have:tt cs (i+1)-tt cs i≠0:=⋯;grind
 .rw[Az h,Az (by rw[Gp];exact h)]
theorem QF (t:Rat):∀n,n<=↥cs->plc (mis cs v K) t n=plc cs t n
 |0,_=>rfl
 |n+1,h=>by
  unfold plc;rw[(Dh (show n<↥cs from ())).1,QF t n ()]
theorem Cv (o:Ord cs)(t:Rat):val (mis cs v K) (K-m) t=v+K*t-val cs m t:=by
 have p:=JY (t:=t) o.ne _ (qAg ↥cs);unfold val;rw[Gp,QF t _ (qAg _),QN o.up,(Dh p).1,(Dh p).2];grind
theorem IL (o:Ord cs)(h0:vv cs 0<=v)(hk:∀i,i<↥cs->slp cs m i<=K):Ord (mis cs v K):=by
 have n:=o.ne;refine#[by rw[Gp];exact n,by rw[(Dh n).1];exact o.t0,by rw[(Dh n).2,o.t0];grind,λk hk'=>?_,λk hk'=>?_]
 all_goals rw[Gp]at hk'
 .rw[(Dh hk').1,(Dh (show k<↥cs from ())).1];exact o.up k hk'
 .rw[(Dh hk').2,(Dh (show k<↥cs from ())).2];have u:=o.up k hk';have s:=hk k ();rw[Cd hk']at s;have d:tt cs (k+1)-tt cs k≠0:=⋯;have e:vv cs (k+1)-vv cs k=(vv cs (k+1)-vv cs k)/(tt cs (k+1)-tt cs k)*(tt cs (k+1)-tt cs k):=⋯;have w:0<=(K-(vv cs (k+1)-vv cs k)/(tt cs (k+1)-tt cs k))*(tt cs (k+1)-tt cs k):=qAh ⋯ ⋯;grind
def Lo (cs:Cs)(m L b:Rat):Prop:=(∃s,0<=s/\b=val cs m (s+L)-val cs m s)/\(∀j,j<↥cs->b<=val cs m (tt cs j+L)-vv cs j)/\∀j,j<↥cs->L<=tt cs j->b<=vv cs j-val cs m (tt cs j-L)
theorem ZD {L b g:Rat}(o:Ord cs)(h0:vv cs 0<=v)(m0:0<=K-m)(hk:∀i,i<↥cs->slp cs m i<=K)(L0:0<=L)(h:Lo cs m L b)(u:IsU (mis cs v K) (K-m) (mis cs v K) (K-m) L g):K*L-g=b:=by
 have om:=IL (v:=v) o h0 hk;obtain⟨⟨s,s0,e⟩,h2,h3⟩:=h;have g1:∀x,0<=x->val (mis cs v K) (K-m) (L+x)-val (mis cs v K) (K-m) x<=K*L-b:=by
  refine bQ om om qAb L0 (λj hj=>?_) (λj hj hl=>?_)
  all_goals rw[Gp]at hj
  .rw[(Dh hj).1,(Dh hj).2,Cv o];have:=h2 j hj;rw[show L+tt cs j=tt cs j+L from ⋯];grind
  .rw[(Dh hj).1]at hl ⊢;rw[(Dh hj).2,Cv o];have:=h3 j hj hl;grind
 have g2:K*L-b<=g:=by
  have:=u.2.2 s s0;rw[Cv o,Cv o,show L+s=s+L from ⋯]at this;grind
 have g3:g<=K*L-b:=by
  rcases u.2.1 with z|⟨x,x0,z⟩
  .have:=g1 0 qAb;have hm:val (mis cs v K) (K-m) 0<=val (mis cs v K) (K-m) (L+0):=Bh #[om,m0] qAb ⋯;grind
  .rw[<-z];exact g1 x x0
 grind
end
end CH
namespace L3
open PySem L2
section
variable {X:Cx}
def Ql (X:Cx)(b:Bool):List V->Hp->VK->Prop:=λxs H Q=>∃p ns,xs=[.ref p]/\SqL X.K H p (ns.map V.int)/\↥ns<64/\∀ns':List Int,ns'.Perm ns->PyProof.Rows.Ordered b ns'->∀l,H l=none->Q (.ref l) (upd H l (.lst (ns'.map V.int)))
theorem dO {ns:List Int}(h:List.Pairwise (λx y=>x<=y) ns):PyProof.Rows.Ordered false ns:=by
 unfold PyProof.Rows.Ordered;rw[if_neg ∅];exact h
theorem O9:HE X (.builtin "sorted") (Ql X false):=by
 intro pins s σ H xs us Q I r h;obtain⟨p,ns,rfl,hq,h64,q⟩:=h;obtain⟨u,rfl,rx⟩:=Li r;cases rx;obtain⟨its,r',pl,hz⟩:=I.list hq;have hI:=LQ r';refine PyProof.Rows.sorted_ints pl.isList hI (by rw[RA hI];exact h64) λout ns' a1 a2 a3=>?_;exact Kr I a1 (by rw[a2.length_eq];rw[qAa]at hz;exact hz) (q ns' a2 (dO a3))
theorem QY {p pos kpos:Pos}{e:Expr}{t:TA}{b:Bool}{kj:Nat}{kp:Pos}(hg:Gl X "sorted")(hm:X.mg "sorted"=none)(ha:PA X [e] t)
 (he:starEach [e] X.env=(false,eval e X.env)::starEach [] X.env:=by rfl) :
 PE X (.Call (.Name "sorted" p) [e] [#[some "reverse",.Constant (.bool b) kj kp,kpos]] pos) (tCB (Ql X b) t):=by
 intro pins s σ H Q I h;refine wpAny_Call_Name_kw (H0 I hg hm qCw ?_ ∅ ∅);refine PyProof.Rows.callWith_kw (thn (ha pos pins s σ H _ I h) λus s1 #[vs,H1,I1,r1,q1]=>?_) (by rw[he];rfl) (by rw[he];rfl);refine thn ((Vo YJ XY:PK X [#[some "reverse",.Constant (.bool b) kj kp,kpos]] _) pos pins s1 σ H1 (λws H2=>ws=[V.bl b]/\Ql X b vs H2 Q) I1 #[rfl,q1]) λws s2 #[zs,H2,I2,rz,ez,q1]=>?_;subst ez;obtain⟨w,rfl,rw⟩:=Li rz;cases rw;obtain⟨pp,ns,rfl,hq,h64,q⟩:=q1;obtain⟨u,rfl,rx⟩:=Li r1;cases rx;obtain⟨its,r',pl,hz⟩:=I2.list hq;have hI:=LQ r';refine PyProof.Rows.sorted_ints_rev pl.isList hI (by rw[RA hI];exact h64) λout ns' a1 a2 a3=>?_;exact Kr I2 a1 (by rw[a2.length_eq];rw[qAa]at hz;exact hz) (q ns' a2 a3)
def UE (b:Bool)(te:TE3):TE3:=λτ R=>te τ λs=>match Ze s with
 |some xs=>∃ns:List Int,xs=ns.map D.int/\↥ns<64/\∀ns':List Int,ns'.Perm ns->PyProof.Rows.Ordered b ns'->R (.l (ns'.map D.int))
 |none=>False
theorem Vc {e:Expr}{te:TE3}{p pos:Pos}(he:PE3 X e te)(hg:Gl X "sorted")(hm:X.mg "sorted"=none)(hs:starEach [e] X.env=(false,eval e X.env)::starEach [] X.env:=by exact Dv rfl):PE3 X (.Call (.Name "sorted" p) [e] [] pos) (UE false te):=
 #[BJ (Y3 (Io O9 hg hm qCw (A7 he.out BL hs) (he:=hs))) λσ H Q hh=>by
  obtain⟨B,z,τ,R,r,ht,q⟩:=hh;exact#[B,z,τ,_,r,ht,λs v q1 e1 i1 f1 h1=>by
   split at h1
   .rename_i xs hx;obtain⟨ns,rfl,h64,h1⟩:=h1;obtain⟨a,vs,rfl,g2,g1⟩:=Sv i1 e1.sub hx;have ev:=Lz g2;subst ev;refine#[a,ns,rfl,g1,h64,λns' pm po d hd hk=>?_];exact q (.l (ns'.map D.int)) _ #[_,q1.z] (e1.trans (Ext.own e1.sub hd _)) #[d,ns'.map V.int,rfl,Au,LB ns'] (λys a _ h2=>by
     cases h2;exact#[e1.hh.free hd,hk d _ Au,e1.sub.free hd]) (h1 ns' pm po)
   .exact h1.elim]]
theorem Tr {e:Expr}{te:TE3}{p pos kpos kp:Pos}{b:Bool}{kj:Nat}(he:PE3 X e te)(hg:Gl X "sorted")(hm:X.mg "sorted"=none)(hs:starEach [e] X.env=(false,eval e X.env)::starEach [] X.env:=by exact Dv rfl):PE3 X (.Call (.Name "sorted" p) [e] [#[some "reverse",.Constant (.bool b) kj kp,kpos]] pos) (UE b te):=
 #[BJ (Y3 (QY hg hm (A7 he.out BL hs) hs)) λσ H Q hh=>by
  obtain⟨B,z,τ,R,r,ht,q⟩:=hh;exact#[B,z,τ,_,r,ht,λs v q1 e1 i1 f1 h1=>by
   split at h1
   .rename_i xs hx;obtain⟨ns,rfl,h64,h1⟩:=h1;obtain⟨a,vs,rfl,g2,g1⟩:=Sv i1 e1.sub hx;have ev:=Lz g2;subst ev;refine#[a,ns,rfl,g1,h64,λns' pm po d hd hk=>?_];exact q (.l (ns'.map D.int)) _ #[_,q1.z] (e1.trans (Ext.own e1.sub hd _)) #[d,ns'.map V.int,rfl,Au,LB ns'] (λys a _ h2=>by
     cases h2;exact#[e1.hh.free hd,hk d _ Au,e1.sub.free hd]) (h1 ns' pm po)
   .exact h1.elim]]
end
section
variable {X:Cx}{e a b c o:Expr}{te ta tb tc to:TE3}{pos:Pos}{es:List Expr}{tr:TA3}
theorem TN {x:Str}{p:Pos}{T:String}{r:List S->(S->Prop)->Prop}(hc:Kp X (.type T) r)(hg:Gl X x)(hm:X.mg x=none)(hv:bootBuiltins x=some (.type T))(ha:PA3 X (e::es) tr)(hn:x≠"__name__":=by decide)
 (hdb:(x==("__debug__":Str))=false:=by decide)(he:starEach (e::es) X.env=(false,eval e X.env)::starEach es X.env:=by exact Dv rfl)(hpl:(backTo pos (starEach es X.env)).any (·.1)=false:=by exact FZ rfl) :
 PE3 X (.Call (.Name x p) (e::es) [] pos) (vCB r tr):=#[BJ (MI hc hg hm hv ha.out hn hdb he hpl) λσ H Q hh=>by
  obtain⟨B,z,τ,R,r,ht,q⟩:=hh;exact#[B,_,τ,_,r,ht,λss vs H1 e1 i1 h1=>#[H1.z,ss,R,e1.sub,i1,h1,λs v H2 e2 i2 f2 h2=>q s v H2 (e1.trans e2) i2 (K7 e1 f2) h2]]]
def YO:List S->(S->Prop)->Prop:=λss R=>match ss with
 |[.d (.bl k)]=>R (.d (.int (if k then 1 else 0)))
 |_=>False
theorem Yz:Kp X (.type "int") YO:=Gx QX λxs H Q hh=>by
 obtain⟨z,ss,R,hz,ha,h3,q⟩:=hh;unfold YO at h3;split at h3
 .rename_i k;obtain⟨v,rfl,h⟩:=Uc ha;cases Is.bl_inv h;exact .inr #[k,rfl,q (.d _) _ #[H,z] (Ext.refl hz) (Is.int _) Ga h3]
 .exact h3.elim
end
end L3
namespace CH
open PySem L2 L3
theorem IT {a b:Rat}(ha:0<a)(hb:0<b):∃d,0<d/\d<=a/\d<=b:=by
 by_cases c:a<=b
 .exact#[a,ha,qAb,c]
 .exact#[b,hb,⋯,qAb]
theorem Zh {a b g:Rat}(h:a*g=b*g)(g0:0<g):a=b:=by
 have:g≠0:=⋯;grind
theorem ZQ (l:List Rat){x y:Rat}(h:x<y):∃a b,x<=a/\a<b/\b<=y/\∀z∈l,¬(a<z/\z<b):=by
 induction l with
 |nil=>exact#[x,y,qAb,h,qAb,λz hz=>nomatch hz]
 |cons q l ih=>
  obtain⟨a,b,h1,h2,h3,h4⟩:=ih;by_cases c:a<q/\q<b
  .refine#[a,q,h1,c.1,⋯,λz hz=>?_];rcases qAl.mp hz with rfl|hz
   .grind
   .have:=h4 z hz;grind
  .refine#[a,b,h1,h2,h3,λz hz=>?_];rcases qAl.mp hz with rfl|hz
   .exact c
   .exact h4 z hz
theorem Pj (e:Rat):∀l:List Rat,l≠[]->∃b∈l,∀x∈l,e*x<=e*b
 |[a],_=>#[a,qAK,λx h=>by rw[qAM.mp h];exact qAb]
 |a::b::l,_=>by
  obtain⟨k,h1,h2⟩:=Pj e (b::l) (by simp);by_cases c:e*k<=e*a
  .exact#[a,qAK,λx h=>(qAl.mp h).elim (λq=>q ▸ qAb) (λq=>qAm (h2 x q) c)]
  .exact#[k,qAE _ h1,λx h=>(qAl.mp h).elim (λq=>by rw[q];grind) (h2 x)]
section
variable {cs C:Cs}{m M e t:Rat}
theorem Qc {x:Rat}(o:Ord cs)(x0:0<x)(nc:∀i,i<↥cs->x≠tt cs i):∃j,j<↥cs/\∃d,0<d/\d<=x/\∀h,-d<h->h<d->val cs m (x+h)=vv cs j+slp cs m j*(x+h-tt cs j):=by
 have on:=Dq o (qAj x0);generalize plc cs x ↥cs=j at on;have jl:=on.lt;have lo:tt cs j<x:=by have:=on.lo;have:=nc j jl;grind
 have tj:=BW o jl;by_cases c:j+1<↥cs
 .have hi:=on.hi c;have n1:=nc (j+1) c;obtain⟨d,d0,d1,d2⟩:=IT (a:=x-tt cs j) (b:=tt cs (j+1)-x) ⋯ ⋯;exact#[j,jl,d,d0,⋯,λh h1 h2=>Bw o.up #[jl,⋯,λ_=>⋯]]
 .exact#[j,jl,x-tt cs j,⋯,⋯,λh h1 h2=>Bw o.up #[jl,⋯,λz=>absurd z c]]
def Att (cs:Cs)(m t v:Rat):Prop:=(∃i,i<↥cs/\v=val cs m (tt cs i+t)-vv cs i)\/∃i,i<↥cs/\t<=tt cs i/\v=vv cs i-val cs m (tt cs i-t)
def Mv (cs:Cs)(m b c:Rat):Prop:=∃j,j<↥cs/\b=slp cs m j/\(c=vv cs j-b*tt cs j\/∃i,i<↥cs/\(c=vv cs j-b*tt cs j+b*tt cs i-vv cs i\/c=vv cs i-(vv cs j-b*tt cs j)-b*tt cs i))
def Ext (e:Rat)(cs:Cs)(m:Rat)(F:Rat->Rat):Prop:=(∀t,0<=t->Att cs m t (F t)\/(F t=val cs m t/\∀x,0<=x->e*val cs m x<=e*F x))/\∀s x,0<=s->0<=x->e*(val cs m (s+x)-val cs m s)<=e*F x
theorem X7 {F:Rat->Rat}(o:Ord cs)(H:Ext e cs m F)(t0:0<t)(nD:∀i j,i<↥cs->j<↥cs->t≠tt cs i-tt cs j):∃b,Mv cs m b (F t-b*t)/\∃d,0<d/\∀h,-d<h->h<d->e*(F t+b*h)<=e*F (t+h):=by
 have z0:=o.t0;rcases H.1 t (qAj t0) with (⟨i,hi,ev⟩|⟨i,hi,ti,ev⟩)|⟨ev,le⟩
 .have ti:=BW o hi;obtain⟨j,hj,d,d0,dx,f⟩:=Qc (m:=m) (x:=tt cs i+t) o ⋯ (λk hk=>by have:=nD k i hk hi;grind);have f0:=f 0 ⋯ ⋯;rw[show tt cs i+t+0=tt cs i+t from ⋯]at f0;obtain⟨d',d0',d1,d2⟩:=IT d0 t0;refine#[slp cs m j,#[j,hj,rfl,.inr #[i,hi,.inl (by rw[ev,f0];grind)]],d',d0',λh h1 h2=>?_];have g:=H.2 (tt cs i) (t+h) ti ⋯;rw[BU o hi,show tt cs i+(t+h)=tt cs i+t+h from ⋯,f h ⋯ ⋯]at g;rw[show F t+slp cs m j*h=vv cs j+slp cs m j*(tt cs i+t+h-tt cs j)-vv cs i by rw[ev,f0];grind];exact g
 .have tn:=nD i 0 hi o.ne;obtain⟨j,hj,d,d0,dx,f⟩:=Qc (m:=m) (x:=tt cs i-t) o ⋯ (λk hk=>by have:=nD i k hi hk;grind);have f0:=f 0 ⋯ ⋯;rw[show tt cs i-t+0=tt cs i-t from ⋯]at f0;obtain⟨d',d0',d1,d2⟩:=IT d0 t0;refine#[slp cs m j,#[j,hj,rfl,.inr #[i,hi,.inr (by rw[ev,f0];grind)]],d',d0',λh h1 h2=>?_];have g:=H.2 (tt cs i-t + -h) (t+h) ⋯ ⋯;rw[show tt cs i-t + -h+(t+h)=tt cs i from ⋯,BU o hi,f (-h) ⋯ ⋯]at g;rw[show F t+slp cs m j*h=vv cs i-(vv cs j+slp cs m j*(tt cs i-t + -h-tt cs j)) by rw[ev,f0];grind];exact g
 .obtain⟨j,hj,d,d0,dx,f⟩:=Qc (m:=m) (x:=t) o t0 (λk hk=>by have:=nD k 0 hk o.ne;grind);have f0:=f 0 ⋯ ⋯;rw[show t+0=t from ⋯]at f0;refine#[slp cs m j,#[j,hj,rfl,.inl (by rw[ev,f0];grind)],d,d0,λh h1 h2=>?_];have g:=le (t+h) ⋯;rw[f h h1 h2]at g;rw[show F t+slp cs m j*h=vv cs j+slp cs m j*(t+h-tt cs j) by rw[ev,f0];grind];exact g
theorem YY (o:Ord cs)(oC:Ord C)(he:e=1\/e=-1)(H:Ext e cs m (val C M))(i:Nat)(hi:i<↥C):Mv cs m (slp C M i) (vv C i-slp C M i*tt C i):=by
 have ti:=BW oC hi;obtain⟨y,hy,hon⟩:∃y,tt C i<y/\∀x,tt C i<=x->x<=y->On C i x:=by
  by_cases c:i+1<↥C
  .exact#[tt C (i+1),oC.up i c,λx h1 h2=>#[hi,h1,λ_=>h2]]
  .exact#[tt C i+1,⋯,λx h1 h2=>#[hi,h1,λz=>absurd z c]]
 obtain⟨a,b,h1,h2,h3,h4⟩:=ZQ ((List.range ↥cs).flatMap λi=>(List.range ↥cs).map λj=>tt cs i-tt cs j) hy;have V:∀x,a<=x->x<=b->val C M x=vv C i+slp C M i*(x-tt C i):=λx x1 x2=>Bw oC.up (hon x ⋯ ⋯);obtain⟨t,at_,tb⟩:∃t,a<t/\t<b:=#[(a+b)/2,⋯,⋯];obtain⟨s,mv,d,d0,T⟩:=X7 (t:=t) o H ⋯ (λp q hp hq z=>h4 _ (List.mem_flatMap.mpr #[p,qAu.mpr hp,qAy.mpr #[q,qAu.mpr hq,rfl]]) (by rw[<-z];exact#[at_,tb]));obtain⟨d1,p1,p2,p3⟩:=IT (a:=t-a) (b:=b-t) ⋯ ⋯;obtain⟨g,g0,g1,g2⟩:=IT (a:=d/2) (b:=d1) ⋯ p1;have A:=T g ⋯ ⋯;have B:=T (-g) ⋯ ⋯;rw[V t ⋯ ⋯,V (t+g) ⋯ ⋯]at A;rw[V t ⋯ ⋯,V (t + -g) ⋯ ⋯]at B;have es:s=slp C M i:=by
  have:s*g=slp C M i*g:=by
   clear h4 V T hon;rcases he with rfl|rfl<;>grind
  exact Zh this g0
 subst es;rw[V t ⋯ ⋯]at mv;rw[show vv C i-slp C M i*tt C i=vv C i+slp C M i*(t-tt C i)-slp C M i*t from ⋯];exact mv
theorem ZZ (o:Ord cs)(oC:Ord C)(he:e=1\/e=-1)(H:Ext e cs m (val C M))(i:Nat)(hi:i+1<↥C)(nD:∀a b,a<↥cs->b<↥cs->tt C (i+1)≠tt cs a-tt cs b):e*slp C M i<=e*slp C M (i+1):=by
 have ti:=BW oC (show i<↥C from ());have u:=oC.up i hi;obtain⟨s,_,d,d0,T⟩:=X7 (t:=tt C (i+1)) o H ⋯ nD;obtain⟨y,hy,hon⟩:∃y,0<y/\∀h,0<=h->h<=y->On C (i+1) (tt C (i+1)+h):=by
  by_cases c:i+1+1<↥C
  .exact#[tt C (i+1+1)-tt C (i+1),by have:=oC.up (i+1) c;grind,λh h1 h2=>#[hi,⋯,λ_=>⋯]]
  .exact#[1,⋯,λh h1 h2=>#[hi,⋯,λz=>absurd z c]]
 obtain⟨d1,p1,p2,p3⟩:=IT (a:=tt C (i+1)-tt C i) (b:=y) ⋯ hy;obtain⟨g,g0,g1,g2⟩:=IT (a:=d/2) (b:=d1) ⋯ p1;have A:=T g ⋯ ⋯;have B:=T (-g) ⋯ ⋯;have e0:=BU (m:=M) oC hi;have e1:=EV (m:=M) oC.up hi;rw[e0,Bw oC.up (hon g ⋯ ⋯)]at A;rw[e0,Bw (k:=i) oC.up #[(),⋯,λ_=>⋯]]at B;rw[e1]at B;clear hon T nD H;have x1:e*s*g<=e*slp C M (i+1)*g:=⋯;have x2:e*slp C M i*g<=e*s*g:=⋯;have x3:0<=(e*slp C M (i+1)-e*slp C M i)*g:=⋯;refine qAI.mp λz=>?_;have:=qA9 (show 0<e*slp C M i-e*slp C M (i+1) from ⋯) g0;grind
theorem few (o:Ord cs)(n3:↥cs<=3)(k:Crv C M)(he:e=1\/e=-1)(H:Ext e cs m (val C M)):↥C<=12:=by
 have oC:Ord C:=#[k.ne,k.t0,k.v0,k.up,k.vu];have L:=YY o oC he H;have c:Cnt [tt cs 1,tt cs 2,tt cs 2-tt cs 1] ((slL cs m).map λy=>-e*y) ((List.range ↥C).map λi=>(tt C i,(-e*slp C M i,0))):=by
  have g:∀i,i<↥C->bg ((List.range ↥C).map λi=>(tt C i,(-e*slp C M i,0))) i=tt C i/\ln ((List.range ↥C).map λi=>(tt C i,(-e*slp C M i,0))) i=(-e*slp C M i,0):=λi hi=>by
   unfold bg ln;rw[qAe,qAd,qAJ hi];exact#[rfl,rfl]
  have ln_:((List.range ↥C).map λi=>(tt C i,(-e*slp C M i,(0:Rat)))).length=↥C:=by rw[qAa,qAz]
  refine#[λi hi=>?_,λi hi=>?_,λi hi=>?_]
  all_goals rw[ln_]at hi
  .rw[(g i ()).1,(g _ hi).1];exact oC.up i hi
  .rw[(g i hi).2];obtain⟨j,hj,ej,_⟩:=L i hi;refine qAy.mpr #[slp cs m j,qAy.mpr #[j,qAu.mpr hj,rfl],by rw[ej]]
  .rw[(g i ()).2,(g _ hi).2,(g _ hi).1];by_cases z:∀a b,a<↥cs->b<↥cs->tt C (i+1)≠tt cs a-tt cs b
   .right;have:=ZZ o oC he H i hi z;have:=k.bend i hi;show -e*slp C M (i+1) < -e*slp C M i;rcases he with rfl|rfl<;>grind
   .left;have z':∃a b,a<↥cs/\b<↥cs/\tt C (i+1)=tt cs a-tt cs b:=by
     apply Classical.byContradiction;intro w;exact z λa b ha hb q=>w #[a,b,ha,hb,q]
    obtain⟨a,b,ha,hb,q⟩:=z';have pos:0<tt C (i+1):=by have:=oC.up i hi;have:=BW oC (show i<↥C from ());grind
    have t0:=o.t0;rw[q]at pos ⊢;have mon:∀x y,x<=y->y<↥cs->tt cs x<=tt cs y:=λx y h1 h2=>AU o.up h1 h2;have lt:b<a:=by
     refine Nat.lt_of_not_le λw=>?_;have:=mon a b w hb;grind
    rcases(show(a=1/\b=0)\/(a=2/\b=0)\/(a=2/\b=1) from ()) with⟨rfl,rfl⟩|⟨rfl,rfl⟩|⟨rfl,rfl⟩
    .simp[t0,show tt cs 1-0=tt cs 1 from ⋯]
    .simp[t0,show tt cs 2-0=tt cs 2 from ⋯]
    .simp
 have:=c.len;rw[qAa,qAz,qAa]at this;have e2:(slL cs m).length=↥cs:=DR;rw[e2]at this;have:↥C<=4*↥cs:=this;omega
def Gd (w:Int)(n:Nat)(q:Rat):Prop:=∃x:Int,q*(w:Rat)=(x:Rat)/\x.natAbs<2^n
theorem Gd.mono {w:Int}{n k:Nat}{q:Rat}(h:Gd w n q)(l:n<=k):Gd w k q:=by
 obtain⟨x,e,z⟩:=h;exact#[x,e,Bc z l]
theorem Gd.add {w:Int}{n:Nat}{p q:Rat}(h:Gd w n p)(g:Gd w n q):Gd w (n+1) (p+q):=by
 obtain⟨x,e,z⟩:=h;obtain⟨y,f,s⟩:=g;refine#[x+y,by rw[qBd,<-e,<-f];grind,?_];rw[qCu];omega
theorem Gd.sub {w:Int}{n:Nat}{p q:Rat}(h:Gd w n p)(g:Gd w n q):Gd w (n+1) (p-q):=by
 obtain⟨x,e,z⟩:=h;obtain⟨y,f,s⟩:=g;refine#[x-y,by rw[qBe,<-e,<-f];grind,?_];rw[qCu];omega
theorem Gd.mul {w v:Int}{n k:Nat}{p q:Rat}(h:Gd w n p)(g:Gd v k q):Gd (w*v) (n+k) (p*q):=by
 obtain⟨x,e,z⟩:=h;obtain⟨y,f,s⟩:=g;exact#[x*y,by rw[qAn,qAn,<-e,<-f];grind,Aq z s]
theorem Gd.sz {w:Int}{n:Nat}{q:Rat}(h:Gd w n q)(w0:w≠0)(wn:w.natAbs<2^n):Sz n q:=by
 obtain⟨x,e,z⟩:=h;have w1:(w:Rat)≠0:=λz=>w0 (qBD.mp z);have:q=Rat.divInt x w:=by rw[qAG,<-e];grind
 rw[this];exact DH w0 z wn
structure Gr (u p:Int)(cs:Cs)(m:Rat):Prop where
 u0:0<u/\u<=6
 p0:0<p/\p<=5
 tm:∀i,i<↥cs->Gd u 26 (tt cs i)
 sl:∀i,i<↥cs->Gd p 41 (slp cs m i)
 va:∀i,i<↥cs->Gd (u*p) 67 (vv cs i)
theorem Gr.mv {u p:Int}{b c:Rat}(g:Gr u p cs m)(h:Mv cs m b c):Gd p 41 b/\Gd (u*p) 70 c:=by
 obtain⟨j,hj,rfl,h⟩:=h;have pr:∀i,i<↥cs->Gd (u*p) 67 (slp cs m j*tt cs i):=λi hi=>by rw[Rat.mul_comm];exact(g.tm i hi).mul (g.sl j hj)
 have k:=(g.va j hj).sub (pr j hj);refine#[g.sl j hj,?_];rcases h with rfl|⟨i,hi,rfl|rfl⟩
 .exact k.mono ∅
 .exact(k.add ((pr i hi).mono ∅)).sub ((g.va i hi).mono ∅)
 .exact(((g.va i hi).mono ∅).sub k).sub ((pr i hi).mono ∅)
theorem Uz {u p:Int}(r:Ord cs)(g:Gr u p cs m)(n3:↥cs<=3)(k:Crv C M)(he:e=1\/e=-1)(H:Ext e cs m (val C M)):LS 72 42 70 C M/\↥C<=12/\SL (slL cs m) C M:=by
 have oC:Ord C:=#[k.ne,k.t0,k.v0,k.up,k.vu];have L:=YY r oC he H;have u0:=g.u0;have p0:=g.p0;have up0:0<u*p:=qA5 u0.1 p0.1;have upb:(u*p).natAbs<2^6:=Aq (show u.natAbs<2^3 from ()) (show p.natAbs<2^3 from ());refine#[Ln.ls (λi hi=>?_) oC (λi hi=>?_),few r n3 k he H,SL.of oC λi hi=>?_]
 .obtain⟨h1,h2⟩:=g.mv (L i hi);exact#[(h1.mono ∅).sz () (),h2.sz () (Bc upb ∅)]
 .cases i with
  |zero=>rw[oC.t0];exact Sz.zero.mono ∅
  |succ i=>
   obtain⟨a1,b1⟩:=g.mv (L i ());obtain⟨a2,b2⟩:=g.mv (L (i+1) hi);have vn:=EV (m:=M) oC.up hi;have bd:=k.bend i hi;obtain⟨x,ex,zx⟩:=b1.sub b2;obtain⟨y,ey,zy⟩:=a2.sub a1;have y1:(y:Rat)≠0:=by
    rw[<-ey];have p1:p≠0:=();have:(p:Rat)≠0:=λz=>p1 (qBD.mp z);grind
   have y0:y≠0:=λz=>y1 (by rw[z];rfl);have zy:y.natAbs<2^42:=zy;have uy:(u*y).natAbs<2^45:=Aq (show u.natAbs<2^3 from ()) zy;refine Gd.sz (w:=u*y) #[x,?_,Bc zx ∅] (qCC () y0) (Bc uy ∅);rw[qAn]at ex ⊢;rw[<-ex,<-ey];rw[vn];grind
 .obtain⟨j,hj,ej,_⟩:=L i hi;rw[ej];exact qAy.mpr #[j,qAu.mpr hj,rfl]
def WW (cs:Cs)(m t:Rat):List Rat:=(List.range ↥cs).map (λi=>val cs m (tt cs i+t)-vv cs i)++((List.range ↥cs).filter λi=>decide (t<=tt cs i)).map λi=>vv cs i-val cs m (tt cs i-t)
theorem R7 {i:Nat}(h:i<↥cs):val cs m (tt cs i+t)-vv cs i∈WW cs m t:=qAq.mpr (.inl (qAy.mpr #[i,qAu.mpr h,rfl]))
theorem UG {i:Nat}(h:i<↥cs)(l:t<=tt cs i):vv cs i-val cs m (tt cs i-t)∈WW cs m t:=qAq.mpr (.inr (qAy.mpr #[i,qA6.mpr #[qAu.mpr h,by simp[l]],rfl]))
theorem Ou {v:Rat}(h:v∈WW cs m t):Att cs m t v:=by
 rcases qAq.mp h with h|h
 .obtain⟨i,hi,rfl⟩:=qAy.mp h;exact .inl #[i,qAu.mp hi,rfl]
 .obtain⟨i,hi,rfl⟩:=qAy.mp h;obtain⟨h1,h2⟩:=qA6.mp hi;exact .inr #[i,qAu.mp h1,by simpa using h2,rfl]
theorem Att.growth {v:Rat}(o:Ord cs)(h:Att cs m t v):∃s,0<=s/\v=val cs m (s+t)-val cs m s:=by
 rcases h with⟨i,hi,e⟩|⟨i,hi,l,e⟩
 .exact#[tt cs i,BW o hi,by rw[BU o hi];exact e]
 .exact#[tt cs i-t,⋯,by rw[show tt cs i-t+t=tt cs i from ⋯,BU o hi];exact e]
theorem Zg (o:Ord cs):∃b,Mo cs m t b/\(b=val cs m t\/Att cs m t b):=by
 obtain⟨b,hb,le⟩:=Pj 1 (val cs m t::WW cs m t) (by simp);have le:∀x,x∈val cs m t::WW cs m t->x<=b:=λx h=>by have:=le x h;grind
 have B:b=val cs m t\/Att cs m t b:=(qAl.mp hb).elim .inl λh=>.inr (Ou h);exact#[b,#[B.elim .inl λh=>.inr (h.growth o),le _ qAK,λj hj=>le _ (qAE _ (R7 hj)),λj hj l=>le _ (qAE _ (UG hj l))],B]
theorem ZE (o:Ord cs):∃b,Lo cs m t b/\Att cs m t b:=by
 obtain⟨b,hb,le⟩:=Pj (-1) (WW cs m t) (by intro z;have:=R7 (m:=m) (t:=t) o.ne;rw[z]at this;exact nomatch this);have le:∀x,x∈WW cs m t->b<=x:=λx h=>by have:=le x h;grind
 have B:=Ou hb;exact#[b,#[B.growth o,λj hj=>le _ (R7 hj),λj hj l=>le _ (UG hj l)],B]
def Bow (e:Rat)(cs:Cs)(m:Rat):Prop:=∀i,i+1<↥cs->e*slp cs m (i+1)<=e*slp cs m i
theorem UH (o:Ord cs)(h:Bow e cs m)(t0:0<=t){i:Nat}(hi:i<↥cs):e*val cs m t<=e*(vv cs i+slp cs m i*(t-tt cs i)):=by
 have on:=Dq o t0;generalize plc cs t ↥cs=j at on;have jl:=on.lt;rw[Bw o.up on];have st:∀k,k+1<↥cs->e*(vv cs k+slp cs m k*(t-tt cs k))-e*(vv cs (k+1)+slp cs m (k+1)*(t-tt cs (k+1)))=(e*slp cs m k-e*slp cs m (k+1))*(t-tt cs (k+1)):=λk hk=>by
  rw[EV (m:=m) o.up hk];grind
 rcases Nat.le_total i j with ij|ji
 .have up:∀n k,k+n=j->e*(vv cs j+slp cs m j*(t-tt cs j))<=e*(vv cs k+slp cs m k*(t-tt cs k)):=by
   intro n
   induction n with
   |zero => intro k hk;have:k=j:=()
            rw[this];exact qAb
   |succ n ih=>
    intro k hk;have a:=ih (k+1) ();have b:=st k ();have c:=qAh (show 0<=e*slp cs m k-e*slp cs m (k+1) by have:=h k ();grind) (show 0<=t-tt cs (k+1) by have:=AU o.up (i:=k+1) (j:=j) () jl;have:=on.lo;grind);grind
  exact up (j-i) i ()
 .have dn:∀n k,k=j+n->k<↥cs->e*(vv cs j+slp cs m j*(t-tt cs j))<=e*(vv cs k+slp cs m k*(t-tt cs k)):=by
   intro n
   induction n with
   |zero => intro k hk _;have:k=j:=()
            rw[this];exact qAb
   |succ n ih=>
    intro k hk kl;obtain⟨q,rfl⟩:∃q,k=q+1:=#[k-1,()];have a:=ih q () ();have b:=st q kl;have c:=qAh (show 0<=e*slp cs m q-e*slp cs m (q+1) by have:=h q kl;grind) (show 0<=tt cs (q+1)-t by have:=AU o.up (i:=j+1) (j:=q+1) () kl;have:=on.hi ();grind);grind
  exact dn (i-j) i () hi
theorem OW {s:Rat}(o:Ord cs)(h:Bow e cs m)(s0:0<=s)(t0:0<=t):e*(val cs m (s+t)-val cs m s)<=e*(val cs m t-val cs m 0):=by
 by_cases z:s+t=0
 .have a:s=0:=⋯;have b:t=0:=⋯;subst a;subst b;rw[show(0:Rat)+0=0 from ⋯];exact qAb
 have p:0<s+t:=⋯;have mid:∀x,0<=x->x<=s+t->(s+t-x)*(e*val cs m 0)+x*(e*val cs m (s+t))<=(s+t)*(e*val cs m x):=λx x0 x1=>by
  have on:=Dq o x0;generalize plc cs x ↥cs=j at on;have a:=UH o h qAb on.lt;have b:=UH o h (Rat.add_nonneg s0 t0) on.lt;rw[Bw o.up on];have c:=qAh (show 0<=s+t-x from ⋯) (show 0<=e*(vv cs j+slp cs m j*(0-tt cs j))-e*val cs m 0 from ⋯);have d:=qAh x0 (show 0<=e*(vv cs j+slp cs m j*(s+t-tt cs j))-e*val cs m (s+t) from ⋯);grind
 have a:=mid s s0 ⋯;have b:=mid t t0 ⋯;refine qAI.mp λw=>?_;have:=qA9 p (show 0<e*(val cs m (s+t)-val cs m s)-e*(val cs m t-val cs m 0) from ⋯);grind
theorem NY {K s:Rat}(o:Ord cs)(km:m<=K)(hk:∀i,i<↥cs->slp cs m i<=K)(s0:0<=s)(t0:0<=t):val cs m (s+t)-val cs m s<=K*t:=by
 have om:=IL (v:=vv cs 0) o qAb hk;have a:=Bh (m:=K-m) #[om,⋯] (x:=s) (y:=s+t) s0 ⋯;rw[Cv o,Cv o]at a;grind
theorem Wy {J K s:Rat}(o:Ord cs)(km:m<=K)(hk:∀i,i<↥cs->slp cs m i<=K)(hj:∀i,i<↥cs->J<=slp cs m i)(s0:0<=s)(t0:0<=t):J*t<=val cs m (s+t)-val cs m s:=by
 have om:=IL (v:=vv cs 0) o qAb hk;have n:=o.ne;have jm:J<=m:=by have:=hj (↥cs-1) ();rw[Az ()]at this;exact this
 have a:=NY (m:=K-m) (K:=K-J) om ⋯ (λi hi=>by rw[QN o.up];rw[Gp]at hi;have:=hj i hi;grind) s0 t0;rw[Cv o,Cv o]at a;grind
end
theorem MU {L:Cs}{c:Rat×Rat}{M M':Rat}(n:0<↥L)(h:(c.2-vv L (↥L-1))/(c.1-tt L (↥L-1))=M){k:Nat}(hk:k<↥L):slp (L++[c]) M' k=slp L M k:=by
 rw[Cd (show k+1<(L++[c]).length by rw[Bq];omega),M7 hk,M9 hk];by_cases e:k+1<↥L
 .rw[Cd e,M7 e,M9 e]
 .have:k+1=↥L:=();rw[Az e,this,OD,Pa,<-h];have:k=↥L-1:=();rw[this]
theorem OS {w x:Int}{n:Nat}(w0:w≠0)(h:x.natAbs<2^n):Gd w n (Rat.divInt x w):=by
 have w1:(w:Rat)≠0:=λz=>w0 (qBD.mp z);exact#[x,by rw[qAG];grind,h]
structure Dw (u p:Int)(B:Rat->Prop)(cs:Cs)(m:Rat):Prop where
 tm:∀i,i<↥cs->Gd u 26 (tt cs i)
 sl:∀i,i<↥cs->Gd p 41 (slp cs m i)
 va:∀i,i<↥cs->Gd (u*p) 67 (vv cs i)
 bend:∀k,k+1<↥cs->slp cs m k≠slp cs m (k+1)
 bow:∀e,B e->Bow e cs m
theorem Dw.one {u p:Int}{B:Rat->Prop}{v m:Rat}(hv:Gd (u*p) 67 v)(hm:Gd p 41 m):Dw u p B [(0,v)] m:=by
 have z:∀{i:Nat},i < [((0:Rat),v)].length->i=0:=λ{i} h=>by have:i<1:=h;omega
 refine#[λi hi=>?_,λi hi=>?_,λi hi=>?_,λk hk=>?_,λe _ k hk=>?_]
 .rw[z hi];exact#[0,by show(0:Rat)*_=_;rw[Rat.zero_mul];rfl,∅]
 .rw[z hi,Az (by show ¬1<1;decide)];exact hm
 .rw[z hi];exact hv
 .have:k+1<1:=hk;omega
 .have:k+1<1:=hk;omega
theorem Dw.snoc {u p:Int}{B:Rat->Prop}{cs:Cs}{m m':Rat}{c:Rat×Rat}(h:Dw u p B cs m)(n:0<↥cs)(hs:(c.2-vv cs (↥cs-1))/(c.1-tt cs (↥cs-1))=m)(h1:Gd u 26 c.1)(h2:Gd (u*p) 67 c.2)(h3:Gd p 41 m')(ne:m≠m')(hB:∀e,B e->e*m'<=e*m):Dw u p B (cs++[c]) m':=by
 have ln:(cs++[c]).length=↥cs+1:=Bq;have so:slp (cs++[c]) m' ↥cs=m':=Az (by rw[ln];omega);have sm:slp cs m (↥cs-1)=m:=Az ();refine#[λi hi=>?_,λi hi=>?_,λi hi=>?_,λk hk=>?_,λe b k hk=>?_]
 all_goals rw[ln] at *
 .by_cases z:i<↥cs
  .rw[M7 z];exact h.tm i z
  .have:i=↥cs:=();subst this;rw[OD];exact h1
 .by_cases z:i<↥cs
  .rw[MU n hs z];exact h.sl i z
  .have:i=↥cs:=();subst this;rw[so];exact h3
 .by_cases z:i<↥cs
  .rw[M9 z];exact h.va i z
  .have:i=↥cs:=();subst this;rw[Pa];exact h2
 .rw[MU n hs ()];by_cases z:k+1<↥cs
  .rw[MU n hs z];exact h.bend k z
  .have:k+1=↥cs:=();rw[this,so,show k=↥cs-1 from (),sm];exact ne
 .rw[MU n hs (k:=k) ()];by_cases z:k+1<↥cs
  .rw[MU n hs z];exact h.bow e b k z
  .have:k+1=↥cs:=();rw[this,so,show k=↥cs-1 from (),sm];exact hB e b
section
variable {A B D F G:Rat->Rat}{P t:Rat}
structure Srv (A B D:Rat->Rat):Prop where
 le:∀s t,0<=s->s<=t->D t<=A s+B t-B s
 at_:∀t,0<=t->D t=B t\/∃s,0<=s/\s<=t/\D t=A s+B t-B s
def Kps (A F:Rat->Rat):Prop:=(∀t,0<=t->A t<=F t)/\∀s t,0<=s->0<=t->A (s+t)-A s<=F t
def Sre (B G:Rat->Rat):Prop:=∀s t,0<=s->0<=t->G t<=B (s+t)-B s
theorem Srv.of {L:Rat->Rat}(h:∀t,0<=t->IsL (λx=>B x-A x) t (L t))(v:∀t,0<=t->D t=B t-L t):Srv A B D:=by
 refine#[λs t s0 st=>?_,λt t0=>?_]
 .have t0:=qAm s0 st;have a:=(h t t0).2.2 s s0 st;have a:B s-A s<=L t:=a;rw[v t t0];grind
 .rw[v t t0];rcases(h t t0).2.1 with e|⟨s,s0,st,e⟩
  .left;rw[e];grind
  .right;have e:B s-A s=L t:=e;exact#[s,s0,st,⋯]
theorem Srv.pile (h:Srv A B D)(k:Kps A F)(g:Sre B G)(b0:0<=B 0)(p:∀t,0<=t->F t-G t<=P)(t0:0<=t):A t<=D t+P:=by
 rcases h.at_ t t0 with e|⟨s,s0,st,e⟩
 .have a:=k.1 t t0;have b:=g 0 t qAb t0;rw[show 0+t=t from ⋯]at b;have c:=p t t0;grind
 .have a:=k.2 s (t-s) s0 ⋯;have b:=g s (t-s) s0 ⋯;rw[show s+(t-s)=t from ⋯]at a b;have c:=p (t-s) ⋯;grind
theorem Srv.wait {w:Rat}(h:Srv A B D)(k:Kps A F)(g:Sre B G)(b0:0<=B 0)(w0:0<=w)(am:∀x y,0<=x->x<=y->A x<=A y)(bm:∀x y,0<=x->x<=y->B x<=B y)(p:∀t,0<=t->F t<=G (t+w))(t0:0<=t):A t<=D (t+w):=by
 rcases h.at_ (t+w) ⋯ with e|⟨s,s0,st,e⟩
 .have a:=k.1 t t0;have b:=g 0 (t+w) qAb ⋯;rw[show 0+(t+w)=t+w from ⋯]at b;have c:=p t t0;grind
 .by_cases c:t<=s
  .have a:=am t s t0 c;have b:=bm s (t+w) s0 st;grind
  .have a:=k.2 s (t-s) s0 ⋯;have b:=g s (t-s+w) s0 ⋯;rw[show s+(t-s)=t from ⋯]at a;rw[show s+(t-s+w)=t+w from ⋯]at b;have c:=p (t-s) ⋯;grind
theorem Srv.after {U:Rat->Rat}(h:Srv A B D)(k:Kps A F)(g:Sre B G)(b0:0<=B 0)(u:∀l x,0<=l->0<=x->F (l+x)-G x<=U l):Kps D U:=by
 have da:∀t,0<=t->D t<=A t:=λt t0=>by have:=h.le t t t0 qAb;grind
 refine#[λt t0=>?_,λs l s0 l0=>?_]
 .have a:=u t 0 t0 qAb;have b:=g 0 0 qAb qAb;have c:=k.1 t t0;have d:=da t t0;rw[show t+0=t from ⋯]at a;rw[show(0:Rat)+0=0 from ⋯]at b;grind
 .have d:=da (s+l) ⋯;rcases h.at_ s s0 with e|⟨r,r0,rs,e⟩
  .have a:=u l s l0 s0;have b:=g 0 s qAb s0;rw[show 0+s=s from ⋯]at b;have c:=k.1 (s+l) ⋯;rw[show l+s=s+l from ⋯]at a;grind
  .have a:=u l (s-r) l0 ⋯;have b:=g r (s-r) r0 ⋯;have c:=k.2 r (s+l-r) r0 ⋯;rw[show l+(s-r)=s+l-r from ⋯]at a;rw[show r+(s-r)=s from ⋯]at b;rw[show r+(s+l-r)=s+l from ⋯]at c;grind
end
end CH
namespace CL
open PySem L2 L3 CH
theorem bL {x y p q s z:Nat}(h1:x<=p)(h2:y<=q)(h3:s<=z):(2*(x*y)+2*x+y+3)*s<=(2*(p*q)+2*p+q+3)*z:=by
 have:=Nat.mul_le_mul h1 h2;exact Nat.mul_le_mul () h3
theorem Du {cs:Cs}{m:Rat}:(Hu cs m).length=↥cs:=by unfold Hu;simp
theorem Wl {cs:Cs}{m:Rat}{n:Nat}{y:D}(h:((Hu cs m).map qd)[n]? = some y):n<↥cs/\y=qd (slp cs m n):=by
 have hn:n<↥cs:=by
  have:=(qAf.mp h).1;rw[qAa,Du]at this;exact this
 refine#[hn,?_];unfold Hu at h;rw[qAd,qAd,qAJ hn]at h;exact(qAo h).symm
theorem IZ {ps:List RP}{i:Int}(j:Nat)(e:i=(j:Int))(h:j<↥ps):atI (ps.map rpD) i=some (rpD (ps.getD j dfR)):=by
 subst e;rw[CH.atI_nat (by rw[qAa];exact h),qAd,qAc h,qAe,qAc h];rfl
theorem U2 {ps:List RP}(h:0<↥ps):atI (ps.map rpD) (-1)=some (rpD (ps.getD (↥ps-1) dfR)):=by
 refine Ls ?_;rw[qAe,qAc (show ↥ps-1<↥ps from ())];rfl
theorem BS {ps:List RP}{j:Nat}(h:j<↥ps):ps[j]? = some (ps.getD j dfR):=by
 rw[qAe,qAc h];rfl
def SG (x:D):Rat:=match x with
 |.tup [.tup [.int a,.int b],_]=>Rat.divInt a b
 |_=>0
theorem Hv {m:Nat}{p:RP}{t:Rat}(w:Wq m p.1.1 p.1.2 t):SG (rpD p)=t:=Ko w
theorem Zv (x y:Rat):mn x y<=x/\mn x y<=y/\(mn x y=x\/mn x y=y):=by
 unfold mn;split<;>grind
theorem _root_.CH.Crv.rise {cs:Cs}{m:Rat}(h:Crv cs m):C1 cs m:=#[#[h.ne,h.t0,h.v0,h.up,h.vu],h.m0]
theorem Xj {α:Type}{f:α->D}{xs:List α}(hh:0<↥xs):FV (xs.map f) (some 1) none=(xs.drop 1).map f:=by
 have e:HT.sIx (xs.map f).length 0 (some 1)=1:=by
  have:=HT.sIx_nat (xs.map f).length 0 1;rw[qAa]at this ⊢;exact this.trans (qBP hh)
 unfold FV;rw[e];show((xs.map f).drop 1).take ((xs.map f).length-1)=_;rw[<-qBX,qBk (by rw[qAa,qAa,qAP];exact qAg _)]
def cl (ns:List Int)(k:Int):Int:=if k<↥ns then cell ns k else 5*k+2
theorem Qf {va g x ti u p:Int}(u0:0<u)(p0:0<p):Rat.divInt (va+g*x) (u*p)=Rat.divInt va (u*p)+Rat.divInt x p*(Rat.divInt (ti+g) u-Rat.divInt ti u):=by
 rw[qAG,qAG,qAG,qAG,qAG,qBd,qBd,qAn,qAn];have n1:(u:Rat)≠0:=λz=>absurd (qBM.mp z) (qBu u0);have n2:(p:Rat)≠0:=λz=>absurd (qBM.mp z) (qBu p0);grind
theorem WV {v y t u p:Int}(u0:0<u)(p0:0<p):Rat.divInt v (u*p)-Rat.divInt y p*Rat.divInt t u=Rat.divInt (v-y*t) (u*p):=by
 rw[qAG,qAG,qAG,qAG,qBe,qAn,qAn];have n1:(u:Rat)≠0:=λz=>absurd (qBM.mp z) (qBu u0);have n2:(p:Rat)≠0:=λz=>absurd (qBM.mp z) (qBu p0);grind
theorem MM {ms:List Int}(h:0<↥ms):atI (ms.map D.int) (-1)=some (.int (cell ms ((↥ms-1:Nat):Int))):=by
 rw[<-FD (ms:=ms) (i:=((↥ms-1:Nat):Int)) (↥ms-1) rfl ()];unfold atI ixN;rw[qAa,if_neg (),if_pos (),if_pos (),if_pos ()]
 congr 1
 congr 1
 omega
theorem Ni {k n:Nat}{a b c d:Int}{p q:Rat}(h:Wq k a b p)(g:Wq n c d q)(e:a*d=c*b):p=q:=by
 have l1:=(h.le_iff g).mp ();have l2:=(g.le_iff h).mp ();grind
theorem Zl {k:Nat}{a b:Int}{q:Rat}(h:Wq k a b q):0<=a ↔ 0<=q:=by
 have:=(Wq.of (k:=1) Sz.zero).le_iff h;simpa using this
def flo (cs:Cs)(m:Rat):List Int:=(Hu cs m).map λq=>q.num.fdiv (q.den:Int)
noncomputable def stp (cs:Cs)(m:Rat):Int:=open Classical in if h:∃k,k∈flo cs m/\∀x∈flo cs m,x<=k then h.choose+1 else 1
theorem UC {cs:Cs}{m:Rat}{k:Int}(h1:k∈flo cs m)(h2:∀x∈flo cs m,x<=k):stp cs m=k+1:=by
 have h:∃k,k∈flo cs m/\∀x∈flo cs m,x<=k:=#[k,h1,h2];unfold stp;rw[dif_pos h];have a:=h.choose_spec;have b:=h2 _ a.1;have c:=a.2 _ h1;omega
theorem XX (q:Rat):q<((q.num.fdiv (q.den:Int)+1:Int):Rat):=by
 have d0:=den_pos q;have w:Wq (q.num.natAbs+q.den+1) q.num q.den q:=#[(),RX q,qAs (Nat.lt_two_pow_self) (qCe ∅ ()),qAs (Nat.lt_two_pow_self (n:=q.den)) (qCe ∅ ())];have e:((q.num.fdiv (q.den:Int)+1:Int):Rat)=((q.num.fdiv (q.den:Int)+1:Int):Rat):=rfl;have h1:=Int.fmod_add_mul_fdiv q.num (q.den:Int);have h2:=qB3 q.num (show(0:Int)<q.den from ());have h3:q.num<(q.den:Int)*(q.num.fdiv q.den+1):=by
  rw[Int.mul_add];omega
 have h4:((q.num:Int):Rat)<(((q.den:Int)*(q.num.fdiv q.den+1):Int):Rat):=qBj.mpr h3;rw[qAn,w.eq]at h4;have h5:(0:Rat)<((q.den:Int):Rat):=by
  have:((0:Int):Rat)<((q.den:Int):Rat):=qBj.mpr ();exact this
 generalize ((q.num.fdiv (q.den:Int)+1:Int):Rat)=K at h4 ⊢;generalize ((q.den:Int):Rat)=D at h4 h5;refine qA1.mp λz=>?_;have:=qAh (show 0<=q-K from ⋯) (qAj h5);grind
theorem Qy:∀{l:List Int},0<↥l->∃k,k∈l/\∀x∈l,x<=k
 |[a],_=>#[a,qAK,λx h=>by rw[qAM.mp h];exact Int.le_refl _]
 |a::b::l,_=>by
  obtain⟨k,h1,h2⟩:=Qy (l:=b::l) (Nat.succ_pos _);by_cases c:k<=a
  .exact#[a,qAK,λx h=>(qAl.mp h).elim (λe=>e ▸ Int.le_refl _) (λe=>Int.le_trans (h2 x e) c)]
  .exact#[k,qAE _ h1,λx h=>(qAl.mp h).elim (λe=>()) (h2 x)]
def KO (cs:Cs)(m:Rat):Prop:=C1 cs m/\LS 41 45 68 cs m/\↥cs<=3/\Sz 68 (vv cs 0)
noncomputable abbrev sK (cs:Cs)(m:Rat):Rat:=((stp cs m:Int):Rat)
theorem SQ {cs:Cs}{m:Rat}(h:KO cs m):(∀i,i<↥cs->slp cs m i<sK cs m)/\0<stp cs m/\(stp cs m).natAbs<2^46:=by
 obtain⟨r,z,_,_⟩:=h;have n:=r.o.ne;obtain⟨k,k1,k2⟩:=Qy (l:=flo cs m) (by unfold flo;rw[qAa,Du];exact n);have e:=UC k1 k2;have pos:∀q:Rat,0<=q->0<=q.num.fdiv (q.den:Int)/\q.num.fdiv (q.den:Int)<=q.num:=λq q0=>by
  have h1:=qCO.mpr q0;have d0:=den_pos q;rw[qBl _ ()];exact#[Int.ediv_nonneg h1 (),Int.ediv_le_self _ h1]
 have mem:∀i,i<↥cs->(slp cs m i).num.fdiv ((slp cs m i).den:Int)∈flo cs m:=λi hi=>by
  unfold flo Hu;rw[qA3];exact qAy.mpr #[i,qAu.mpr hi,rfl]
 refine#[λi hi=>?_,?_,?_]
 .have a:=XX (slp cs m i);have b:=k2 _ (mem i hi);have c:(((slp cs m i).num.fdiv ((slp cs m i).den:Int)+1:Int):Rat)<=((k+1:Int):Rat):=Rat.intCast_le_intCast.mpr ();show _<((stp cs m:Int):Rat);rw[e];grind
 .have:=(pos _ (Ff r 0)).1;have:=k2 _ (mem 0 n);omega
 .unfold flo Hu at k1;rw[qA3]at k1;obtain⟨i,hi,rfl⟩:=qAy.mp k1;have hi:=qAu.mp hi;obtain⟨p1,p2⟩:=pos _ (Ff r i);have zs:=(z.ln r.o i hi).1.1;have e:stp cs m=(slp cs m i).num.fdiv ((slp cs m i).den:Int)+1:=e;rw[e];omega
def MS (cs:Cs)(m:Rat)(C:Cs)(M:Rat):Prop:=Crv C M/\M=sK cs m-m/\(∀t,0<=t->val C M t=vv cs 0+sK cs m*t-val cs m t)/\LS 41 92 137 C M/\↥C<=4
noncomputable abbrev miK (cs:Cs)(m:Rat):Cs:=mis cs (vv cs 0) (sK cs m)
noncomputable abbrev IsM (cs:Cs)(m t g:Rat):Prop:=IsU (miK cs m) (sK cs m-m) (miK cs m) (sK cs m-m) t g
theorem IM {v K t:Rat}:val [(0,v)] K t=v+K*t:=by
 have e:plc [(0,v)] t 1=0:=by
  unfold plc;split<;>rfl
 show vv [(0,v)] (plc [(0,v)] t 1)+slp [(0,v)] K (plc [(0,v)] t 1)*(t-tt [(0,v)] (plc [(0,v)] t 1))=_;rw[e,Az (by show ¬1<1;decide)];show v+K*(t-0)=_;grind
theorem YM {k:Int}{n:Nat}(h:k.natAbs<2^n)(hn:1<=n):Sz n ((k:Int):Rat):=by
 refine#[by rw[Rat.num_intCast];exact h,?_];rw[Rat.den_intCast];exact Nat.one_lt_two_pow ()
theorem KO.st {cs:Cs}{m:Rat}(h:KO cs m):C1 [(0,vv cs 0)] (sK cs m)/\LS 1 46 68 [(0,vv cs 0)] (sK cs m)/\Sz 46 (sK cs m)/\0<=sK cs m/\0<=sK cs m-m/\∀i,i<↥cs->slp cs m i<=sK cs m:=by
 obtain⟨s1,s2,s3⟩:=SQ h;obtain⟨r,z,_,zv⟩:=h;have o:=r.o;have zk:=YM s3 ∅;have k0:0<=sK cs m:=Rat.intCast_nonneg.mpr (qCP s2);have o1:Ord [(0,vv cs 0)]:=Ord.one o.v0;refine#[#[o1,k0],?_,zk,k0,?_,λi hi=>qAj (s1 i hi)]
 .refine Ln.ls (Ln.one zk ?_) o1 (λi hi=>?_)
  .show Sz 68 (vv cs 0-_*0);rw[show vv cs 0-sK cs m*0=vv cs 0 from ⋯];exact zv
  .have:i=0:=by(have:i<1:=hi;omega)
   subst this;exact Sz.zero
 .have n:=o.ne;have:=s1 (↥cs-1) ();rw[Az ()]at this;grind
def GZ (cs:Cs)(m:Rat):Prop:=C1 cs m/\LS 1300 70 600 cs m/\↥cs<=1000
theorem OC {l:Nat}{cs:Cs}{m h:Rat}(z:LS 1300 70 600 cs m)(o:Ord cs){k:Nat}(hk:k<↥cs)(s:slp cs m k≠0)(hh:Sz l h):Sz (l+671) (tt cs k+(h-vv cs k)/slp cs m k):=by
 obtain⟨z1,z2⟩:=z.ln o k hk;rw[show tt cs k+(h-vv cs k)/slp cs m k=(h-(vv cs k-slp cs m k*tt cs k))/slp cs m k from ⋯];exact((hh.sub z2).div z1 s).mono ()
theorem U3 {cs ds:Cs}{m k:Rat}{ts:List Rat}(h:GZ cs m)(g:GZ ds k)(t:Tms cs ds ts){i:Nat}(hi:i<↥ts):Sz 1300 (T ts i):=by
 rcases t.of i hi with⟨j,hj,e⟩|⟨j,hj,e⟩
 .rw[e];exact h.2.1.tm j hj
 .rw[e];exact g.2.1.tm j hj
theorem GZ.v {cs:Cs}{m:Rat}(h:GZ cs m){i:Nat}(hi:i<↥cs):Sz 1971 (vv cs i):=by
 have:=h.2.2;exact(h.2.1.szk h.1.o () (qAg _)).cs i hi |>.2
theorem Lu {cs ds:Cs}{m k:Rat}(o:Ord cs)(q:Ord ds)(h:∀t,0<=t->val cs m t<=val ds k t):m<=k:=by
 have n1:=o.ne;have n2:=q.ne;have a0:=BW o (show ↥cs-1<↥cs from ());have b0:=BW q (show ↥ds-1<↥ds from ());refine Ky (a:=tt cs (↥cs-1)+tt ds (↥ds-1)) (f0:=vv cs (↥cs-1)+m*tt ds (↥ds-1)) (g0:=vv ds (↥ds-1)+k*tt cs (↥cs-1)) λx hx=>?_;have h1:=h x ⋯;rw[BR n1 ⋯,BR n2 ⋯]at h1;grind
theorem Rh {h a b:Rat}(z:(!decide (h<b))=true)(v:a<=b):(!decide (h<a))=true:=by
 have z1:¬h<b:=by simpa using z
 have z2:¬h<a:=⋯;simpa using z2
def KG (cs:Cs)(m:Rat):Prop:=Crv cs m/\LS 41 45 68 cs m/\↥cs<=3/\(∀i,i<↥cs->Sz 68 (vv cs i))/\∃u p:Int,Gr u p cs m
theorem KG.ko {cs:Cs}{m:Rat}(h:KG cs m):KO cs m:=#[h.1.rise,h.2.1,h.2.2.1,h.2.2.2.1 0 h.1.ne]
def PR (cs:Cs)(m:Rat):Prop:=Crv cs m/\LS 240 45 70 cs m/\↥cs<=30
theorem KG.pr {cs:Cs}{m:Rat}(h:KG cs m):PR cs m:=#[h.1,h.2.1.mono ∅ ∅ ∅,by have:=h.2.2.1;omega]
theorem PR.gz {cs:Cs}{m:Rat}(h:PR cs m):GZ cs m:=#[h.1.rise,h.2.1.mono ∅ ∅ ∅,by have:=h.2.2;omega]
def KQ (n:Nat)(cs:Cs)(m:Rat):Prop:=C1 cs m/\SzK 2400 cs m/\↥cs<=n
theorem PR.kq {cs:Cs}{m:Rat}(h:PR cs m):KQ 24700 cs m:=#[h.1.rise,h.2.1.szk h.1.rise.o (by have:=h.2.2;omega) ∅,by have:=h.2.2;omega]
theorem KG.kq {cs:Cs}{m:Rat}(h:KG cs m):KQ 15 cs m:=#[h.1.rise,h.2.1.szk h.1.rise.o (by have:=h.2.2.1;omega) ∅,by have:=h.2.2.1;omega]
def PLr (x:D):Prop:=∃(a b c d:Int)(s L:Rat),x=.tup [tp a b,tp c d]/\Wq 4801 a b s/\0<=s/\Wq 4801 c d L/\0<=L
theorem Na {rows:List D}{y:D}(h:∀x∈rows,PLr x)(hy:PLr y):∀x∈rows++[y],PLr x:=λx hx=>by
 rcases qAq.mp hx with z|z
 .exact h x z
 .rw[qAM.mp z];exact hy
def TG (cs:Cs)(m:Rat)(C:Cs)(M:Rat):Prop:=Crv C M/\LS 72 42 70 C M/\↥C<=12/\SL (slL cs m) C M
theorem TU {cs C:Cs}{m:Rat}(h:KG cs m)(k:Crv C m)(v:∀t,0<=t->∃g,IsU cs m cs m t g/\val C m t=mx (val cs m t) g):TG cs m C m/\Kps (val cs m) (val C m):=by
 obtain⟨u,p,g⟩:=h.2.2.2.2;have r:=h.1.rise;have d1:∀x,0<=x->val cs m x<=val C m x:=λx x0=>by
  obtain⟨g,_,e⟩:=v x x0;rw[e];exact(GP _ _).1
 have d2:∀s x,0<=s->0<=x->val cs m (s+x)-val cs m s<=val C m x:=λs x s0 x0=>by
  obtain⟨g,i,e⟩:=v x x0;have a:=i.2.2 s s0;rw[show x+s=s+x from ⋯]at a;rw[e];exact qAm a (GP _ _).2.1
 have H:Ext 1 cs m (val C m):=by
  refine#[λt t0=>?_,λs x s0 x0=>?_]
  .obtain⟨b,mo,B⟩:=Zg (m:=m) (t:=t) r.o;obtain⟨g,i,e⟩:=v t t0;rw[ZO r t0 mo i]at e;rw[e];rcases B with B|B
   .exact .inr #[B,λx x0=>by have:=d1 x x0;grind]
   .exact .inl B
  .have:=d2 s x s0 x0;grind
 exact#[#[k,Uz r.o g h.2.2.1 k (.inl rfl) H],d1,d2]
theorem V8 {cs C:Cs}{m:Rat}(h:KG cs m)(k:Crv C m)(v:∀t,0<=t->∃g,IsM cs m t g/\val C m t=sK cs m*t-g):TG cs m C m/\Sre (val cs m) (val C m):=by
 obtain⟨u,p,g⟩:=h.2.2.2.2;have o:=h.1.rise.o;obtain⟨_,_,_,_,km,sl⟩:=h.ko.st;have d2:∀s x,0<=s->0<=x->val C m x<=val cs m (s+x)-val cs m s:=λs x s0 x0=>by
  obtain⟨g,i,e⟩:=v x x0;have a:=i.2.2 s s0;rw[Cv o,Cv o,show x+s=s+x from ⋯]at a;rw[e];grind
 have H:Ext (-1) cs m (val C m):=by
  refine#[λt t0=>?_,λs x s0 x0=>?_]
  .obtain⟨b,lo,B⟩:=ZE (m:=m) (t:=t) o;obtain⟨g,i,e⟩:=v t t0;rw[ZD o qAb km sl t0 lo i]at e;rw[e];exact .inl B
  .have:=d2 s x s0 x0;grind
 exact#[#[k,Uz o g h.2.2.1 k (.inr rfl) H],d2]
theorem Ue {l k:Nat}{i:Int}(e:i=k)(h:k<l):ixN l i=some k:=by
 subst e;unfold ixN;rw[if_pos (),if_pos ()];simp
theorem Om {sl:List Int}{j:Nat}(h:j<↥sl):cell sl j∈sl:=by
 unfold cell;rw[qBG,qAe,qAc h];exact qA0 h
theorem LM {sl:List Int}{j:Nat}(h:j<↥sl):cell sl j=sl[j]:=by
 unfold cell;rw[qBG,qAe,qAc h];rfl
theorem ZK {sl:List Int}{n:Nat}(h:PyProof.Rows.Ordered true sl)(hn:n+1<↥sl):cell sl ((n+1:Nat):Int)<=cell sl (n:Nat):=by
 unfold PyProof.Rows.Ordered at h;rw[if_pos rfl]at h;rw[LM hn,LM ()];exact qBI.mp h n (n+1) () hn ()
theorem Zf {sl:List Int}{n:Nat}(h:PyProof.Rows.Ordered false sl)(hn:n+1<↥sl):cell sl (n:Nat)<=cell sl ((n+1:Nat):Int):=by
 unfold PyProof.Rows.Ordered at h;rw[if_neg ∅]at h;rw[LM hn,LM ()];exact qBI.mp h n (n+1) () hn ()
theorem Ve {a b p:Int}(p0:0<p)(h:Rat.divInt a p=Rat.divInt b p):a=b:=by
 have p2:p≠0:=();have p1:(p:Rat)≠0:=λz=>p2 (qBD.mp z);rw[qAG,qAG]at h;have:(a:Rat)=(b:Rat):=⋯;exact qBD.mp this
theorem UJ {cs:Cs}(h:0<↥cs):cs.map cd≠[]:=λz=>by
 have:=congrArg List.length z;rw[qAa]at this;exact absurd h (by rw[this];decide)
theorem KQ.mem {n:Nat}{cs:Cs}{m:Rat}(h:KQ n cs m){c:Rat×Rat}(hc:c∈cs):Sz 2400 c.1/\0<=c.1/\Sz 2400 c.2/\val cs m c.1=c.2:=by
 obtain⟨i,hi,rfl⟩:=qBa.mp hc;have e:=Ci hi;have v:=BU (m:=m) h.1.o hi;rw[<-e.1,<-e.2];exact#[(h.2.1.cs i hi).1,BW h.1.o hi,(h.2.1.cs i hi).2,v]
theorem QJ {cs ds:Cs}{m k w:Rat}(o:Ord cs)(q:Ord ds)(w0:0<=w)(h:∀t,0<=t->val cs m t<=val ds k (t+w)):m<=k:=by
 have n1:=o.ne;have n2:=q.ne;have a0:=BW o (show ↥cs-1<↥cs from ());have b0:=BW q (show ↥ds-1<↥ds from ());refine Ky (a:=tt cs (↥cs-1)+tt ds (↥ds-1)) (f0:=vv cs (↥cs-1)+m*tt ds (↥ds-1)) (g0:=vv ds (↥ds-1)+k*tt cs (↥cs-1)+k*w) λx hx=>?_;have h1:=h x ⋯;rw[BR n1 ⋯,BR n2 ⋯]at h1;grind
def BO (cs:Cs)(m:Rat)(ds:Cs)(k:Rat)(fc:Cs)(fm:Rat)(gc:Cs)(gm:Rat):Prop:=PR fc fm/\PR gc gm/\Kps (val cs m) (val fc fm)/\Sre (val ds k) (val gc gm)/\∃S0:List Rat,S0.length<=13/\SL S0 fc fm/\SL S0 gc gm/\(0:Rat)∈S0
theorem UP {A B cs ds:Cs}{a b m k:Rat}(h:SL (slL A a) cs m)(g:SL (slL B b) ds k)(ha:↥A<=6)(hb:↥B<=6):∃S0:List Rat,S0.length<=13/\SL S0 cs m/\SL S0 ds k/\(0:Rat)∈S0:=by
 refine#[0::(slL A a++slL B b),by rw[qAQ,qAp,DR,DR];omega,h.mono λx h=>?_,g.mono λx h=>?_,qAK]
 all_goals simp[h]
theorem UQ {v s:Rat}(v0:0<=v)(s0:0<=s)(zv:Sz 70 v)(zs:Sz 45 s):PR [(0,v)] s:=by
 have o:Ord [(0,v)]:=Ord.one v0;refine#[#[o.ne,o.t0,o.v0,s0,o.up,o.vu,λk hk=>by have:k+1<1:=hk;omega],Ln.ls (Ln.one zs ?_) o (λi hi=>?_),by show 1<=30;decide]
 .show Sz 70 (v-s*0);rw[show v-s*0=v from ⋯];exact zv
 .have:i=0:=by(have:i<1:=hi;omega)
  subst this;exact Sz.zero.mono ∅
theorem UU {v s:Rat}{S0:List Rat}(h:s∈S0)(v0:0<=v):SL S0 [(0,v)] s:=SL.of (Ord.one v0) λi hi=>by
 have:i=0:=by(have:i<1:=hi;omega)
 subst this;rw[Az (by show ¬1<1;decide)];exact h
theorem TG.pr {cs C:Cs}{m M:Rat}(h:TG cs m C M):PR C M:=#[h.1,h.2.1.mono ∅ ∅ ∅,by have:=h.2.2.1;omega]
inductive JD (ss:List S)(R:S->Prop)(U_:Str->Prop):Prop
 |mk (a:Int)(_:ss=[.d (.int a)])(_:R (.d (.bl true)))
inductive KS (ss:List S)(R:S->Prop)(U_:Str->Prop):Prop
 |mk (a b:Int)(_:ss=[.d (.int a),.d (.int b)])(_:R (.d (.int (g a b))))
inductive OO (ss:List S)(R:S->Prop)(U_:Str->Prop):Prop
 |mk (a b:Int)(_:ss=[.d (.int a),.d (.int b)])(_:b≠0)(_:a.natAbs<2^13000)(_:b.natAbs<2^13000)(_:R (.d (qd (Rat.divInt a b))))
inductive Q3 (ss:List S)(R:S->Prop)(U_:Str->Prop):Prop
 |mk (p q:Rat)(k l:Nat)(_:ss=[.d (qd p),.d (qd q)])(_:Sz k p)(_:Sz l q)(_:k+l+1<=13000)(_:R (.d (qd (p+q))))
inductive OA (ss:List S)(R:S->Prop)(U_:Str->Prop):Prop
 |mk (p q:Rat)(k l:Nat)(_:ss=[.d (qd p),.d (qd q)])(_:Sz k p)(_:Sz l q)(_:k+l+1<=13000)(_:R (.d (qd (p-q))))
inductive N6 (ss:List S)(R:S->Prop)(U_:Str->Prop):Prop
 |mk (p q:Rat)(k l:Nat)(_:ss=[.d (qd p),.d (qd q)])(_:Sz k p)(_:Sz l q)(_:k+l<=13000)(_:R (.d (qd (p*q))))
inductive RN (ss:List S)(R:S->Prop)(U_:Str->Prop):Prop
 |mk (p q:Rat)(k l:Nat)(_:ss=[.d (qd p),.d (qd q)])(_:Sz k p)(_:Sz l q)(_:k+l<=13000)(_:q≠0)(_:R (.d (qd (p/q))))
inductive Oo (ss:List S)(R:S->Prop)(U_:Str->Prop):Prop
 |mk (p q:Rat)(k l:Nat)(_:ss=[.d (qd p),.d (qd q)])(_:Sz k p)(_:Sz l q)(_:k+l<=30000)(_:R (.d (.bl (decide (p<q)))))
inductive MB (ss:List S)(R:S->Prop)(U_:Str->Prop):Prop
 |mk (p q:Rat)(k l:Nat)(_:ss=[.d (qd p),.d (qd q)])(_:Sz k p)(_:Sz l q)(_:k+l<=30000)(_:R (.d (qd (if q<p then q else p))))
inductive Kz (ss:List S)(R:S->Prop)(U_:Str->Prop):Prop
 |mk (p q:Rat)(k l:Nat)(_:ss=[.d (qd p),.d (qd q)])(_:Sz k p)(_:Sz l q)(_:k+l<=30000)(_:R (.d (qd (if p<q then q else p))))
inductive OX (ss:List S)(R:S->Prop)(U:Str->Prop):Prop
 |mk (x:S)(cs:Cs)(m:Rat)(_:ss=[x,.d (qd m)])(_:(x=.r (cs.map cd)\/x=.d (.lst (cs.map cd))))(_:SzD cs m)(_:(Ord cs/\0<=m->R (.d (crv (kp cs m (↥cs-1)) m))))(_:(¬(Ord cs/\0<=m)->U "NoCurve"))
inductive FW (ss:List S)(R:S->Prop)(U:Str->Prop):Prop
 |mk (x:S)(cs:Cs)(_:ss=[x])(_:(x=.r (cs.map cd)\/x=.d (.lst (cs.map cd))))(_:↥cs<=100000)(_:SzC 6400 cs)(_:(Bgn cs->R (.d .non)))(_:(¬Bgn cs->U "NoCurve"))
inductive GS (ss:List S)(R:S->Prop)(U:Str->Prop):Prop
 |mk (x:S)(cs:Cs)(_:ss=[x])(_:(x=.r (cs.map cd)\/x=.d (.lst (cs.map cd))))(_:0<↥cs)(_:↥cs<=100000)(_:SzC 6400 cs)(_:(Ris cs ↥cs->R (.d .non)))(_:(¬Ris cs ↥cs->U "NoCurve"))
inductive Qt (ss:List S)(R:S->Prop)(U_:Str->Prop):Prop
 |mk (v s:Rat)(_:ss=[.d (qd v),.d (qd s)])(_:0<=v)(_:0<=s)(_:Sz 2000 v)(_:Sz 2000 s)(_:R (.d (crv [(0,v)] s)))
inductive JS (ss:List S)(R:S->Prop)(U:Str->Prop):Prop
 |mk (cs:Cs)(m t:Rat)(a b c n:Nat)(_:ss=[.d (crv cs m),.d (qd t)])(_:Ord cs)(_:LS a b c cs m)(_:↥cs<=100000)(_:a+b+c+1<=6000)(_:4*a+b+2<=13000)(_:n<=6000)(_:2*a+2*b+c+n+3<=13000)(_:Sz n t)(_:(0<=t->R (.d (qd (val cs m t)))))(_:(¬0<=t->U "NoTime"))
inductive Jr (ss:List S)(R:S->Prop)(U:Str->Prop):Prop
 |mk (cs:Cs)(m t:Rat)(n:Nat)(_:ss=[.d (crv cs m),.d (qd t)])(_:0<↥cs)(_:↥cs<=100000)(_:tt cs 0=0)(_:Up cs)(_:n<=6000)(_:SzC n cs)(_:Sz n t)(_:(0<=t->R (.d (.int (plc cs t ↥cs)))))(_:(¬0<=t->U "NoTime"))
inductive GV (ss:List S)(R:S->Prop)(U:Str->Prop):Prop
 |mk (t:Rat)(n:Nat)(_:ss=[.d (qd t)])(_:n<=6000)(_:Sz n t)(_:(0<=t->R (.d .non)))(_:(¬0<=t->U "NoTime"))
inductive Ej (ss:List S)(R:S->Prop)(U_:Str->Prop):Prop
 |mk (cs:Cs)(m:Rat)(k:Nat)(_:ss=[.d (crv cs m),.d (.int k)])(_:k<↥cs)(_:↥cs<=100000)(_:Up cs)(_:SzC 6400 cs)(_:Df cs)(_:R (.d (qd (slp cs m k))))
inductive EG (ss:List S)(R:S->Prop)(U_:Str->Prop):Prop
 |mk (a b c d:Rat)(n e f:Nat)(_:ss=[.d (.tup [qd a,qd b]),.d (.tup [qd c,qd d])])(_:n<=6400)(_:Sz n a)(_:Sz n b)(_:Sz n c)(_:Sz n d)(_:Sz e (c-a))(_:Sz f (d-b))(_:e+f<=13000)(_:c-a≠0)(_:R (.d (qd ((d-b)/(c-a)))))
inductive EE (ss:List S)(R:S->Prop)(U_:Str->Prop):Prop
 |mk (x:S)(cs:Cs)(m:Rat)(_:ss=[x,.d (qd m)])(_:(x=.r (cs.map cd)\/x=.d (.lst (cs.map cd))))(_:0<↥cs)(_:↥cs<=100000)(_:SzC 6400 cs)(_:Df cs)(_:Up cs)(_:R (.l ((Hu cs m).map qd)))
inductive D6 (ss:List S)(R:S->Prop)(U_:Str->Prop):Prop
 |mk (cs:Cs)(m:Rat)(a b c:Nat)(_:ss=[.d (crv cs m)])(_:Ord cs)(_:LS a b c cs m)(_:a+b+c+1<=1800)(_:↥cs<=5000)(_:R (.l ((stI cs m).map λk=>cd (tt cs k,vv cs k))))
inductive DX (ss:List S)(R:S->Prop)(U_:Str->Prop):Prop
 |mk (cs:Cs)(m:Rat)(a b c:Nat)(_:ss=[.d (crv cs m)])(_:Ord cs)(_:LS a b c cs m)(_:a+b+c+1<=1800)(_:↥cs<=5000)(_:R (.l ((flI cs m).map λk=>cd (tt cs k,vv cs k))))
inductive Fd (ss:List S)(R:S->Prop)(U_:Str->Prop):Prop
 |mk (cs:Cs)(m:Rat)(_:ss=[.d (crv cs m)])(_:KO cs m)(_:R (.d (qd (sK cs m))))
inductive Jo (ss:List S)(R:S->Prop)(U_:Str->Prop):Prop
 |mk (cs:Cs)(m:Rat)(ds:Cs)(k:Rat)(_:ss=[.d (crv cs m),.d (crv ds k)])(_:Sz 6000 m)(_:Sz 6000 k)(_:R (.d (.bl (decide (k<m)))))
inductive KT (ss:List S)(R:S->Prop)(U_:Str->Prop):Prop
 |mk (a b s h:Rat)(n p l k:Nat)(_:ss=[.d (.tup [qd a,qd b]),.d (qd s),.d (qd h)])(_:Sz n a)(_:Sz p b)(_:Sz l h)(_:Sz k s)(_:s≠0)(_:n+p+l+k+2<=13000)(_:R (.d (qd (a+(h-b)/s))))
def F6:SpL:=λa dom p ss R _=>∃(x:S)(xs:List D)(n:Nat),ss=[x,.d (.ref a)]/\(x=.d (.tup xs)\/x=.r xs\/x=.d (.lst xs))/\↥xs<=100000/\n<=↥xs/\(∀i x,xs[i]? = some x->dom x/\p x=decide (i<n))/\R (.d (.int n))
inductive N7 (ss:List S)(R:S->Prop)(U_:Str->Prop):Prop
 |mk (cs:Cs)(m:Rat)(ds:Cs)(k:Rat)(a b c:Nat)(S0:List Rat)(_:ss=[.d (crv cs m),.d (crv ds k)])(_:C1 cs m)(_:C1 ds k)(_:LS a b c cs m)(_:LS a b c ds k)(_:2*b+2*c+2<=a)(_:4*a+2*b+3<=12800)(_:↥cs+↥ds<=900)(_:SL S0 cs m)(_:SL S0 ds k)(_:∀(C:Cs)(M:Rat),Crv C M->M=mn m k->LS a b c C M->SL S0 C M->↥C<=2*(↥cs+↥ds)->(∀t,0<=t->val C M t=mn (val cs m t) (val ds k t))->R (.d (crv C M)))
inductive Rp (ss:List S)(R:S->Prop)(U_:Str->Prop):Prop
 |mk (cs:Cs)(m:Rat)(ds:Cs)(k:Rat)(a b c:Nat)(S0:List Rat)(_:ss=[.d (crv cs m),.d (crv ds k)])(_:C1 cs m)(_:C1 ds k)(_:LS a b c cs m)(_:LS a b c ds k)(_:2*b+2*c+2<=a)(_:4*a+2*b+3<=12800)(_:↥cs+↥ds<=990)(_:SL S0 cs m)(_:SL S0 ds k)(_:∀(C:Cs)(M:Rat),Crv C M->M=mx m k->LS a b c C M->SL S0 C M->↥C<=2*(↥cs+↥ds)->(∀t,0<=t->val C M t=mx (val cs m t) (val ds k t))->R (.d (crv C M)))
inductive Qh (ss:List S)(R:S->Prop)(U_:Str->Prop):Prop
 |mk (cs:Cs)(m:Rat)(ds:Cs)(k:Rat)(a b c aa bb cc A:Nat)(_:ss=[.d (crv cs m),.d (crv ds k)])(_:C1 cs m)(_:C1 ds k)(_:LS a b c cs m)(_:LS aa bb cc ds k)(_:a<=A)(_:aa<=A)(_:↥cs+↥ds<=3000)(_:A+b+bb+c+cc+3<=6000)(_:4*A+b+bb+3<=13000)(_:3*A+2*(b+bb)+c+cc+3<=13000)(_:(∀x y,0<=x->x<=y->gap cs m ds k x<=gap cs m ds k y))(_:0<=gap cs m ds k 0)(_:∀(C:Cs)(M:Rat),Crv C M->(∀t,0<=t->val C M t=gap cs m ds k t)->M=m-k->LS A (b+bb+1) (c+cc+1) C M->↥C<=↥cs+↥ds->R (.d (crv C M)))
inductive F7 (ss:List S)(R:S->Prop)(U_:Str->Prop):Prop
 |mk (cs:Cs)(m:Rat)(ds:Cs)(k:Rat)(a b c:Nat)(_:ss=[.d (crv cs m),.d (crv ds k)])(_:Ord cs)(_:Ord ds)(_:↥cs<=3000)(_:↥ds<=3000)(_:LS a b c cs m)(_:LS a b c ds k)(_:a+b+c+1<=6000)(_:4*a+b+2<=13000)(_:3*a+2*b+c+3<=13000)(_:∀ts:List Rat,Tms cs ds ts->↥ts<=↥cs+↥ds->R (.l (ts.map (rw3 cs m ds k))))
inductive Fu (ss:List S)(R:S->Prop)(U_:Str->Prop):Prop
 |mk (cs:Cs)(m:Rat)(ds:Cs)(k:Rat)(n:Nat)(_:ss=[.d (crv cs m),.d (crv ds k)])(_:Ord cs)(_:Ord ds)(_:↥cs<=3000)(_:↥ds<=3000)(_:n<=6000)(_:SzC n cs)(_:SzC n ds)(_:∀ts:List Rat,Tms cs ds ts->↥ts<=↥cs+↥ds->R (.d (.lst (ts.map qd))))
inductive G9 (ss:List S)(R:S->Prop)(U_:Str->Prop):Prop
 |mk (x:S)(cs:Cs)(m:Rat)(ds:Cs)(k:Rat)(ts:List Rat)(v:Nat)(_:ss=[x])(_:(x=.r (ts.map (rw3 cs m ds k))\/x=.d (.lst (ts.map (rw3 cs m ds k)))))(_:↥ts<=6000)(_:v<=6400)(_:(∀i,i<↥ts->Sz v (val cs m (T ts i))/\Sz v (val ds k (T ts i))))(_:R (.l ((gcs cs m ds k ts).map cd)))
inductive EM (ss:List S)(R:S->Prop)(U_:Str->Prop):Prop
 |mk (cs:Cs)(m:Rat)(ds:Cs)(k:Rat)(a b c:Nat)(_:ss=[.d (crv cs m),.d (crv ds k)])(_:Ord cs)(_:Ord ds)(_:LS a b c cs m)(_:LS a b c ds k)(_:2*b+2*c+2<=a)(_:4*a+2*b+3<=12800)(_:↥cs+↥ds<=990)(_:∀us:List Rat,Cx cs m ds k us none->(∀i,i<↥us->Sz a (T us i))->↥us<=2*(↥cs+↥ds)->R (.l (us.map (rw3 cs m ds k))))
inductive Jp (ss:List S)(R:S->Prop)(U_:Str->Prop):Prop
 |mk (p q:Rat)(_:ss=[.d (qd p),.d (qd q)])(_:Sz 6400 p)(_:Sz 6400 q)(_:R (.d (.bl (decide (Opp p q)))))
inductive RM (ss:List S)(R:S->Prop)(U_:Str->Prop):Prop
 |mk (cs:Cs)(m:Rat)(ds:Cs)(k:Rat)(a b c aq bq cq A:Nat)(_:ss=[.d (crv cs m),.d (crv ds k)])(_:C1 cs m)(_:C1 ds k)(_:LS a b c cs m)(_:LS aq bq cq ds k)(_:a<=A)(_:aq<=A)(_:↥cs+↥ds<=240)(_:A+b+c+1<=1800)(_:A+bq+cq+1<=1800)(_:2*(b+bq+c+cq)+A+6<=2000)(_:∀(C:Cs)(M:Rat),Crv C M->0<=M->(∀t,0<=t->IsL (gap cs m ds k) t (val C M t))->LS (2*(b+bq+c+cq)+A+6) (b+bq+1) (b+bq+c+cq+A+3) C M->↥C<=2*(↥cs+↥ds)->R (.d (crv C M)))
inductive F9 (ss:List S)(R:S->Prop)(U_:Str->Prop):Prop
 |mk (gs:Cs)(i:Nat)(l B:Rat)(_:ss=[.r (gs.map cd),.d (.int i),.d (qd l),.d (qd B)])(_:i<↥gs)(_:Sz 3000 l)(_:Sz 3000 B)(_:SzC 3000 gs)(_:R (.d (.bl (if i+1<↥gs then decide (B<vv gs (i+1)) else decide (0<l)))))
inductive MD (ss:List S)(R:S->Prop)(U_:Str->Prop):Prop
 |mk (cs:Cs)(m:Rat)(ds:Cs)(k:Rat)(a b c aq bq cq A:Nat)(_:ss=[.d (crv ds k),.d (crv cs m)])(_:C1 cs m)(_:C1 ds k)(_:LS a b c cs m)(_:LS aq bq cq ds k)(_:a<=A)(_:aq<=A)(_:↥cs<=3)(_:↥ds<=3)(_:b+bq+c+cq+A<=450)(_:b<=100)(_:bq<=100)(_:b+c<=200)(_:∀(L:Cs)(K:Rat)(C:Cs)(M:Rat),Crv L K->0<=K->(∀t,0<=t->IsL (gap cs m ds k) t (val L K t))->Crv C M->0<=M->M=m-K->(∀t,0<=t->val C M t=val cs m t-val L K t)->LS (2*(b+bq+c+cq)+A+6) (b+(b+bq+1)+1) (c+(b+bq+c+cq+A+3)+1) C M->↥C<=15->R (.d (crv C M)))
inductive Mq (ss:List S)(R:S->Prop)(U_:Str->Prop):Prop
 |mk (cs:Cs)(m:Rat)(ds:Cs)(k:Rat)(a b c aq bq cq A:Nat)(_:ss=[.d (crv ds k),.d (crv cs m)])(_:C1 cs m)(_:C1 ds k)(_:LS a b c cs m)(_:LS aq bq cq ds k)(_:a<=A)(_:aq<=A)(_:↥cs+↥ds<=240)(_:A+b+c+1<=1800)(_:A+bq+cq+1<=1800)(_:2*(b+bq+c+cq)+A+6<=2000)(_:∀(C:Cs)(M:Rat),Crv C M->0<=M->(∀t,0<=t->IsL (gap cs m ds k) t (val C M t))->LS (2*(b+bq+c+cq)+A+6) (b+bq+1) (b+bq+c+cq+A+3) C M->↥C<=2*(↥cs+↥ds)->R (.d (crv C M)))
inductive KL (ss:List S)(R:S->Prop)(U_:Str->Prop):Prop
 |mk (cs:Cs)(m h:Rat)(_:ss=[.d (crv cs m),.d (qd h)])(_:GZ cs m)(_:Sz 1971 h)(_:∀r:Option Rat,Rch cs m h r->(∀t,r=some t->Sz 2642 t)->R (.d (oD r)))
inductive Mj (ss:List S)(R:S->Prop)(U_:Str->Prop):Prop
 |mk (cs:Cs)(m h:Rat)(_:ss=[.d (crv cs m),.d (qd h)])(_:GZ cs m)(_:Sz 1971 h)(_:∀r:Option Rat,Psd cs m h r->(∀t,r=some t->Sz 2642 t)->R (.d (oD r)))
inductive Km (ss:List S)(R:S->Prop)(U_:Str->Prop):Prop
 |mk (cs:Cs)(m h:Rat)(k:Nat)(_:ss=[.d (crv cs m),.d (.int k),.d (qd h)])(_:k<↥cs)(_:GZ cs m)(_:Sz 1971 h)(_:(slp cs m k=0->R (.d .non)))(_:(slp cs m k≠0->R (.d (qd (tt cs k+(h-vv cs k)/slp cs m k)))))
inductive KJ (ss:List S)(R:S->Prop)(U_:Str->Prop):Prop
 |mk (cs:Cs)(m:Rat)(ds:Cs)(k:Rat)(_:ss=[.d (crv cs m),.d (crv ds k)])(_:GZ cs m)(_:GZ ds k)(_:∀r:Option Rat,dB cs m ds k r->(∀v,r=some v->Sz 3943 v)->R (.d (oD r)))
inductive EJ (ss:List S)(R:S->Prop)(U_:Str->Prop):Prop
 |mk (cs:Cs)(m:Rat)(ds:Cs)(k:Rat)(_:ss=[.d (crv cs m),.d (crv ds k)])(_:GZ cs m)(_:GZ ds k)(_:(∀(ts:List Rat)(i:Nat),Tms cs ds ts->i<↥ts->(∀j,j<↥ts->gap cs m ds k (T ts j)<=gap cs m ds k (T ts i))->Sz 3943 (gap cs m ds k (T ts i))->R (.d (.tup [qd (T ts i),qd (gap cs m ds k (T ts i))]))))
inductive Mc (ss:List S)(R:S->Prop)(U_:Str->Prop):Prop
 |mk (cs:Cs)(m:Rat)(ds:Cs)(k:Rat)(_:ss=[.d (crv cs m),.d (crv ds k)])(_:GZ cs m)(_:GZ ds k)(_:∀r:Option Rat,eK cs m ds k r->(∀v,r=some v->Sz 5285 v)->R (.d (oD r)))
inductive KB (ss:List S)(R:S->Prop)(U_:Str->Prop):Prop
 |mk (cs:Cs)(m:Rat)(ds:Cs)(k h:Rat)(_:ss=[.d (crv cs m),.d (crv ds k),.d (qd h)])(_:GZ cs m)(_:GZ ds k)(_:Sz 1971 h)(_:∀rf rg pf pg,Rch cs m h rf->Rch ds k h rg->Psd cs m h pf->Psd ds k h pg->Sz 5285 (btw rf rg)->Sz 5285 (btw pf pg)->R (.d (qd (mx (btw rf rg) (btw pf pg)))))
inductive KH (ss:List S)(R:S->Prop)(U_:Str->Prop):Prop
 |mk (a b:Option Rat)(_:ss=[.d (oD a),.d (oD b)])(_:(∀t,a=some t->Sz 2642 t))(_:(∀t,b=some t->Sz 2642 t))(_:R (.d (qd (btw a b))))
inductive HV (ss:List S)(R:S->Prop)(U_:Str->Prop):Prop
 |mk (cs:Cs)(m:Rat)(a b c:Nat)(_:ss=[.d (crv cs m)])(_:Ord cs)(_:LS a b c cs m)(_:a+b+c+1<=1800)(_:↥cs<=5000)(_:R (.l ((Dk cs m).map rpD)))
inductive Fg (ss:List S)(R:S->Prop)(U_:Str->Prop):Prop
 |mk (c:Rat×Rat)(m:Rat)(n:Nat)(_:ss=[.d (cd c),.d (qd m)])(_:Sz n c.1)(_:Sz n c.2)(_:Sz n m)(_:n<=4000)(_:R (.d (lnD (Od m (c.2-m*c.1)))))
inductive Jh (ss:List S)(R:S->Prop)(U:Str->Prop):Prop
 |mk (x:S)(ps:List RP)(P:Ps)(k m:Nat)(_:ss=[x])(_:(x=.r (ps.map rpD)\/x=.d (.lst (ps.map rpD))))(_:PL k m ps P)(_:0<↥ps)(_:↥ps<=90000)(_:k+m+1<=13000)(_:SzD (Ih P) (ln P (↥P-1)).1)(_:Ord (Ih P))(_:0<=(ln P (↥P-1)).1)(_:R (.d (crv (kp (Ih P) (ln P (↥P-1)).1 (↥P-1)) (ln P (↥P-1)).1)))
inductive HW (ss:List S)(R:S->Prop)(U_:Str->Prop):Prop
 |mk (p:RP)(q:Rat×Ln2)(k m:Nat)(_:ss=[.d (tp p.1.1 p.1.2),.d (lnD p.2)])(_:PW1 k m p q)(_:k+m+1<=13000)(_:R (.d (cd (q.1,ev q.2 q.1))))
inductive Qe (ss:List S)(R:S->Prop)(U_:Str->Prop):Prop
 |mk (x:S)(ps:List RP)(P:Ps)(wn wd vn vd:Int)(w v:Rat)(k m n:Nat)(_:ss=[x,.d (.tup [tp wn wd,tp vn vd])])(_:(x=.r (ps.map rpD)\/x=.d (.lst (ps.map rpD))))(_:PL k m ps P)(_:Wq n wn wd w)(_:Wq n vn vd v)(_:k<=30000)(_:m<=30000)(_:n<=30000)(_:↥ps<=100000)(_:R (.l ((ps.map (mvR wn wd vn vd)).map rpD)))
inductive G8 (ss:List S)(R:S->Prop)(U_:Str->Prop):Prop
 |mk (a b wn wd:Int)(t w:Rat)(m n:Nat)(_:ss=[.d (tp a b),.d (tp wn wd)])(_:Wq m a b t)(_:Wq n wn wd w)(_:m<=100000)(_:n<=100000)(_:R (.d (tp (a*wd+wn*b) (b*wd))))
inductive GJ (ss:List S)(R:S->Prop)(U_:Str->Prop):Prop
 |mk (l:RL)(q:Ln2)(wn wd vn vd:Int)(w v:Rat)(k m:Nat)(_:ss=[.d (lnD l),.d (.tup [tp wn wd,tp vn vd])])(_:LW k l q)(_:Wq m wn wd w)(_:Wq m vn vd v)(_:k<=100000)(_:m<=100000)(_:R (.d (lnD (l.1*(wd*vd),l.2.1*(wd*vd)-l.1*wn*vd+l.2.2*vn*wd,l.2.2*(wd*vd)))))
inductive KP (ss:List S)(R:S->Prop)(U_:Str->Prop):Prop
 |mk (x:S)(ps:List RP)(_:ss=[x])(_:(x=.r (ps.map rpD)\/x=.d (.lst (ps.map rpD))))(_:↥ps<=100000)(_:R (.l ((ps.map flR).map rpD)))
inductive M1 (ss:List S)(R:S->Prop)(U_:Str->Prop):Prop
 |mk (cs:Cs)(m far:Rat)(n:Nat)(_:ss=[.d (.lst ((Dk cs m).map rpD)),.d (qd far)])(_:0<↥cs)(_:↥cs<=5000)(_:(∀i,i<↥cs->Sz n (tt cs i)))(_:Sz n far)(_:n<=6000)(_:R (.d (.lst ((trR cs m far).map rpD))))
inductive FY (ss:List S)(R:S->Prop)(U_:Str->Prop):Prop
 |mk (ps:List RP)(P:Ps)(k m c:Nat)(_:ss=[.d (.lst (ps.map rpD))])(_:PL k m ps P)(_:↥ps<=50000)(_:m<=100000)(_:0<c)(_:c<=↥P)(_:(∀i,i<c->bg P i<=0))(_:(∀i,c<=i->i<↥P->0<bg P i))(_:R (.d (.lst ((frR ps c).map rpD))))
inductive KM (ss:List S)(R:S->Prop)(U_:Str->Prop):Prop
 |mk (y:S)(ps os:List RP)(P O:Ps)(B S0:List Rat)(G:Ln2->Prop)(V:Rat->Prop)(k m:Nat)(h g:Rat->Rat)(_:ss=[.r (ps.map rpD),y])(_:(y=.r (os.map rpD)\/y=.d (.lst (os.map rpD))))(_:(FQ B S0 G V k m h none ps P/\0<↥P/\PL k m os O/\PU O g none/\0<↥O/\(∀x,x<↥O->(ln O x).1∈S0)/\(∀x,x<↥O->G (ln O x)/\V (bg O x))/\(∀l l',G l->G l'->l.1≠l'.1->V (xg l l'))/\k+k+1<=m/\m<=12000/\bg P 0<=bg O 0/\(bg P 0<bg O 0->h (bg O 0)<=g (bg O 0))/\↥ps+↥os<=90000/\(↥B+↥O+1)*S0.length<=90000))(_:∀(qs:List RP)(Q:Ps),FQ (B++VW O) S0 G V k m (Vf (bg O 0) h g) none qs Q->0<↥Q->bg Q 0=bg P 0->R (.l (qs.map rpD)))
inductive ER (ss:List S)(R:S->Prop)(U_:Str->Prop):Prop
 |mk (y:S)(ps os:List RP)(P O:Ps)(k m c:Nat)(_:ss=[.r (ps.map rpD),y])(_:(y=.r (os.map rpD)\/y=.d (.lst (os.map rpD))))(_:PL k m ps P)(_:PL k m os O)(_:0<↥O)(_:(∀i,i+1<↥P->bg P i<bg P (i+1)))(_:(∀i,i+1<↥O->bg O i<bg O (i+1)))(_:m<=100000)(_:↥ps+↥os<=90000)(_:0<c)(_:c<=↥P)(_:(∀i,i<c->bg P i<=bg O 0))(_:(∀i,c<=i->i<↥P->bg O 0<bg P i))(_:∀rw:List R4,Sn P O m rw->¬iF' rw (↥rw-1)+1<↥P->¬jF rw (↥rw-1)+1<↥O->R (.l (rw.map (VH ps os))))
inductive Fp (ss:List S)(R:S->Prop)(U_:Str->Prop):Prop
 |mk (xs:List RP)(p q:RP)(s t:Rat)(m:Nat)(_:ss=[.d (.lst (xs.map rpD))])(_:0<↥xs)(_:xs.getD 0 dfR=p)(_:xs.getD (↥xs-1) dfR=q)(_:Wq m p.1.1 p.1.2 s)(_:Wq m q.1.1 q.1.2 t)(_:m<=100000)(_:R (.d (if t<s then tp q.1.1 q.1.2 else tp p.1.1 p.1.2)))
inductive QK (ss:List S)(R:S->Prop)(U_:Str->Prop):Prop
 |mk (l1 l2:RL)(tn td:Int)(q1 q2:Ln2)(t:Rat)(k m:Nat)(_:ss=[.d (lnD l1),.d (lnD l2),.d (tp tn td)])(_:LW k l1 q1)(_:LW k l2 q2)(_:Wq m tn td t)(_:k<=100000)(_:m<=100000)(_:R (.d (.int (sg (ev q1 t-ev q2 t)))))
inductive RV (ss:List S)(R:S->Prop)(U_:Str->Prop):Prop
 |mk (l1 l2:RL)(q1 q2:Ln2)(k:Nat)(_:ss=[.d (lnD l1),.d (lnD l2)])(_:LW k l1 q1)(_:LW k l2 q2)(_:k<=100000)(_:R (.d (.int (sg (q1.1-q2.1)))))
inductive Q5 (ss:List S)(R:S->Prop)(U_:Str->Prop):Prop
 |mk (a:Int)(_:ss=[.d (.int a)])(_:R (.d (.int a.sign)))
def H4:SpM:=λxs ds R=>∃(ps:List RP)(tm:Int×Int)(l1 l2:RL)(now thn:Int)(q1 q2:Ln2)(k:Nat),xs=ps.map rpD/\ds=[.tup [.tup [.int tm.1,.int tm.2],lnD l1,lnD l2],.int now,.int thn]/\LW k l1 q1/\LW k l2 q2/\k<=6000/\(now<0/\0<thn\/0<now/\thn<0->q1.1≠q2.1)/\↥ps<999980/\∀ps',SZ ps tm l1 l2 now thn (xg q1 q2) ps'->R (ps'.map rpD)
def DS:SpM:=λxs ds R=>∃(ps:List RP)(p:RP),xs=ps.map rpD/\ds=[.tup [.int p.1.1,.int p.1.2],lnD p.2]/\↥ps<999990/\∀ps',M8 ps p ps'->R (ps'.map rpD)
inductive JM (ss:List S)(R:S->Prop)(U_:Str->Prop):Prop
 |mk (l1 l2:RL)(q1 q2:Ln2)(k:Nat)(_:ss=[.d (lnD l1),.d (lnD l2)])(_:LW k l1 q1)(_:LW k l2 q2)(_:k<=6000)(_:q1.1≠q2.1)(_:R (.d (qd (xg q1 q2))))
inductive MX (ss:List S)(R:S->Prop)(U_:Str->Prop):Prop
 |mk (fc:Cs)(fm:Rat)(gc:Cs)(gm:Rat)(a b c N:Nat)(S0:List Rat)(_:ss=[.d (crv fc fm),.d (crv gc gm)])(_:(C1 fc fm/\C1 gc gm/\LS a b c fc fm/\LS a b c gc gm/\1<=b/\6*a+9*b+6*c+24<=4400/\(2*(↥fc*↥gc)+2*↥fc+↥gc+3)*S0.length<=N/\N<=40000/\SL S0 fc fm/\SL S0 gc gm/\(0:Rat)∈S0/\↥fc<=4999/\↥gc<=4999))(_:(gm<fm->R (.d .non)))(_:(fm<=gm->∀C:Cs,Crv C fm->(∀t,0<=t->IsU fc fm gc gm t (val C fm t))->LS (4*(a+b+c)+2*b+16) b (2*(a+b+c)+5) C fm->SL S0 C fm->↥C<=N->R (.d (crv C fm))))
inductive Dr (ss:List S)(R:S->Prop)(U_:Str->Prop):Prop
 |mk (cs:Cs)(m:Rat)(a b c:Nat)(_:ss=[.d (crv cs m)])(_:Ord cs)(_:LS a b c cs m)(_:a+b+c+1<=1800)(_:↥cs<=5000)(_:R (.d (.lst ((0::stI cs m).map λk=>cd (tt cs k,vv cs k)))))
inductive Jg (ss:List S)(R:S->Prop)(U_:Str->Prop):Prop
 |mk (cs:Cs)(m:Rat)(_:ss=[.d (crv cs m)])(_:KG cs m)(_:∀C:Cs,TG cs m C m->Kps (val cs m) (val C m)->R (.d (crv C m)))
inductive M4 (ss:List S)(R:S->Prop)(U_:Str->Prop):Prop
 |mk (cs:Cs)(m:Rat)(_:ss=[.d (crv cs m)])(_:KG cs m)(_:∀C:Cs,TG cs m C m->Sre (val cs m) (val C m)->R (.d (crv C m)))
inductive Mk (ss:List S)(R:S->Prop)(U_:Str->Prop):Prop
 |mk (cs:Cs)(m:Rat)(a b c:Nat)(S0:List Rat)(_:ss=[.d (crv cs m)])(_:(C1 cs m/\LS a b c cs m/\1<=b/\6*a+9*b+6*c+24<=4400/\↥cs<=4/\S0.length<=5/\SL S0 cs m/\(0:Rat)∈S0))(_:∀C:Cs,Crv C m->(∀t,0<=t->IsU cs m cs m t (val C m t))->LS (4*(a+b+c)+2*b+16) b (2*(a+b+c)+5) C m->SL S0 C m->↥C<=235->R (.d (crv C m)))
inductive Kn (ss:List S)(R:S->Prop)(U_:Str->Prop):Prop
 |mk (cs:Cs)(m:Rat)(_:ss=[.d (crv cs m)])(_:KO cs m)(_:∀(C:Cs)(M:Rat),MS cs m C M->R (.d (crv C M)))
inductive Fa (ss:List S)(R:S->Prop)(U_:Str->Prop):Prop
 |mk (ns:List Int)(k:Int)(_:ss=[.r (ns.map D.int),.d (.int k)])(_:0<=k)(_:k<=1000)(_:R (.d (.int (cl ns k))))
inductive JH (ss:List S)(R:S->Prop)(U_:Str->Prop):Prop
 |mk (a b:Int)(_:ss=[.d (.int a),.d (.int b)])(_:0<b)(_:a.natAbs<2^13000)(_:b.natAbs<2^13000)(_:R (.d (qd (Rat.divInt a b))))
inductive JI (ss:List S)(R:S->Prop)(U_:Str->Prop):Prop
 |mk (a b c d:Int)(_:ss=[.d (tp a b),.d (tp c d)])(_:L4 400000 a b c d)(_:R (.d (tp (a*d+c*b) (b*d))))
inductive HY (ss:List S)(R:S->Prop)(U_:Str->Prop):Prop
 |mk (a b c d:Int)(_:ss=[.d (tp a b),.d (tp c d)])(_:L4 400000 a b c d)(_:R (.d (tp (a*d-c*b) (b*d))))
inductive Hc (ss:List S)(R:S->Prop)(U_:Str->Prop):Prop
 |mk (a b c d:Int)(_:ss=[.d (tp a b),.d (tp c d)])(_:L4 400000 a b c d)(_:R (.d (.bl (decide (a*d<=c*b)))))
inductive GH (ss:List S)(R:S->Prop)(U_:Str->Prop):Prop
 |mk (cs:Cs)(m:Rat)(k:Int)(j n:Nat)(_:ss=[.d (crv cs m),.d (.int k)])(_:k=(j:Int))(_:j<↥cs)(_:Up cs)(_:n<=50000)(_:SzC n cs)(_:Sz n m)(_:∀A B:Int,Wq (4*n+2) A B (slp cs m j)->R (.d (tp A B)))
inductive Kq (ss:List S)(R:S->Prop)(U_:Str->Prop):Prop
 |mk (cs:Cs)(m t:Rat)(tn td:Int)(n:Nat)(_:ss=[.d (crv cs m),.d (tp tn td)])(_:Ord cs)(_:↥cs<=100000)(_:n<=50000)(_:SzC n cs)(_:Sz n m)(_:Wq n tn td t)(_:0<=t)(_:∀A B:Int,Wq (7*n+4) A B (val cs m t)->R (.d (tp A B)))
inductive G7 (ss:List S)(R:S->Prop)(U_:Str->Prop):Prop
 |mk (q:Rat)(_:ss=[.d (qd q)])(_:Sz 13000 q)(_:R (.d (.bl true)))
inductive G4 (ss:List S)(R:S->Prop)(U_:Str->Prop):Prop
 |mk (cs:Cs)(m:Rat)(_:ss=[.d (crv cs m)])(_:Crv cs m)(_:SzK 2400 cs m)(_:R (.d (.bl true)))
inductive F4 (ss:List S)(R:S->Prop)(U_:Str->Prop):Prop
 |mk (ms:List Int)(_:ss=[.r (ms.map D.int)])(_:↥ms<=58)(_:∀sl:List Int,↥sl=↥ms->(∀x∈sl,0<=x/\x<=2000000000000)->R (.l (sl.map D.int)))
inductive GF (ss:List S)(R:S->Prop)(U_:Str->Prop):Prop
 |mk (c:Int)(ms:List Int)(st sh:Int)(_:ss=[.d (.int c),.r (ms.map D.int),.d (.int st),.d (.int sh)])(_:0<=c)(_:c<30)(_:0<↥ms)(_:↥ms<=3)(_:0<=st)(_:st<=4000000000000)(_:∀(cs:Cs)(m:Rat),KG cs m->(st=0->vv cs 0=0)->(sh=1->Bow 1 cs m)->(sh=2->Bow (-1) cs m)->R (.d (crv cs m)))
inductive Je (ss:List S)(R:S->Prop)(U_:Str->Prop):Prop
 |mk (ns:List Int)(b z:Int)(_:ss=[.r (ns.map D.int),.d (.int b),.d (.int z)])(_:0<=b)(_:b<=100)(_:1<=z)(_:z<=8)(_:∀ms:List Int,(↥ms:Int)=z->R (.l (ms.map D.int)))
inductive GN (ss:List S)(R:S->Prop)(U_:Str->Prop):Prop
 |mk (cs:Cs)(m s L:Rat)(sn sd ln ld:Int)(n:Nat)(_:ss=[.d (crv cs m),.d (tp sn sd),.d (tp ln ld)])(_:Ord cs)(_:n<=8000)(_:SzK n cs m)(_:Wq n sn sd s)(_:0<=s)(_:Wq n ln ld L)(_:0<=L)(_:∀A B:Int,Wq (28*n+23) A B (val cs m (s+L)-val cs m s)->R (.d (tp A B)))
inductive F5 (ss:List S)(R:S->Prop)(U_:Str->Prop):Prop
 |mk (cs:Cs)(m:Rat)(ds:Cs)(k:Rat)(_:ss=[.d (crv cs m),.d (crv ds k)])(_:KQ 15 cs m)(_:KQ 24700 ds k)(_:∀rows:List D,↥rows<=741225->(∀x∈rows,PLr x)->R (.l rows))
inductive Gv (ss:List S)(R:S->Prop)(U_:Str->Prop):Prop
 |mk (cs:Cs)(m:Rat)(ds:Cs)(k:Rat)(_:ss=[.d (crv cs m),.d (crv ds k)])(_:KQ 15 cs m)(_:KQ 24700 ds k)(_:Kps (val cs m) (val ds k))(_:R (.d (.bl true)))
inductive HX (ss:List S)(R:S->Prop)(U_:Str->Prop):Prop
 |mk (cs:Cs)(m:Rat)(ds:Cs)(k:Rat)(_:ss=[.d (crv cs m),.d (crv ds k)])(_:KQ 15 cs m)(_:KQ 24700 ds k)(_:Sre (val cs m) (val ds k))(_:R (.d (.bl true)))
inductive F3 (ss:List S)(R:S->Prop)(U_:Str->Prop):Prop
 |mk (cs:Cs)(m:Rat)(ds:Cs)(k t:Rat)(_:ss=[.d (crv cs m),.d (crv ds k),.d (qd t)])(_:KQ 15 cs m)(_:KQ 15 ds k)(_:Sz 5285 t)(_:0<=t)(_:(∀x,0<=x->val cs m x<=val ds k (x+t)))(_:R (.d (.bl true)))
inductive EH (ss:List S)(R:S->Prop)(U_:Str->Prop):Prop
 |mk (cs:Cs)(m:Rat)(_:ss=[.d (crv cs m)])(_:KG cs m)(_:∀s:Rat,Sz 45 s->0<=s->(∀i,i<↥cs->slp cs m i<=s)->s∈0::slL cs m->R (.d (qd s)))
inductive EF (ss:List S)(R:S->Prop)(U_:Str->Prop):Prop
 |mk (cs:Cs)(m:Rat)(_:ss=[.d (crv cs m)])(_:KG cs m)(_:∀s:Rat,Sz 45 s->0<=s->(∀i,i<↥cs->s<=slp cs m i)->s∈slL cs m->R (.d (qd s)))
inductive DW (ss:List S)(R:S->Prop)(U_:Str->Prop):Prop
 |mk (cs:Cs)(m:Rat)(ds:Cs)(k t:Rat)(_:ss=[.d (crv cs m),.d (crv ds k),.d (qd t)])(_:KQ 15 cs m)(_:KQ 15 ds k)(_:Sz 5285 t)(_:0<=t)(_:(∀x,0<=x->val cs m x<=val ds k x+t))(_:R (.d (.bl true)))
inductive Ef (ss:List S)(R:S->Prop)(U_:Str->Prop):Prop
 |mk (ns:List Int)(cs:Cs)(m:Rat)(ds:Cs)(k:Rat)(w:Int)(_:ss=[.r (ns.map D.int),.d (crv cs m),.d (crv ds k),.d (.int w)])(_:KG cs m)(_:KG ds k)(_:(w=3->Bow 1 cs m/\Bow (-1) ds k/\vv ds 0=0))(_:∀(fc:Cs)(fm:Rat)(gc:Cs)(gm:Rat),BO cs m ds k fc fm gc gm->R (.d (.tup [crv fc fm,crv gc gm])))
abbrev Xd:Sp3:=OP
inductive Jn (ss:List S)(R:S->Prop)(U_:Str->Prop):Prop
 |mk (a b c d:Int)(p q:Rat)(k l:Nat)(_:ss=[.d (tp a b),.d (tp c d)])(_:Wq k a b p)(_:Wq l c d q)(_:k<=200000)(_:l<=200000)(_:R (.d (.bl (decide (p<q)))))
inductive DN (ss:List S)(R:S->Prop)(U_:Str->Prop):Prop
 |mk (cs:Cs)(m:Rat)(_:ss=[.d (.tup (cs.map cd)),.d (qd m)])(_:0<↥cs)(_:↥cs<=100000)(_:SzC 3200 cs)(_:Up cs)(_:R (.l ((Hu cs m).map qd)))
section
variable {P:Program}{w:World}{K:W.Frag}{mg:Str->Option Value}{base:Heap}{f:Addr}{fd:FuncData}
variable {K_CurveError K_NoRatio K_NoCurve K_NoTime:Addr}
theorem Nu:Ae ["thing"] ["thing"] (Ac Hs):=scN
variable (AD:mg "isinstance"=none)
variable (Kc:mg "int"=none)
variable (JT:mg "bool"=none)
include AD Kc JT in
theorem NT (F:Fun K "is_whole" "is_whole" Hs f fd):Ap P w K mg base CX0 1 f fd ["thing"] (Ag K mg JD):=by
 refine fn3 F Nu (λss R U h=>?_) (λ_ _ _ _ _ _ _ R U hr h=>?_)
 .obtain⟨a,rfl,_⟩:=h;rfl
 obtain⟨a,rfl,q⟩:=h;refine#[_,(A3 (WN (ML .int (vN 0) rfl AD rfl Kc qB9) (T8 (QG (ML .bool (vN 0) rfl AD rfl JT qCK))))),?_];refine#[trivial,#[trivial,?_]];exact q
variable (Eg:Cal P w K mg base (CXU P w) 1 "is_whole" ["thing"] JD)
theorem DF:Ae ["one","other","great","small","rest"] ["one","other"] (Ac IU):=scN
variable (M3:mg "abs"=none)
include M3 in
theorem P0 (F:Fun K "divisor" "divisor" IU f fd):Ap P w K mg base CX0 1 f fd ["one","other"] (Ag K mg KS):=by
 refine fn3 F DF (λss R U h=>?_) (λ_ _ _ _ _ _ _ R U hr h=>?_)
 .obtain⟨a,b,rfl,_⟩:=h;rfl
 obtain⟨a,b,rfl,q⟩:=h;refine#[_,(Aa (AA 2 DF (JF Vm rfl M3 qCa (a1 (vN 0))))
  (Aa (AA 3 DF (JF Vm rfl M3 qCa (a1 (vN 1))))
  (Aa (Hr PassesOwn.never (Cu Yl (vN 3) Ad) (Aa (AA 4 DF (Ak BI (vN 2) (vN 3)))
  (Aa (AA 2 DF (vN 3))
  (Ah (AA 3 DF (vN 4))))))
  (Ah (Di (pv 2)))))),?_]
 refine#[λm τ=>∃x y z,τ=[I a,I b,I x,I y,z]/\0<=x/\0<=y/\g x y=g a b/\m=y.toNat,#[_,_,_,_,rfl,?_,?_,Yo a b,rfl],?_]
 .exact Qw a
 .exact Qw b
 rintro m τ ⟨x,y,z,rfl,h1,h2,h3,rfl⟩;refine KN (λc=>?_) (λc=>?_)
 .refine#[c,(x.fmod y).toNat,?_,_,_,_,rfl,h2,?_,?_,rfl]
  .have:=qB3 x (show 0<y from ());omega
  .exact qB7 x ()
  .rw[<-h3,qCq x h2];exact UA ()
 .subst c;rw[Yh h1]at h3;subst h3;exact q
variable (Hk:Cal P w K mg base (CXU P w) 1 "divisor" ["one","other"] KS)
theorem Lp:Ae ["top","bottom","common"] ["top","bottom"] (Ac Nc):=scN
include Eg Hk in
theorem SY (F:Fun K "ratio" "ratio" Nc f fd):Ap P w K mg base CX0 2 f fd ["top","bottom"] (Ag K mg OO):=by
 refine fn3 F Lp (λss R U h=>?_) (λ_ _ _ _ _ _ _ R U hr h=>?_)
 .obtain⟨a,b,rfl,_⟩:=h;rfl
 obtain⟨a,b,rfl,hb,h1,h2,q⟩:=h;refine#[_,(LZ (BB (PW3.pt (L8 (w_not (A6 (Ai hr Eg (a1 (vN 0))))) (FR (w_not (A6 (Ai hr Eg (a1 (vN 1)))))))) (Ah SA) Aj)
  (Aa (BB (Cu Im (vN 1) Ad) (Ah SA) Aj)
  (Aa (AA 2 Lp (Ai hr Hk (a2 (vN 0) (vN 1))))
  (Cy (BB (Cu Ku (vN 1) Ad) (Ah (AA 2 Lp (Gg (vN 2)))) Aj)
  (A3 (A9 (a2 (Ak Bo (vN 0) (vN 2)) (Ak Bo (vN 1) (vN 2))))))))),?_]
 have hp:=JB (a:=a) hb;have hc:=PX (a:=a) hb;refine#[#[a,rfl,#[b,rfl,rfl]],?_];refine BY (λe=>absurd e hb) (λ_=>?_);refine#[a,b,rfl,?_];refine#[λτ=>τ=[I a,I b,I (cm a b)],?_,?_]
 .refine BY (λe=>?_) (λe=>?_)
  .have e':cm a b=-(g a b):=if_pos e;rw[e'];rfl
  .have e':cm a b=g a b:=if_neg e;rw[e'];rfl
 rintro τ rfl;refine#[#[hc,YA h1],#[hc,YA h2],(by show 2<=1000;decide),?_];show R (.d (.tup [.int (a.fdiv (cm a b)),.int (b.fdiv (cm a b))]));rw[hp.1,hp.2];exact q
variable (Bm:Cal P w K mg base (CXU P w) 2 "ratio" ["top","bottom"] OO)
theorem Vv:Ae ["one","other"] ["one","other"] (Ac QB):=scN
include Bm in
theorem VM (F:Fun K "plus" "plus" QB f fd):Ap P w K mg base CX0 3 f fd ["one","other"] (Ag K mg Q3):=by
 refine fn3 F Vv (λss R U h=>?_) (λ_ _ _ _ _ _ _ R U hr h=>?_)
 .obtain⟨p,q,k,l,rfl,_⟩:=h;rfl
 obtain⟨q1,q2,k,l,rfl,h1,h2,hk,q⟩:=h;refine#[_,(A3 (Ai hr Bm (a2 (Ak Bf (Ak AL (vK 0) (vK 1)) (Ak AL (vK 1) (vK 0))) (Ak AL (vK 0) (vK 1))))),?_];have m1:=Aq h1.1 (AG h2);have m2:=Aq h2.1 (AG h1);have m3:=Aq (AG h1) (AG h2);rw[qB2 l k]at m2;refine#[AN h1.1 (AG h2) (),AN h2.1 (AG h1) (),AN (AG h1) (AG h2) (),_,_,rfl,O8 q1 q2,Bc (HU m1 m2) (),Bc m3 (),?_];rw[RO q1 q2];exact q
variable (FU:Cal P w K mg base (CXU P w) 3 "plus" ["one","other"] Q3)
theorem Tl:Ae ["one","other"] ["one","other"] (Ac Nk):=scN
include Bm in
theorem S6 (F:Fun K "minus" "minus" Nk f fd):Ap P w K mg base CX0 3 f fd ["one","other"] (Ag K mg OA):=by
 refine fn3 F Tl (λss R U h=>?_) (λ_ _ _ _ _ _ _ R U hr h=>?_)
 .obtain⟨p,q,k,l,rfl,_⟩:=h;rfl
 obtain⟨q1,q2,k,l,rfl,h1,h2,hk,q⟩:=h;refine#[_,(A3 (Ai hr Bm (a2 (Ak CW (Ak AL (vK 0) (vK 1)) (Ak AL (vK 1) (vK 0))) (Ak AL (vK 0) (vK 1))))),?_];have m1:=Aq h1.1 (AG h2);have m2:=Aq h2.1 (AG h1);have m3:=Aq (AG h1) (AG h2);rw[qB2 l k]at m2;refine#[AN h1.1 (AG h2) (),AN h2.1 (AG h1) (),AN (AG h1) (AG h2) (),_,_,rfl,O8 q1 q2,Bc (GI m1 m2) (),Bc m3 (),?_];rw[OQ q1 q2];exact q
variable (Ax:Cal P w K mg base (CXU P w) 3 "minus" ["one","other"] OA)
theorem S9:Ae ["one","other"] ["one","other"] (Ac Nq):=scN
include Bm in
theorem Tx (F:Fun K "times" "times" Nq f fd):Ap P w K mg base CX0 3 f fd ["one","other"] (Ag K mg N6):=by
 refine fn3 F S9 (λss R U h=>?_) (λ_ _ _ _ _ _ _ R U hr h=>?_)
 .obtain⟨p,q,k,l,rfl,_⟩:=h;rfl
 obtain⟨q1,q2,k,l,rfl,h1,h2,hk,q⟩:=h;refine#[_,(A3 (Ai hr Bm (a2 (Ak AL (vK 0) (vK 1)) (Ak AL (vK 0) (vK 1))))),?_];refine#[AN h1.1 h2.1 (),AN (AG h1) (AG h2) (),_,_,rfl,O8 q1 q2,Bc (Aq h1.1 h2.1) (),Bc (Aq (AG h1) (AG h2)) (),?_];rw[OH q1 q2];exact q
variable (Gq:Cal P w K mg base (CXU P w) 3 "times" ["one","other"] N6)
theorem Vj:Ae ["one","other"] ["one","other"] (Ac Qs):=scN
include Bm in
theorem Vs (F:Fun K "over" "over" Qs f fd):Ap P w K mg base CX0 3 f fd ["one","other"] (Ag K mg RN):=by
 refine fn3 F Vj (λss R U h=>?_) (λ_ _ _ _ _ _ _ R U hr h=>?_)
 .obtain⟨p,q,k,l,rfl,_⟩:=h;rfl
 obtain⟨q1,q2,k,l,rfl,h1,h2,hk,h0,q⟩:=h;refine#[_,(A3 (Ai hr Bm (a2 (Ak AL (vK 0) (vK 1)) (Ak AL (vK 0) (vK 1))))),?_];refine#[AN h1.1 (AG h2) (),AN (AG h1) h2.1 (),_,_,rfl,Sz.den_ne (k:=0) h0,Bc (Aq h1.1 (AG h2)) (),Bc (Aq (AG h1) h2.1) (),?_];rw[R0 q1 q2 h0];exact q
variable (Jf:Cal P w K mg base (CXU P w) 3 "over" ["one","other"] RN)
theorem OV:Ae ["one","other"] ["one","other"] (Ac Ld):=scN
theorem SI (F:Fun K "under" "under" Ld f fd):Ap P w K mg base CX0 1 f fd ["one","other"] (Ag K mg Oo):=by
 refine fn3 F OV (λss R U h=>?_) (λ_ _ _ _ _ _ _ R U hr h=>?_)
 .obtain⟨p,q,k,l,rfl,_⟩:=h;rfl
 obtain⟨q1,q2,k,l,rfl,h1,h2,hk,q⟩:=h;refine#[_,(A3 (Ma Ku (Ak AL (vK 0) (vK 1)) (Ak AL (vK 1) (vK 0)) (GK _))),?_];refine#[AN h1.1 (AG h2) (),AN h2.1 (AG h1) (),?_];have e:decide (q1.num*(q2.den:Int)<q2.num*(q1.den:Int))=decide (q1<q2):=decide_eq_decide.mpr (lt_iff q1 q2);show R (.d (.bl (decide (q1.num*(q2.den:Int)<q2.num*(q1.den:Int)))));rw[e];exact q
variable (An:Cal P w K mg base (CXU P w) 1 "under" ["one","other"] Oo)
theorem NC (F:Fun K "under" "under" Ld f fd):Ap P w K mg base CX0 1 f fd ["one","other"] (Ag K mg Jn):=by
 refine fn3 F OV (λss R U h=>?_) (λ_ _ _ _ _ _ _ R U hr h=>?_)
 .obtain⟨a,b,c,d,p,q,k,l,rfl,_⟩:=h;rfl
 obtain⟨a,b,c,d,p,q0,k,l,rfl,h1,h2,hk,hl,q⟩:=h;refine#[_,(A3 (Ma Ku (Ak AL (vK 0) (vK 1)) (Ak AL (vK 1) (vK 0)) (GK _))),?_];refine#[AN h1.la h2.lb (),AN h2.la h1.lb (),?_];show R (.d (.bl (decide (a*d<c*b))));rw[Zt h1 h2];exact q
variable (A8:Cal P w K mg base (CXU P w) 1 "under" ["one","other"] Jn)
theorem Sy:Ae ["one","other"] ["one","other"] (Ac LV):=scN
include An in
theorem QE (F:Fun K "lesser" "lesser" LV f fd):Ap P w K mg base CX0 2 f fd ["one","other"] (Ag K mg MB):=by
 refine fn3 F Sy (λss R U h=>?_) (λ_ _ _ _ _ _ _ R U hr h=>?_)
 .obtain⟨p,q,k,l,rfl,_⟩:=h;rfl
 obtain⟨q1,q2,k,l,rfl,h1,h2,hk,q⟩:=h;refine#[_,(Aa (BB (A6 (Ai hr An (a2 (vN 1) (vN 0)))) (Ah (Di (pv 1))) Aj)
  (Ah (Di (pv 0)))),?_]
 refine#[q2,q1,l,k,rfl,h2,h1,(),?_];refine BY (λe=>?_) (λe=>?_)
 .rw[if_pos e]at q;exact q
 .rw[if_neg e]at q;exact q
variable (Gs:Cal P w K mg base (CXU P w) 2 "lesser" ["one","other"] MB)
theorem Pf:Ae ["one","other"] ["one","other"] (Ac JC):=scN
include An in
theorem PN (F:Fun K "greater" "greater" JC f fd):Ap P w K mg base CX0 2 f fd ["one","other"] (Ag K mg Kz):=by
 refine fn3 F Pf (λss R U h=>?_) (λ_ _ _ _ _ _ _ R U hr h=>?_)
 .obtain⟨p,q,k,l,rfl,_⟩:=h;rfl
 obtain⟨q1,q2,k,l,rfl,h1,h2,hk,q⟩:=h;refine#[_,(Aa (BB (A6 (Ai hr An (a2 (vN 0) (vN 1)))) (Ah (Di (pv 1))) Aj)
  (Ah (Di (pv 0)))),?_]
 refine#[q1,q2,k,l,rfl,h1,h2,(),?_];refine BY (λe=>?_) (λe=>?_)
 .rw[if_pos e]at q;exact q
 .rw[if_neg e]at q;exact q
variable (A5:Cal P w K mg base (CXU P w) 2 "greater" ["one","other"] Kz)
theorem Kh:Ae ["corners"] ["corners"] (Ac El):=scN
variable (AH:mg "len"=none)
variable (gc_NOUGHT:GC K mg "NOUGHT" (.tup [(.int 0),(.int 1)]))
variable (ec_NoCurve:ExC K "NoCurve" K_NoCurve)
variable (m_NoCurve:mg "NoCurve"=some (.ref K_NoCurve))
include An AH gc_NOUGHT ec_NoCurve m_NoCurve in
theorem Kj (F:Fun K "check_begin" "check_begin" El f fd):Ap P w K mg base (CXU P w) 2 f fd ["corners"] (Ag K mg FW):=by
 refine fnW (λss R U h=>?_) (fnU F Kh (λss R U h=>?_) (λcdv A outer s H E ss R U hr h xo=>?_))
 .obtain⟨x,cs,rfl,hx,hl,hz,q,qu⟩:=h;rcases hx with rfl|rfl<;>exact#[_,cs,rfl,(.inl rfl),hl,hz,q,qu]
 .obtain⟨x,cs,rfl,_⟩:=h.1;rfl
 obtain⟨h,nl_⟩:=h;obtain⟨x,cs,rfl,hx,hl,hz,q,qu⟩:=h;refine#[_,(Aa (BB (Cu Im (CO AH (vN 0)) Ad) (Ah (Go xo rfl NQ rfl ec_NoCurve m_NoCurve)) Aj)
  (Aa (BB (Cu (TV 1 (hu_ hr ∅)) (A4 (vK 0) Ad) (Jm rfl gc_NOUGHT)) (Ah (Go xo rfl NQ rfl ec_NoCurve m_NoCurve)) Aj)
  (Ah (BB (A6 (NW xo hr An (a2 (A4 (vK 0) Ad) (Jm rfl gc_NOUGHT)))) (Ah (Go xo rfl NQ rfl ec_NoCurve m_NoCurve)) Aj)))),?_]
 obtain rfl:=J1 hx (nl_ _ (by simp));refine BY (λc=>?_) (λc=>?_)
 .exact qu (λz=>by have:=z.1;rw[qAa]at c;omega)
 have c0:0<↥cs:=by rw[qAa]at c;omega
 have a0:=BC (cs:=cs) (i:=0) 0 rfl c0;have z0:=hz 0 c0;refine atR a0 ?_;refine#[rfl,rfl,neT (tt cs 0) 0 (λc=>qu (λz=>c z.2.1)) (λe0=>?_)];refine atR a0 ?_;refine#[_,0,_,_,rfl,z0.2,Sz.zero,∅,?_];refine BY (λc=>qu (λz=>absurd c (qAI.mpr z.2.2))) (λc=>?_);exact q #[c0,e0,qAI.mp c]
variable (Dz:Cal P w K mg base (CXU P w) 2 "check_begin" ["corners"] FW)
theorem Dx:Ae ["corners","number","ahead","corner"] ["corners"] (Ac Fh):=scN
variable (AF:mg "range"=none)
include An AH ec_NoCurve m_NoCurve AF in
theorem KY (F:Fun K "check_rise" "check_rise" Fh f fd):Ap P w K mg base (CXU P w) 2 f fd ["corners"] (Ag K mg GS):=by
 refine fnW (λss R U h=>?_) (fnU F Dx (λss R U h=>?_) (λcdv A outer s H E ss R U hr h xo=>?_))
 .obtain⟨x,cs,rfl,hx,c0,hl,hz,q,qu⟩:=h;rcases hx with rfl|rfl<;>exact#[_,cs,rfl,(.inl rfl),c0,hl,hz,q,qu]
 .obtain⟨x,cs,rfl,_⟩:=h.1;rfl
 obtain⟨h,nl_⟩:=h;obtain⟨x,cs,rfl,hx,c0,hl,hz,q,qu⟩:=h;refine#[_,(Ah (Ol (Bx PassesOwn.leaving rfl (CB rfl AF (PA3.out (a2 Ad (CO AH (vN 0))))) (AM (i:=1) Dx.nd rfl (Or.inl rfl)) (Dt.out (Aa (AA 2 Dx (A4 (vN 0) (Ak CW (vN 1) Ad)))
  (Aa (AA 3 Dx (A4 (vN 0) (vN 1)))
  (Aa (BB (w_not (A6 (NW xo hr An (a2 (vK 2) (vK 3))))) (Ah (Go xo rfl NQ rfl ec_NoCurve m_NoCurve)) Aj)
  (Ah (BB (A6 (NW xo hr An (a2 (vK 3) (vK 2)))) (Ah (Go xo rfl NQ rfl ec_NoCurve m_NoCurve)) Aj))))))))),?_]
 obtain rfl:=J1 hx (nl_ _ (by simp));refine#[#[∅,∅,by rw[qAa];omega,by rw[qAa];omega],?_];refine#[λn τ=>∃y0 y1 y2,τ=[some (.r (cs.map cd)),y0,y1,y2]/\Ris cs n,#[_,_,_,rfl,λk hk=>absurd hk (qBf k)],?_,?_]
 .rintro n τ hn ⟨y0,y1,y2,rfl,hr⟩;rw[qAa]at hn;have n1:n+1<↥cs:=();have z0:=hz n ();have z1:=hz (n+1) n1;refine atR (BC (cs:=cs) n () ()) ?_;refine atR (BC (cs:=cs) (n+1) () n1) ?_;refine#[_,_,_,_,rfl,z0.1,z1.1,∅,?_];refine KN (λc=>qu (λz=>c (z n () n1).1)) (λlt=>?_);refine#[_,_,_,_,rfl,z1.2,z0.2,∅,?_];refine BY (λc=>qu (λz=>absurd c (qAI.mpr (z n () n1).2))) (λc=>?_);refine#[_,_,_,rfl,λk hk k1=>?_];by_cases e:k<n
  .exact hr k e k1
  .have e':k=n:=();subst e';exact#[lt,qAI.mp c]
 rintro τ ⟨y0,y1,y2,rfl,hr⟩;rw[qAa,show((↥cs:Int)-1).toNat=↥cs-1 from ()]at hr;exact q (λk hk k1=>hr k () k1)
variable (D5:Cal P w K mg base (CXU P w) 2 "check_rise" ["corners"] GS)
theorem Ic:Ae ["one","other"] ["one","other"] (Ac DJ):=scN
include Ax Jf in
theorem Ia (F:Fun K "slope_between" "slope_between" DJ f fd):Ap P w K mg base CX0 4 f fd ["one","other"] (Ag K mg EG):=by
 refine fn3 F Ic (λss R U h=>?_) (λ_ _ _ _ _ _ _ R U hr h=>?_)
 .obtain⟨a,b,c,d,n,e,f,rfl,_⟩:=h;rfl
 obtain⟨a,b,c,d,n,e,f,rfl,hn,ha,hb,hc,hd,he,hf,hs,h0,q⟩:=h;refine#[_,(A3 (Ai hr Jf (a2 (Ai hr Ax (a2 (vK 1) (vK 0))) (Ai hr Ax (a2 (vK 1) (vK 0)))))),?_];refine#[d,b,n,n,rfl,hd,hb,(),?_];refine#[c,a,n,n,rfl,hc,ha,(),?_];exact#[d-b,c-a,f,e,rfl,hf,he,(),h0,q]
variable (AS:Cal P w K mg base (CXU P w) 4 "slope_between" ["one","other"] EG)
theorem Ck:Ae ["points","last","slopes"] ["points","last"] (Ac BA):=scN
include AH AF AS in
theorem Ig (F:Fun K "slopes_behind" "slopes_behind" BA f fd):Ap P w K mg base CX0 5 f fd ["points","last"] (Ag K mg EE):=by
 refine fnW (λss R U h=>?_) (fn3 F Ck (λss R U h=>?_) (λ_ _ _ _ _ _ _ R U hr h=>?_))
 .obtain⟨x,cs,m,rfl,hx,c0,hl,hz,df,up,q⟩:=h;rcases hx with rfl|rfl<;>exact#[_,cs,m,rfl,(.inl rfl),c0,hl,hz,df,up,q]
 .obtain⟨x,cs,m,rfl,_⟩:=h.1;rfl
 obtain⟨h,nl_⟩:=h;obtain⟨x,cs,m,rfl,hx,c0,hl,hz,df,up,q⟩:=h;refine#[_,(Aa (JA (i:=2) (N:=["number","points"]) (idx:=[0]) (Ba.mk' (Ac BA) ["points","last","slopes"] rfl rfl (by decide +kernel)) rfl (CB rfl AF (PA3.out (a2 Ad (CO AH (vN 0))))) He (λcl C s₀ H₀ fp=>Cc) (λcl C s₀ H₀ fp=>(Ai hr AS (a2 (A4 (vN 1) (Ak CW (vN 0) Ad)) (A4 (vN 1) (vN 0))))) Ck.nd rfl (Or.inl rfl))
  (Aa (EU (BF (Fn qAH qAC qAD AY (pv 2) (A7 (PE3.out (vN 1)) BL))))
  (Ah (Di (pv 2))))),?_]
 obtain rfl:=J1 hx (nl_ _ (by simp));refine#[#[∅,∅,by rw[qAa];omega,by rw[qAa];omega],?_];have eN:((((cs.map cd).length:Nat):Int)-1).toNat=↥cs-1:=by rw[qAa];omega
 refine#[(List.range (↥cs-1)).map λi=>some (qd (slp cs m i)),by rw[B6,eN,qAa,qAz],?_,?_,?_]
 .intro n x hx;obtain⟨hn,rfl⟩:=E1 hx;rw[eN]at hn;have n1:n+1<↥cs:=();have z0:=hz n ();have z1:=hz (n+1) n1;refine atR (BC (cs:=cs) n () ()) ?_;refine atR (BC (cs:=cs) (n+1) () n1) ?_;obtain⟨e,f,he,hf,hs⟩:=df n n1;refine#[tt cs n,vv cs n,tt cs (n+1),vv cs (n+1),6400,e,f,rfl,∅,z0.1,z0.2,z1.1,z1.2,he,hf,hs,G1 (up n n1),?_];show((List.range (↥cs-1)).map _)[n]? = _;rw[qAd,qAJ ()];show some (some (qd (slp cs m n)))=_;rw[Cd n1]
 .rw[B6,eN];omega
 refine#[?_,?_]
 .have:=qBJ id ((List.range (↥cs-1)).map λi=>some (qd (slp cs m i)));rw[qAa,qAz]at this;omega
 show R (.l (_++[qd m]));rw[Of cs m c0];exact q
variable (AO:Cal P w K mg base (CXU P w) 5 "slopes_behind" ["points","last"] EE)
include AH AF AS in
theorem Gm (F:Fun K "slopes_behind" "slopes_behind" BA f fd):Ap P w K mg base CX0 5 f fd ["points","last"] (Ag K mg DN):=by
 refine fn3 F Ck (λss R U h=>?_) (λ_ _ _ _ _ _ _ R U hr h=>?_)
 .obtain⟨cs,m,rfl,_⟩:=h;rfl
 obtain⟨cs,m,rfl,c0,hl,hz,up,q⟩:=h;refine#[_,(Aa (JA (i:=2) (N:=["number","points"]) (idx:=[0]) (Ba.mk' (Ac BA) ["points","last","slopes"] rfl rfl (by decide +kernel)) rfl (CB rfl AF (PA3.out (a2 Ad (CO AH (vN 0))))) He (λcl C s₀ H₀ fp=>Cc) (λcl C s₀ H₀ fp=>(Ai hr AS (a2 (A4 (vN 1) (Ak CW (vN 0) Ad)) (A4 (vN 1) (vN 0))))) Ck.nd rfl (Or.inl rfl))
  (Aa (EU (BF (Fn qAH qAC qAD AY (pv 2) (A7 (PE3.out (vN 1)) BL))))
  (Ah (Di (pv 2))))),?_]
 have df:=Df.of hz ∅;refine#[#[∅,∅,by rw[qAa];omega,by rw[qAa];omega],?_];have eN:((((cs.map cd).length:Nat):Int)-1).toNat=↥cs-1:=by rw[qAa];omega
 refine#[(List.range (↥cs-1)).map λi=>some (qd (slp cs m i)),by rw[B6,eN,qAa,qAz],?_,?_,?_]
 .intro n x hx;obtain⟨hn,rfl⟩:=E1 hx;rw[eN]at hn;have n1:n+1<↥cs:=();have z0:=hz n ();have z1:=hz (n+1) n1;refine atR (BC (cs:=cs) n () ()) ?_;refine atR (BC (cs:=cs) (n+1) () n1) ?_;obtain⟨e,f,he,hf,hs⟩:=df n n1;refine#[tt cs n,vv cs n,tt cs (n+1),vv cs (n+1),3200,e,f,rfl,∅,z0.1,z0.2,z1.1,z1.2,he,hf,hs,G1 (up n n1),?_];show((List.range (↥cs-1)).map _)[n]? = _;rw[qAd,qAJ ()];show some (some (qd (slp cs m n)))=_;rw[Cd n1]
 .rw[B6,eN];omega
 refine#[?_,?_]
 .have:=qBJ id ((List.range (↥cs-1)).map λi=>some (qd (slp cs m i)));rw[qAa,qAz]at this;omega
 show R (.l (_++[qd m]));rw[Of cs m c0];exact q
variable (Am:Cal P w K mg base (CXU P w) 5 "slopes_behind" ["points","last"] DN)
theorem IG:Ae ["corners","last","slopes","kept","number"] ["corners","last"] (Ac Np):=scN
variable (Ct:mg "tuple"=none)
include An AH gc_NOUGHT ec_NoCurve m_NoCurve Dz AF D5 AO Ct in
theorem Ub (F:Fun K "curve" "curve" Np f fd):Ap P w K mg base (CXU P w) 6 f fd ["corners","last"] (Ag K mg OX):=by
 refine fnW (λss R U h=>?_) (fnU F IG (λss R U h=>?_) (λcdv A outer s H E ss R U hr h xo=>?_))
 .obtain⟨x,cs,m,rfl,hx,hz,q,qu⟩:=h;rcases hx with rfl|rfl<;>exact#[_,cs,m,rfl,(.inl rfl),hz,q,qu]
 .obtain⟨x,cs,m,rfl,_⟩:=h.1;rfl
 obtain⟨h,nl_⟩:=h;obtain⟨x,cs,m,rfl,hx,hz,q,qu⟩:=h;refine#[_,(Aa (Rc (NW xo hr Dz (a1 (vN 0))))
  (Aa (Rc (NW xo hr D5 (a1 (vN 0))))
  (Aa (BB (A6 (NW xo hr An (a2 (vN 1) (Jm rfl gc_NOUGHT)))) (Ah (Go xo rfl NQ rfl ec_NoCurve m_NoCurve)) Aj)
  (Aa (AA 2 IG (NW xo hr AO (a2 (vN 0) (vN 1))))
  (Aa (AA 3 IG (FO (a1 (vK 0))))
  (Aa (Ol (Bx PassesOwn.leaving rfl (CB rfl AF (PA3.out (a2 Ad (CO AH (vN 0))))) (AM (i:=4) IG.nd rfl (Or.inl rfl)) (Dt.out (Ah (BB (Cu (TV 1 (hu_ hr ∅)) (A4 (vN 2) (vN 4)) (A4 (vN 2) (Ak CW (vN 4) Ad))) (Ah (EU (BF (Fn qAH qAC qAD AY (pv 3) (A7 (PE3.out (A4 (vN 0) (vN 4))) BL))))) Aj)))))
  (A3 (A9 (a2 (RR (vN 3) rfl Ct) (vN 1)))))))))),?_]
 obtain rfl:=J1 hx (nl_ _ (by simp));have hl:=hz.len;refine#[_,cs,rfl,Or.inl rfl,hl,hz.cs,λhb=>?_,λnb=>qu (λz=>nb #[z.1.ne,z.1.t0,z.1.v0])];refine#[_,cs,rfl,Or.inl rfl,hb.1,hl,hz.cs,λhr=>?_,λnr=>qu (λz=>nr (λk _ k1=>#[z.1.up k k1,z.1.vu k k1]))];refine#[m,0,_,_,rfl,hz.m,Sz.zero,∅,?_];refine BY (λc=>qu (λz=>absurd c (qAI.mpr z.2))) (λc=>?_);have hm:0<=m:=qAI.mp c;have c0:=hb.1;have ho:Ord cs:=#[hb.1,hb.2.1,hb.2.2,λk k1=>(hr k () k1).1,λk k1=>(hr k () k1).2];refine#[_,cs,m,rfl,Or.inl rfl,c0,hl,hz.cs,hz.df,ho.up,?_];refine atR (BC (cs:=cs) (i:=0) 0 rfl c0) ?_;refine#[(by show 1<=1000;decide),?_];refine#[#[∅,∅,by rw[qAa];omega,by rw[qAa];omega],?_];refine#[λn τ=>∃y,τ=[some (.r (cs.map cd)),some (.d (qd m)),some (.l ((Hu cs m).map qd)),some (.l ((kp cs m n).map cd)),y],#[_,rfl],?_,?_]
 .rintro n τ hn ⟨y,rfl⟩;rw[qAa]at hn;have n1:n+1<↥cs:=();refine atR (MA (n+1) () n1) ?_;refine atR (MA n () ()) ?_;refine#[rfl,rfl,neT (slp cs m (n+1)) (slp cs m n) (λc=>?_) (λc=>?_)]
  .refine atR (BC (cs:=cs) (n+1) () n1) ?_;refine#[?_,some (.d (.int (1+n*1))),?_]
   .rw[qAa];have:=Jb cs m n;omega
   .rw[RU (λz=>c z.symm),qAL];rfl
  .refine#[some (.d (.int (1+n*1))),?_];rw[Js c.symm];rfl
 rintro τ ⟨y,rfl⟩;rw[qAa,show((↥cs:Int)-1).toNat=↥cs-1 from ()];exact#[(by show 2<=1000;decide),q #[ho,hm]]
variable (BE:Cal P w K mg base (CXU P w) 6 "curve" ["corners","last"] OX)
theorem VE:Ae ["value","slope"] ["value","slope"] (Ac Sx):=scN
include gc_NOUGHT BE in
theorem Vt (F:Fun K "heap" "heap" Sx f fd):Ap P w K mg base (CXU P w) 7 f fd ["value","slope"] (Ag K mg Qt):=by
 refine fnU F VE (λss R U h=>?_) (λcdv A outer s H E ss R U hr h xo=>?_)
 .obtain⟨v,s,rfl,_⟩:=h;rfl
 obtain⟨v,s,rfl,v0,s0,hv,hs,q⟩:=h;refine#[_,(A3 (NW xo hr BE (a2 (FO (a1 (A9 (a2 (Jm rfl gc_NOUGHT) (vN 0))))) (vN 1)))),?_];refine#[(by show 2<=1000;decide),(by show 1<=1000;decide),?_];exact#[_,[(0,v)],s,rfl,Or.inr rfl,SzK.d (n:=2000) #[(by show 1<=100000;decide),SzC.one ∅ hv,hs] ∅,λ_=>q,λz=>absurd #[Ord.one v0,s0] z]
variable (Ju:Cal P w K mg base (CXU P w) 7 "heap" ["value","slope"] Qt)
theorem Le:Ae ["t"] ["t"] (Ac Fq):=scN
variable (ec_NoTime:ExC K "NoTime" K_NoTime)
variable (m_NoTime:mg "NoTime"=some (.ref K_NoTime))
include An gc_NOUGHT ec_NoTime m_NoTime in
theorem Lm (F:Fun K "check_time" "check_time" Fq f fd):Ap P w K mg base (CXU P w) 2 f fd ["t"] (Ag K mg GV):=by
 refine fnU F Le (λss R U h=>?_) (λcdv A outer s H E ss R U hr h xo=>?_)
 .obtain⟨t,n,rfl,_⟩:=h;rfl
 obtain⟨t,n,rfl,hn,ht,q,qu⟩:=h;refine#[_,(Ah (BB (A6 (NW xo hr An (a2 (vN 0) (Jm rfl gc_NOUGHT)))) (Ah (Go xo rfl NQ rfl ec_NoTime m_NoTime)) Aj)),?_];refine#[t,0,_,_,rfl,ht,Sz.zero,(),?_];exact BY (λc=>qu (qA1.mpr c)) (λc=>q (qAI.mp c))
variable (D1:Cal P w K mg base (CXU P w) 2 "check_time" ["t"] GV)
theorem BM:Ae ["corners","holds","low","high","middle"] ["corners","holds"] (Ac Es):=scN
include AH in
theorem J3 (F:Fun K "count_while" "count_while" Es f fd):P4 P w K mg base 5 4 f fd ["corners","holds"] F6:=by
 refine cD (λa dom p ss R U h=>?_) (fnL F BM (λa dom p ss R U h=>?_) (λcdv A outer s H E a dom p ss R U hr hL h=>?_))
 .obtain⟨x,xs,n,rfl,hx,hl,hn,hp,q⟩:=h;rcases hx with rfl|rfl|rfl
  .exact#[_,xs,n,rfl,(.inl rfl),hl,hn,hp,q]
  all_goals exact#[_,xs,n,rfl,(.inr (.inl rfl)),hl,hn,hp,q]
 .obtain⟨x,xs,n,rfl,_⟩:=h.1;rfl
 obtain⟨h,nl_⟩:=h;obtain⟨x,xs,n,rfl,hx,hl,hn,hp,q⟩:=h;refine#[_,(Aa (AA 2 BM Ad)
  (Aa (AA 3 BM (CO AH (vN 0)))
  (Aa (Hr PassesOwn.never (Cu Ku (vN 2) (vN 3)) (Aa (AA 4 BM (Ak Bo (Ak Bf (vN 2) (vN 3)) Ad))
  (Ah (BB (A6 (Wm hL (hr.mono ∅) (pv 1) (A4 (vN 0) (vN 4)))) (Ah (AA 2 BM (Ak Bf (vN 4) Ad))) (Ah (AA 3 BM (vN 4)))))))
  (Ah (Di (pv 2)))))),?_]
 replace hx:=hx.imp_right λz=>J1 z (nl_ _ (by simp));rcases hx with rfl|rfl
 all_goals
  first|refine#[λm τ=>∃(lo hi:Int)(y:Option S),τ=[some (.d (.tup xs)),some (.d (.ref a)),I lo,I hi,y]/\0<=lo/\lo<=n/\(n:Int)<=hi/\hi<=↥xs/\m=(hi-lo).toNat,#[_,_,_,_,rfl,∅,(),(),(),rfl],?_]|refine#[λm τ=>∃(lo hi:Int)(y:Option S),τ=[some (.r xs),some (.d (.ref a)),I lo,I hi,y]/\0<=lo/\lo<=n/\(n:Int)<=hi/\hi<=↥xs/\m=(hi-lo).toNat,#[_,_,_,_,rfl,∅,(),(),(),rfl],?_]
  rintro m τ ⟨lo,hi,y,rfl,h1,h2,h3,h4,rfl⟩;refine BY (λc=>?_) (λc=>?_)
  .have d1:lo<=(lo+hi).fdiv 2/\(lo+hi).fdiv 2<hi:=by
    rw[qBl _ ∅];exact W6 c
   refine#[#[nz2,Dm ∅],?_];generalize (lo+hi).fdiv 2=mid at d1;have m0:0<=mid:=Int.le_trans h1 d1.1;have em:mid=((mid.toNat:Nat):Int):=(Int.toNat_of_nonneg m0).symm;have ml:mid.toNat<↥xs:=dI h1 d1.1 d1.2 h4;have hx:xs[mid.toNat]? = some xs[mid.toNat]:=qAc ml;have b:atI xs mid=some xs[mid.toNat]:=by
    have:=atI_nat ml;rw[<-em]at this;rw[this];exact hx
   obtain⟨dm,ep⟩:=hp _ _ hx;refine#[rfl,?_];refine atR b ?_;refine#[dm,?_];rw[ep];refine BY (λe=>?_) (λe=>?_)
   .exact#[(hi-(mid+1)).toNat,(),_,_,_,rfl,Int.add_nonneg m0 ∅,(),h3,h4,rfl]
   .exact#[(mid-lo).toNat,bW d1.2 d1.1,_,_,_,rfl,h1,h2,(),(),rfl]
  .have e:lo=n:=();subst e;exact q
variable (Ar:Y8 P w K mg base 5 4 "count_while" ["corners","holds"] F6)
theorem ND:Ae ["f","t"] ["f","t"] (Ac FG):=scN
include An D1 Ar in
theorem NN (F:Fun K "piece_at" "piece_at" FG f fd){cA cT:Addr}(ht_:W.tabIn K "piece_at"=some (cA,cT))(hn_:rA K "piece_at" f)(hp_:(PyProof.Rows.recsOf P).any (λd=>d.name == "piece_at")=true):Ap P w K mg base (CXU P w) 6 f fd ["f","t"] (Ag K mg Jr):=by
 refine cS ht_ hn_ F ND (λss R U h=>?_) (λcdv A outer s H E ss R U ec hr h xo=>?_)
 .obtain⟨cs,m,t,n,rfl,_⟩:=h;rfl
 subst ec;obtain⟨cs,m,t,n,rfl,c0,hl,t0,up,hn,hz,ht,q,qu⟩:=h;refine#[_,(Aa (Rc (NW xo hr D1 (a1 (vN 1))))
  (A3 (Ak CW (Ip (x:="corner") Ar (hr.mono ∅) rfl ht_ hp_ rfl (Ba.mk' (Ac FG) ["f","t"] rfl rfl (by decide +kernel) (N:=["corner","t"]) (idx:=[1])) (vK 0) (λcl nm a cdv A outer s H hr=>(QG (Ai hr An (a2 (vN 1) (vK 0)))))) Ad))),?_]
 refine#[t,n,rfl,hn,ht,λc'=>?_,λc=>qu c];have h0:tt cs 0<=t:=by rw[t0];exact c'
 refine#[λx=>∃k,k<↥cs/\x=.tup [qd (tt cs k),qd (vv cs k)],λx=>!decide (t<tOf x),?_,?_]
 .rintro x ⟨k,hk,rfl⟩;refine#[t,tt cs k,_,_,rfl,ht,(hz k hk).1,(),?_];show S.d (.bl (!decide (t<tt cs k)))=.d (.bl (!decide (t<tOf (.tup [qd (tt cs k),qd (vv cs k)]))));rw[UM]
 intro a;refine#[_,_,plc cs t ↥cs+1,rfl,Or.inl rfl,by rw[qAa];exact hl,by rw[qAa];exact JY c0 _ (qAg _),λi x hx=>?_,?_]
 .obtain⟨hi,rfl⟩:=DL hx;refine#[#[i,hi,rfl],?_];show(!decide (t<tOf (.tup [qd (tt cs i),qd (vv cs i)])))=_;rw[UM];exact VD up h0 hi
 show R (.d (.int (((plc cs t ↥cs+1:Nat):Int)-1)));rw[show(((plc cs t ↥cs+1:Nat):Int)-1)=((plc cs t ↥cs:Nat):Int) from ()];exact q c'
variable (Fx:Cal P w K mg base (CXU P w) 6 "piece_at" ["f","t"] Jr)
theorem Ee:Ae ["f","number","corners"] ["f","number"] (Ac Dp):=scN
include AH AS in
theorem Hm (F:Fun K "slope_of_piece" "slope_of_piece" Dp f fd):Ap P w K mg base CX0 5 f fd ["f","number"] (Ag K mg Ej):=by
 refine fn3 F Ee (λss R U h=>?_) (λ_ _ _ _ _ _ _ R U hr h=>?_)
 .obtain⟨cs,m,k,rfl,_⟩:=h;rfl
 obtain⟨cs,m,k,rfl,hk,hl,up,hz,df,q⟩:=h;refine#[_,(Aa (AA 2 Ee (vK 0))
  (Aa (BB (Cu Im (vN 1) (Ak CW (CO AH (vN 2)) Ad)) (A3 (vK 0)) Aj)
  (A3 (Ai hr AS (a2 (A4 (vN 2) (vN 1)) (A4 (vN 2) (Ak Bf (vN 1) Ad))))))),?_]
 refine BY (λc=>?_) (λc=>?_)
 .rw[qAa]at c;rw[Az ()]at q;exact q
 rw[qAa]at c;have k1:k+1<↥cs:=();refine atR (NK hk) ?_;refine atR (BC (cs:=cs) (k+1) () k1) ?_;obtain⟨e,f,he,hf,hs⟩:=df k k1;refine#[_,_,_,_,6400,e,f,rfl,∅,(hz k hk).1,(hz k hk).2,(hz _ k1).1,(hz _ k1).2,he,hf,hs,G1 (up k k1),?_];rw[Cd k1]at q;exact q
variable (Bg:Cal P w K mg base (CXU P w) 5 "slope_of_piece" ["f","number"] Ej)
theorem Gh:Ae ["f","t","number","corner"] ["f","t"] (Ac HN):=scN
include FU Ax Gq Fx Bg in
theorem Nl (F:Fun K "value_at" "value_at" HN f fd):Ap P w K mg base (CXU P w) 7 f fd ["f","t"] (Ag K mg JS):=by
 refine fnU F Gh (λss R U h=>?_) (λcdv A outer s H E ss R U hr h xo=>?_)
 .obtain⟨cs,m,t,a,b,c,n,rfl,_⟩:=h;rfl
 obtain⟨cs,m,t,a,b,c,n,rfl,o,z,hl,h1,h4,hn,h2,ht,q,qu⟩:=h;refine#[_,(Aa (AA 2 Gh (NW xo hr Fx (a2 (vN 0) (vN 1))))
  (Aa (AA 3 Gh (A4 (vK 0) (vN 2)))
  (Aa (BB (Cu (S7 1 (hu_ hr ∅)) (vK 3) (vN 1)) (A3 (vK 3)) Aj)
  (A3 (NW xo hr FU (a2 (vK 3) (NW xo hr Gq (a2 (NW xo hr Bg (a2 (vN 0) (vN 2))) (NW xo hr Ax (a2 (vN 1) (vK 3))))))))))),?_]
 have c0:=o.ne;have hz:=z.szk o hl (qAg _);refine#[cs,m,t,6000,rfl,c0,hl,o.t0,o.up,∅,hz.cs.mono h1,ht.mono hn,λh=>?_,λh=>qu h];have q':R (.d (qd (vv cs (plc cs t ↥cs)+slp cs m (plc cs t ↥cs)*(t-tt cs (plc cs t ↥cs))))):=q h;have hk:plc cs t ↥cs<↥cs:=JY c0 _ (qAg _);generalize plc cs t ↥cs=k at q' hk;have zk:=hz.cs k hk;have tk:=z.tm k hk;refine atR (NK hk) ?_;refine#[rfl,rfl,eqT (tt cs k) t (λe=>?_) (λe=>?_)]
 .rw[show vv cs k+slp cs m k*(t-tt cs k)=vv cs k by rw[e];grind]at q';exact q'
 refine#[cs,m,k,rfl,hk,hl,o.up,hz.cs.mono (),z.df o h4,?_];refine#[t,tt cs k,n,a,rfl,ht,tk,(),?_];have zs:=(z.ln o k hk).1;refine#[_,_,_,_,rfl,zs,ht.sub tk,(),?_];exact#[_,_,_,_,rfl,zk.2,zs.mul (ht.sub tk),(),q']
variable (Cz:Cal P w K mg base (CXU P w) 7 "value_at" ["f","t"] JS)
theorem DT:Ae ["f","slopes"] ["f"] (Ac B7):=scN
include An AH AF Am in
theorem G2 (F:Fun K "steeper_corners" "steeper_corners" B7 f fd):Ap P w K mg base CX0 6 f fd ["f"] (Ag K mg D6):=by
 refine fn3 F DT (λss R U h=>?_) (λ_ _ _ _ _ _ _ R U hr h=>?_)
 .obtain⟨cs,m,a,b,c,rfl,_⟩:=h;rfl
 obtain⟨cs,m,a,b,c,rfl,o,z,hs,hl,q⟩:=h;refine#[_,(Aa (AA 1 DT (Ai hr Am (a2 (vK 0) (vK 0))))
  (A3 (Fi (N:=["number","f","slopes"]) (idx:=[0,1]) (Ba.mk' (Ac B7) ["f","slopes"] rfl rfl (by decide +kernel)) rfl (CB rfl AF (PA3.out (a2 Ad (CO AH (vN 1))))) He (λcl C s₀ H₀ fp=>(Ro (A6 (Ai hr An (a2 (A4 (vN 2) (Ak CW (vN 0) Ad)) (A4 (vN 2) (vN 0))))))) (λcl C s₀ H₀ fp=>(A4 (vK 1) (vN 0)))))),?_]
 have kc:SzK 1800 cs m:=z.szk o () hs;have n0:=o.ne;refine#[cs,m,rfl,o.ne,(),kc.cs.mono ∅,o.up,?_];have eN:((((Hu cs m).map qd).length:Nat):Int)=(↥cs:Int):=by rw[qAa,Du]
 have eT:((((Hu cs m).map qd).length:Nat)-1:Int).toNat=↥cs-1:=by rw[eN];omega
 refine#[#[∅,∅,(),()],?_];refine#[(List.range (↥cs-1)).map λn=>if decide (slp cs m n<slp cs m (n+1))=true then some (cd (tt cs (n+1),vv cs (n+1))) else none,?_,?_,?_,?_]
 .rw[B6,qAa,qAz,eT]
 .intro n x hx;obtain⟨hn,rfl⟩:=E1 hx;rw[eT]at hn;have z1:=(z.ln o n ()).1;have z2:=(z.ln o (n+1) ()).1;refine atR (MA (cs:=cs) (m:=m) n () ()) ?_;refine atR (MA (cs:=cs) (m:=m) (n+1) () ()) ?_;refine#[_,_,b,b,rfl,z1,z2,(),?_];have g:((List.range (↥cs-1)).map λn=>if decide (slp cs m n<slp cs m (n+1))=true then some (cd (tt cs (n+1),vv cs (n+1))) else none)[n]? = some (if decide (slp cs m n<slp cs m (n+1))=true then some (cd (tt cs (n+1),vv cs (n+1))) else none):=by
   rw[qAd,qAJ hn];rfl
  refine BY (λc=>?_) (λc=>?_)
  .refine atR (BC (cs:=cs) (n+1) () ()) ?_;rw[if_pos (decide_eq_true c)]at g;exact g
  .rw[if_neg (by simpa using c)]at g;exact g
 .rw[B6,eT];omega
 rw[NG (p:=λn=>decide (slp cs m n<slp cs m (n+1))) (f:=λk=>cd (tt cs k,vv cs k))];exact q
variable (B9:Cal P w K mg base (CXU P w) 6 "steeper_corners" ["f"] D6)
theorem D9:Ae ["f","slopes"] ["f"] (Ac B8):=scN
include An AH AF Am in
theorem GU (F:Fun K "flatter_corners" "flatter_corners" B8 f fd):Ap P w K mg base CX0 6 f fd ["f"] (Ag K mg DX):=by
 refine fn3 F D9 (λss R U h=>?_) (λ_ _ _ _ _ _ _ R U hr h=>?_)
 .obtain⟨cs,m,a,b,c,rfl,_⟩:=h;rfl
 obtain⟨cs,m,a,b,c,rfl,o,z,hs,hl,q⟩:=h;refine#[_,(Aa (AA 1 D9 (Ai hr Am (a2 (vK 0) (vK 0))))
  (A3 (Fi (N:=["number","f","slopes"]) (idx:=[0,1]) (Ba.mk' (Ac B8) ["f","slopes"] rfl rfl (by decide +kernel)) rfl (CB rfl AF (PA3.out (a2 Ad (CO AH (vN 1))))) He (λcl C s₀ H₀ fp=>(Ro (A6 (Ai hr An (a2 (A4 (vN 2) (vN 0)) (A4 (vN 2) (Ak CW (vN 0) Ad))))))) (λcl C s₀ H₀ fp=>(A4 (vK 1) (vN 0)))))),?_]
 have kc:SzK 1800 cs m:=z.szk o () hs;have n0:=o.ne;refine#[cs,m,rfl,o.ne,(),kc.cs.mono ∅,o.up,?_];have eN:((((Hu cs m).map qd).length:Nat):Int)=(↥cs:Int):=by rw[qAa,Du]
 have eT:((((Hu cs m).map qd).length:Nat)-1:Int).toNat=↥cs-1:=by rw[eN];omega
 refine#[#[∅,∅,(),()],?_];refine#[(List.range (↥cs-1)).map λn=>if decide (slp cs m (n+1)<slp cs m n)=true then some (cd (tt cs (n+1),vv cs (n+1))) else none,?_,?_,?_,?_]
 .rw[B6,qAa,qAz,eT]
 .intro n x hx;obtain⟨hn,rfl⟩:=E1 hx;rw[eT]at hn;have z1:=(z.ln o n ()).1;have z2:=(z.ln o (n+1) ()).1;refine atR (MA (cs:=cs) (m:=m) (n+1) () ()) ?_;refine atR (MA (cs:=cs) (m:=m) n () ()) ?_;refine#[_,_,b,b,rfl,z2,z1,(),?_];have g:((List.range (↥cs-1)).map λn=>if decide (slp cs m (n+1)<slp cs m n)=true then some (cd (tt cs (n+1),vv cs (n+1))) else none)[n]? = some (if decide (slp cs m (n+1)<slp cs m n)=true then some (cd (tt cs (n+1),vv cs (n+1))) else none):=by
   rw[qAd,qAJ hn];rfl
  refine BY (λc=>?_) (λc=>?_)
  .refine atR (BC (cs:=cs) (n+1) () ()) ?_;rw[if_pos (decide_eq_true c)]at g;exact g
  .rw[if_neg (by simpa using c)]at g;exact g
 .rw[B6,eT];omega
 rw[NG (p:=λn=>decide (slp cs m (n+1)<slp cs m n)) (f:=λk=>cd (tt cs k,vv cs k))];exact q
variable (B4:Cal P w K mg base (CXU P w) 6 "flatter_corners" ["f"] DX)
theorem Jj:Ae ["f"] ["f"] (Ac C4):=scN
variable (Ua:mg "max"=none)
include Am Ua in
theorem Ja (F:Fun K "steep_enough" "steep_enough" C4 f fd):Ap P w K mg base CX0 6 f fd ["f"] (Ag K mg Fd):=by
 refine fn3 F Jj (λss R U h=>?_) (λ_ _ _ _ _ _ _ R U hr h=>?_)
 .obtain⟨cs,m,rfl,_⟩:=h;rfl
 obtain⟨cs,m,rfl,h,q⟩:=h;refine#[_,(A3 (A9 (a2 (Ak Bf (Xo rfl (Fi (N:=["slope"]) (idx:=[]) (Ba.mk' (Ac C4) ["f"] rfl rfl (by decide +kernel)) rfl (Bl (PE3.out (Ai hr Am (a2 (vK 0) (vK 0))))) CT (λcl C s₀ H₀ fp=>Cc) (λcl C s₀ H₀ fp=>(Ak Bo (vK 0) (vK 0)))) rfl Ua) Ad) Ad))),?_];obtain⟨r,z,lc,_⟩:=h;have o:=r.o;have hz:=z.szk (n:=155) o () ∅;refine#[cs,m,rfl,o.ne,(),hz.cs.mono ∅,o.up,?_];refine#[(Hu cs m).map λq=>some (.int (q.num.fdiv (q.den:Int))),by rw[qAa,qAa],λi x hx=>?_,by rw[qAa,Du];omega,?_]
 .obtain⟨p,hp,rfl⟩:=Bs hx;have d0:=den_pos p;obtain⟨j,hj,rfl⟩:∃j,j<↥cs/\slp cs m j=p:=by
   have:=qAB hp;unfold Hu at this;obtain⟨j,hj,e⟩:=qAy.mp this;exact#[j,qAu.mp hj,e]
  refine#[#[(),YA (Bc (z.ln o j hj).1.1 ∅)],?_];show((Hu cs m).map _)[i]? = _;rw[qAd,hp];rfl
 rw[Dj (Hu cs m) (λq=>D.int (q.num.fdiv (q.den:Int)))];refine#[flo cs m,by unfold flo;rw[qA3];rfl,by unfold flo;rw[qAa,Du];exact o.ne,λk k1 k2=>?_];refine#[(by show 2<=1000;decide),?_];have q:R (.d (qd ((stp cs m:Int):Rat))):=q;rw[UC k1 k2]at q;exact q
variable (Bt:Cal P w K mg base (CXU P w) 6 "steep_enough" ["f"] Fd)
theorem Nw:Ae ["f","g"] ["f","g"] (Ac HH):=scN
include An in
theorem NO (F:Fun K "outgrows" "outgrows" HH f fd):Ap P w K mg base CX0 2 f fd ["f","g"] (Ag K mg Jo):=by
 refine fn3 F Nw (λss R U h=>?_) (λ_ _ _ _ _ _ _ R U hr h=>?_)
 .obtain⟨cs,m,ds,k,rfl,_⟩:=h;rfl
 obtain⟨cs,m,ds,k,rfl,zm,zk,q⟩:=h;refine#[_,(A3 (Ai hr An (a2 (vK 1) (vK 0)))),?_];exact#[k,m,_,_,rfl,zk,zm,∅,q]
variable (BN:Cal P w K mg base (CXU P w) 2 "outgrows" ["f","g"] Jo)
theorem Ph:Ae ["point","slope","height"] ["point","slope","height"] (Ac JJ):=scN
include FU Ax Jf in
theorem PJ (F:Fun K "time_of" "time_of" JJ f fd):Ap P w K mg base CX0 4 f fd ["point","slope","height"] (Ag K mg KT):=by
 refine fn3 F Ph (λss R U h=>?_) (λ_ _ _ _ _ _ _ R U hr h=>?_)
 .obtain⟨a,b,s,h,n,p,l,k,rfl,_⟩:=h;rfl
 obtain⟨a,b,s,h,n,p,l,k,rfl,ha,hb,hh,hs,s0,hl,q⟩:=h;refine#[_,(A3 (Ai hr FU (a2 (vK 0) (Ai hr Jf (a2 (Ai hr Ax (a2 (vN 2) (vK 0))) (vN 1)))))),?_];refine#[h,b,l,p,rfl,hh,hb,(),?_];refine#[h-b,s,_,k,rfl,hh.sub hb,hs,(),s0,?_];exact#[a,_,n,_,rfl,ha,(hh.sub hb).div hs s0,(),q]
variable (Ce:Cal P w K mg base (CXU P w) 4 "time_of" ["point","slope","height"] KT)
theorem Bp:Ae ["f","g","others","told","place","corner"] ["f","g"] (Ac C6):=scN
include An AH in
theorem Jv (F:Fun K "corner_times" "corner_times" C6 f fd):Ap P w K mg base CX0 2 f fd ["f","g"] (Ag K mg Fu):=by
 refine fn3 F Bp (λss R U h=>?_) (λ_ _ _ _ _ _ _ R U hr h=>?_)
 .obtain⟨cs,m,ds,k,n,rfl,_⟩:=h;rfl
 obtain⟨cs,m,ds,k,n,rfl,oc,od,lc,ld,hn,zc,zd,q⟩:=h;refine#[_,(Aa (JA (i:=2) (N:=["corner"]) (idx:=[]) (Ba.mk' (Ac C6) ["f","g","others","told","place","corner"] rfl rfl (by decide +kernel)) rfl (Bl (PE3.out (vK 1))) CT (λcl C s₀ H₀ fp=>Cc) (λcl C s₀ H₀ fp=>(vK 0)) Bp.nd rfl (Or.inl rfl))
  (Aa (AA 3 Bp (FO MJ))
  (Aa (AA 4 Bp Ad)
  (Aa (Ds (Bx PassesOwn.never rfl (Bl (PE3.out (vK 0))) (AM (i:=5) Bp.nd rfl (Or.inl rfl)) (Dt.out (Aa (Hr PassesOwn.never (PW3.pt (Ib (Cu Ku (vN 4) (CO AH (vN 2))) (EI (A6 (Ai hr An (a2 (A4 (vN 2) (vN 4)) (vK 5))))))) (Aa (EU (BF (Fn qAH qAC qAD AY (pv 3) (A7 (PE3.out (A4 (vN 2) (vN 4))) BL))))
  (Ah (Ox (i:=4) Bp.nd rfl (Or.inl rfl) Ad))))
  (Cy (BB (PW3.pt (Ib (Cu Ku (vN 4) (CO AH (vN 2))) (EI (Cu (S7 1 (hu_ hr ∅)) (A4 (vN 2) (vN 4)) (vK 5))))) (Ah (Ox (i:=4) Bp.nd rfl (Or.inl rfl) Ad)) Aj)
  (Ah (EU (BF (Fn qAH qAC qAD AY (pv 3) (A7 (PE3.out (vK 5)) BL))))))))))
  (Xu 3 (A3 (Ke J7 (vN 3) (Ur (vN 2) (J8 (vN 4)) W4)))))))),?_]
 refine#[ds.map λc=>some (qd c.1),by rw[qAa,qAa],?_,?_,?_]
 .intro i x hx;obtain⟨c,hc,rfl⟩:=Bs hx;show(ds.map _)[i]? = _;rw[qAd,hc];rfl
 .rw[qAa];omega
 have e0:(ds.map λc=>some (qd c.1)).filterMap id=(rst ds 0).map qd:=by
  rw[Dj ds (λc=>qd c.1)];unfold rst;rw[List.drop_zero,qA3];rfl
 rw[e0];refine#[(by show 0<=1000;decide),?_];refine#[λn' τ=>∃(p:Nat)(ts:List Rat)(y0 y1 y5:Option S),τ=[some (.d (crv cs m)),some (.d (crv ds k)),some (.l ((rst ds 0).map qd)),some (.l (ts.map qd)),I p,y5]/\Mrg cs ds n' p ts/\p<=↥ds/\(n'<↥cs->∀x∈ts,x<tt cs n'),#[0,[],none,none,none,rfl,Mrg.nil cs ds,qA4 _,λ_ x hx=>by cases hx],?_,?_]
 .rintro n' τ x hx ⟨p,ts,y0,y1,y5,rfl,g,hp,hlt⟩;obtain⟨hi,rfl⟩:=DL hx;have zi:=(zc n' hi).1;refine#[λmm τ=>∃(p:Nat)(ts:List Rat),τ=[some (.d (crv cs m)),some (.d (crv ds k)),some (.l ((rst ds 0).map qd)),some (.l (ts.map qd)),I p,some (.d (.tup [qd (tt cs n'),qd (vv cs n')]))]/\Mrg cs ds n' p ts/\p<=↥ds/\(n'<↥cs->∀x∈ts,x<tt cs n')/\mm=↥ds-p,#[_,p,ts,rfl,g,hp,hlt,rfl],?_];clear g hp hlt;rintro mm τ ⟨p,ts,rfl,g,hp,hlt,rfl⟩;refine BY (λc=>?_) (λc=>?_)
  .have pl:p<↥ds:=by rw[qAa,DY]at c;omega
   refine atR (LN p rfl pl) ?_;refine#[_,_,_,_,rfl,(zd p pl).1,zi,(),?_];refine BY (λc2=>?_) (λc2=>?_)
   .refine atR (LN p rfl pl) ?_;obtain⟨g2,h2⟩:=g.other od.up pl (hlt hi) c2;refine#[by rw[qAa];have:=g.len;omega,↥ds-(p+1),(),p+1,ts++[tt ds p],by rw[qAL];rfl,g2,pl,λ_=>h2,rfl]
   .have NL:p<↥ds->tt cs n'<=tt ds p:=λ_=>qAI.mp c2;refine#[λτ=>∃(q:Nat)(y0 y1 y5:Option S),τ=[some (.d (crv cs m)),some (.d (crv ds k)),some (.l ((rst ds 0).map qd)),some (.l (ts.map qd)),I q,some (.d (.tup [qd (tt cs n'),qd (vv cs n')]))]/\(q=p\/(q=p+1/\p<↥ds/\tt ds p=tt cs n'))/\q<=↥ds/\∀j,q<=j->j<↥ds->tt cs n'<tt ds j,?_,?_]
    .refine BY (λc'=>?_) (λc'=>?_)
     .have pl:p<↥ds:=by rw[qAa,DY]at c';omega
      refine atR (LN p rfl pl) ?_;refine#[rfl,rfl,eqT (tt ds p) (tt cs n') (λe=>?_) (λe=>?_)]
      .exact#[p+1,none,none,none,rfl,.inr #[rfl,pl,e],pl,λj j1 j2=>by rw[<-e];exact Kt od.up () j2]
      .refine#[p,none,none,none,rfl,.inl rfl,(),λj j1 j2=>?_];have lt:tt cs n'<tt ds p:=qBp (NL pl) (λz=>e z.symm);by_cases z:j=p
       .rw[z];exact lt
       .have:=Kt od.up (i:=p) (j:=j) () j2;grind
     .have pl:¬p<↥ds:=by rw[qAa,DY]at c';omega
      exact#[p,none,none,none,rfl,.inl rfl,hp,λj j1 j2=>()]
    rintro τ ⟨q',y0,y1,y5,rfl,hq,hq2,hb⟩;have g2:=g.one hq (hlt hi) hb;refine#[by rw[qAa];have:=g.len;omega,q',ts++[tt cs n'],none,none,_,by rw[qAL];rfl,g2,hq2,λc' x hx=>?_];rcases qAq.mp hx with hx|hx
    .have:=hlt hi x hx;have:=oc.up n' c';grind
    .rw[qAM.mp hx];exact oc.up n' c'
  .have NL:p<↥ds->tt cs n'<=tt ds p:=λz=>absurd z (by rw[qAa,DY]at c;omega);refine#[λτ=>∃(q:Nat)(y0 y1 y5:Option S),τ=[some (.d (crv cs m)),some (.d (crv ds k)),some (.l ((rst ds 0).map qd)),some (.l (ts.map qd)),I q,some (.d (.tup [qd (tt cs n'),qd (vv cs n')]))]/\(q=p\/(q=p+1/\p<↥ds/\tt ds p=tt cs n'))/\q<=↥ds/\∀j,q<=j->j<↥ds->tt cs n'<tt ds j,?_,?_]
   .refine BY (λc'=>?_) (λc'=>?_)
    .have pl:p<↥ds:=by rw[qAa,DY]at c';omega
     refine atR (LN p rfl pl) ?_;refine#[rfl,rfl,eqT (tt ds p) (tt cs n') (λe=>?_) (λe=>?_)]
     .exact#[p+1,none,none,none,rfl,.inr #[rfl,pl,e],pl,λj j1 j2=>by rw[<-e];exact Kt od.up () j2]
     .refine#[p,none,none,none,rfl,.inl rfl,(),λj j1 j2=>?_];have lt:tt cs n'<tt ds p:=qBp (NL pl) (λz=>e z.symm);by_cases z:j=p
      .rw[z];exact lt
      .have:=Kt od.up (i:=p) (j:=j) () j2;grind
    .have pl:¬p<↥ds:=by rw[qAa,DY]at c';omega
     exact#[p,none,none,none,rfl,.inl rfl,hp,λj j1 j2=>()]
   rintro τ ⟨q',y0,y1,y5,rfl,hq,hq2,hb⟩;have g2:=g.one hq (hlt hi) hb;refine#[by rw[qAa];have:=g.len;omega,q',ts++[tt cs n'],none,none,_,by rw[qAL];rfl,g2,hq2,λc' x hx=>?_];rcases qAq.mp hx with hx|hx
   .have:=hlt hi x hx;have:=oc.up n' c';grind
   .rw[qAM.mp hx];exact oc.up n' c'
 rintro τ ⟨p,ts,y0,y1,y5,rfl,g,hp,hlt⟩;rw[qAa]at g;have gl:=g.len;have lr:=DY ds p;have rr:FV ((rst ds 0).map qd) (some (p:Int)) none=(rst ds p).map qd:=SM hp;show aE (.lst (ts.map qd)) (.lst (FV ((rst ds 0).map qd) (some (p:Int)) none)) (λd=>R (.d d));rw[rr];refine#[by rw[qAa,qAa];omega,?_];rw[<-qAL];exact q _ (YS oc od g hp) (by rw[qAp];omega)
variable (CY:Cal P w K mg base (CXU P w) 2 "corner_times" ["f","g"] Fu)
theorem Kf:Ae ["f","g"] ["f","g"] (Ac DD):=scN
include Cz CY in
theorem Ka (F:Fun K "corner_rows" "corner_rows" DD f fd):Ap P w K mg base CX0 8 f fd ["f","g"] (Ag K mg F7):=by
 refine fn3 F Kf (λss R U h=>?_) (λ_ _ _ _ _ _ _ R U hr h=>?_)
 .obtain⟨cs,m,ds,k,a,b,c,rfl,_⟩:=h;rfl
 obtain⟨cs,m,ds,k,a,b,c,rfl,oc,od,lc,ld,zc,zd,h1,h4,h2,q⟩:=h;refine#[_,(A3 (Fi (N:=["t","f","g"]) (idx:=[0,1]) (Ba.mk' (Ac DD) ["f","g"] rfl rfl (by decide +kernel)) rfl (Bl (PE3.out (Ai hr CY (a2 (vN 0) (vN 1))))) CT (λcl C s₀ H₀ fp=>Cc) (λcl C s₀ H₀ fp=>(A9 (AQ (vN 0) (a2 (Ai hr Cz (a2 (vN 1) (vN 0))) (Ai hr Cz (a2 (vN 2) (vN 0))))))))),?_];refine#[cs,m,ds,k,6000,rfl,oc,od,lc,ld,∅,(zc.szk oc () h1).cs,(zd.szk od () h1).cs,λts ht hl=>?_];refine#[ts.map λt=>some (rw3 cs m ds k t),by rw[qAa,qAa],?_,?_,?_]
 .intro i x hx;obtain⟨t,et,rfl⟩:=Bs hx;obtain⟨hi,eT⟩:=M5 et;have zt:Sz a (T ts i):=by
   rcases ht.of i hi with⟨j,hj,e⟩|⟨j,hj,e⟩
   .rw[e];exact zc.tm j hj
   .rw[e];exact zd.tm j hj
  have t0:=JZ ht hi;rw[eT]at zt t0;refine#[cs,m,t,a,b,c,a,rfl,oc,zc,(),h1,h4,(),(),zt,λ_=>?_,λz=>absurd t0 z];refine#[ds,k,t,a,b,c,a,rfl,od,zd,(),h1,h4,(),(),zt,λ_=>?_,λz=>absurd t0 z];refine#[(by show 3<=1000;decide),?_];show(ts.map _)[i]? = _;rw[qAd,et];rfl
 .rw[qAa];omega
 rw[Dj ts (rw3 cs m ds k)];exact q ts ht hl
variable (AK:Cal P w K mg base (CXU P w) 8 "corner_rows" ["f","g"] F7)
theorem L6:Ae ["rows"] ["rows"] (Ac D4):=scN
include Ax in
theorem LD (F:Fun K "gap_points" "gap_points" D4 f fd):Ap P w K mg base CX0 4 f fd ["rows"] (Ag K mg G9):=by
 refine fn3 F L6 (λss R U h=>?_) (λ_ _ _ _ _ _ _ R U hr h=>?_)
 .obtain⟨x,cs,m,ds,k,ts,v,rfl,_⟩:=h;rfl
 obtain⟨x,cs,m,ds,k,ts,v,rfl,hx,hl,hv,hz,q⟩:=h;refine#[_,(A3 (Fi (N:=["row"]) (idx:=[]) (Ba.mk' (Ac D4) ["rows"] rfl rfl (by decide +kernel)) rfl (Bl (PE3.out (vN 0))) CT (λcl C s₀ H₀ fp=>Cc) (λcl C s₀ H₀ fp=>(A9 (a2 (vK 0) (Ai hr Ax (a2 (vK 0) (vK 0)))))))),?_];rcases hx with rfl|rfl
 all_goals
  refine#[ts.map λt=>some (.tup [qd t,qd (gap cs m ds k t)]),by rw[qAa,qAa],?_,?_,?_]
  .intro i x hx;obtain⟨t,et,rfl⟩:=Bs hx;obtain⟨hi,eT⟩:=M5 et;have z:=hz i hi;rw[eT]at z;refine#[_,_,_,_,rfl,z.1,z.2,(),?_];refine#[(by show 2<=1000;decide),?_];show(ts.map _)[i]? = _;rw[qAd,et];rfl
  .rw[qAa];omega
  rw[Dj ts (λt=>.tup [qd t,qd (gap cs m ds k t)])];have e:(gcs cs m ds k ts).map cd=ts.map (λt=>.tup [qd t,qd (gap cs m ds k t)]):=by
   unfold gcs;rw[qA3];rfl
  rw[e]at q;exact q
variable (AV:Cal P w K mg base (CXU P w) 4 "gap_points" ["rows"] G9)
theorem Nz:Ae ["one","other"] ["one","other"] (Ac Hy):=scN
theorem Nf (F:Fun K "opposite" "opposite" Hy f fd):Ap P w K mg base CX0 1 f fd ["one","other"] (Ag K mg Jp):=by
 refine fn3 F Nz (λss R U h=>?_) (λ_ _ _ _ _ _ _ R U hr h=>?_)
 .obtain⟨p,q,rfl,_⟩:=h;rfl
 obtain⟨p,q1,rfl,hp,hq,q⟩:=h;refine#[_,(A3 (Ma Ku (Ak AL (vK 0) (vK 1)) Ad (GK _))),?_];refine#[AN hp.1 hq.1 ∅,?_];rw[show decide (Opp p q1)=decide (p.num*q1.num<0) from decide_eq_decide.mpr (WL p q1).symm]at q;exact q
variable (FC:Cal P w K mg base (CXU P w) 1 "opposite" ["one","other"] Jp)
theorem AE:Ae ["f","g","rows","gaps","last","slopes","sides","told","number","row","t","meet"] ["f","g"] (Ac C0):=scN
variable (Bv:mg "enumerate"=none)
include Ax gc_NOUGHT AO Cz Ce AK AV FC Bv in
theorem Jc (F:Fun K "crossed_rows" "crossed_rows" C0 f fd):Ap P w K mg base CX0 9 f fd ["f","g"] (Ag K mg EM):=by
 refine fn3 F AE (λss R U h=>?_) (λ_ _ _ _ _ _ _ R U hr h=>?_)
 .obtain⟨cs,m,ds,k,a,b,c,rfl,_⟩:=h;rfl
 obtain⟨cs,m,ds,k,a,b,c,rfl,oc,od,z1,z2,h1,h2,hl,q⟩:=h;refine#[_,(Aa (AA 2 AE (Ai hr AK (a2 (vN 0) (vN 1))))
  (Aa (AA 3 AE (Ai hr AV (a1 (vN 2))))
  (Aa (AA 4 AE (Ai hr Ax (a2 (vK 0) (vK 1))))
  (Aa (AA 5 AE (Ai hr AO (a2 (vN 3) (vN 4))))
  (Aa (AA 6 AE (Ke J7 (Fi (N:=["gap"]) (idx:=[]) (Ba.mk' (Ac C0) ["f","g","rows","gaps","last","slopes","sides","told","number","row","t","meet"] rfl rfl (by decide +kernel)) rfl (Bl (PE3.out (Ur (vN 3) (J8 Ad) W4))) CT (λcl C s₀ H₀ fp=>Cc) (λcl C s₀ H₀ fp=>(vK 0))) (FO (a1 (vN 4)))))
  (Aa (AA 7 AE (FO MJ))
  (Aa (QW (Bx PassesOwn.never rfl (Nd rfl Bv (pv 2)) (Oh rfl (DV (AM (i:=8) AE.nd rfl (Or.inl rfl)) (DV (AM (i:=9) AE.nd rfl (Or.inl rfl)) KW))) (Dt.out (Aa (EU (BF (Fn qAH qAC qAD AY (pv 7) (A7 (PE3.out (vN 9)) BL))))
  (Ah (BB (A6 (Ai hr FC (a2 (A4 (A4 (vN 3) (vN 8)) Ad) (A4 (vN 6) (vN 8))))) (Aa (AA 10 AE (Ai hr Ce (AQ (A4 (vN 3) (vN 8)) (a2 (A4 (vN 5) (vN 8)) (Jm rfl gc_NOUGHT)))))
  (Aa (AA 11 AE (Ai hr Cz (a2 (vN 0) (vN 10))))
  (Ah (EU (BF (Fn qAH qAC qAD AY (pv 7) (A7 (PE3.out (A9 (AQ (vN 10) (a2 (vN 11) (vN 11))))) BL))))))) Aj))))))
  (Ah (Di (pv 7)))))))))),?_]
 refine#[cs,m,ds,k,a,b,c,rfl,oc,od,(),(),z1,z2,(),(),(),λts ht tl=>?_];have tz:∀i,i<↥ts->Sz a (T ts i):=λi hi=>by
  rcases ht.of i hi with⟨j,hj,e⟩|⟨j,hj,e⟩
  .rw[e];exact z1.tm j hj
  .rw[e];exact z2.tm j hj
 have vz:∀i,i<↥ts->Sz 6000 (val cs m (T ts i))/\Sz 6000 (val ds k (T ts i)):=λi hi=>#[(z1.va (JZ ht hi) (tz i hi)).mono (),(z2.va (JZ ht hi) (tz i hi)).mono ()];have gz:∀i,i<↥ts->Sz (2*a+1) (gap cs m ds k (T ts i)):=λi hi=>(Vy z1 z2 (JZ ht hi) (tz i hi)).mono ();refine#[_,cs,m,ds,k,ts,6000,rfl,Or.inl rfl,(),∅,vz,?_];have gl:=B3 (cs:=cs) (m:=m) (ds:=ds) (k:=k) (ts:=ts);have gC:SzC 6400 (gcs cs m ds k ts):=λi hi=>by
  rw[gl]at hi;rw[(Be hi).1,(Be hi).2];exact#[(tz i hi).mono (),(gz i hi).mono ()]
 have gU:Up (gcs cs m ds k ts):=λi hi=>by
  rw[gl]at hi;rw[(Be (show i<↥ts from ())).1,(Be hi).1];exact ht.up i hi
 have ne:=ht.ne;have zm:=z1.m oc;have zk:=z2.m od;refine#[m,k,_,_,rfl,zm,zk,(),?_];refine#[_,gcs cs m ds k ts,m-k,rfl,Or.inl rfl,by rw[gl];exact ne,by rw[gl];omega,gC,Xh z1 z2 oc od ht tz (),gU,?_];have cut1:FV ((gcs cs m ds k ts).map cd) (some 1) none=((gcs cs m ds k ts).drop 1).map cd:=Wf (f:=cd) (h:=1) (by rw[gl];omega);refine#[((gcs cs m ds k ts).drop 1).map λc=>some (qd c.2),?_,?_,?_,?_]
 .show _=(FV ((gcs cs m ds k ts).map cd) (some 1) none).length;rw[cut1,qAa,qAa]
 .intro i x hx;have hx:(FV ((gcs cs m ds k ts).map cd) (some 1) none)[i]? = some x:=hx;rw[cut1]at hx;obtain⟨c',hc,rfl⟩:=Bs hx;show(((gcs cs m ds k ts).drop 1).map _)[i]? = _;rw[qAd,hc];rfl
 .show(FV ((gcs cs m ds k ts).map cd) (some 1) none).length<=100000;rw[cut1,qAa,qAP,gl];omega
 refine#[(by show 1<=1000;decide),?_];refine#[?_,?_]
 .have:=qBJ id (((gcs cs m ds k ts).drop 1).map λc=>some (qd c.2));rw[qAa,qAP,gl]at this;show List.length _+1<=_;omega
 rw[VP cs m ds k ts ne];refine#[(by show 0<=1000;decide),?_];refine#[λi τ=>∃(us:List Rat)(y8 y9 y10 y11:Option S),τ=[some (.d (crv cs m)),some (.d (crv ds k)),some (.r (ts.map (rw3 cs m ds k))),some (.l ((gcs cs m ds k ts).map cd)),some (.d (qd (m-k))),some (.l ((Hu (gcs cs m ds k ts) (m-k)).map qd)),some (.d (.lst ((sdL cs m ds k ts).map qd))),some (.l (us.map (rw3 cs m ds k))),y8,y9,y10,y11]/\(i=0->us=[])/\(0<i->Cx cs m ds k us (nxT ts (i-1))/\∀u,nxT ts (i-1)=some u->T us (↥us-1)<u)/\↥us<=2*i/\(∀j,j<↥us->Sz a (T us j)),#[[],_,_,_,_,rfl,λ_=>rfl,λz=>absurd z ∅,qA4 _,λj hj=>absurd hj (qBf j)],?_,?_]
 .rintro i τ x hx ⟨us,y8,y9,y10,y11,rfl,i0,ip,ul,uz⟩;obtain⟨t,et,rfl⟩:=Bs hx;obtain⟨hi,eT⟩:=M5 et;subst eT;obtain⟨e1,e2⟩:=Be (cs:=cs) (m:=m) (ds:=ds) (k:=k) hi;have gi:i<(gcs cs m ds k ts).length:=by rw[gl];exact hi
  have t0:=JZ ht hi;have zsd:Sz 6400 (HC cs m ds k ts i):=by
   unfold HC;split
   .next z=>exact(gz _ z).mono ()
   .exact(zm.sub zk).mono ()
  refine#[by rw[qAa];omega,?_];refine atR (BC (cs:=gcs cs m ds k ts) i rfl gi) ?_;refine atR (aA i rfl hi) ?_;rw[e2];refine#[_,_,rfl,(gz i hi).mono (),zsd,?_];refine BY (λop=>?_) (λnop=>?_)
  .have lin:=EX (m:=m) (k:=k) oc od ht hi;have P:=Y0 oc od ht hi op rfl;have es:slp (gcs cs m ds k ts) (m-k) i=sat cs m (T ts i)-sat ds k (T ts i):=lin.2;have zt:=QS z1 z2 t0 P.1 h1;have zs:Sz (b+b+1) (sat cs m (T ts i)-sat ds k (T ts i)):=(z1.sl _ t0).sub (z2.sl _ t0);refine atR (BC (cs:=gcs cs m ds k ts) i rfl gi) ?_;refine atR (MA (cs:=gcs cs m ds k ts) (m:=m-k) i rfl gi) ?_;rw[e1,e2,es];refine#[T ts i,gap cs m ds k (T ts i),_,0,a,2*a+1,1,_,rfl,tz i hi,gz i hi,Sz.zero,zs,P.1,(),?_];generalize T ts i+(0-gap cs m ds k (T ts i))/(sat cs m (T ts i)-sat ds k (T ts i))=t' at P zt;obtain⟨_,lt,ltn,p1,p2,ev,_,_⟩:=P;have t0':0<=t':=⋯;refine#[cs,m,t',a,b,c,a,rfl,oc,z1,(),(),(),(),(),zt,λ_=>?_,λz=>absurd t0' z];refine#[(by show 3<=1000;decide),by rw[qAp,qAa];show ↥us+1<_;omega,?_];have x1:=Cx.turn ht hi i0 ip p1;have x2:=x1.snoc (by rw[R9];exact lt) p2;have em:(us++[T ts i]++[t']).map (rw3 cs m ds k)=us.map (rw3 cs m ds k)++[rw3 cs m ds k (T ts i)]++[.tup [qd t',qd (val cs m t'),qd (val cs m t')]]:=by
    rw[qAL,qAL];show us.map (rw3 cs m ds k)++[rw3 cs m ds k (T ts i)]++[.tup [qd t',qd (val cs m t'),qd (val ds k t')]]=_;rw[ev]
   refine#[us++[T ts i]++[t'],_,_,_,_,by rw[em];rfl,λz=>absurd z (),λ_=>#[x2,λu hu=>by rw[R9];exact ltn u hu],?_,N3 (N3 uz (tz i hi)) zt];rw[qAp,qAp];show ↥us+1+1<=_;omega
  .have x1:=Cx.turn ht hi i0 ip (V2 oc od ht hi nop);refine#[us++[T ts i],_,_,_,_,by rw[qAL];rfl,λz=>absurd z (),λ_=>#[x1,λu hu=>?_],?_,N3 uz (tz i hi)]
   .rw[R9];unfold nxT at hu;split at hu
    .next z=>cases hu;exact ht.up i z
    .cases hu
   .rw[qAp];show ↥us+1<=_;omega
 rintro τ ⟨us,y8,y9,y10,y11,rfl,i0,ip,ul,uz⟩;rw[qAa]at ip ul;have X:=(ip ne).1;rw[show nxT ts (↥ts-1)=none by unfold nxT;rw[if_neg ()]]at X;exact q us X uz ()
variable (Bu:Cal P w K mg base (CXU P w) 9 "crossed_rows" ["f","g"] EM)
theorem N8:Ae ["f","g","corners"] ["f","g"] (Ac Lw):=scN
include Gs BE Bu in
theorem Tq (F:Fun K "least" "least" Lw f fd):Ap P w K mg base CX0 10 f fd ["f","g"] (Ag K mg N7):=by
 refine fn3 F N8 (λss R U h=>?_) (λ_ _ _ _ _ _ _ R U hr h=>?_)
 .obtain⟨cs,m,ds,k,a,b,c,S0,rfl,_⟩:=h;rfl
 obtain⟨cs,m,ds,k,a,b,c,S0,rfl,r,s,z1,z2,h1,h2,hl,s1,s2,q⟩:=h;refine#[_,(Aa (JA (i:=2) (N:=["row"]) (idx:=[]) (Ba.mk' (Ac Lw) ["f","g","corners"] rfl rfl (by decide +kernel)) rfl (Bl (PE3.out (Ai hr Bu (a2 (vN 0) (vN 1))))) CT (λcl C s₀ H₀ fp=>Cc) (λcl C s₀ H₀ fp=>(A9 (a2 (vK 0) (Ai hr Gs (a2 (vK 0) (vK 0)))))) N8.nd rfl (Or.inl rfl))
  (A3 (Ai hr BE (a2 (vN 2) (Ai hr Gs (a2 (vK 0) (vK 1))))))),?_]
 refine#[cs,m,ds,k,a,b,c,rfl,r.o,s.o,z1,z2,h1,h2,(),λus X uz ul=>?_];have zz:∀i,i<↥us->Sz 6000 (val cs m (T us i))/\Sz 6000 (val ds k (T us i)):=λi hi=>#[(z1.va (X.nn hi) (uz i hi)).mono (),(z2.va (X.nn hi) (uz i hi)).mono ()];refine#[us.map λt=>some (.tup [qd t,qd (mn (val cs m t) (val ds k t))]),by rw[qAa,qAa],?_,?_,?_]
 .intro i x hx;obtain⟨t,et,rfl⟩:=Bs hx;obtain⟨hi,eT⟩:=M5 et;have z:=zz i hi;rw[eT]at z;refine#[val cs m t,val ds k t,_,_,rfl,z.1,z.2,∅,(by show 2<=1000;decide),?_];show(us.map _)[i]? = _;rw[qAd,et];rfl
 .rw[qAa];omega
 rw[Dj us (λt=>.tup [qd t,qd (mn (val cs m t) (val ds k t))])];have e:us.map (λt=>(.tup [qd t,qd (mn (val cs m t) (val ds k t))]:D))=(ocs mn cs m ds k us).map cd:=by
  unfold ocs;rw[qA3];rfl
 rw[e];have O:=JN JK r s X;have zm:=z1.m r.o;have zk:=z2.m s.o;have LL:=UN JK r s X z1 z2 uz;have ol:=CF (op:=mn) (cs:=cs) (m:=m) (ds:=ds) (k:=k) (us:=us);have m0:0<=mn m k:=by
  have:=r.m0;have:=s.m0;rcases JK.or m k with e|e<;>rw[e]<;>assumption
 refine#[m,k,_,_,rfl,zm,zk,(),?_];refine#[_,ocs mn cs m ds k us,mn m k,rfl,Or.inl rfl,LL.szd O () () (),λ_=>?_,λz=>absurd #[O,m0] z];have kl:=Jb (ocs mn cs m ds k us) (mn m k) ((ocs mn cs m ds k us).length-1);have n0:=O.ne;exact q _ _ (GG O m0) rfl (LL.kept O) ((Uq JK r s X s1 s2).kept O) () (λt t0=>by rw[(G0 O t).1,RD JK r s X t0])
variable (LA:Cal P w K mg base (CXU P w) 10 "least" ["f","g"] N7)
theorem Sh:Ae ["f","g","corners"] ["f","g"] (Ac OK):=scN
include A5 BE Bu in
theorem Vn (F:Fun K "most" "most" OK f fd):Ap P w K mg base CX0 10 f fd ["f","g"] (Ag K mg Rp):=by
 refine fn3 F Sh (λss R U h=>?_) (λ_ _ _ _ _ _ _ R U hr h=>?_)
 .obtain⟨cs,m,ds,k,a,b,c,S0,rfl,_⟩:=h;rfl
 obtain⟨cs,m,ds,k,a,b,c,S0,rfl,r,s,z1,z2,h1,h2,hl,s1,s2,q⟩:=h;refine#[_,(Aa (JA (i:=2) (N:=["row"]) (idx:=[]) (Ba.mk' (Ac OK) ["f","g","corners"] rfl rfl (by decide +kernel)) rfl (Bl (PE3.out (Ai hr Bu (a2 (vN 0) (vN 1))))) CT (λcl C s₀ H₀ fp=>Cc) (λcl C s₀ H₀ fp=>(A9 (a2 (vK 0) (Ai hr A5 (a2 (vK 0) (vK 0)))))) Sh.nd rfl (Or.inl rfl))
  (A3 (Ai hr BE (a2 (vN 2) (Ai hr A5 (a2 (vK 0) (vK 1))))))),?_]
 refine#[cs,m,ds,k,a,b,c,rfl,r.o,s.o,z1,z2,h1,h2,hl,λus X uz ul=>?_];have zz:∀i,i<↥us->Sz 6000 (val cs m (T us i))/\Sz 6000 (val ds k (T us i)):=λi hi=>#[(z1.va (X.nn hi) (uz i hi)).mono (),(z2.va (X.nn hi) (uz i hi)).mono ()];refine#[us.map λt=>some (.tup [qd t,qd (mx (val cs m t) (val ds k t))]),by rw[qAa,qAa],?_,?_,?_]
 .intro i x hx;obtain⟨t,et,rfl⟩:=Bs hx;obtain⟨hi,eT⟩:=M5 et;have z:=zz i hi;rw[eT]at z;refine#[val cs m t,val ds k t,_,_,rfl,z.1,z.2,∅,(by show 2<=1000;decide),?_];show(us.map _)[i]? = _;rw[qAd,et];rfl
 .rw[qAa];omega
 rw[Dj us (λt=>.tup [qd t,qd (mx (val cs m t) (val ds k t))])];have e:us.map (λt=>(.tup [qd t,qd (mx (val cs m t) (val ds k t))]:D))=(ocs mx cs m ds k us).map cd:=by
  unfold ocs;rw[qA3];rfl
 rw[e];have O:=JN IP r s X;have zm:=z1.m r.o;have zk:=z2.m s.o;have LL:=UN IP r s X z1 z2 uz;have ol:=CF (op:=mx) (cs:=cs) (m:=m) (ds:=ds) (k:=k) (us:=us);have m0:0<=mx m k:=by
  have:=r.m0;have:=s.m0;rcases IP.or m k with e|e<;>rw[e]<;>assumption
 refine#[m,k,_,_,rfl,zm,zk,(),?_];refine#[_,ocs mx cs m ds k us,mx m k,rfl,Or.inl rfl,LL.szd O () () (),λ_=>?_,λz=>absurd #[O,m0] z];have kl:=Jb (ocs mx cs m ds k us) (mx m k) ((ocs mx cs m ds k us).length-1);have n0:=O.ne;exact q _ _ (GG O m0) rfl (LL.kept O) ((Uq IP r s X s1 s2).kept O) () (λt t0=>by rw[(G0 O t).1,RD IP r s X t0])
variable (JL:Cal P w K mg base (CXU P w) 10 "most" ["f","g"] Rp)
theorem WZ:Ae ["f","g"] ["f","g"] (Ac RK):=scN
include Ax BE AK AV in
theorem VJ (F:Fun K "less" "less" RK f fd):Ap P w K mg base CX0 9 f fd ["f","g"] (Ag K mg Qh):=by
 refine fn3 F WZ (λss R U h=>?_) (λ_ _ _ _ _ _ _ R U hr h=>?_)
 .obtain⟨cs,m,ds,k,a,b,c,aa,bb,cc,A,rfl,_⟩:=h;rfl
 obtain⟨cs,m,ds,k,a,b,c,aa,bb,cc,A,rfl,r1,r2,z1,z2,hA,hA2,hl0,n1,n2,n3,inc,g0,q⟩:=h;refine#[_,(A3 (Ai hr BE (a2 (Ai hr AV (a1 (Ai hr AK (a2 (vN 0) (vN 1))))) (Ai hr Ax (a2 (vK 0) (vK 1)))))),?_];have oc:=r1.o;have od:=r2.o;refine#[cs,m,ds,k,A,b+bb,c+cc,rfl,oc,od,(),(),z1.mono hA () (),z2.mono hA2 () (),(),(),(),λts ht hl=>?_];have tz:∀i,i<↥ts->Sz A (T ts i):=λi hi=>by
  rcases ht.of i hi with⟨j,hj,e⟩|⟨j,hj,e⟩
  .rw[e];exact(z1.tm j hj).mono hA
  .rw[e];exact(z2.tm j hj).mono hA2
 have vz:∀i,i<↥ts->Sz 6000 (val cs m (T ts i))/\Sz 6000 (val ds k (T ts i)):=λi hi=>#[(z1.va (JZ ht hi) (tz i hi)).mono (),(z2.va (JZ ht hi) (tz i hi)).mono ()];refine#[_,cs,m,ds,k,ts,6000,rfl,Or.inr rfl,(),∅,vz,?_];have gl:=B3 (cs:=cs) (m:=m) (ds:=ds) (k:=k) (ts:=ts);have O:=WB oc od ht inc g0;have m0:=SW oc od ht inc;have LL:=Yp oc od ht O z1 z2 hA hA2;refine#[m,k,_,_,rfl,z1.m oc,z2.m od,(),?_];refine#[_,gcs cs m ds k ts,m-k,rfl,Or.inr rfl,LL.szd O () () (),λ_=>?_,λno=>absurd #[O,m0] no];have kl:=Jb (gcs cs m ds k ts) (m-k) ((gcs cs m ds k ts).length-1);have n0:=O.ne;exact q _ _ (GG O m0) (λt t0=>by rw[(G0 O t).1,WY oc od ht O t0]) rfl (LL.kept O) ()
variable (F0:Cal P w K mg base (CXU P w) 9 "less" ["f","g"] Qh)
theorem J6:Ae ["gaps","number","last","best"] ["gaps","number","last","best"] (Ac EB):=scN
include An AH gc_NOUGHT in
theorem Kg (F:Fun K "comes_above" "comes_above" EB f fd):Ap P w K mg base CX0 2 f fd ["gaps","number","last","best"] (Ag K mg F9):=by
 refine fn3 F J6 (λss R U h=>?_) (λ_ _ _ _ _ _ _ R U hr h=>?_)
 .obtain⟨gs,i,l,B,rfl,_⟩:=h;rfl
 obtain⟨gs,i,l,B,rfl,hi,zl,zB,zg,q⟩:=h;refine#[_,(Aa (BB (Cu Im (vN 1) (Ak CW (CO AH (vN 0)) Ad)) (A3 (Ai hr An (a2 (Jm rfl gc_NOUGHT) (vN 2)))) Aj)
  (A3 (Ai hr An (a2 (vN 3) (A4 (A4 (vN 0) (Ak Bf (vN 1) Ad)) Ad))))),?_]
 refine BY (λc=>?_) (λc=>?_)
 .rw[qAa]at c;rw[if_neg ()]at q;exact#[0,l,_,_,rfl,Sz.zero,zl,∅,q]
 .rw[qAa]at c;have i1:i+1<↥gs:=();rw[if_pos i1]at q;refine atR (BC (cs:=gs) (i+1) () i1) ?_;exact#[B,_,_,_,rfl,zB,(zg _ i1).2,∅,q]
variable (Dy:Cal P w K mg base (CXU P w) 2 "comes_above" ["gaps","number","last","best"] F9)
theorem Ex:Ae ["f","g","gaps","last","slopes","corners","best","number","gap"] ["f","g"] (Ac QC):=scN
include Ax An A5 gc_NOUGHT AO BE Ce AK AV Bv Dy in
theorem Vb (F:Fun K "left" "left" QC f fd):Ap P w K mg base CX0 9 f fd ["f","g"] (Ag K mg RM):=by
 refine fn3 F Ex (λss R U h=>?_) (λ_ _ _ _ _ _ _ R U hr h=>?_)
 .obtain⟨cs,m,ds,k,a,b,c,aq,bq,cq,A,rfl,_⟩:=h;rfl
 obtain⟨cs,m,ds,k,a,b,c,aq,bq,cq,A,rfl,r1,r2,z1,z2,hA,hA2,hl0,n1,n2,n3,q⟩:=h;refine#[_,(Aa (AA 2 Ex (Ai hr AV (a1 (Ai hr AK (a2 (vN 0) (vN 1))))))
  (Aa (AA 3 Ex (Ai hr Ax (a2 (vK 0) (vK 1))))
  (Aa (AA 4 Ex (Ai hr AO (a2 (vN 2) (vN 3))))
  (Aa (AA 5 Ex (FO MJ))
  (Aa (AA 6 Ex (Jm rfl gc_NOUGHT))
  (Aa (QW (Bx PassesOwn.never rfl (Nd rfl Bv (pv 2)) (Oh rfl (DV (AM (i:=7) Ex.nd rfl (Or.inl rfl)) (DV (AM (i:=8) Ex.nd rfl (Or.inl rfl)) KW))) (Dt.out (Aa (AA 6 Ex (Ai hr A5 (a2 (vN 6) (vK 8))))
  (Aa (EU (BF (Fn qAH qAC qAD AY (pv 5) (A7 (PE3.out (A9 (a2 (vK 8) (vN 6)))) BL))))
  (Ah (BB (PW3.pt (Ib (A6 (Ai hr An (a2 (vK 8) (vN 6)))) (EI (A6 (Ai hr Dy (AQ (vN 2) (AQ (vN 7) (a2 (vN 3) (vN 6))))))))) (Ah (EU (BF (Fn qAH qAC qAD AY (pv 5) (A7 (PE3.out (A9 (a2 (Ai hr Ce (AQ (vN 8) (a2 (A4 (vN 4) (vN 7)) (vN 6)))) (vN 6)))) BL))))) Aj)))))))
  (A3 (Ai hr BE (a2 (vN 5) (Ai hr A5 (a2 (Jm rfl gc_NOUGHT) (vN 3)))))))))))),?_]
 have oc:=r1.o;have od:=r2.o;refine#[cs,m,ds,k,A,b+bq,c+cq,rfl,oc,od,(),(),z1.mono hA () (),z2.mono hA2 () (),(),(),(),λts ht hl=>?_];have tz:∀i,i<↥ts->Sz A (T ts i):=λi hi=>by
  rcases ht.of i hi with⟨j,hj,e⟩|⟨j,hj,e⟩
  .rw[e];exact(z1.tm j hj).mono hA
  .rw[e];exact(z2.tm j hj).mono hA2
 have vz:∀i,i<↥ts->Sz 1800 (val cs m (T ts i))/\Sz 1800 (val ds k (T ts i)):=λi hi=>#[(z1.va (JZ ht hi) (tz i hi)).mono (),(z2.va (JZ ht hi) (tz i hi)).mono ()];obtain⟨g,hg⟩:∃g,g=b+bq+c+cq+A+3:=#[_,rfl];obtain⟨X,hX⟩:∃X,X=2*(b+bq+c+cq)+A+6:=#[_,rfl];rw[<-hg,<-hX]at q;have gX:g<=X:=();have X2:X<=2000:=();have AX:A<=X:=();have gz:∀i,i<↥ts->Sz g (gap cs m ds k (T ts i)):=λi hi=>by rw[hg];exact YE z1 z2 (JZ ht hi) (tz i hi)
 refine#[_,cs,m,ds,k,ts,1800,rfl,Or.inr rfl,(),∅,vz,?_];have gl:=B3 (cs:=cs) (m:=m) (ds:=ds) (k:=k) (ts:=ts);have gC:SzC 2000 (gcs cs m ds k ts):=λi hi=>by
  rw[gl]at hi;rw[(Be hi).1,(Be hi).2];exact#[(tz i hi).mono (),(gz i hi).mono ()]
 have gU:Up (gcs cs m ds k ts):=λi hi=>by
  rw[gl]at hi;rw[(Be (show i<↥ts from ())).1,(Be hi).1];exact ht.up i hi
 have ne:=ht.ne;have zm:=z1.m oc;have zk:=z2.m od;have zL:Sz (b+bq+1) (m-k):=zm.sub zk;refine#[m,k,_,_,rfl,zm,zk,(),?_];refine#[_,gcs cs m ds k ts,m-k,rfl,Or.inl rfl,by rw[gl];exact ne,by rw[gl];omega,gC.mono ∅,Df.of gC ∅,gU,?_];refine#[(by show 0<=1000;decide),?_];refine#[λi τ=>∃(C:Cs)(B M:Rat)(y7 y8:Option S),τ=[some (.d (crv cs m)),some (.d (crv ds k)),some (.r ((gcs cs m ds k ts).map cd)),some (.d (qd (m-k))),some (.l ((Hu (gcs cs m ds k ts) (m-k)).map qd)),some (.l (C.map cd)),some (.d (qd B)),y7,y8]/\(i=0->C=[]/\B=0)/\(0<i->Lft (gap cs m ds k) C (T ts (i-1)) B M (if i<↥ts then some (T ts i) else none)/\Ln (b+bq+1) g C M)/\(i=↥ts->M=mx 0 (m-k))/\↥C<=2*i/\(∀j,j<↥C->Sz X (tt C j)/\Sz g (vv C j))/\Sz g B,#[[],0,0,none,none,rfl,λ_=>#[rfl,rfl],λz=>absurd z ∅,λz=>absurd z (),qA4 _,(λj hj=>absurd hj (qBf j)),Sz.zero.mono ()],?_,?_]
 .rintro i τ x hx ⟨C,B,M,y7,y8,rfl,i0,ip,_,cl,zC,zB⟩;obtain⟨hi,rfl⟩:=DL hx;rw[gl]at hi;obtain⟨e1,e2⟩:=Be (cs:=cs) (m:=m) (ds:=ds) (k:=k) hi;rw[e1,e2];have lin:=EX (m:=m) (k:=k) oc od ht hi;have t0:=JZ ht hi;have es:slp (gcs cs m ds k ts) (m-k) i=sat cs m (T ts i)-sat ds k (T ts i):=lin.2;have zs:Sz (b+bq+1) (sat cs m (T ts i)-sat ds k (T ts i)):=(z1.sl _ t0).sub (z2.sl _ t0);have zic:Sz g (gap cs m ds k (T ts i)-(sat cs m (T ts i)-sat ds k (T ts i))*T ts i):=(OR z1 z2 t0).mono ();refine#[B,gap cs m ds k (T ts i),_,_,rfl,zB,gz i hi,(),?_];have zB':Sz g (mx B (gap cs m ds k (T ts i))):=by
   rcases(GP B (gap cs m ds k (T ts i))).2.2 with z|z
   .rw[z];exact zB
   .rw[z];exact gz i hi
  have LL:Lf0 (gap cs m ds k) (C++[(T ts i,mx B (gap cs m ds k (T ts i)))]) (T ts i) (mx B (gap cs m ds k (T ts i)))/\∀M',Sz (b+bq+1) M'->Sz g (mx B (gap cs m ds k (T ts i))-M'*T ts i)->Ln (b+bq+1) g (C++[(T ts i,mx B (gap cs m ds k (T ts i)))]) M':=by
   by_cases z:i=0
   .obtain⟨rfl,rfl⟩:=i0 z;subst z;refine#[?_,λM' h1 h2=>Ln.one h1 h2];rw[ht.t0];have ml:=GP 0 (gap cs m ds k 0);have l0:IsL (gap cs m ds k) 0 (mx 0 (gap cs m ds k 0)):=by
     refine#[ml.1,?_,λs s0 s1=>?_]
     .rcases ml.2.2 with z|z
      .exact .inl z
      .exact .inr #[0,qAb,qAb,z.symm]
     .have:s=0:=⋯;rw[this];exact ml.2.1
    refine#[Ord.one ml.1,rfl,rfl,l0,λM t t0 t1=>?_];have:t=0:=⋯;subst this;show IsL _ 0 (val [(0,mx 0 (gap cs m ds k 0))] M 0);rw[Bz (Ord.one ml.1)];exact l0
   .obtain⟨a',n'⟩:=ip ();rw[if_pos hi]at a';have lin0:=EX (m:=m) (k:=k) oc od ht (show i-1<↥ts from ());have ei:i-1+1=i:=();rw[ei]at lin0;have u:=ht.up (i-1) ();rw[ei]at u;have iB:=a'.l.nxt (JZ ht (show i-1<↥ts from ())) rfl (qAj u) (λx x1 x2=>lin0.1 x x1 (λ_=>x2));exact#[a'.step iB,λM' h1 h2=>n'.snoc (a'.slope iB) h1 h2]
  obtain⟨L0,N0⟩:=LL;rw[show(if B<gap cs m ds k (T ts i) then gap cs m ds k (T ts i) else B)=mx B (gap cs m ds k (T ts i)) from rfl];have gB:gap cs m ds k (T ts i)<=mx B (gap cs m ds k (T ts i)):=(GP B _).2.1;generalize eB:mx B (gap cs m ds k (T ts i))=B' at L0 N0 zB' gB ⊢;have zC':∀j,j<(C++[(T ts i,B')]).length->Sz X (tt (C++[(T ts i,B')]) j)/\Sz g (vv (C++[(T ts i,B')]) j):=N4 zC ((tz i hi).mono AX) zB';have flat:Ln (b+bq+1) g (C++[(T ts i,B')]) 0:=N0 0 (Sz.zero.mono ()) (by rw[show B'-0*T ts i=B' from ⋯];exact zB');have hnx:∀u,(if i+1<↥ts then some (T ts (i+1)) else none)=some u->T ts i<u:=λu hu=>by
   by_cases i1:i+1<↥ts
   .rw[if_pos i1]at hu;cases hu;exact ht.up i i1
   .rw[if_neg i1]at hu;cases hu
  obtain⟨t1,t2,t3⟩:=L0.turn (s:=slp (gcs cs m ds k ts) (m-k) i) rfl hnx (λx x1 x2=>lin.1 x x1 λi1=>x2 _ (if_pos i1));have hs:i+1=↥ts->slp (gcs cs m ds k ts) (m-k) i=m-k:=λe=>Az (by rw[gl];omega);have lC:(C++[(T ts i,B')]).length<=2*(i+1):=by rw[qAp];show ↥C+1<=_;omega
  refine#[(by show 2<=1000;decide),?_];refine#[by rw[qAa];omega,?_];refine#[gap cs m ds k (T ts i),B',_,_,rfl,gz i hi,zB',(),?_];refine BY (λc=>?_) (λc=>?_)
  .refine#[gcs cs m ds k ts,i,m-k,B',rfl,by rw[gl];exact hi,zL.mono (),zB'.mono (),gC.mono ∅,?_];have hAb:(if i+1<(gcs cs m ds k ts).length then decide (B'<vv (gcs cs m ds k ts) (i+1)) else decide (0<m-k))=true ↔ Ab (gap cs m ds k) B' (slp (gcs cs m ds k ts) (m-k) i) (if i+1<↥ts then some (T ts (i+1)) else none):=by
    by_cases i1:i+1<↥ts
    .rw[if_pos (show i+1<(gcs cs m ds k ts).length by rw[gl];exact i1),if_pos i1,(Be i1).2,decide_eq_true_iff];exact Iff.rfl
    .rw[if_neg (show ¬i+1<(gcs cs m ds k ts).length by rw[gl];exact i1),if_neg i1,hs (),decide_eq_true_iff];exact Iff.rfl
   generalize (if i+1<(gcs cs m ds k ts).length then decide (B'<vv (gcs cs m ds k ts) (i+1)) else decide (0<m-k))=bb at hAb ⊢;rw[show bb=decide (bb=true) by cases bb<;>rfl];refine BY (λe=>?_) (λne=>?_)
   rotate_left
   .have t2:=t2 c (λz=>ne (hAb.mpr z));refine#[_,_,_,_,_,by rw[qAL];rfl,λz=>absurd z (),λ_=>#[t2,flat],λe=>?_,lC,zC',zB'];have nb:¬Ab (gap cs m ds k) B' (slp (gcs cs m ds k ts) (m-k) i) (if i+1<↥ts then some (T ts (i+1)) else none):=λz=>ne (hAb.mpr z);rw[if_neg (),hs e]at nb;have nb:¬0<m-k:=nb;unfold mx;rw[if_neg nb]
   .obtain⟨s0,t3⟩:=t3 c (hAb.mp e);rw[es]at s0 t3;have sne:sat cs m (T ts i)-sat ds k (T ts i)≠0:=λz=>by rw[z]at s0;exact absurd s0 ∅
    have xz:Sz X (T ts i+(B'-gap cs m ds k (T ts i))/(sat cs m (T ts i)-sat ds k (T ts i))):=(TM z1 z2 t0 zB' sne).mono ();refine atR (MA (cs:=gcs cs m ds k ts) (m:=m-k) i rfl (by rw[gl];exact hi)) ?_;rw[es];refine#[T ts i,gap cs m ds k (T ts i),_,B',X,X,X,_,rfl,(tz i hi).mono AX,(gz i hi).mono gX,zB'.mono gX,zs,sne,(),?_];have N1:Ln (b+bq+1) g (C++[(T ts i,B')]++[(T ts i+(B'-gap cs m ds k (T ts i))/(sat cs m (T ts i)-sat ds k (T ts i)),B')]) (sat cs m (T ts i)-sat ds k (T ts i)):=by
     refine flat.snoc ?_ zs ?_
     .have ln:(C++[(T ts i,B')]).length-1=↥C:=by rw[Bq];omega
      rw[ln,Pa];show(B'-B')/_=0;rw[show B'-B'=0 from ⋯,qCI,Rat.zero_mul]
     .show Sz g (B'-(sat cs m (T ts i)-sat ds k (T ts i))*(T ts i+(B'-gap cs m ds k (T ts i))/(sat cs m (T ts i)-sat ds k (T ts i))));generalize sat cs m (T ts i)-sat ds k (T ts i)=s at *
      generalize gap cs m ds k (T ts i)=G at *
      rw[show B'-s*(T ts i+(B'-G)/s)=G-s*T ts i from ⋯];exact zic
    generalize T ts i+(B'-gap cs m ds k (T ts i))/(sat cs m (T ts i)-sat ds k (T ts i))=Y at xz t3 N1 ⊢;refine#[(by show 2<=1000;decide),(by rw[qAp,qAa];show ↥C+1<1000000;omega),?_];refine#[_,_,_,_,_,by rw[qAL,qAL];rfl,λz=>absurd z (),λ_=>#[t3,N1],λe=>?_,?_,N4 zC' xz zB',zB']
    .rw[<-es,hs e]at s0 ⊢;unfold mx;rw[if_pos s0]
    .rw[qAp,qAp];show ↥C+1+1<=_;omega
  .have t1:=t1 c;refine iF ?_;have N1:Ln (b+bq+1) g (C++[(T ts i,B')]) (mx 0 (slp (gcs cs m ds k ts) (m-k) i)):=by
    rcases(GP 0 (slp (gcs cs m ds k ts) (m-k) i)).2.2 with z|z
    .rw[z];exact flat
    .rw[z,es];have eG:B'=gap cs m ds k (T ts i):=⋯;exact N0 _ zs (by rw[eG];exact zic)
   exact#[_,_,_,_,_,by rw[qAL];rfl,λz=>absurd z (),λ_=>#[t1,N1],λe=>by rw[hs e],lC,zC',zB']
 rintro τ ⟨C,B,M,y7,y8,rfl,i0,ip,iM,cl,zC,zB⟩;have iN:(List.map cd (gcs cs m ds k ts)).length=↥ts:=by rw[qAa,gl]
 rw[iN]at ip iM cl;obtain⟨a',n'⟩:=ip ne;rw[if_neg (qAX _)]at a';have eM:=iM rfl;subst eM;have zM:Sz 2000 (mx 0 (m-k)):=by
  rcases(GP 0 (m-k)).2.2 with z|z
  .rw[z];exact Sz.zero.mono ∅
  .rw[z];exact zL.mono ()
 refine#[0,m-k,_,_,rfl,Sz.zero,zL,(),?_];refine#[_,C,mx 0 (m-k),rfl,Or.inl rfl,?_,λ_=>?_,λno=>absurd #[a'.o,a'.M0] no]
 .exact SzK.d (n:=2000) #[(),λj hj=>#[(zC j hj).1.mono X2,(zC j hj).2.mono ()],zM] ∅
 have LC:LS X (b+bq+1) g C (mx 0 (m-k)):=n'.ls a'.o (λj hj=>(zC j hj).1);refine q _ _ (GG a'.o a'.M0) a'.M0 (λt t0=>?_) (LC.kept a'.o) ?_
 .rw[(G0 a'.o t).1];exact a'.v t t0 (λu hu=>by cases hu)
 .have:=Jb C (mx 0 (m-k)) (↥C-1);have:=a'.o.ne;omega
variable (OI:Cal P w K mg base (CXU P w) 9 "left" ["f","g"] RM)
theorem QI:Ae ["coming","offer"] ["coming","offer"] (Ac LY):=scN
include OI in
theorem QL (F:Fun K "unused" "unused" LY f fd):Ap P w K mg base CX0 10 f fd ["coming","offer"] (Ag K mg Mq):=by
 refine fn3 F QI (λss R U h=>?_) (λ_ _ _ _ _ _ _ R U hr h=>?_)
 .obtain⟨cs,m,ds,k,a,b,c,aq,bq,cq,A,rfl,_⟩:=h;rfl
 obtain⟨cs,m,ds,k,a,b,c,aq,bq,cq,A,rfl,h1,h2,h3,h4,h5,h6,h7,h8,h9,h10,h11⟩:=h;refine#[_,(A3 (Ai hr OI (a2 (vN 1) (vN 0)))),?_];exact#[cs,m,ds,k,a,b,c,aq,bq,cq,A,rfl,h1,h2,h3,h4,h5,h6,h7,h8,h9,h10,h11]
variable (IC:Cal P w K mg base (CXU P w) 10 "unused" ["coming","offer"] Mq)
theorem Sr:Ae ["coming","offer"] ["coming","offer"] (Ac LU):=scN
include F0 IC in
theorem Qx (F:Fun K "served" "served" LU f fd):Ap P w K mg base CX0 11 f fd ["coming","offer"] (Ag K mg MD):=by
 refine fn3 F Sr (λss R U h=>?_) (λ_ _ _ _ _ _ _ R U hr h=>?_)
 .obtain⟨cs,m,ds,k,a,b,c,aq,bq,cq,A,rfl,_⟩:=h;rfl
 obtain⟨cs,m,ds,k,a,b,c,aq,bq,cq,A,rfl,r1,r2,z1,z2,hA,hA2,hl0,hl1,n1,n2,n3,n4,q⟩:=h;refine#[_,(A3 (Ai hr F0 (a2 (vN 1) (Ai hr IC (a2 (vN 0) (vN 1)))))),?_];refine#[cs,m,ds,k,a,b,c,aq,bq,cq,A,rfl,r1,r2,z1,z2,hA,hA2,(),(),(),(),λL K cL k0 vL zL lL=>?_];have rL:C1 L K:=#[#[cL.ne,cL.t0,cL.v0,cL.up,cL.vu],k0];have cm:∀x y,0<=x->x<=y->val cs m x<=val cs m y:=λx y x0 xy=>Bh r1 x0 xy;have am:∀x y,0<=x->x<=y->val ds k x<=val ds k y:=λx y x0 xy=>Bh r2 x0 xy;refine#[cs,m,L,K,a,b,c,_,_,_,2*(b+bq+c+cq)+A+6,rfl,r1,rL,z1,zL,(),qAg _,(),(),(),(),λx y x0 xy=>Tn cm am vL x0 xy,?_,λC M cC vC eM zC lC=>?_]
 .have c0:=Bz (m:=m) r1.o;have a0:=Bz (m:=k) r2.o;refine QA (C:=val cs m) (A:=val ds k) (L:=val L K) (by rw[c0];exact r1.o.v0) (by rw[a0];exact r2.o.v0) (vL 0 qAb)
 .exact q L K C M cL k0 vL cC cC.m0 eM vC zC ()
variable (Iv:Cal P w K mg base (CXU P w) 11 "served" ["coming","offer"] MD)
theorem KR:Ae ["f","number","height","slope"] ["f","number","height"] (Ac JG):=scN
include gc_NOUGHT Bg Ce in
theorem Py (F:Fun K "climbed" "climbed" JG f fd):Ap P w K mg base CX0 6 f fd ["f","number","height"] (Ag K mg Km):=by
 refine fn3 F KR (λss R U h=>?_) (λ_ _ _ _ _ _ _ R U hr h=>?_)
 .obtain⟨cs,m,h,k,rfl,_⟩:=h;rfl
 obtain⟨cs,m,h,k,rfl,hk,⟨r,z,hl⟩,hh,q0,q1⟩:=h;refine#[_,(Aa (AA 3 KR (Ai hr Bg (a2 (vN 0) (vN 1))))
  (Aa (BB (Cu (S7 1 (hu_ hr ∅)) (vN 3) (Jm rfl gc_NOUGHT)) (A3 Jq) Aj)
  (A3 (Ai hr Ce (AQ (A4 (vK 0) (vN 1)) (a2 (vN 3) (vN 2))))))),?_]
 have hz:=z.szk r.o () (qAg _);refine#[cs,m,k,rfl,hk,(),r.o.up,hz.cs.mono ∅,z.df r.o ∅,?_];refine#[rfl,rfl,eqT (slp cs m k) 0 (λe=>q0 e) (λe=>?_)];refine atR (NK hk) ?_;exact#[_,_,_,_,_,_,_,_,rfl,z.tm k hk,(hz.cs k hk).2,hh,(z.ln r.o k hk).1,e,∅,q1 e]
variable (DM:Cal P w K mg base (CXU P w) 6 "climbed" ["f","number","height"] Km)
theorem Kx:Ae ["f","height","lower"] ["f","height"] (Ac Hl):=scN
include An gc_NOUGHT Ar DM in
theorem PY (F:Fun K "reached" "reached" Hl f fd){cA cT:Addr}(ht_:W.tabIn K "reached"=some (cA,cT))(hn_:rA K "reached" f)(hp_:(PyProof.Rows.recsOf P).any (λd=>d.name == "reached")=true):Ap P w K mg base CX0 7 f fd ["f","height"] (Ag K mg KL):=by
 refine Yg ht_ hn_ F Kx (λss R U h=>?_) (λcdv A outer s H E ss R U ec hr h=>?_)
 .obtain⟨cs,m,h,rfl,_⟩:=h;rfl
 subst ec;obtain⟨cs,m,h,rfl,hg,hh,q⟩:=h;refine#[_,(Aa (AA 2 Kx (Sw (x:="corner") Ar (hr.mono ∅) rfl ht_ hp_ rfl (Ba.mk' (Ac Hl) ["f","height","lower"] rfl rfl (by decide +kernel) (N:=["corner","height"]) (idx:=[1])) (vK 0) (λcl nm a cdv A outer s H hr=>(Ai hr An (a2 (vK 0) (vN 1))))))
  (Aa (BB (Cu Im (vN 2) Ad) (A3 (Jm rfl gc_NOUGHT)) Aj)
  (A3 (Ai hr DM (AQ (vN 0) (a2 (Ak CW (vN 2) Ad) (vN 1))))))),?_]
 have r:=hg.1;have hl:=hg.2.2;obtain⟨c,hc,cut⟩:=UY (n:=↥cs) (λi=>decide (vv cs i<h)) (λi hi z=>by have:=r.o.vu i hi;have z:=of_decide_eq_true z;exact decide_eq_true ⋯);refine#[λx=>∃k,k<↥cs/\x=.tup [qd (tt cs k),qd (vv cs k)],λx=>decide (vOf x<h),?_,?_]
 .rintro x ⟨k,hk,rfl⟩;refine#[vv cs k,h,_,_,rfl,hg.v hk,hh,∅,?_];show S.d (.bl (decide (vv cs k<h)))=.d (.bl (decide (vOf (.tup [qd (tt cs k),qd (vv cs k)])<h)));rw[Oc]
 intro a;refine#[_,_,c,rfl,Or.inl rfl,by rw[qAa];omega,by rw[qAa];exact hc,λi x hx=>?_,?_]
 .obtain⟨hi,rfl⟩:=DL hx;refine#[#[i,hi,rfl],?_];show(decide (vOf (.tup [qd (tt cs i),qd (vv cs i)])<h))=_;rw[Oc];exact cut i hi
 obtain⟨z0,zk⟩:=Xf r hc cut;refine BY (λe=>?_) (λe=>?_)
 .exact q (some 0) (z0 ()) (λt z=>by cases z;exact Sz.zero.mono ∅)
 have hk:c=c-1+1:=();generalize c-1=k at hk;subst hk;obtain⟨y1,y2⟩:=zk k rfl;refine#[cs,m,h,k,?_,hc,hg,hh,λs=>q none (y1 s) (λt z=>nomatch z),λs=>q (some _) (y2 s) (λt z=>?_)]
 .show [S.d (crv cs m),.d (.int (((k+1:Nat):Int)-1)),.d (qd h)]=_;rw[show((k+1:Nat):Int)-1=(k:Int) from ()]
 .cases z;exact OC hg.2.1 r.o hc s hh
variable (Dg:Cal P w K mg base (CXU P w) 7 "reached" ["f","height"] KL)
theorem MK:Ae ["f","height","not_above"] ["f","height"] (Ac IH):=scN
include An Ar DM in
theorem Sf (F:Fun K "passed" "passed" IH f fd){cA cT:Addr}(ht_:W.tabIn K "passed"=some (cA,cT))(hn_:rA K "passed" f)(hp_:(PyProof.Rows.recsOf P).any (λd=>d.name == "passed")=true):Ap P w K mg base CX0 7 f fd ["f","height"] (Ag K mg Mj):=by
 refine Yg ht_ hn_ F MK (λss R U h=>?_) (λcdv A outer s H E ss R U ec hr h=>?_)
 .obtain⟨cs,m,h,rfl,_⟩:=h;rfl
 subst ec;obtain⟨cs,m,h,rfl,hg,hh,q⟩:=h;refine#[_,(Aa (AA 2 MK (Sw (x:="corner") Ar (hr.mono ∅) rfl ht_ hp_ rfl (Ba.mk' (Ac IH) ["f","height","not_above"] rfl rfl (by decide +kernel) (N:=["corner","height"]) (idx:=[1])) (vK 0) (λcl nm a cdv A outer s H hr=>(QG (Ai hr An (a2 (vN 1) (vK 0)))))))
  (Aa (BB (Cu Im (vN 2) Ad) (A3 Jq) Aj)
  (A3 (Ai hr DM (AQ (vN 0) (a2 (Ak CW (vN 2) Ad) (vN 1))))))),?_]
 have r:=hg.1;have hl:=hg.2.2;obtain⟨c,hc,cut⟩:=UY (n:=↥cs) (λi=>!decide (h<vv cs i)) (λi hi z=>Rh z (r.o.vu i hi));refine#[λx=>∃k,k<↥cs/\x=.tup [qd (tt cs k),qd (vv cs k)],λx=>!decide (h<vOf x),?_,?_]
 .rintro x ⟨k,hk,rfl⟩;refine#[h,vv cs k,_,_,rfl,hh,hg.v hk,∅,?_];show S.d (.bl (!decide (h<vv cs k)))=.d (.bl (!decide (h<vOf (.tup [qd (tt cs k),qd (vv cs k)]))));rw[Oc]
 intro a;refine#[_,_,c,rfl,Or.inl rfl,by rw[qAa];omega,by rw[qAa];exact hc,λi x hx=>?_,?_]
 .obtain⟨hi,rfl⟩:=DL hx;refine#[#[i,hi,rfl],?_];show(!decide (h<vOf (.tup [qd (tt cs i),qd (vv cs i)])))=_;rw[Oc];exact cut i hi
 obtain⟨z0,zk⟩:=Xl r hc cut;refine BY (λe=>?_) (λe=>?_)
 .exact q none (z0 ()) (λt z=>nomatch z)
 have hk:c=c-1+1:=();generalize c-1=k at hk;subst hk;obtain⟨y1,y2⟩:=zk k rfl;refine#[cs,m,h,k,?_,hc,hg,hh,λs=>q none (y1 s) (λt z=>nomatch z),λs=>q (some _) (y2 s) (λt z=>?_)]
 .show [S.d (crv cs m),.d (.int (((k+1:Nat):Int)-1)),.d (qd h)]=_;rw[show((k+1:Nat):Int)-1=(k:Int) from ()]
 .cases z;exact OC hg.2.1 r.o hc s hh
variable (GQ:Cal P w K mg base (CXU P w) 7 "passed" ["f","height"] Mj)
theorem BK:Ae ["f","g","gaps","best","gap"] ["f","g"] (Ac DI):=scN
include An AK AV in
theorem Ik (F:Fun K "tallest_point" "tallest_point" DI f fd):Ap P w K mg base CX0 9 f fd ["f","g"] (Ag K mg EJ):=by
 refine fn3 F BK (λss R U h=>?_) (λ_ _ _ _ _ _ _ R U hr h=>?_)
 .obtain⟨cs,m,ds,k,rfl,_⟩:=h;rfl
 obtain⟨cs,m,ds,k,rfl,zc,zd,q⟩:=h;refine#[_,(Aa (AA 2 BK (Ai hr AV (a1 (Ai hr AK (a2 (vN 0) (vN 1))))))
  (Aa (AA 3 BK (vK 2))
  (Aa (Ds (Bx PassesOwn.never rfl (Bl (PE3.out (Ur (vN 2) (J8 Ad) W4))) (AM (i:=4) BK.nd rfl (Or.inl rfl)) (Dt.out (Ah (BB (A6 (Ai hr An (a2 (vK 3) (vK 4)))) (Ah (AA 3 BK (vN 4))) Aj)))))
  (Ah (Di (pv 3)))))),?_]
 have oc:=zc.1.o;have od:=zd.1.o;have lc:=zc.2.2;have ld:=zd.2.2;refine#[cs,m,ds,k,1300,70,600,rfl,oc,od,(),(),zc.2.1,zd.2.1,∅,∅,∅,λts ht hl=>?_];have vz:∀i,i<↥ts->Sz 1971 (val cs m (T ts i))/\Sz 1971 (val ds k (T ts i)):=λi hi=>
  #[(zc.2.1.va (JZ ht hi) (U3 zc zd ht hi)).mono ∅,(zd.2.1.va (JZ ht hi) (U3 zc zd ht hi)).mono ∅]
 have gz:∀i,i<↥ts->Sz 3943 (gap cs m ds k (T ts i)):=λi hi=>((vz i hi).1.sub (vz i hi).2).mono ∅;refine#[_,cs,m,ds,k,ts,1971,rfl,Or.inr rfl,(),∅,vz,?_];have gl:=B3 (cs:=cs) (m:=m) (ds:=ds) (k:=k) (ts:=ts);have hp:0<(gcs cs m ds k ts).length:=by rw[gl];exact ht.ne
 refine atR (NK hp) ?_;obtain⟨e1,e2⟩:=Be (cs:=cs) (m:=m) (ds:=ds) (k:=k) ht.ne;rw[e1,e2];have ec:FV ((gcs cs m ds k ts).map cd) (some 1) none=((gcs cs m ds k ts).drop 1).map cd:=Xj hp;show JX _ (FV ((gcs cs m ds k ts).map cd) (some 1) none) _ _ _;rw[ec];refine#[λn τ=>∃(i:Nat)(y:Option S),τ=[some (.d (crv cs m)),some (.d (crv ds k)),some (.l ((gcs cs m ds k ts).map cd)),some (.d (.tup [qd (T ts i),qd (gap cs m ds k (T ts i))])),y]/\i<↥ts/\∀j,j<=n->j<↥ts->gap cs m ds k (T ts j)<=gap cs m ds k (T ts i),#[0,_,rfl,ht.ne,λj h _=>by rw[Nat.le_zero.mp h];exact qAb],?_,?_]
 .rintro n τ x hx ⟨i,y,rfl,hi,hj⟩;rw[qBX,qBo]at hx;obtain⟨h2,rfl⟩:=DL hx;rw[gl]at h2;obtain⟨e1,e2⟩:=Be (cs:=cs) (m:=m) (ds:=ds) (k:=k) h2;rw[e1,e2];refine#[_,_,_,_,rfl,gz i hi,gz _ h2,∅,?_];refine BY (λc=>#[1+n,_,rfl,h2,λj j1 jl=>?_]) (λc=>#[i,_,rfl,hi,λj j1 jl=>?_])
  .by_cases z:j<=n
   .exact qAm (hj j z jl) (qAj c)
   .rw[show j=1+n from ()];exact qAb
  .by_cases z:j<=n
   .exact hj j z jl
   .rw[show j=1+n from ()];exact qAI.mp c
 rintro τ ⟨i,y,rfl,hi,hj⟩;rw[qAa,qAP,gl]at hj;exact q ts i ht hi (λj jl=>hj j () jl) (gz i hi)
variable (CI:Cal P w K mg base (CXU P w) 9 "tallest_point" ["f","g"] EJ)
theorem PC:Ae ["f","g"] ["f","g"] (Ac IQ):=scN
include A5 gc_NOUGHT BN CI in
theorem Pl (F:Fun K "tallest" "tallest" IQ f fd):Ap P w K mg base CX0 10 f fd ["f","g"] (Ag K mg KJ):=by
 refine fn3 F PC (λss R U h=>?_) (λ_ _ _ _ _ _ _ R U hr h=>?_)
 .obtain⟨cs,m,ds,k,rfl,_⟩:=h;rfl
 obtain⟨cs,m,ds,k,rfl,zc,zd,q⟩:=h;refine#[_,(Aa (BB (A6 (Ai hr BN (a2 (vN 0) (vN 1)))) (A3 Jq) Aj)
  (A3 (Ai hr A5 (a2 (Jm rfl gc_NOUGHT) (A4 (Ai hr CI (a2 (vN 0) (vN 1))) Ad))))),?_]
 have oc:=zc.1.o;have od:=zd.1.o;have q1:k<m->R (.d .non):=λc=>q none c (λv e=>nomatch e);have q2:¬k<m->∀v,Tal cs m ds k v->Sz 3943 v->R (.d (qd v)):=λc v t z=>q (some v) #[c,t] (λv e=>by cases e;exact z);refine#[cs,m,ds,k,rfl,(zc.2.1.m oc).mono ∅,(zd.2.1.m od).mono ∅,?_];refine BY (λc=>q1 c) (λc=>?_);refine#[cs,m,ds,k,rfl,zc,zd,λts i ht hi hj zv=>?_];refine#[0,gap cs m ds k (T ts i),_,_,rfl,(Sz.zero.mono ∅:Sz 3943 0),zv,∅,?_];by_cases c2:0<gap cs m ds k (T ts i)
 .rw[if_pos c2];exact q2 c _ (UK oc od ht hj ⋯ (qAj c2) (.inr #[i,hi,rfl])) zv
 .rw[if_neg c2];exact q2 c 0 (UK oc od ht (λj h=>qAm (hj j h) (qAI.mp c2)) ⋯ qAb (.inl rfl)) (Sz.zero.mono ∅)
variable (Hd:Cal P w K mg base (CXU P w) 10 "tallest" ["f","g"] KJ)
theorem Pz:Ae ["one","other"] ["one","other"] (Ac Jz):=scN
include Ax gc_NOUGHT in
theorem Pt (F:Fun K "between" "between" Jz f fd):Ap P w K mg base CX0 4 f fd ["one","other"] (Ag K mg KH):=by
 refine fn3 F Pz (λss R U h=>?_) (λ_ _ _ _ _ _ _ R U hr h=>?_)
 .obtain⟨a,b,rfl,_⟩:=h;rfl
 obtain⟨a,b,rfl,za,zb,q⟩:=h;refine#[_,(Yw (BB (PW3.pt (L8 (Cu S4 (vN 0) Jq) (FR (Cu S4 (vN 1) Jq)))) (A3 (Jm rfl gc_NOUGHT)) Aj)
  (A3 (Ai hr Ax (a2 (vN 1) (vN 0))))),?_]
 cases a with
 |none=>exact#[False,q,λz=>z.elim]
 |some x=>
  cases b with
  |none=>exact#[False,q,λz=>z.elim]
  |some y=>exact#[True,#[rfl,trivial],λ_=>#[y,x,_,_,rfl,zb y rfl,za x rfl,∅,q]]
variable (Fs:Cal P w K mg base (CXU P w) 4 "between" ["one","other"] KH)
theorem HJ:Ae ["f","g","height","reaching","passing"] ["f","g","height"] (Ac Jx):=scN
include A5 Dg GQ Fs in
theorem PZ (F:Fun K "wide_at" "wide_at" Jx f fd):Ap P w K mg base CX0 8 f fd ["f","g","height"] (Ag K mg KB):=by
 refine fn3 F HJ (λss R U h=>?_) (λ_ _ _ _ _ _ _ R U hr h=>?_)
 .obtain⟨cs,m,ds,k,h,rfl,_⟩:=h;rfl
 obtain⟨cs,m,ds,k,h,rfl,zc,zd,zh,q⟩:=h;refine#[_,(Aa (AA 3 HJ (Ai hr Fs (a2 (Ai hr Dg (a2 (vN 0) (vN 2))) (Ai hr Dg (a2 (vN 1) (vN 2))))))
  (Aa (AA 4 HJ (Ai hr Fs (a2 (Ai hr GQ (a2 (vN 0) (vN 2))) (Ai hr GQ (a2 (vN 1) (vN 2))))))
  (A3 (Ai hr A5 (a2 (vN 3) (vN 4)))))),?_]
 have bz:∀(a b:Option Rat),(∀t,a=some t->Sz 2642 t)->(∀t,b=some t->Sz 2642 t)->Sz 5285 (btw a b):=λa b za zb=>by
  cases a with
  |none=>rw[show btw none b=0 by cases b<;>rfl];exact Sz.zero.mono ∅
  |some x=>
   cases b with
   |none=>exact Sz.zero.mono ∅
   |some y=>exact((zb y rfl).sub (za x rfl)).mono ∅
 refine#[cs,m,h,rfl,zc,zh,λrf hrf zrf=>?_];refine#[ds,k,h,rfl,zd,zh,λrg hrg zrg=>?_];refine#[rf,rg,rfl,zrf,zrg,?_];refine#[cs,m,h,rfl,zc,zh,λpf hpf zpf=>?_];refine#[ds,k,h,rfl,zd,zh,λpg hpg zpg=>?_];refine#[pf,pg,rfl,zpf,zpg,?_];have b1:=bz rf rg zrf zrg;have b2:=bz pf pg zpf zpg;exact#[_,_,_,_,rfl,b1,b2,∅,q rf rg pf pg hrf hrg hpf hpg b1 b2]
variable (G6:Cal P w K mg base (CXU P w) 8 "wide_at" ["f","g","height"] KB)
theorem GA:Ae ["f","g","found","corner"] ["f","g"] (Ac Lj):=scN
include A5 gc_NOUGHT BN Dg G6 in
theorem RF (F:Fun K "widest" "widest" Lj f fd):Ap P w K mg base CX0 9 f fd ["f","g"] (Ag K mg Mc):=by
 refine fn3 F GA (λss R U h=>?_) (λ_ _ _ _ _ _ _ R U hr h=>?_)
 .obtain⟨cs,m,ds,k,rfl,_⟩:=h;rfl
 obtain⟨cs,m,ds,k,rfl,zc,zd,q⟩:=h;refine#[_,(Yw (BB (PW3.pt (L8 (A6 (Ai hr BN (a2 (vN 0) (vN 1)))) (FR (Cu S4 (Ai hr Dg (a2 (vN 1) (A4 (A4 (vK 0) (Gg Ad)) Ad))) Jq)))) (A3 Jq) Aj)
  (Aa (AA 2 GA (Jm rfl gc_NOUGHT))
  (Aa (Ds (Bx PassesOwn.never rfl (Bl (PE3.out (Ke J7 (vK 0) (vK 1)))) (AM (i:=3) GA.nd rfl (Or.inl rfl)) (Dt.out (Ah (AA 2 GA (Ai hr A5 (a2 (vN 2) (Ai hr G6 (AQ (vN 0) (a2 (vN 1) (vK 3)))))))))))
  (Ah (Di (pv 2)))))),?_]
 have r:=zc.1;have s:=zd.1;have lc:=zc.2.2;have ld:=zd.2.2;have q1:(k<m\/(k=0/\vv ds (↥ds-1)<vv cs (↥cs-1)))->R (.d .non):=λc=>q none c (λv e=>nomatch e);have q2:¬(k<m\/(k=0/\vv ds (↥ds-1)<vv cs (↥cs-1)))->∀v,Wid cs m ds k v->Sz 5285 v->R (.d (qd v)):=λc v t z=>q (some v) #[c,t] (λv e=>by cases e;exact z);have nc:=r.o.ne;have zl:=zc.v (show ↥cs-1<↥cs from ());refine#[¬(k<m\/(k=0/\vv ds (↥ds-1)<vv cs (↥cs-1))),?_,λne=>?_]
 .refine#[cs,m,ds,k,rfl,(zc.2.1.m r.o).mono ∅,(zd.2.1.m s.o).mono ∅,?_];refine BY (λc=>q1 (.inl c)) (λc=>?_);refine atR (QU (cs:=cs) 1 ∅ nc) ?_;refine#[ds,k,_,rfl,zd,zl,λrr hr zr=>?_];cases rr with
  |none=>exact q1 (.inr ((Nb s).1 hr))
  |some t=>exact#[rfl,λe=>e.elim c ((Nb s).2 t hr)]
 have mk:m<=k:=qAI.mp (λz=>ne (.inl z));have ne2:¬(k=0/\vv ds (↥ds-1)<vv cs (↥cs-1)):=λz=>ne (.inr z);have nn:cs.map cd≠[]:=λz=>by
  have:=congrArg List.length z;rw[qAa]at this;exact absurd nc (by rw[this];decide)
 refine#[nn,by rw[qAa,qAa];omega,?_];rw[<-qAL];refine#[λn τ=>∃(d:Rat)(y:Option S),τ=[some (.d (crv cs m)),some (.d (crv ds k)),some (.d (qd d)),y]/\0<=d/\Sz 5285 d/\(∀(j:Nat)(c:Rat×Rat),j<n->(cs++ds)[j]? = some c->∃rf rg pf pg,Rch cs m c.2 rf/\Rch ds k c.2 rg/\Psd cs m c.2 pf/\Psd ds k c.2 pg/\btw rf rg<=d/\btw pf pg<=d)/\(d=0\/∃h rf rg,d=btw rf rg/\((Rch cs m h rf/\Rch ds k h rg)\/(Psd cs m h rf/\Psd ds k h rg))),#[0,_,rfl,qAb,Sz.zero.mono ∅,λj c hj=>absurd hj (qBf j),.inl rfl],?_,?_]
 .rintro n τ x hx ⟨d,y,rfl,d0,zd',hj,ha⟩;obtain⟨c,hc,rfl⟩:=Bs hx;have zh:Sz 1971 c.2:=by
   rcases qAq.mp (qAB hc) with h|h
   .obtain⟨i,hi,rfl⟩:=qBa.mp h;rw[<-(Ci hi).2];exact zc.v hi
   .obtain⟨i,hi,rfl⟩:=qBa.mp h;rw[<-(Ci hi).2];exact zd.v hi
  refine#[cs,m,ds,k,c.2,rfl,zc,zd,zh,λrf rg pf pg h1 h2 h3 h4 z1 z2=>?_];obtain⟨m1,m2,m3⟩:=GP (btw rf rg) (btw pf pg);have zm:Sz 5285 (mx (btw rf rg) (btw pf pg)):=by
   rcases m3 with e|e
   .rw[e];exact z1
   .rw[e];exact z2
  refine#[d,_,_,_,rfl,zd',zm,∅,?_];rw[show(if d<mx (btw rf rg) (btw pf pg) then mx (btw rf rg) (btw pf pg) else d)=mx d (mx (btw rf rg) (btw pf pg)) from rfl];obtain⟨n1,n2,n3⟩:=GP d (mx (btw rf rg) (btw pf pg));refine#[_,_,rfl,qAm d0 n1,by rcases n3 with e|e<;>rw[e]<;>assumption,λj c' j1 ej=>?_,?_]
  .by_cases z:j<n
   .obtain⟨a,b,c,e,i1,i2,i3,i4,i5,i6⟩:=hj j c' z ej;exact#[a,b,c,e,i1,i2,i3,i4,qAm i5 n1,qAm i6 n1]
   .have:j=n:=();subst this;rw[hc]at ej;cases ej;exact#[rf,rg,pf,pg,h1,h2,h3,h4,qAm m1 n2,qAm m2 n2]
  .rcases n3 with e|e
   .rw[e];exact ha
   .rw[e];rcases m3 with e'|e'
    .exact .inr #[c.2,rf,rg,e',.inl #[h1,h2]]
    .exact .inr #[c.2,pf,pg,e',.inr #[h3,h4]]
 rintro τ ⟨d,y,rfl,d0,zd',hj,ha⟩;rw[qAa]at hj;refine q2 ne d (XQ r s mk d0 ne2 (λc cm=>?_) ha) zd';obtain⟨j,ej⟩:=List.mem_iff_getElem?.mp cm;exact hj j c (qAf.mp ej).1 ej
variable (IE:Cal P w K mg base (CXU P w) 9 "widest" ["f","g"] Mc)
theorem E7:Ae ["point","slope","base"] ["point","slope"] (Ac Ed):=scN
include Ax Gq in
theorem Jy (F:Fun K "line_through" "line_through" Ed f fd):Ap P w K mg base CX0 4 f fd ["point","slope"] (Ag K mg Fg):=by
 refine fn3 F E7 (λss R U h=>?_) (λ_ _ _ _ _ _ _ R U hr h=>?_)
 .obtain⟨c,m,n,rfl,_⟩:=h;rfl
 obtain⟨c,m,n,rfl,z1,z2,zm,hn,q⟩:=h;refine#[_,(Aa (AA 2 E7 (Ai hr Ax (a2 (vK 0) (Ai hr Gq (a2 (vN 1) (vK 0))))))
  (A3 (A9 (AQ (Ak AL (vK 1) (vK 2)) (a2 (Ak AL (vK 2) (vK 1)) (Ak AL (vK 1) (vK 2))))))),?_]
 refine#[m,c.1,n,n,rfl,zm,z1,(),?_];have zt:=zm.mul z1;refine#[c.2,m*c.1,n,n+n,rfl,z2,zt,(),?_];have zb:Sz (n+(n+n)+1) (c.2-m*c.1):=z2.sub zt;exact#[AN zm.1 (AG zb) (),AN zb.1 (AG zm) (),AN (AG zm) (AG zb) (),by show 3<=1000;decide,q]
variable (CZ:Cal P w K mg base (CXU P w) 4 "line_through" ["point","slope"] Fg)
theorem HR:Ae ["f","slopes"] ["f"] (Ac EA):=scN
variable (NR:mg "zip"=none)
include Am CZ NR in
theorem MP (F:Fun K "pieces_of" "pieces_of" EA f fd):Ap P w K mg base CX0 6 f fd ["f"] (Ag K mg HV):=by
 refine fn3 F HR (λss R U h=>?_) (λ_ _ _ _ _ _ _ R U hr h=>?_)
 .obtain⟨cs,m,a,b,c,rfl,_⟩:=h;rfl
 obtain⟨cs,m,a,b,c,rfl,o,z,hs,hl,q⟩:=h;refine#[_,(Aa (AA 1 HR (Ai hr Am (a2 (vK 0) (vK 0))))
  (A3 (WI (N:=["corner","slope"]) (idx:=[]) (Ec.mk' (Ac EA) ["f","slopes"] rfl rfl (by decide +kernel)) rfl (U5 rfl NR (PA3.out (a2 (vK 0) (vN 1)))) (λcl C s₀ H₀ fp=>(A9 (a2 (vK 0) (Ai hr CZ (a2 (vN 0) (vN 1))))))))),?_]
 have kc:SzK 1800 cs m:=z.szk o () hs;refine#[cs,m,rfl,o.ne,(),kc.cs.mono ∅,o.up,?_];refine#[_,_,cs.map cd,(Hu cs m).map qd,rfl,rfl,Or.inl rfl,(Dk cs m).map rpD,?_,?_,?_,q]
 .rw[qAa,qAa,qAa,Dl,Du,Nat.min_self]
 .intro n x y hx hy;obtain⟨hn,rfl⟩:=DL hx;obtain⟨hn2,rfl⟩:=Wl hy;have zl:=z.ln o n hn;refine#[(tt cs n,vv cs n),slp cs m n,1800,rfl,(kc.cs n hn).1,(kc.cs n hn).2,zl.1.mono (),∅,by show 2<=1000;decide,?_];show((Dk cs m).map rpD)[n]? = _;rw[qAd,E4 hn];rfl
 .rw[qAa,Dl];omega
variable (DG:Cal P w K mg base (CXU P w) 6 "pieces_of" ["f"] HV)
theorem HQ:Ae ["begin","line","value"] ["begin","line"] (Ac Gb):=scN
include Bm in
theorem MR (F:Fun K "corner_of" "corner_of" Gb f fd):Ap P w K mg base CX0 3 f fd ["begin","line"] (Ag K mg HW):=by
 refine fn3 F HQ (λss R U h=>?_) (λ_ _ _ _ _ _ _ R U hr h=>?_)
 .obtain⟨p,q,k,m,rfl,_⟩:=h;rfl
 obtain⟨p,q0,k,m,rfl,w,hk,q⟩:=h;refine#[_,(Aa (AA 2 HQ (Ai hr Bm (a2 (Ak Bf (Ak AL (vK 1) (vK 0)) (Ak AL (vK 1) (vK 0))) (Ak AL (vK 1) (vK 0)))))
  (A3 (A9 (a2 (Ai hr Bm (a2 (vK 0) (vK 0))) (vN 2))))),?_]
 obtain⟨e1,e2⟩:=IW w;have wa:=w.l.at_ w.t;refine#[AN w.l.s.la w.t.la (),AN w.l.c.la w.t.lb (),AN w.l.s.lb w.t.lb (),_,_,rfl,λz=>absurd wa.pos (by rw[z];decide),Bc wa.la (),Bc wa.lb (),?_];refine#[_,_,rfl,λz=>absurd w.t.pos (by rw[z];decide),Bc w.t.la (),Bc w.t.lb (),?_];refine#[by show 2<=1000;decide,?_];rw[e1,e2];exact q
variable (Ep:Cal P w K mg base (CXU P w) 3 "corner_of" ["begin","line"] HW)
theorem Jd:Ae ["pieces","last"] ["pieces"] (Ac FJ):=scN
include Bm BE Ep in
theorem NU (F:Fun K "curve_of" "curve_of" FJ f fd):Ap P w K mg base CX0 7 f fd ["pieces"] (Ag K mg Jh):=by
 refine fnW (λss R U h=>?_) (fn3 F Jd (λss R U h=>?_) (λ_ _ _ _ _ _ _ R U hr h=>?_))
 .obtain⟨x,ps,P,k,m,rfl,hx,pl,n0,hl,hk,zd,o,m0,q⟩:=h;rcases hx with rfl|rfl<;>exact#[_,ps,P,k,m,rfl,(.inl rfl),pl,n0,hl,hk,zd,o,m0,q]
 .obtain⟨x,ps,P,k,m,rfl,_⟩:=h.1;rfl
 obtain⟨h,nl_⟩:=h;obtain⟨x,ps,P,k,m,rfl,hx,pl,n0,hl,hk,zd,o,m0,q⟩:=h;refine#[_,(Aa (AA 1 Jd (A4 (A4 (vN 0) (Gg Ad)) Ad))
  (A3 (Ai hr BE (a2 (Fi (N:=["piece"]) (idx:=[]) (Ba.mk' (Ac FJ) ["pieces","last"] rfl rfl (by decide +kernel)) rfl (Bl (PE3.out (vN 0))) CT (λcl C s₀ H₀ fp=>Cc) (λcl C s₀ H₀ fp=>(Ai hr Ep (a2 (vK 0) (vK 0))))) (Ai hr Bm (a2 (vK 1) (vK 1))))))),?_]
 obtain rfl:=J1 hx (nl_ _ (by simp));have len:=pl.len;have hw:∀i,i<↥ps->PW1 k m (ps.getD i dfR) (bg P i,ln P i):=λi hi=>by
  obtain⟨r,h1,h2⟩:=pl.get (BS hi);obtain⟨e1,e2⟩:=G5 h1;rw[e1,e2];exact h2
 refine atR (U2 (ps:=ps) n0) ?_;refine#[ps.map λp=>some (cd (Rat.divInt p.1.1 p.1.2,Rat.divInt (p.2.1*p.1.1+p.2.2.1*p.1.2) (p.2.2.2*p.1.2))),?_,?_,?_,?_]
 .rw[qAa,qAa]
 .intro i x hx;have hi:i<↥ps:=by have:=(qAf.mp hx).1;rw[qAa]at this;exact this
  rw[qAd,BS hi]at hx;cases hx;refine#[ps.getD i dfR,(bg P i,ln P i),k,m,rfl,hw i hi,(),?_];show(ps.map _)[i]? = _;rw[qAd,BS hi];have ce:=IW (hw i hi);show some (some (cd (Rat.divInt (ps.getD i dfR).1.1 (ps.getD i dfR).1.2,_)))=_;rw[ce.1,ce.2]
 .rw[qAa];omega
 have ef:(ps.map λp=>some (cd (Rat.divInt p.1.1 p.1.2,Rat.divInt (p.2.1*p.1.1+p.2.2.1*p.1.2) (p.2.2.2*p.1.2)))).filterMap id=(Ih P).map cd:=by
  rw[GB (f:=λp:RP=>cd (Rat.divInt p.1.1 p.1.2,Rat.divInt (p.2.1*p.1.1+p.2.2.1*p.1.2) (p.2.2.2*p.1.2)))];refine qCr λi=>?_;by_cases hi:i<↥ps
  .have ce:=IW (hw i hi);unfold Ih;rw[qAd,qAd,qAd,BS hi];have g:=qAc (show i<↥P from ());rw[g];obtain⟨e1,e2⟩:=G5 g;show some (cd (Rat.divInt (ps.getD i dfR).1.1 (ps.getD i dfR).1.2,_))=some (cd (_,_));rw[ce.1,ce.2,e1,e2]
  .rw[qAR.mpr (by rw[qAa];omega),qAR.mpr (by rw[qAa,BV];omega)]
 rw[ef];have wl:=hw (↥ps-1) ();have el:Rat.divInt (ps.getD (↥ps-1) dfR).2.1 (ps.getD (↥ps-1) dfR).2.2.2=(ln P (↥P-1)).1:=by
  rw[<-len];exact Ko wl.l.s
 refine#[_,_,rfl,λz=>absurd wl.l.s.pos (by rw[z];decide),Bc wl.l.s.la (),Bc wl.l.s.lb (),?_];rw[el];refine#[_,Ih P,(ln P (↥P-1)).1,rfl,Or.inr rfl,zd,λ_=>?_,λz=>absurd #[o,m0] z];rw[BV];exact q
variable (FK:Cal P w K mg base (CXU P w) 7 "curve_of" ["pieces"] Jh)
theorem L5:Ae ["t","way"] ["t","way"] (Ac Fe):=scN
theorem K9 (F:Fun K "moved_time" "moved_time" Fe f fd):Ap P w K mg base CX0 1 f fd ["t","way"] (Ag K mg G8):=by
 refine fn3 F L5 (λss R U h=>?_) (λ_ _ _ _ _ _ _ R U hr h=>?_)
 .obtain⟨a,b,wn,wd,t,w,m,n,rfl,_⟩:=h;rfl
 obtain⟨a,b,wn,wd,t,w,m,n,rfl,h,hw,hm,hn,q⟩:=h;refine#[_,(A3 (A9 (a2 (Ak Bf (Ak AL (vK 0) (vK 1)) (Ak AL (vK 1) (vK 0))) (Ak AL (vK 0) (vK 1))))),?_];exact#[AN h.la hw.lb (),AN hw.la h.lb (),AN h.lb hw.lb (),by show 2<=1000;decide,q]
variable (D7:Cal P w K mg base (CXU P w) 1 "moved_time" ["t","way"] G8)
theorem CA:Ae ["line","point","way","more","both","base"] ["line","point"] (Ac EO):=scN
theorem Lx (F:Fun K "moved_line" "moved_line" EO f fd):Ap P w K mg base CX0 1 f fd ["line","point"] (Ag K mg GJ):=by
 refine fn3 F CA (λss R U h=>?_) (λ_ _ _ _ _ _ _ R U hr h=>?_)
 .obtain⟨l,q,wn,wd,vn,vd,w,v,k,m,rfl,_⟩:=h;rfl
 obtain⟨l,q0,wn,wd,vn,vd,w,v,k,m,rfl,h,hw,hv,hk,hm,q⟩:=h;refine#[_,(Aa (AA 2 CA (vK 1))
  (Aa (AA 3 CA (vK 1))
  (Aa (AA 4 CA (Ak AL (vK 2) (vK 3)))
  (Aa (AA 5 CA (Ak Bf (Ak CW (Ak AL (vK 0) (vN 4)) (Ak AL (Ak AL (vK 0) (vK 2)) (vK 3))) (Ak AL (Ak AL (vK 0) (vK 3)) (vK 2))))
  (A3 (A9 (AQ (Ak AL (vK 0) (vN 4)) (a2 (vN 5) (Ak AL (vK 0) (vN 4)))))))))),?_]
 have b:=Aq hw.lb hv.lb;exact#[AN hw.lb hv.lb (),AN h.c.la b (),AN h.s.la hw.la (),AN (Aq h.s.la hw.la) hv.lb (),AN h.s.lb hv.la (),AN (Aq h.s.lb hv.la) hw.lb (),AN h.s.la b (),AN h.s.lb b (),by show 3<=1000;decide,q]
variable (DU:Cal P w K mg base (CXU P w) 1 "moved_line" ["line","point"] GJ)
theorem VY:Ae ["pieces","point"] ["pieces","point"] (Ac O4):=scN
include D7 DU in
theorem Wb (F:Fun K "laid" "laid" O4 f fd):Ap P w K mg base CX0 2 f fd ["pieces","point"] (Ag K mg Qe):=by
 refine fnW (λss R U h=>?_) (fn3 F VY (λss R U h=>?_) (λ_ _ _ _ _ _ _ R U hr h=>?_))
 .obtain⟨x,ps,P,wn,wd,vn,vd,w,v,k,m,n,rfl,hx,h,hw,hv,hk,hm,hn,hl,q⟩:=h;rcases hx with rfl|rfl<;>exact#[_,ps,P,wn,wd,vn,vd,w,v,k,m,n,rfl,(.inl rfl),h,hw,hv,hk,hm,hn,hl,q]
 .obtain⟨x,ps,P,wn,wd,vn,vd,w,v,k,m,n,rfl,_⟩:=h.1;rfl
 obtain⟨h,nl_⟩:=h;obtain⟨x,ps,P,wn,wd,vn,vd,w,v,k,m,n,rfl,hx,h,hw,hv,hk,hm,hn,hl,q⟩:=h;refine#[_,(A3 (Fi (N:=["piece","point"]) (idx:=[1]) (Ba.mk' (Ac O4) ["pieces","point"] rfl rfl (by decide +kernel)) rfl (Bl (PE3.out (vN 0))) CT (λcl C s₀ H₀ fp=>Cc) (λcl C s₀ H₀ fp=>(A9 (a2 (Ai hr D7 (a2 (vK 0) (vK 1))) (Ai hr DU (a2 (vK 0) (vN 1)))))))),?_];obtain rfl:=J1 hx (nl_ _ (by simp));refine#[ps.map λp=>some (rpD (mvR wn wd vn vd p)),by rw[qAa,qAa],?_,?_,?_]
 .intro i x hx;rw[qAd]at hx;cases hp:ps[i]? with
  |none=>rw[hp]at hx;cases hx
  |some p=>
   rw[hp]at hx;cases hx;obtain⟨q0,_,w0⟩:=h.get hp;refine#[p.1.1,p.1.2,wn,wd,_,_,m,n,rfl,w0.t,hw,(),(),?_];refine#[p.2,_,wn,wd,vn,vd,_,_,k,n,rfl,w0.l,hw,hv,(),(),?_];refine#[by show 2<=1000;decide,?_];show(ps.map _)[i]? = _;rw[qAd,hp];rfl
 .rw[qAa];exact hl
 rw[GB];rw[qA3]at q;exact q
variable (Mp:Cal P w K mg base (CXU P w) 2 "laid" ["pieces","point"] Qe)
theorem Pg:Ae ["pieces"] ["pieces"] (Ac GD):=scN
theorem PH (F:Fun K "flipped" "flipped" GD f fd):Ap P w K mg base CX0 1 f fd ["pieces"] (Ag K mg KP):=by
 refine fnW (λss R U h=>?_) (fn3 F Pg (λss R U h=>?_) (λ_ _ _ _ _ _ _ R U hr h=>?_))
 .obtain⟨x,ps,rfl,hx,hl,q⟩:=h;rcases hx with rfl|rfl<;>exact#[_,ps,rfl,(.inl rfl),hl,q]
 .obtain⟨x,ps,rfl,_⟩:=h.1;rfl
 obtain⟨h,nl_⟩:=h;obtain⟨x,ps,rfl,hx,hl,q⟩:=h;refine#[_,(A3 (Fi (N:=["piece"]) (idx:=[]) (Ba.mk' (Ac GD) ["pieces"] rfl rfl (by decide +kernel)) rfl (Bl (PE3.out (vN 0))) CT (λcl C s₀ H₀ fp=>Cc) (λcl C s₀ H₀ fp=>(A9 (a2 (vK 0) (A9 (AQ (Gg (A4 (vK 0) Ad)) (a2 (Gg (A4 (vK 0) Ad)) (A4 (vK 0) Ad))))))))),?_];obtain rfl:=J1 hx (nl_ _ (by simp));refine#[ps.map λp=>some (rpD (flR p)),by rw[qAa,qAa],?_,?_,?_]
 .intro i x hx;rw[qAd]at hx;cases hp:ps[i]? with
  |none=>rw[hp]at hx;cases hx
  |some p=>
   rw[hp]at hx;cases hx;refine#[by show 3<=1000;decide,by show 2<=1000;decide,?_];show(ps.map _)[i]? = _;rw[qAd,hp];rfl
 .rw[qAa];exact hl
 rw[GB];rw[qA3]at q;exact q
variable (Fc:Cal P w K mg base (CXU P w) 1 "flipped" ["pieces"] KP)
theorem Hh:Ae ["pieces","far","begins","told","first"] ["pieces","far"] (Ac Gu):=scN
include Ax gc_NOUGHT NR in
theorem RZ (F:Fun K "turned" "turned" Gu f fd):Ap P w K mg base CX0 4 f fd ["pieces","far"] (Ag K mg M1):=by
 refine fn3 F Hh (λss R U h=>?_) (λ_ _ _ _ _ _ _ R U hr h=>?_)
 .obtain⟨cs,m,far,n,rfl,_⟩:=h;rfl
 obtain⟨cs,m,far,n,rfl,n0,hl,zt,zf,hn,q⟩:=h;refine#[_,(Aa (AA 2 Hh (Ke J7 (Fi (N:=["piece"]) (idx:=[]) (Ba.mk' (Ac Gu) ["pieces","far","begins","told","first"] rfl rfl (by decide +kernel)) rfl (Bl (PE3.out (Ur (vN 0) (J8 Ad) W4))) CT (λcl C s₀ H₀ fp=>Cc) (λcl C s₀ H₀ fp=>(Ai hr Ax (a2 (Jm rfl gc_NOUGHT) (vK 0))))) (FO (a1 (Ai hr Ax (a2 (Jm rfl gc_NOUGHT) (vN 1)))))))
  (Aa (XU (i:=3) (N:=["begin","piece"]) (idx:=[]) (Ec.mk' (Ac Gu) ["pieces","far","begins","told","first"] rfl rfl (by decide +kernel)) rfl (U5 rfl NR (PA3.out (a2 (vN 2) (vN 0)))) (λcl C s₀ H₀ fp=>(A9 (a2 (vN 0) (A9 (AQ (Gg (A4 (vK 1) Ad)) (a2 (A4 (vK 1) Ad) (A4 (vK 1) Ad))))))) Hh.nd rfl (Or.inl rfl))
  (Aa (AA 4 Hh (A4 (vK 0) Ad))
  (A3 (Ke J7 (Z3 (vN 3) (Gg Ad)) (FO (a1 (A9 (a2 (Jm rfl gc_NOUGHT) (A9 (AQ Ad (a2 (vK 4) (vK 4))))))))))))),?_]
 have rl:=Dl (cs:=cs) (m:=m);have ec:FV ((Dk cs m).map rpD) (some 1) none=((Dk cs m).drop 1).map rpD:=Wf (h:=1) ();have gt:∀j,j+1<↥cs->((Dk cs m).drop 1)[j]? = some (qr (tt cs (j+1)),Od (slp cs m (j+1)) (vv cs (j+1)-slp cs m (j+1)*tt cs (j+1))):=λj hj=>by
  rw[qBo,qB2 1 j,E4 hj]
 refine#[(List.range (↥cs-1)).map λj=>some (qd (0-tt cs (j+1))),?_,?_,?_,?_]
 .show _=(FV ((Dk cs m).map rpD) (some 1) none).length;rw[ec,qAa,qAa,qAz,qAP,rl]
 .intro j x hx;have hx:(FV ((Dk cs m).map rpD) (some 1) none)[j]? = some x:=hx;rw[ec]at hx;have hj:j+1<↥cs:=by have:=(qAf.mp hx).1;rw[qAa,qAP,rl]at this;omega
  rw[qAd,gt j hj]at hx;cases hx;refine#[0,tt cs (j+1),1,n,rfl,Sz.zero,zt _ hj,(),?_];show((List.range (↥cs-1)).map _)[j]? = _;rw[qAd,qAJ ()];rfl
 .show(FV ((Dk cs m).map rpD) (some 1) none).length<=_;rw[ec,qAa,qAP,rl];omega
 have ef:((List.range (↥cs-1)).map λj=>some (qd (0-tt cs (j+1)))).filterMap id=(List.range (↥cs-1)).map λj=>qd (0-tt cs (j+1)):=GB;rw[ef];refine#[0,far,1,n,rfl,Sz.zero,zf,(),?_];refine#[by show 1<=1000;decide,?_];refine#[by rw[qAa,qAz];show ↥cs-1+1<=_;omega,?_];generalize eB:(List.range (↥cs-1)).map (λj=>qd (0-tt cs (j+1)))++[qd (0-far)]=bs;have bl:↥bs=↥cs:=by rw[<-eB];simp;omega
 have bg':∀j,j<↥cs->bs[j]? = some (qd (if j+1<↥cs then 0-tt cs (j+1) else 0-far)):=λj hj=>by
  rw[<-eB];by_cases c:j+1<↥cs
  .rw[qAt (by simp;omega),qAd,qAJ (),if_pos c];rfl
  .rw[qAw (by simp;omega),if_neg c];have:j-((List.range (↥cs-1)).map λj=>qd (0-tt cs (j+1))).length=0:=by simp;omega
   rw[this];rfl
 refine#[_,_,bs,(Dk cs m).map rpD,rfl,rfl,Or.inr rfl,(List.range ↥cs).map (λk=>rpD ((qr (if k+1<↥cs then 0-tt cs (k+1) else 0-far),(-(Od (slp cs m k) (vv cs k-slp cs m k*tt cs k)).1,(Od (slp cs m k) (vv cs k-slp cs m k*tt cs k)).2)):RP)),?_,?_,?_,?_]
 .rw[qAa,qAz,qAa,rl,bl,Nat.min_self]
 .intro j x y hx hy;have hj:j<↥cs:=by have:=(qAf.mp hx).1;omega
  rw[bg' j hj]at hx;rw[qAd,E4 hj]at hy;cases hx;cases hy;refine#[by show 3<=1000;decide,by show 2<=1000;decide,?_];show((List.range ↥cs).map _)[j]? = _;rw[qAd,qAJ hj];rfl
 .rw[qAa,qAz];omega
 refine atR (IZ (ps:=Dk cs m) (i:=0) 0 rfl ()) ?_;have e0:(Dk cs m).getD 0 dfR=(qr (tt cs 0),Od (slp cs m 0) (vv cs 0-slp cs m 0*tt cs 0)):=by
  rw[qAe,E4 n0];rfl
 rw[e0];refine#[_,Or.inl rfl,rfl,?_];refine#[by show 3<=1000;decide,by show 2<=1000;decide,by show 1<=1000;decide,?_];refine#[by rw[qBw,qAa,qAz];show ↥cs+1<=_;omega,?_];have eQ:(trR cs m far).map rpD=((List.range ↥cs).map (λk=>rpD ((qr (if k+1<↥cs then 0-tt cs (k+1) else 0-far),(-(Od (slp cs m k) (vv cs k-slp cs m k*tt cs k)).1,(Od (slp cs m k) (vv cs k-slp cs m k*tt cs k)).2)):RP))).reverse++[rpD ((0,1),(0,(Od (slp cs m 0) (vv cs 0-slp cs m 0*tt cs 0)).2))]:=by
  unfold trR;rw[qAL,List.map_reverse,qA3];rfl
 rw[eQ]at q;exact q
variable (Iz:Cal P w K mg base (CXU P w) 4 "turned" ["pieces","far"] M1)
theorem FX:Ae ["pieces","begun"] ["pieces"] (Ac DC):=scN
include A8 gc_NOUGHT Ar in
theorem Ki (F:Fun K "from_nought" "from_nought" DC f fd){cA cT:Addr}(ht_:W.tabIn K "from_nought"=some (cA,cT))(hn_:rA K "from_nought" f)(hp_:(PyProof.Rows.recsOf P).any (λd=>d.name == "from_nought")=true):Ap P w K mg base CX0 6 f fd ["pieces"] (Ag K mg FY):=by
 refine Yg ht_ hn_ F FX (λss R U h=>?_) (λcdv A outer s H E ss R U ec hr h=>?_)
 .obtain⟨ps,P,k,m,c,rfl,_⟩:=h;rfl
 subst ec;obtain⟨ps,P,k,m,c,rfl,pl,hl,hm,c0,c1,b1,b2,q⟩:=h;refine#[_,(Aa (AA 1 FX (Ip (x:="piece") Ar (hr.mono ∅) rfl ht_ hp_ rfl (Ba.mk' (Ac DC) ["pieces","begun"] rfl rfl (by decide +kernel) (N:=["piece"]) (idx:=[])) (vN 0) (λcl nm a cdv A outer s H hr=>(QG (Ai hr A8 (a2 (Jm rfl gc_NOUGHT) (vK 0)))))))
  (A3 (Ke J7 (FO (a1 (A9 (a2 (Jm rfl gc_NOUGHT) (A4 (A4 (vN 0) (Ak CW (vN 1) Ad)) Ad))))) (Ur (vN 0) (J8 (vN 1)) W4)))),?_]
 have len:=pl.len;have hw:∀i,i<↥ps->Wq m (ps.getD i dfR).1.1 (ps.getD i dfR).1.2 (bg P i):=λi hi=>(pl.lnw (BS hi)).2.1;refine#[λx=>∃i,i<↥ps/\x=rpD (ps.getD i dfR),λx=>!decide (0<SG x),?_,?_]
 .rintro x ⟨i,hi,rfl⟩;refine#[_,_,_,_,0,bg P i,1,m,rfl,Wq.of Sz.zero,hw i hi,∅,(),?_];show S.d (.bl (!decide (0<bg P i)))=.d (.bl (!decide (0<SG (rpD (ps.getD i dfR)))));rw[Hv (hw i hi)]
 intro a;refine#[_,ps.map rpD,c,rfl,Or.inr (Or.inr rfl),by rw[qAa];omega,by rw[qAa];omega,λi x hx=>?_,?_]
 .have hi:i<↥ps:=by have:=(qAf.mp hx).1;rw[qAa]at this;exact this
  rw[qAd,BS hi]at hx;cases hx;refine#[#[i,hi,rfl],?_];show(!decide (0<SG (rpD (ps.getD i dfR))))=_;rw[Hv (hw i hi)];by_cases z:i<c
  .have:=b1 i z;rw[decide_eq_true z,decide_eq_false ⋯];rfl
  .have:=b2 i () ();rw[decide_eq_false z,decide_eq_true this];rfl
 refine atR (IZ (ps:=ps) (i:=(c:Int)-1) (c-1) () ()) ?_;refine#[by show 2<=1000;decide,by show 1<=1000;decide,?_];have ec:FV (ps.map rpD) (some (c:Int)) none=(ps.drop c).map rpD:=Wf ();refine#[by rw[ec,qAa,qAP];show 1+_<=_;omega,?_];rw[ec];exact q
variable (CJ:Cal P w K mg base (CXU P w) 6 "from_nought" ["pieces"] FY)
theorem DQ:Ae ["one_or_two","first","second"] ["one_or_two"] (Ac Eb):=scN
include A8 in
theorem Jw (F:Fun K "sooner_begin" "sooner_begin" Eb f fd):Ap P w K mg base CX0 2 f fd ["one_or_two"] (Ag K mg Fp):=by
 refine fn3 F DQ (λss R U h=>?_) (λ_ _ _ _ _ _ _ R U hr h=>?_)
 .obtain⟨xs,p,q,s,t,m,rfl,_⟩:=h;rfl
 obtain⟨xs,p,q0,s,t,m,rfl,n0,rfl,rfl,w1,w2,hm,q⟩:=h;refine#[_,(Aa (AA 1 DQ (A4 (vK 0) Ad))
  (Aa (AA 2 DQ (A4 (A4 (vN 0) (Gg Ad)) Ad))
  (Aa (BB (A6 (Ai hr A8 (a2 (vN 2) (vN 1)))) (Ah (Di (pv 2))) Aj)
  (Ah (Di (pv 1)))))),?_]
 refine atR (IZ (ps:=xs) (i:=0) 0 rfl n0) ?_;refine atR (U2 (ps:=xs) n0) ?_;refine#[_,_,_,_,t,s,m,m,rfl,w2,w1,(),(),?_];refine BY (λc=>?_) (λc=>?_)
 .rw[if_pos c]at q;exact q
 .rw[if_neg c]at q;exact q
variable (C3:Cal P w K mg base (CXU P w) 2 "sooner_begin" ["one_or_two"] Fp)
theorem Bd:Ae ["pieces","others","first","one","other","rows","begin"] ["pieces","others"] (Ac C5):=scN
include A8 AH Ar C3 in
theorem JO (F:Fun K "side_by_side" "side_by_side" C5 f fd){cA cT:Addr}(ht_:W.tabIn K "side_by_side"=some (cA,cT))(hn_:rA K "side_by_side" f)(hp_:(PyProof.Rows.recsOf P).any (λd=>d.name == "side_by_side")=true):Ap P w K mg base CX0 6 f fd ["pieces","others"] (Ag K mg ER):=by
 refine fnW (λss R U h=>?_) (Yg ht_ hn_ F Bd (λss R U h=>?_) (λcdv A outer s H E ss R U ec hr h=>?_))
 .obtain⟨y,ps,os,P,O,k,m,c,rfl,hy,pl,ol,o0,uP,uO,hm,hl,c0,c1,b1,b2,q⟩:=h;rcases hy with rfl|rfl<;>exact#[_,ps,os,P,O,k,m,c,rfl,(.inl rfl),pl,ol,o0,uP,uO,hm,hl,c0,c1,b1,b2,q]
 .obtain⟨y,ps,os,P,O,k,m,c,rfl,_⟩:=h.1;rfl
 subst ec;obtain⟨h,nl_⟩:=h;obtain⟨y,ps,os,P,O,k,m,c,rfl,hy,pl,ol,o0,uP,uO,hm,hl,c0,c1,b1,b2,q⟩:=h;refine#[_,(Aa (AA 2 Bd (A4 (vK 1) Ad))
  (Aa (AA 3 Bd (Ak CW (Ip (x:="piece") Ar (hr.mono ∅) rfl ht_ hp_ rfl (Ba.mk' (Ac C5) ["pieces","others","first","one","other","rows","begin"] rfl rfl (by decide +kernel) (N:=["piece","first"]) (idx:=[2])) (vN 0) (λcl nm a cdv A outer s H hr=>(QG (Ai hr A8 (a2 (vN 1) (vK 0)))))) Ad))
  (Aa (AA 4 Bd Ad)
  (Aa (AA 5 Bd (FO (a1 (A9 (AQ (vN 2) (a2 (A4 (A4 (vN 0) (vN 3)) Ad) (A4 (A4 (vN 1) (vN 4)) Ad)))))))
  (Aa (Hr PassesOwn.never (PW3.pt (L8 (Cu Ku (Ak Bf (vN 3) Ad) (CO AH (vN 0))) (FR (Cu Ku (Ak Bf (vN 4) Ad) (CO AH (vN 1)))))) (Aa (AA 6 Bd (Ai hr C3 (a1 (Ke J7 (Ur (vN 0) (J8 (Ak Bf (vN 3) Ad)) (J8 (Ak Bf (vN 3) Ad))) (Ur (vN 1) (J8 (Ak Bf (vN 4) Ad)) (J8 (Ak Bf (vN 4) Ad)))))))
  (Cy (BB (PW3.pt (Ib (Cu Ku (Ak Bf (vN 3) Ad) (CO AH (vN 0))) (EI (w_not (A6 (Ai hr A8 (a2 (vN 6) (A4 (A4 (vN 0) (Ak Bf (vN 3) Ad)) Ad)))))))) (Ah (Ox (i:=3) Bd.nd rfl (Or.inl rfl) Ad)) Aj)
  (Cy (BB (PW3.pt (Ib (Cu Ku (Ak Bf (vN 4) Ad) (CO AH (vN 1))) (EI (w_not (A6 (Ai hr A8 (a2 (vN 6) (A4 (A4 (vN 1) (Ak Bf (vN 4) Ad)) Ad)))))))) (Ah (Ox (i:=4) Bd.nd rfl (Or.inl rfl) Ad)) Aj)
  (Ah (EU (BF (Fn qAH qAC qAD AY (pv 5) (A7 (PE3.out (A9 (AQ (vN 6) (a2 (A4 (A4 (vN 0) (vN 3)) Ad) (A4 (A4 (vN 1) (vN 4)) Ad))))) BL)))))))))
  (Ah (Di (pv 5)))))))),?_]
 have l1:=pl.len;have l2:=ol.len;have wP:∀i,i<↥ps->Wq m (ps.getD i dfR).1.1 (ps.getD i dfR).1.2 (bg P i):=λi hi=>(pl.lnw (BS hi)).2.1;have wO:∀i,i<↥os->Wq m (os.getD i dfR).1.1 (os.getD i dfR).1.2 (bg O i):=λi hi=>(ol.lnw (BS hi)).2.1;obtain rfl:=J1 hy (nl_ _ (by simp));refine atR (IZ (ps:=os) (i:=0) 0 rfl ()) ?_;refine#[λx=>∃i,i<↥ps/\x=rpD (ps.getD i dfR),λx=>!decide (bg O 0<SG x),?_,?_]
 .rintro x ⟨i,hi,rfl⟩;refine#[_,_,_,_,bg O 0,bg P i,m,m,rfl,wO 0 (),wP i hi,(),(),?_];show S.d (.bl (!decide (bg O 0<bg P i)))=.d (.bl (!decide (bg O 0<SG (rpD (ps.getD i dfR)))));rw[Hv (wP i hi)]
 intro a;refine#[_,ps.map rpD,c,rfl,Or.inr (Or.inl rfl),by rw[qAa];omega,by rw[qAa];omega,λi x hx=>?_,?_]
 .have hi:i<↥ps:=by have:=(qAf.mp hx).1;rw[qAa]at this;exact this
  rw[qAd,BS hi]at hx;cases hx;refine#[#[i,hi,rfl],?_];show(!decide (bg O 0<SG (rpD (ps.getD i dfR))))=_;rw[Hv (wP i hi)];by_cases z:i<c
  .have:=b1 i z;rw[decide_eq_true z,decide_eq_false ⋯];rfl
  .have:=b2 i () ();rw[decide_eq_false z,decide_eq_true this];rfl
 have ec:((c:Int)-1)=((c-1:Nat):Int):=();refine atR (IZ (ps:=ps) (i:=(c:Int)-1) (c-1) ec ()) ?_;refine atR (IZ (ps:=os) (i:=0) 0 rfl ()) ?_;refine#[by show 3<=1000;decide,by show 1<=1000;decide,?_];have s1:Sn P O m [((os.getD 0 dfR).1,c-1,0)]:=Sn.one (wO 0 ()) () o0 (b1 _ ()) (λz=>b2 _ () z) (λz=>uO 0 z);refine#[λmm τ=>∃(rw0:List R4)(i0 j0:Nat)(y6:Option S),τ=[some (.r (ps.map rpD)),some (.r (os.map rpD)),some (.d (tp (os.getD 0 dfR).1.1 (os.getD 0 dfR).1.2)),I (i0:Int),I (j0:Int),some (.l (rw0.map (VH ps os))),y6]/\Sn P O m rw0/\iF' rw0 (↥rw0-1)=i0/\jF rw0 (↥rw0-1)=j0/\mm=(↥P-i0)+(↥O-j0),#[_,[((os.getD 0 dfR).1,c-1,0)],c-1,0,none,by rw[<-ec];rfl,s1,rfl,rfl,rfl],?_];rintro mm τ ⟨rw0,i0,j0,y6,rfl,sb,ei0,ej0,rfl⟩;have hi0:i0<↥P:=by rw[<-ei0];exact sb.iP _ (by have:=sb.n0;omega)
 have hj0:j0<↥O:=by rw[<-ej0];exact sb.jO _ (by have:=sb.n0;omega)
 refine BY (λc1=>?_) (λc1=>BY (λc2=>?_) (λc2=>?_))
 rotate_left 2
 .rw[qAa]at c1 c2;exact q rw0 sb (by rw[ei0];omega) (by rw[ej0];omega)
 all_goals
  have hc:i0+1<↥P\/j0+1<↥O:=by first|(rw[qAa]at c2;omega)|(rw[qAa]at c1;omega)
  obtain⟨p,q0,s,t,x,tm,x0,hp,hq,w1,w2,et,wx,x1,x2,x3⟩:=cY pl ol (i:=i0) (j:=j0) hc;refine#[by rw[K5 (xs:=ps) (j:=i0) () (),K5 (xs:=os) (j:=j0) () (),qAa,qAa,qAZ,qAZ];omega,?_];refine#[(ps.drop (i0+1)).take 1++(os.drop (j0+1)).take 1,p,q0,s,t,m,by rw[K5 (xs:=ps) (j:=i0) () (),K5 (xs:=os) (j:=j0) () (),<-qAL];rfl,x0,hp,hq,w1,w2,hm,?_];rw[et];obtain⟨i',ei'⟩:∃i',i'=if i0+1<↥P/\¬x<bg P (i0+1) then i0+1 else i0:=#[_,rfl]
  obtain⟨j',ej'⟩:∃j',j'=if j0+1<↥O/\¬x<bg O (j0+1) then j0+1 else j0:=#[_,rfl]
  refine#[λτ=>τ=[some (.r (ps.map rpD)),some (.r (os.map rpD)),some (.d (tp (os.getD 0 dfR).1.1 (os.getD 0 dfR).1.2)),I (i':Int),I (j0:Int),some (.l (rw0.map (VH ps os))),some (.d (tp tm.1 tm.2))],?_,?_]
  .refine BY (λc1=>?_) (λc1=>iF ?_)
   .rw[qAa]at c1;refine atR (IZ (ps:=ps) (i0+1) () ()) ?_;refine#[_,_,_,_,x,bg P (i0+1),m,m,rfl,wx,(pl.lnw (BS (show i0+1<↥ps from ()))).2.1,(),(),?_];refine KN (λc2=>?_) (λc2=>?_)
    .rw[if_pos #[(),c2]]at ei';rw[ei'];rfl
    .rw[if_neg (λz=>z.2 c2)]at ei';rw[ei'];rfl
   .rw[qAa]at c1;rw[if_neg (λz=>c1 ())]at ei';rw[ei'];rfl
  rintro τ rfl;refine#[λτ=>τ=[some (.r (ps.map rpD)),some (.r (os.map rpD)),some (.d (tp (os.getD 0 dfR).1.1 (os.getD 0 dfR).1.2)),I (i':Int),I (j':Int),some (.l (rw0.map (VH ps os))),some (.d (tp tm.1 tm.2))],?_,?_]
  .refine BY (λc1=>?_) (λc1=>iF ?_)
   .rw[qAa]at c1;refine atR (IZ (ps:=os) (j0+1) () ()) ?_;refine#[_,_,_,_,x,bg O (j0+1),m,m,rfl,wx,(ol.lnw (BS (show j0+1<↥os from ()))).2.1,(),(),?_];refine KN (λc2=>?_) (λc2=>?_)
    .rw[if_pos #[(),c2]]at ej';rw[ej'];rfl
    .rw[if_neg (λz=>z.2 c2)]at ej';rw[ej'];rfl
   .rw[qAa]at c1;rw[if_neg (λz=>c1 ())]at ej';rw[ej'];rfl
  rintro τ rfl;have st:=sb.step uP uO (tm:=tm) (x:=x) (i':=i') (j':=j') wx (by rw[ei0];exact x1) (by rw[ej0];exact x2) (by rw[ei0,ej0];exact x3) (by rw[ei0];exact ei') (by rw[ej0];exact ej');have hl':(rw0++[(tm,i',j')]).length-1=↥rw0:=by simp
  have ii:=aZ (rw:=rw0) (r:=(tm,i',j'));have iP':=st.iP ↥rw0 (by simp);have jO':=st.jO ↥rw0 (by simp);rw[ii.2.1]at iP';rw[ii.2.2.1]at jO';have iP':i'<↥P:=iP';have jO':j'<↥O:=jO';have st':=st.cnt;rw[hl',ii.2.1,ii.2.2.1]at st';have st':(rw0++[(tm,i',j')]).length+iF' (rw0++[(tm,i',j')]) 0<=i'+j'+1+iF' (rw0++[(tm,i',j')]) 0:=st';have dec:i0+j0<i'+j':=by
   rcases x3 with⟨z1,z2⟩|⟨z1,z2⟩
   .rw[if_pos #[z1,by rw[z2];exact qA8]]at ei';split at ej'<;>omega
   .rw[if_pos #[z1,by rw[z2];exact qA8]]at ej';split at ei'<;>omega
  refine atR (IZ (ps:=ps) i' rfl ()) ?_;refine atR (IZ (ps:=os) j' rfl ()) ?_;rw[qAp]at st';have st':↥rw0+1+iF' (rw0++[(tm,i',j')]) 0<=i'+j'+1+iF' (rw0++[(tm,i',j')]) 0:=st';refine#[by show 3<=1000;decide,by rw[qAa];omega,?_];refine#[(↥P-i')+(↥O-j'),(),rw0++[(tm,i',j')],i',j',_,by rw[qAL];rfl,st,by rw[hl'];exact ii.2.1,by rw[hl'];exact ii.2.2.1,rfl]
variable (C2:Cal P w K mg base (CXU P w) 6 "side_by_side" ["pieces","others"] ER)
theorem V6:Ae ["number"] ["number"] (Ac Qk):=scN
theorem VT (F:Fun K "sign" "sign" Qk f fd):Ap P w K mg base CX0 1 f fd ["number"] (Ag K mg Q5):=by
 refine fn3 F V6 (λss R U h=>?_) (λ_ _ _ _ _ _ _ R U hr h=>?_)
 .obtain⟨a,rfl,_⟩:=h;rfl
 obtain⟨a,rfl,q⟩:=h;refine#[_,(Aa (BB (Cu Ku (vN 0) Ad) (A3 (Gg Ad)) Aj)
  (Aa (BB (Cu YD (vN 0) Ad) (A3 Ad) Aj)
  (A3 Ad))),?_]
 refine BY (λc=>?_) (λc=>?_)
 .rw[qBW c]at q;exact q
 refine BY (λc2=>?_) (λc2=>?_)
 .rw[qB6 c2]at q;exact q
 .have:a=0:=();subst this;exact q
variable (JU:Cal P w K mg base (CXU P w) 1 "sign" ["number"] Q5)
theorem VZ:Ae ["one","other","t"] ["one","other","t"] (Ac RT):=scN
include JU in
theorem WC (F:Fun K "side" "side" RT f fd):Ap P w K mg base CX0 2 f fd ["one","other","t"] (Ag K mg QK):=by
 refine fn3 F VZ (λss R U h=>?_) (λ_ _ _ _ _ _ _ R U hr h=>?_)
 .obtain⟨l1,l2,tn,td,q1,q2,t,k,m,rfl,_⟩:=h;rfl
 obtain⟨l1,l2,tn,td,q1,q2,t,k,m,rfl,h1,h2,w,hk,hm,q⟩:=h;refine#[_,(A3 (Ai hr JU (a1 (Ak CW (Ak AL (Ak Bf (Ak AL (vK 0) (vK 2)) (Ak AL (vK 0) (vK 2))) (vK 1)) (Ak AL (Ak Bf (Ak AL (vK 1) (vK 2)) (Ak AL (vK 1) (vK 2))) (vK 0)))))),?_];have a1:=HU (Aq h1.s.la w.la) (Aq h1.c.la w.lb);have a2:=HU (Aq h2.s.la w.la) (Aq h2.c.la w.lb);refine#[AN h1.s.la w.la (),AN h1.c.la w.lb (),AN a1 h2.s.lb (),AN h2.s.la w.la (),AN h2.c.la w.lb (),AN a2 h1.s.lb (),_,rfl,?_];rw[VV h1 h2 w];exact q
variable (Ot:Cal P w K mg base (CXU P w) 2 "side" ["one","other","t"] QK)
theorem WD:Ae ["one","other"] ["one","other"] (Ac Sl):=scN
include JU in
theorem Vh (F:Fun K "lean" "lean" Sl f fd):Ap P w K mg base CX0 2 f fd ["one","other"] (Ag K mg RV):=by
 refine fn3 F WD (λss R U h=>?_) (λ_ _ _ _ _ _ _ R U hr h=>?_)
 .obtain⟨l1,l2,q1,q2,k,rfl,_⟩:=h;rfl
 obtain⟨l1,l2,q1,q2,k,rfl,h1,h2,hk,q⟩:=h;refine#[_,(A3 (Ai hr JU (a1 (Ak CW (Ak AL (vK 0) (vK 1)) (Ak AL (vK 1) (vK 0)))))),?_];refine#[AN h1.s.la h2.s.lb (),AN h2.s.la h1.s.lb (),_,rfl,?_];rw[Wa h1 h2];exact q
variable (Og:Cal P w K mg base (CXU P w) 2 "lean" ["one","other"] RV)
theorem ME:Ae ["told","begin","line"] ["told","begin","line"] (Ac Gn):=scN
theorem Mm (F:Fun K "add_piece" "add_piece" Gn f fd):Ap P w K mg base CX0 1 f fd ["told","begin","line"] (P1 K DS):=by
 refine fnM F ME (λxs ds R h=>?_) (λcdv A outer s H E a xs ds R hr h=>?_)
 .obtain⟨ps,p,rfl,rfl,_⟩:=h;rfl
 obtain⟨ps,p,rfl,rfl,hl,q⟩:=h;refine#[_,(Ah (BB (PW3.pt (L8 (w_not (ZU (pv 0))) (FR (Cu (TV 1 (hu_ hr ∅)) (A4 (A4 (vN 0) (Gg Ad)) Ad) (vN 2))))) (Ah (EU (BF (Fn qAH qAC qAD AY (pv 0) (A7 (PE3.out (A9 (a2 (vN 1) (vN 2)))) BL))))) Aj)),?_];rcases qBq ↥ps with z|z
 .have z:=qAT z;subst z;exact#[by show 2<=1000;decide,∅,_,rfl,q _ (Or.inl #[rfl,λq' h=>by cases h])]
 have hg:ps[↥ps-1]? = some (ps[↥ps-1]' ()):=qAc _;have e:(List.map rpD ps).isEmpty=false:=by
  cases ps with
  |nil=>cases z
  |cons _ _=>rfl
 refine iF ?_ (congrArg (λb=>!(!b)) e);refine atR (Ls hg) ?_;refine#[rfl,rfl,?_];refine cR (λc=>?_) (λc=>?_)
 .have:=q _ (Or.inl #[rfl,λq' h=>by rw[hg]at h;cases h;exact c]);rw[qAL]at this;exact#[by show 2<=1000;decide,by rw[qAa];omega,_,rfl,this]
 .exact#[_,rfl,q _ (Or.inr #[rfl,_,hg,c])]
variable (Cw:Y2 P w K mg base 1 "add_piece" ["told","begin","line"] DS)
theorem NA:Ae ["one","other"] ["one","other"] (Ac HF):=scN
include Bm in
theorem Nh (F:Fun K "crossing" "crossing" HF f fd):Ap P w K mg base CX0 3 f fd ["one","other"] (Ag K mg JM):=by
 refine fn3 F NA (λss R U h=>?_) (λ_ _ _ _ _ _ _ R U hr h=>?_)
 .obtain⟨l1,l2,q1,q2,k,rfl,_⟩:=h;rfl
 obtain⟨l1,l2,q1,q2,k,rfl,h1,h2,hk,ne,q⟩:=h;refine#[_,(A3 (Ai hr Bm (a2 (Ak CW (Ak AL (vK 1) (vK 0)) (Ak AL (vK 0) (vK 1))) (Ak CW (Ak AL (vK 0) (vK 1)) (Ak AL (vK 1) (vK 0)))))),?_];obtain⟨n,e⟩:=OJ h1 h2 ne;refine#[AN h2.c.la h1.s.lb (),AN h1.c.la h2.s.lb (),AN h1.s.la h2.s.lb (),AN h2.s.la h1.s.lb (),_,_,rfl,n,Bc (GI (Aq h2.c.la h1.s.lb) (Aq h1.c.la h2.s.lb)) (),Bc (GI (Aq h1.s.la h2.s.lb) (Aq h2.s.la h1.s.lb)) (),?_];rw[e];exact q
variable (Ei:Cal P w K mg base (CXU P w) 3 "crossing" ["one","other"] JM)
theorem EN:Ae ["told","row","now","then","one","other"] ["told","row","now","then"] (Ac Gj):=scN
include Cw Ei in
theorem MH (F:Fun K "add_lower" "add_lower" Gj f fd):Ap P w K mg base CX0 4 f fd ["told","row","now","then"] (P1 K H4):=by
 refine fnM F EN (λxs ds R h=>?_) (λcdv A outer s H E a xs ds R hr h=>?_)
 .obtain⟨ps,tm,l1,l2,now,thn,q1,q2,k,rfl,rfl,_⟩:=h;rfl
 obtain⟨ps,tm,l1,l2,now,thn,q1,q2,k,rfl,rfl,h1,h2,hk,hx,hl,q⟩:=h;refine#[_,(Aa (AA 4 EN (vK 1))
  (Aa (AA 5 EN (vK 1))
  (Cy (BB (PW3.pt (L8 (Cu Ku (vN 2) Ad) (FR (PW3.pt (Ib (Cu Im (vN 2) Ad) (EI (Cu Ku (vN 3) Ad))))))) (Ah (JP Cw (hr.mono ∅) rfl (pv 0) (a2 (vK 1) (vN 4)))) (Ah (JP Cw (hr.mono ∅) rfl (pv 0) (a2 (vK 1) (vN 5)))))
  (Cy (BB (PW3.pt (Ib (Cu Ku (vN 2) Ad) (EI (Cu YD (vN 3) Ad)))) (Ah (JP Cw (hr.mono ∅) rfl (pv 0) (a2 (Ai hr Ei (a2 (vN 4) (vN 5))) (vN 5)))) Aj)
  (Ah (BB (PW3.pt (Ib (Cu YD (vN 2) Ad) (EI (Cu Ku (vN 3) Ad)))) (Ah (JP Cw (hr.mono ∅) rfl (pv 0) (a2 (Ai hr Ei (a2 (vN 4) (vN 5))) (vN 4)))) Aj)))))),?_]
 refine#[λτ=>∃ps1:List RP,τ=[some (.l (ps1.map rpD)),some (.d (.tup [.tup [.int tm.1,.int tm.2],lnD l1,lnD l2])),I now,I thn,some (.d (lnD l1)),some (.d (lnD l2))]/\(if now<0\/(now=0/\thn<0) then M8 ps (tm,l1) ps1 else M8 ps (tm,l2) ps1),?_,?_]
 .have one:(now<0\/(now=0/\thn<0))->DS (ps.map rpD) [.tup [.int tm.1,.int tm.2],lnD l1] λys=>∃ps1:List RP,[some (.l ys),some (.d (.tup [.tup [.int tm.1,.int tm.2],lnD l1,lnD l2])),I now,I thn,some (.d (lnD l1)),some (.d (lnD l2))]=[some (.l (ps1.map rpD)),some (.d (.tup [.tup [.int tm.1,.int tm.2],lnD l1,lnD l2])),I now,I thn,some (.d (lnD l1)),some (.d (lnD l2))]/\(if now<0\/(now=0/\thn<0) then M8 ps (tm,l1) ps1 else M8 ps (tm,l2) ps1):=λc=>#[ps,(tm,l1),rfl,rfl,(),λps' a=>#[ps',rfl,by rw[if_pos c];exact a]];have two:¬(now<0\/(now=0/\thn<0))->DS (ps.map rpD) [.tup [.int tm.1,.int tm.2],lnD l2] λys=>∃ps1:List RP,[some (.l ys),some (.d (.tup [.tup [.int tm.1,.int tm.2],lnD l1,lnD l2])),I now,I thn,some (.d (lnD l1)),some (.d (lnD l2))]=[some (.l (ps1.map rpD)),some (.d (.tup [.tup [.int tm.1,.int tm.2],lnD l1,lnD l2])),I now,I thn,some (.d (lnD l1)),some (.d (lnD l2))]/\(if now<0\/(now=0/\thn<0) then M8 ps (tm,l1) ps1 else M8 ps (tm,l2) ps1):=λc=>#[ps,(tm,l2),rfl,rfl,(),λps' a=>#[ps',rfl,by rw[if_neg c];exact a]];refine BY (λc=>one (.inl c)) (λc=>?_);refine BY (λc2=>?_) (λc2=>two (λz=>z.elim c λz=>c2 z.1));exact BY (λc3=>one (.inr #[c2,c3])) (λc3=>two (λz=>z.elim c λz=>c3 z.2))
 rintro τ ⟨ps1,rfl,a1⟩;have hl1:↥ps1<=↥ps+1:=by split at a1<;>exact a1.len
 refine#[λτ=>∃ps2:List RP,τ=[some (.l (ps2.map rpD)),some (.d (.tup [.tup [.int tm.1,.int tm.2],lnD l1,lnD l2])),I now,I thn,some (.d (lnD l1)),some (.d (lnD l2))]/\(if now<0/\0<thn then M8 ps1 (((xg q1 q2).num,((xg q1 q2).den:Int)),l2) ps2 else ps2=ps1),?_,?_]
 .refine BY (λc=>?_) (λc=>#[ps1,rfl,by rw[if_neg (λz=>c z.1)]]);refine BY (λc2=>?_) (λc2=>#[ps1,rfl,by rw[if_neg (λz=>c2 z.2)]]);refine#[l1,l2,q1,q2,k,rfl,h1,h2,hk,hx (.inl #[c,c2]),?_];exact#[ps1,(((xg q1 q2).num,((xg q1 q2).den:Int)),l2),rfl,rfl,(),λps' a=>#[ps',rfl,by rw[if_pos #[c,c2]];exact a]]
 rintro τ ⟨ps2,rfl,a2⟩;have hl2:↥ps2<=↥ps1+1:=by
  split at a2
  .exact a2.len
  .rw[a2];omega
 have fin:∀ps',(if 0<now/\thn<0 then M8 ps2 (((xg q1 q2).num,((xg q1 q2).den:Int)),l1) ps' else ps'=ps2)->SZ ps tm l1 l2 now thn (xg q1 q2) ps':=λps' a=>by
  refine#[ps1,a1,?_];by_cases c:now<0/\0<thn
  .rw[if_pos c]at a2 ⊢;rw[if_neg ()]at a;rw[a];exact a2
  .rw[if_neg c]at a2 ⊢;rw[<-a2];exact a
 refine BY (λc=>?_) (λc=>#[_,rfl,q _ (fin _ (by rw[if_neg (λz=>c z.1)]))]);refine BY (λc2=>?_) (λc2=>#[_,rfl,q _ (fin _ (by rw[if_neg (λz=>c2 z.2)]))]);refine#[l1,l2,q1,q2,k,rfl,h1,h2,hk,hx (.inr #[c,c2]),?_];exact#[ps2,(((xg q1 q2).num,((xg q1 q2).den:Int)),l1),rfl,rfl,(),λps' a=>#[_,rfl,q _ (fin _ (by rw[if_pos #[c,c2]];exact a))]]
variable (Er:Y2 P w K mg base 4 "add_lower" ["told","row","now","then"] H4)
theorem CS:Ae ["pieces","others","begin","told","rows","sides","number","row"] ["pieces","others"] (Ac Ft):=scN
include A8 Ar Bv C2 Ot Og Er in
theorem Pd (F:Fun K "lowered" "lowered" Ft f fd){cA cT:Addr}(ht_:W.tabIn K "lowered"=some (cA,cT))(hn_:rA K "lowered" f)(hp_:(PyProof.Rows.recsOf P).any (λd=>d.name == "lowered")=true):Ap P w K mg base CX0 7 f fd ["pieces","others"] (Ag K mg KM):=by
 refine fnW (λss R U h=>?_) (Yg ht_ hn_ F CS (λss R U h=>?_) (λcdv A outer s H E ss R U ec hr h=>?_))
 .obtain⟨y,ps,os,P,O,B,S0,G,V,k,m,h,g,rfl,hy,⟨rP,p0,ol,pO,o0,sO,gO,ux,hkm,hm,hb,hj,hl,hn0⟩,q⟩:=h;rcases hy with rfl|rfl<;>exact#[_,ps,os,P,O,B,S0,G,V,k,m,h,g,rfl,(.inl rfl),#[rP,p0,ol,pO,o0,sO,gO,ux,hkm,hm,hb,hj,hl,hn0],q]
 .obtain⟨y,ps,os,P,O,B,S0,G,V,k,m,h,g,rfl,_⟩:=h.1;rfl
 subst ec;obtain⟨h,nl_⟩:=h;obtain⟨y,ps,os,P,O,B,S0,G,V,k,m,h,g,rfl,hy,⟨rP,p0,ol,pO,o0,sO,gO,ux,hkm,hm,hb,hj,hl,hn0⟩,q⟩:=h;refine#[_,(Aa (AA 2 CS (A4 (vK 1) Ad))
  (Aa (AA 3 CS (Ur (vN 0) W4 (J8 (Ip (x:="piece") Ar (hr.mono ∅) rfl ht_ hp_ rfl (Ba.mk' (Ac Ft) ["pieces","others","begin","told","rows","sides","number","row"] rfl rfl (by decide +kernel) (N:=["piece","begin"]) (idx:=[2])) (vN 0) (λcl nm a cdv A outer s H hr=>(Ai hr A8 (a2 (vK 0) (vN 1))))))))
  (Aa (AA 4 CS (Ai hr C2 (a2 (vN 0) (vN 1))))
  (Aa (JA (i:=5) (N:=["row"]) (idx:=[]) (Ba.mk' (Ac Ft) ["pieces","others","begin","told","rows","sides","number","row"] rfl rfl (by decide +kernel)) rfl (Bl (PE3.out (vN 4))) CT (λcl C s₀ H₀ fp=>Cc) (λcl C s₀ H₀ fp=>(Ai hr Ot (AQ (vK 0) (a2 (vK 0) (vK 0))))) CS.nd rfl (Or.inl rfl))
  (Aa (EU (BF (Fn qAH qAC qAD AY (pv 5) (A7 (PE3.out (Ai hr Og (a2 (A4 (A4 (vN 4) (Gg Ad)) Ad) (A4 (A4 (vN 4) (Gg Ad)) Ad)))) BL))))
  (Aa (QW (Bx PassesOwn.never rfl (Nd rfl Bv (pv 4)) (Oh rfl (DV (AM (i:=6) CS.nd rfl (Or.inl rfl)) (DV (AM (i:=7) CS.nd rfl (Or.inl rfl)) KW))) (Dt.out (Ah (JP Er (hr.mono ∅) rfl (pv 3) (AQ (vN 7) (a2 (A4 (vN 5) (vN 6)) (A4 (vN 5) (Ak Bf (vN 6) Ad)))))))))
  (Ah (Di (pv 3))))))))),?_]
 have pl:=rP.pl;have pP:=rP.pu;have uP:=pP.up;have uO:=pO.up;have l1:=pl.len;have l2:=ol.len;have wP:∀i,i<↥ps->Wq m (ps.getD i dfR).1.1 (ps.getD i dfR).1.2 (bg P i):=λi hi=>(pl.lnw (BS hi)).2.1;have wO:∀i,i<↥os->Wq m (os.getD i dfR).1.1 (os.getD i dfR).1.2 (bg O i):=λi hi=>(ol.lnw (BS hi)).2.1;obtain⟨c,cA0,cA1,cA2⟩:=Ui uP (bg O 0);obtain⟨d,d1,dB1,dB2⟩:=Qm uP (bg O 0);have cA3:c<↥P->bg O 0<=bg P c:=λz=>cA2 c (qAg _) z;have d0:0<d:=by
  rcases qBq d with z|z
  .have:=dB2 0 () p0;grind
  .exact z
 have hj0:0<c->h (bg O 0)<=g (bg O 0):=λz=>hj (cA1 0 z);obtain rfl:=J1 hy (nl_ _ (by simp));refine atR (IZ (ps:=os) (i:=0) 0 rfl ()) ?_;refine#[λx=>∃i,i<↥ps/\x=rpD (ps.getD i dfR),λx=>decide (SG x<bg O 0),?_,?_]
 .rintro x ⟨i,hi,rfl⟩;refine#[_,_,_,_,bg P i,bg O 0,m,m,rfl,wP i hi,wO 0 (),(),(),?_];show S.d (.bl (decide (bg P i<bg O 0)))=.d (.bl (decide (SG (rpD (ps.getD i dfR))<bg O 0)));rw[Hv (wP i hi)]
 intro a;refine#[_,ps.map rpD,c,rfl,Or.inr (Or.inl rfl),by rw[qAa];omega,by rw[qAa];omega,λi x hx=>?_,?_]
 .have hi:i<↥ps:=by have:=(qAf.mp hx).1;rw[qAa]at this;exact this
  rw[qAd,BS hi]at hx;cases hx;refine#[#[i,hi,rfl],?_];show decide (SG (rpD (ps.getD i dfR))<bg O 0)=_;rw[Hv (wP i hi)];refine decide_eq_decide.mpr #[λz=>?_,λz=>cA1 i z];by_cases y:i<c
  .exact y
  .have:=cA2 i () ();grind
 have ec:FV (ps.map rpD) none (some (c:Int))=(ps.take c).map rpD:=ZL ();refine#[_,ps,os,P,O,k,m,d,rfl,Or.inl rfl,pl,ol,o0,uP,uO,(),(),d0,d1,dB1,dB2,λrw0 sb e1 e2=>?_];have sA:=sb.all e1 e2;have nw:=sb.n0;have cn:=sb.cnt;have iL:=sb.iP (↥rw0-1) ();have jL:=sb.jO (↥rw0-1) ();have lw1:∀n,n<↥rw0->LW k (ps.getD (iF' rw0 n) dfR).2 (ln P (iF' rw0 n)):=λn hn=>(pl.lnw (BS (by have:=sb.iP n hn;omega))).1;have lw2:∀n,n<↥rw0->LW k (os.getD (jF rw0 n) dfR).2 (ln O (jF rw0 n)):=λn hn=>(ol.lnw (BS (by have:=sb.jO n hn;omega))).1;refine#[(List.range ↥rw0).map λn=>some (D.int (sg (ev (ln P (iF' rw0 n)) (aF rw0 n)-ev (ln O (jF rw0 n)) (aF rw0 n)))),?_,?_,?_,?_]
 .rw[qAa,qAa,qAz]
 .intro n x hx;have hn:n<↥rw0:=by have:=(qAf.mp hx).1;rw[qAa]at this;exact this
  rw[qAd,V7 hn]at hx;cases hx;refine#[_,_,_,_,_,_,aF rw0 n,k,m,rfl,lw1 n hn,lw2 n hn,sb.w n hn,(),(),?_];show((List.range ↥rw0).map _)[n]? = _;rw[qAd,qAJ hn];rfl
 .rw[qAa];omega
 have ef:((List.range ↥rw0).map λn=>some (D.int (sg (ev (ln P (iF' rw0 n)) (aF rw0 n)-ev (ln O (jF rw0 n)) (aF rw0 n))))).filterMap id=(List.range ↥rw0).map λn=>D.int (sg (ev (ln P (iF' rw0 n)) (aF rw0 n)-ev (ln O (jF rw0 n)) (aF rw0 n))):=GB;rw[ef];have eL:atI (rw0.map (VH ps os)) (-1)=some (VH ps os (tmF rw0 (↥rw0-1),iF' rw0 (↥rw0-1),jF rw0 (↥rw0-1))):=Ls (V7 ());refine atR eL ?_;refine atR eL ?_;refine#[_,_,_,_,k,rfl,lw1 _ (),lw2 _ (),(),?_];refine#[by rw[qAa,qAz];omega,?_];generalize eS:(List.range ↥rw0).map (λn=>D.int (sg (ev (ln P (iF' rw0 n)) (aF rw0 n)-ev (ln O (jF rw0 n)) (aF rw0 n))))++[D.int (sg ((ln P (iF' rw0 (↥rw0-1))).1-(ln O (jF rw0 (↥rw0-1))).1))]=sd;have sl:↥sd=↥rw0+1:=by rw[<-eS];simp
 have sNow:∀n,n<↥rw0->atI sd (n:Int)=some (D.int (sg (ev (ln P (iF' rw0 n)) (aF rw0 n)-ev (ln O (jF rw0 n)) (aF rw0 n)))):=λn hn=>by
  rw[CH.atI_nat (),<-eS,qAt (by simp;exact hn),qAd,qAJ hn];rfl
 have sThn:∀n,n<↥rw0->atI sd ((n:Int)+1)=some (D.int (sg (Ek (ln P (iF' rw0 n)) (ln O (jF rw0 n)) (TmN ↥rw0 (aF rw0) (n+1))))):=λn hn=>by
  by_cases z:n+1<↥rw0
  .rw[sA.thn pP pO z,show(n:Int)+1=((n+1:Nat):Int) from ()];exact sNow (n+1) z
  .have en:n=↥rw0-1:=();rw[show(n:Int)+1=((↥rw0:Nat):Int) from (),CH.atI_nat (),<-eS,qAw (by simp),en];have e9:TmN ↥rw0 (aF rw0) (↥rw0-1+1)=none:=if_neg ();rw[e9];simp;rfl
 refine#[λn τ=>∃(qs:List RP)(Q:Ps)(y6 y7:Option S),τ=[some (.r (ps.map rpD)),some (.r (os.map rpD)),some (.d (tp (os.getD 0 dfR).1.1 (os.getD 0 dfR).1.2)),some (.l (qs.map rpD)),some (.r (rw0.map (VH ps os))),some (.l sd),y6,y7]/\Ws B S0 G V k m ps os P O h g ↥rw0 (aF rw0) (iF' rw0) (jF rw0) n qs Q/\(n=0->qs=ps.take c),#[ps.take c,P.take c,none,none,by rw[<-ec];rfl,Ws.zero rP sA cA0 cA1 cA3 hj0,λ_=>rfl],?_,?_]
 .rintro n τ x hx ⟨qs,Q,y6,y7,rfl,li,z0⟩;have hn:n<↥rw0:=by have:=(qAf.mp hx).1;rw[qAa]at this;exact this
  rw[qAd,V7 hn]at hx;cases hx;have ql:↥qs<=90000:=by
   have q1:=li.r.cn.len;have q2:=li.r.pl.len;rw[qAp]at q1;have q3:(VW O).length=↥O:=qAa _;rw[q3]at q1;omega
  refine atR (sNow n hn) ?_;refine atR (sThn n hn) ?_;refine#[qs,tmF rw0 n,(ps.getD (iF' rw0 n) dfR).2,(os.getD (jF rw0 n) dfR).2,_,_,ln P (iF' rw0 n),ln O (jF rw0 n),k,rfl,rfl,lw1 n hn,lw2 n hn,(),λz=>?_,(),λqs' ad=>?_]
  .rcases z with⟨z1,z2⟩|⟨z1,z2⟩
   .exact(Jt (T:=TmN ↥rw0 (aF rw0) (n+1)) (a:=aF rw0 n) (by have:=Rj.mp z1;grind) (O7 (sA.lt hn) (QO.mp z2))).1
   .have:=(Jt (l1:=ln O (jF rw0 n)) (l2:=ln P (iF' rw0 n)) (T:=TmN ↥rw0 (aF rw0) (n+1)) (a:=aF rw0 n) (by have:=QO.mp z1;grind) (O7 (sA.lt hn) (by rw[HG];have:=Rj.mp z2;grind))).1;exact Ne.symm this
  obtain⟨Q',li'⟩:=li.step rP ol pO sO gO ux hkm sA hb hn (sb.w n hn) (BS (show iF' rw0 n<↥ps by have:=sb.iP n hn;omega)) (BS (show jF rw0 n<↥os by have:=sb.jO n hn;omega)) ad (λz y=>by
   have t0:=z0 z;rw[y]at t0;have c0':c=0:=by
    have:(ps.take c).length=0:=by rw[<-t0];rfl
    rw[qAZ]at this;omega
   have:=cA2 0 () p0;grind)
  exact#[qs',Q',_,_,rfl,li',λz=>absurd z ()]
 rintro τ ⟨qs,Q,y6,y7,rfl,li,_⟩;rw[qAa]at li;have r:=li.r;have e9:TmN ↥rw0 (aF rw0) ↥rw0=none:=if_neg ();rw[e9]at r;have lb:=li.b.2 nw;exact q qs Q r (by rw[<-r.pl.len];exact List.length_pos_iff.mpr lb.1) lb.2
variable (ES:Cal P w K mg base (CXU P w) 7 "lowered" ["pieces","others"] KM)
theorem FN:Ae ["g"] ["g"] (Ac Cp):=scN
include B9 in
theorem FP (F:Fun K "begin_and_steeper" "begin_and_steeper" Cp f fd):Ap P w K mg base CX0 7 f fd ["g"] (Ag K mg Dr):=by
 refine fn3 F FN (λss R U h=>?_) (λ_ _ _ _ _ _ _ R U hr h=>?_)
 .obtain⟨cs,m,a,b,c,rfl,_⟩:=h;rfl
 obtain⟨cs,m,a,b,c,rfl,o,z,hs,hl,q⟩:=h;refine#[_,(A3 (Ke J7 (FO (a1 (A4 (vK 0) Ad))) (Ai hr B9 (a1 (vN 0))))),?_];have sl:(stI cs m).length<=↥cs:=by
  unfold CH.stI;rw[qAa];have:=qBE (λn=>decide (slp cs m n<slp cs m (n+1))) (List.range (↥cs-1));rw[qAz]at this;omega
 refine atR (BC (cs:=cs) (i:=0) 0 rfl o.ne) ?_;refine#[by show 1<=1000;decide,?_];refine#[cs,m,a,b,c,rfl,o,z,hs,hl,?_];refine#[by rw[qAa];show 1+(stI cs m).length<=_;omega,?_];exact q
variable (BD:Cal P w K mg base (CXU P w) 7 "begin_and_steeper" ["g"] Dr)
theorem Dc:Ae ["f","g","ones","others","found","corner"] ["f","g"] (Ac K3):=scN
include FU Ax gc_NOUGHT B4 BN DG FK Mp Fc Iz CJ ES BD in
theorem QD (F:Fun K "undone" "undone" K3 f fd):Ap P w K mg base CX0 8 f fd ["f","g"] (Ag K mg MX):=by
 refine fn3 F Dc (λss R U h=>?_) (λ_ _ _ _ _ _ _ R U hr h=>?_)
 .obtain⟨fc,fm,gc,gm,a,b,c,N,S0,rfl,_⟩:=h;rfl
 obtain⟨fc,fm,gc,gm,a,b,c,N,S0,rfl,⟨rf,rg,zf,zg,hb,hz,hn,hN,sf,sg,s0,fl,gl⟩,qn,q⟩:=h;refine#[_,(Aa (BB (A6 (Ai hr BN (a2 (vN 0) (vN 1)))) (A3 Jq) Aj)
  (Aa (AA 2 Dc (Ai hr Fc (a1 (Ai hr DG (a1 (vN 0))))))
  (Aa (AA 3 Dc (Ai hr Iz (a2 (Ai hr DG (a1 (vN 1))) (Ai hr FU (a2 (A4 (A4 (vK 0) (Gg Ad)) Ad) (A4 (A4 (vK 1) (Gg Ad)) Ad))))))
  (Aa (AA 4 Dc (FO (a1 (A9 (a2 (Jm rfl gc_NOUGHT) (A9 (AQ Ad (a2 Ad Ad))))))))
  (Aa (Ds (Bx PassesOwn.never rfl (Bl (PE3.out (Ai hr BD (a1 (vN 1))))) (AM (i:=5) Dc.nd rfl (Or.inl rfl)) (Dt.out (Ah (AA 4 Dc (Ai hr ES (a2 (vN 4) (Ai hr CJ (a1 (Ai hr Mp (a2 (vN 2) (A9 (a2 (Ai hr Ax (a2 (Jm rfl gc_NOUGHT) (vK 5))) (vK 5))))))))))))))
  (Aa (Ds (Bx PassesOwn.never rfl (Bl (PE3.out (Ai hr B4 (a1 (vN 0))))) (AM (i:=5) Dc.nd rfl (Or.inl rfl)) (Dt.out (Ah (AA 4 Dc (Ai hr ES (a2 (vN 4) (Ai hr CJ (a1 (Ai hr Mp (a2 (vN 3) (A9 (a2 (vK 5) (Ai hr Ax (a2 (Jm rfl gc_NOUGHT) (vK 5))))))))))))))))
  (A3 (Ai hr FK (a1 (Ai hr Fc (a1 (vN 4)))))))))))),?_]
 have of:=rf.o;have og:=rg.o;have f0:=of.ne;have g0:=og.ne;have zfm:=zf.m of;have zgm:=zg.m og;refine#[fc,fm,gc,gm,rfl,zfm.mono (),zgm.mono (),?_];refine BY (λc1=>qn c1) (λc1=>?_);have hm:fm<=gm:=⋯;have q:=q hm;refine#[fc,fm,a,b,c,rfl,of,zf,(),(),?_];refine#[_,Dk fc fm,rfl,Or.inr rfl,by rw[Dl];omega,?_];refine#[gc,gm,a,b,c,rfl,og,zg,(),(),?_];refine atR (QU (cs:=fc) 1 ∅ f0) ?_;refine atR (QU (cs:=gc) 1 ∅ g0) ?_;have tfl:=zf.tm (↥fc-1) ();have tgl:=zg.tm (↥gc-1) ();refine#[_,_,a,a,rfl,tfl,tgl,(),?_];have zfar:Sz (2*a+1) (tt fc (↥fc-1)+tt gc (↥gc-1)):=(tfl.add tgl).mono ();refine#[gc,gm,_,2*a+2,rfl,g0,(),λi hi=>(zg.tm i hi).mono (),zfar.mono (),(),?_];refine#[by show 3<=1000;decide,by show 2<=1000;decide,by show 1<=1000;decide,?_];obtain⟨K,hK⟩:∃K,K=2*a+3*b+3*c+12:=#[_,rfl];obtain⟨Z,hZ⟩:∃Z,Z=2*(a+b+c)+5:=#[_,rfl];obtain⟨X,hX⟩:∃X,X=4*(a+b+c)+2*b+16:=#[_,rfl];obtain⟨W,hW⟩:∃W,W=2*(↥fc*↥gc)+2*↥fc+↥gc+3:=#[_,rfl];rw[<-hZ,<-hX]at q;rw[<-hW]at hn;have sub:=VS of og sf sg s0;have sL:(S0.map (λy=>-y)).length=S0.length:=qAa _;have sm0:(0:Rat)∈S0.map (λy=>-y):=sub 0 XG;have sp:1<=S0.length:=qCH s0;have cnt:∀x,x<=W->x*(S0.map (λy=>-y)).length<=N:=λx hx=>qAO (by rw[sL];exact qBb _ hx) hn;have WS:W<=40000:=by
  have:=qCk W sp;omega
 have plF:PL (b+c) a ((Dk fc fm).map flR) ((EK fc fm).map flP):=(TQ of zf).flipped;have plG:PL (b+c) (2*a+4) (trR gc gm (tt fc (↥fc-1)+tt gc (↥gc-1))) (Hq (EK gc gm) (tt fc (↥fc-1)+tt gc (↥gc-1))):=YR og zg (n:=2*a+2) (zfar.mono ()) ();have ux:=Zk (b:=b) (Z:=Z) (X:=X) ();have stl:(stI gc gm).length+1<=↥gc:=by
  unfold CH.stI;rw[qAa];have:=qBE (λn=>decide (slp gc gm n<slp gc gm (n+1))) (List.range (↥gc-1));rw[qAz]at this;omega
 have fll:(flI fc fm).length+1<=↥fc:=by
  unfold flI;rw[qAa];have:=qBE (λn=>decide (slp fc fm (n+1)<slp fc fm n)) (List.range (↥fc-1));rw[qAz]at this;omega
 refine#[gc,gm,a,b,c,rfl,og,zg,(),(),?_];refine#[λn τ=>∃(qs:List RP)(Q:Ps)(B:List Rat)(h:Rat->Rat)(y5:Option S),τ=[some (.d (crv fc fm)),some (.d (crv gc gm)),some (.l (((Dk fc fm).map flR).map rpD)),some (.d (.lst ((trR gc gm (tt fc (↥fc-1)+tt gc (↥gc-1))).map rpD))),some (.l (qs.map rpD)),y5]/\FQ B ((S0.map (λy=>-y))) (Gz b Z) (Sz X) K (2*K+1) h none qs Q/\0<↥Q/\bg Q 0=0/\SF (((0::stI gc gm).take n).map (cA fc fm gc)) h/\↥B<=n*↥fc,#[[((0,1),(0,0,1))],[(0,(0,0))],[],λ_=>0,none,rfl,QR sm0 hb () () () (),∅,rfl,SF.nil,qA4 _],?_,?_]
 .rintro n τ x hx ⟨qs,Q,B,h,y5,rfl,r,ne,b0,mi,bl⟩;obtain⟨k,hk,rfl⟩:=Bs hx;have nl:n<(0::stI gc gm).length:=(qAf.mp hk).1;have nl:n<(stI gc gm).length+1:=nl;have kl:k<↥gc:=by
   rcases qAl.mp (qAB hk) with rfl|z
   .exact g0
   .exact(Ng.mp z).1
  have tg:=zg.tm k kl;have vg:Sz (b+a+c+1) (vv gc k):=by
   have:=zg.va (BW og kl) tg;rw[BU og kl]at this;exact this
  refine#[0,tt gc k,1,a,rfl,Sz.zero,tg,(),?_];refine#[by show 2<=1000;decide,?_];have w1:Wq (a+b+c+3) (0-tt gc k).num ((0-tt gc k).den:Int) (0-tt gc k):=Wq.of ((Sz.zero.sub tg).mono ());have w2:Wq (a+b+c+3) (vv gc k).num ((vv gc k).den:Int) (vv gc k):=Wq.of (vg.mono ());refine#[_,(Dk fc fm).map flR,(EK fc fm).map flP,_,_,_,_,_,_,b+c,a,a+b+c+3,rfl,Or.inl rfl,plF,w1,w2,(),(),(),by rw[qAa,Dl];omega,?_];have plA:PL K (2*K+1) (((Dk fc fm).map flR).map (mvR (0-tt gc k).num ((0-tt gc k).den:Int) (vv gc k).num ((vv gc k).den:Int))) (pA fc fm gc k):=(plF.moved w1 w2).mono (k':=K) (m':=2*K+1) () ();have puA:=ZJ (fm:=fm) (gc:=gc) of (k:=k);have lA:=Qq (fc:=fc) (fm:=fm) (gc:=gc) (k:=k);obtain⟨d,d1,d2,d3⟩:=Qm puA.up 0;have d0:0<d:=by
   rcases qBq d with z|z
   .have:=d3 0 () (by rw[lA];exact f0);rw[(Th f0).1,of.t0]at this;have:=BW og kl;grind
   .exact z
  have gA:=Zo of og zf zg kl (Z:=Z) (X:=X) () ();have oth:Wc ((S0.map (λy=>-y))) b Z X K (2*K+1) (frR (((Dk fc fm).map flR).map (mvR (0-tt gc k).num ((0-tt gc k).den:Int) (vv gc k).num ((vv gc k).den:Int))) d) (frN (pA fc fm gc k) d) (cA fc fm gc k):=U1 (K:=K) (m:=2*K+1) plA puA () () d0 d1 d2 d3 (λx hx=>sub _ (gA.1 x hx)) gA.2;refine#[_,pA fc fm gc k,K,2*K+1,d,rfl,plA,by rw[qAa,qAa,Dl];omega,(),d0,d1,d2,d3,?_];have oL:(frN (pA fc fm gc k) d).length<=↥fc:=by rw[E6,lA];omega
  have ol':=oth.pl.len;have nm:n*↥fc<=↥fc*↥gc:=by rw[Nat.mul_comm];exact qCk _ ()
  have c1':=cnt (↥B+1) ();have c2':=cnt (↥B+(frN (pA fc fm gc k) d).length+1) ();have ql:↥qs<=40000:=by rw[r.pl.len];exact qAO (qAO r.cn.len c1') hN
  refine#[_,qs,frR (((Dk fc fm).map flR).map (mvR (0-tt gc k).num ((0-tt gc k).den:Int) (vv gc k).num ((vv gc k).den:Int))) d,Q,frN (pA fc fm gc k) d,B,(S0.map (λy=>-y)),Gz b Z,Sz X,K,2*K+1,h,cA fc fm gc k,rfl,Or.inr rfl,#[r,ne,oth.pl,oth.pu,oth.ne,oth.sl,oth.gd,ux,(),(),by rw[b0,oth.b0];exact qAb,λz=>?_,(),()],λqs' Q' r' ne' b0'=>?_]
  .rw[b0,oth.b0]at z;exact absurd z qA8
  rw[oth.b0]at r';refine#[qs',Q',_,_,_,rfl,r',ne',b0'.trans b0,?_,?_]
  .rw[qBH,hk,qAL];exact mi.add
  .rw[qAp,show(VW (frN (pA fc fm gc k) d)).length=(frN (pA fc fm gc k) d).length from qAa _,Nat.add_mul];omega
 rintro τ ⟨qs,Q,B,h,y5,rfl,r,ne,b0,mi,bl⟩;rw[qAa]at mi bl;rw[qBk (qAg _)]at mi;replace bl:↥B<=↥fc*↥gc:=qAO bl (by rw[Nat.mul_comm];exact qCk _ (by show(stI gc gm).length+1<=_;exact stl));refine#[fc,fm,a,b,c,rfl,of,zf,(),(),?_];refine#[λn τ=>∃(qs:List RP)(Q:Ps)(B:List Rat)(h:Rat->Rat)(y5:Option S),τ=[some (.d (crv fc fm)),some (.d (crv gc gm)),some (.l (((Dk fc fm).map flR).map rpD)),some (.d (.lst ((trR gc gm (tt fc (↥fc-1)+tt gc (↥gc-1))).map rpD))),some (.l (qs.map rpD)),y5]/\FQ B ((S0.map (λy=>-y))) (Gz b Z) (Sz X) K (2*K+1) h none qs Q/\0<↥Q/\bg Q 0=0/\SF ((0::stI gc gm).map (cA fc fm gc)++((flI fc fm).take n).map (cB fc gc gm)) h/\↥B<=↥fc*↥gc+n*(↥gc+1),#[qs,Q,B,h,_,rfl,r,ne,b0,by rw[List.take_zero,List.map_nil,qBA];exact mi,()],?_,?_]
 .clear r ne b0 mi bl;clear qs Q B h y5;rintro n τ x hx ⟨qs,Q,B,h,y5,rfl,r,ne,b0,mi,bl⟩;obtain⟨k,hk,rfl⟩:=Bs hx;have nl:n<(flI fc fm).length:=(qAf.mp hk).1;have hm':=Nt.mp (qAB hk);have kl:=hm'.1;have tf:=zf.tm k kl;have vf:Sz (b+a+c+1) (vv fc k):=by
   have:=zf.va (BW of kl) tf;rw[BU of kl]at this;exact this
  have tkl:tt fc k<=tt fc (↥fc-1):=AU of.up () ();have tk0:0<tt fc k:=by
   have h1:=of.up 0 ();rw[of.t0]at h1;have h2:=AU of.up (i:=0+1) (j:=k) () kl;grind
  have far1:tt gc (↥gc-1)<tt fc (↥fc-1)+tt gc (↥gc-1):=⋯;refine#[0,vv fc k,1,b+a+c+1,rfl,Sz.zero,vf,(),?_];refine#[by show 2<=1000;decide,?_];have w1:Wq (a+b+c+3) (tt fc k).num ((tt fc k).den:Int) (tt fc k):=Wq.of (tf.mono ());have w2:Wq (a+b+c+3) (0-vv fc k).num ((0-vv fc k).den:Int) (0-vv fc k):=Wq.of ((Sz.zero.sub vf).mono ());have tl:(trR gc gm (tt fc (↥fc-1)+tt gc (↥gc-1))).length=↥gc+1:=by rw[plG.len,Gf,Bb]
  refine#[_,trR gc gm (tt fc (↥fc-1)+tt gc (↥gc-1)),Hq (EK gc gm) (tt fc (↥fc-1)+tt gc (↥gc-1)),_,_,_,_,_,_,b+c,2*a+4,a+b+c+3,rfl,Or.inr rfl,plG,w1,w2,(),(),(),by rw[tl];omega,?_];have plA:PL K (2*K+1) ((trR gc gm (tt fc (↥fc-1)+tt gc (↥gc-1))).map (mvR (tt fc k).num ((tt fc k).den:Int) (0-vv fc k).num ((0-vv fc k).den:Int))) (pB fc gc gm (tt fc (↥fc-1)+tt gc (↥gc-1)) k):=(plG.moved w1 w2).mono (k':=K) (m':=2*K+1) () ();have puA:=aI (fc:=fc) (gm:=gm) og (k:=k) far1;have lA:=Qr (fc:=fc) (gc:=gc) (gm:=gm) (k:=k) (far:=tt fc (↥fc-1)+tt gc (↥gc-1));have b00:=cZ (fc:=fc) (gm:=gm) og (k:=k) (far:=tt fc (↥fc-1)+tt gc (↥gc-1));obtain⟨d,d1,d2,d3⟩:=Qm puA.up 0;have d0:0<d:=by
   rcases qBq d with z|z
   .have:=d3 0 () (by rw[lA];omega);rw[b00]at this;have:=BW og (show ↥gc-1<↥gc from ());grind
   .exact z
  have gA:=Z4 of og zf zg kl zfar (Z:=Z) (X:=X) hb () ();have oth:Wc ((S0.map (λy=>-y))) b Z X K (2*K+1) (frR ((trR gc gm (tt fc (↥fc-1)+tt gc (↥gc-1))).map (mvR (tt fc k).num ((tt fc k).den:Int) (0-vv fc k).num ((0-vv fc k).den:Int))) d) (frN (pB fc gc gm (tt fc (↥fc-1)+tt gc (↥gc-1)) k) d) (cB fc gc gm k):=U1 (K:=K) (m:=2*K+1) plA puA () () d0 d1 d2 d3 (λx hx=>sub _ (gA.1 x hx)) gA.2;refine#[_,pB fc gc gm (tt fc (↥fc-1)+tt gc (↥gc-1)) k,K,2*K+1,d,rfl,plA,by rw[qAa,tl];omega,(),d0,d1,d2,d3,?_];have oL:(frN (pB fc gc gm (tt fc (↥fc-1)+tt gc (↥gc-1)) k) d).length<=↥gc+1:=by rw[E6,lA];omega
  have ol':=oth.pl.len;have nm:(n+1)*(↥gc+1)<=↥fc*(↥gc+1):=qBb _ ();have n1:(n+1)*(↥gc+1)=n*(↥gc+1)+(↥gc+1):=Nat.succ_mul _ _;have n2:↥fc*(↥gc+1)=↥fc*↥gc+↥fc:=Nat.mul_succ _ _;have c1':=cnt (↥B+1) ();have c2':=cnt (↥B+(frN (pB fc gc gm (tt fc (↥fc-1)+tt gc (↥gc-1)) k) d).length+1) ();have ql:↥qs<=40000:=by rw[r.pl.len];exact qAO (qAO r.cn.len c1') hN
  refine#[_,qs,frR ((trR gc gm (tt fc (↥fc-1)+tt gc (↥gc-1))).map (mvR (tt fc k).num ((tt fc k).den:Int) (0-vv fc k).num ((0-vv fc k).den:Int))) d,Q,frN (pB fc gc gm (tt fc (↥fc-1)+tt gc (↥gc-1)) k) d,B,(S0.map (λy=>-y)),Gz b Z,Sz X,K,2*K+1,h,cB fc gc gm k,rfl,Or.inr rfl,#[r,ne,oth.pl,oth.pu,oth.ne,oth.sl,oth.gd,ux,(),(),by rw[b0,oth.b0];exact qAb,λz=>?_,(),()],λqs' Q' r' ne' b0'=>?_]
  .rw[b0,oth.b0]at z;exact absurd z qA8
  rw[oth.b0]at r';refine#[qs',Q',_,_,_,rfl,r',ne',b0'.trans b0,?_,?_]
  .rw[qBH,hk,qAL,<-List.append_assoc];exact mi.add
  .rw[qAp,show(VW (frN (pB fc gc gm (tt fc (↥fc-1)+tt gc (↥gc-1)) k) d)).length=(frN (pB fc gc gm (tt fc (↥fc-1)+tt gc (↥gc-1)) k) d).length from qAa _];omega
 clear r ne b0 mi bl;clear qs Q B h y5;rintro τ ⟨qs,Q,B,h,y5,rfl,r,ne,b0,mi,bl⟩;rw[qAa]at mi bl;rw[qBk (qAg _)]at mi;have nm:(flI fc fm).length*(↥gc+1)<=↥fc*(↥gc+1):=qBb _ ();have n2:↥fc*(↥gc+1)=↥fc*↥gc+↥fc:=Nat.mul_succ _ _;have c1':=cnt (↥B+1) ();have ql0:↥Q<=(↥B+1)*((S0.map (λy=>-y))).length:=r.cn.len;have ql:↥qs<=40000:=by rw[r.pl.len];exact qAO (qAO ql0 c1') hN
 obtain⟨o,m0,eM,iv,ls⟩:=WA rf rg hm r ne b0 mi;refine#[_,qs,rfl,Or.inl rfl,(),?_];have fl':(Q.map flP).length=↥Q:=qAa _;refine#[_,qs.map flR,Q.map flP,K,2*K+1,rfl,Or.inr rfl,r.pl.flipped,by rw[qAa,r.pl.len];exact ne,by rw[qAa];omega,(),ls.szd o (by rw[BV];omega) () (),o,m0,?_];have ki:=GG o m0;have kv:=λt=>G0 (m:=(ln (Q.map flP) ((Q.map flP).length-1)).1) o t;have kl':=Jb (Ih (Q.map flP)) (ln (Q.map flP) ((Q.map flP).length-1)).1 ((Ih (Q.map flP)).length-1);have kls:=ls.kept o;have ksl:=(Xp r o).kept o;rw[BV]at ki kv kl' kls ksl;rw[eM]at ki kv kl' kls ksl iv ⊢;refine q _ ki (λt t0=>?_) kls ksl ?_
 .rw[(kv t).1];exact iv t t0
 .omega
variable (Ez:Cal P w K mg base (CXU P w) 8 "undone" ["f","g"] MX)
theorem Ss:Ae ["story"] ["story"] (Ac Lh):=scN
include Ez in
theorem Qz (F:Fun K "growth" "growth" Lh f fd):Ap P w K mg base CX0 9 f fd ["story"] (Ag K mg Mk):=by
 refine fn3 F Ss (λss R U h=>?_) (λ_ _ _ _ _ _ _ R U hr h=>?_)
 .obtain⟨cs,m,a,b,c,S0,rfl,_⟩:=h;rfl
 obtain⟨cs,m,a,b,c,S0,rfl,⟨r,z,b1,n1,hl,nS,s,s0⟩,q⟩:=h;refine#[_,(A3 (Ai hr Ez (a2 (vN 0) (vN 0)))),?_];exact#[cs,m,cs,m,a,b,c,235,S0,rfl,#[r,r,z,z,b1,n1,bL hl hl nS,∅,s,s,s0,(),()],λc=>absurd c qA8,λ_ C k i z t l=>q C k i z t l]
variable (En:Cal P w K mg base (CXU P w) 9 "growth" ["story"] Mk)
theorem NB:Ae ["coming"] ["coming"] (Ac HM):=scN
include JL En in
theorem NI (F:Fun K "tightest" "tightest" HM f fd):Ap P w K mg base CX0 11 f fd ["coming"] (Ag K mg Jg):=by
 refine fn3 F NB (λss R U h=>?_) (λ_ _ _ _ _ _ _ R U hr h=>?_)
 .obtain⟨cs,m,rfl,_⟩:=h;rfl
 obtain⟨cs,m,rfl,h,q⟩:=h;refine#[_,(A3 (Ai hr JL (a2 (vN 0) (Ai hr En (a1 (vN 0)))))),?_];have hl:=h.2.2.1;have r:=h.1.rise;obtain⟨S0,nS,s,s0⟩:∃S0:List Rat,S0.length<=5/\SL S0 cs m/\(0:Rat)∈S0:=#[0::slL cs m,by rw[qAQ,DR];omega,(KI r.o).mono λx h=>by simp[h],qAK];refine#[cs,m,41,45,68,S0,rfl,#[r,h.2.1,∅,∅,(),nS,s,s0],λG kG iG zG tG lG=>?_];refine#[cs,m,G,m,722,45,313,S0,rfl,r,kG.rise,h.2.1.mono ∅ ∅ ∅,zG,∅,∅,(),s,tG,λC M kC eM _ _ _ vC=>?_];have:M=m:=by rw[eM];unfold mx;grind
 subst this;obtain⟨t1,t2⟩:=TU h kC λt t0=>#[_,iG t t0,vC t t0];exact q C t1 t2
variable (Fw:Cal P w K mg base (CXU P w) 11 "tightest" ["coming"] Jg)
theorem Pu:Ae ["offer"] ["offer"] (Ac JW):=scN
include Ju Bt F0 in
theorem PF (F:Fun K "missing" "missing" JW f fd):Ap P w K mg base CX0 10 f fd ["offer"] (Ag K mg Kn):=by
 refine fn3 F Pu (λss R U h=>?_) (λ_ _ _ _ _ _ _ R U hr h=>?_)
 .obtain⟨cs,m,rfl,_⟩:=h;rfl
 obtain⟨cs,m,rfl,h,q⟩:=h;refine#[_,(A3 (Ai hr F0 (a2 (Ai hr Ju (a2 (A4 (A4 (vK 0) Ad) Ad) (Ai hr Bt (a1 (vN 0))))) (vN 0)))),?_];obtain⟨r1,l1,zk,k0,km,sl⟩:=h.st;have o:=h.1.o;have hl:=h.2.2.1;refine atR (BC (cs:=cs) (i:=0) 0 rfl o.ne) ?_;refine#[cs,m,rfl,h,?_];refine#[_,_,rfl,o.v0,k0,h.2.2.2.mono ∅,zk.mono ∅,?_];have gv:∀t,gap [(0,vv cs 0)] (sK cs m) cs m t=vv cs 0+sK cs m*t-val cs m t:=λt=>by unfold gap;rw[IM]
 have om:=IL (v:=vv cs 0) o qAb sl;refine#[[(0,vv cs 0)],sK cs m,cs,m,1,46,68,41,45,68,41,rfl,r1,h.1,l1,h.2.1,∅,∅,by show 1+_<=_;omega,∅,∅,∅,λx y x0 xy=>?_,?_,λC M kC vC eM zC lC=>q C M #[kC,eM,λt t0=>by rw[vC t t0,gv],zC,by have:↥C<=1+↥cs:=lC;omega]]
 .rw[gv,gv,<-Cv o,<-Cv o];exact Bh #[om,km] x0 xy
 .rw[gv,Bz o];grind
variable (GL:Cal P w K mg base (CXU P w) 10 "missing" ["offer"] Kn)
theorem So:Ae ["offer"] ["offer"] (Ac K0):=scN
include gc_NOUGHT Ju Bt F0 En GL in
theorem Qa (F:Fun K "surest" "surest" K0 f fd):Ap P w K mg base CX0 11 f fd ["offer"] (Ag K mg M4):=by
 refine fn3 F So (λss R U h=>?_) (λ_ _ _ _ _ _ _ R U hr h=>?_)
 .obtain⟨cs,m,rfl,_⟩:=h;rfl
 obtain⟨cs,m,rfl,kg,q⟩:=h;refine#[_,(A3 (Ai hr F0 (a2 (Ai hr Ju (a2 (Jm rfl gc_NOUGHT) (Ai hr Bt (a1 (vN 0))))) (Ai hr En (a1 (Ai hr GL (a1 (vN 0)))))))),?_];have h:=kg.ko;obtain⟨r1,l1,zk,k0,km,sl⟩:=h.st;have o:=h.1.o;have hl:=h.2.2.1;refine#[cs,m,rfl,h,?_];refine#[0,_,rfl,qAb,k0,Sz.zero.mono ∅,zk.mono ∅,?_];refine#[cs,m,rfl,h,λC M hM=>?_];obtain⟨kC,eM,vC,zC,lC⟩:=hM;obtain⟨S0,nS,s,s0⟩:∃S0:List Rat,S0.length<=5/\SL S0 C M/\(0:Rat)∈S0:=#[0::slL C M,by rw[qAQ,DR];omega,(KI kC.rise.o).mono λx h=>by simp[h],qAK];refine#[C,M,41,92,137,S0,rfl,#[kC.rise,zC,∅,∅,lC,nS,s,s0],λG kG iG zG _ lG=>?_];have om:=IL (v:=vv cs 0) o qAb sl;have ev:∀x,0<=x->val C M x=val (miK cs m) (sK cs m-m) x:=λx x0=>by rw[vC x x0,Cv o]
 have iM:∀t,0<=t->IsM cs m t (val G M t):=λt t0=>X4 (iG t t0) t0 ev ev;have o0:Ord [(0,(0:Rat))]:=Ord.one qAb;have l0:LS 1 46 1 [(0,(0:Rat))] (sK cs m):=Ln.ls (Ln.one zk (by show Sz 1 (0-_*0);rw[show(0:Rat)-sK cs m*0=0 from ⋯];exact Sz.zero)) o0 (λi hi=>by
  have:i=0:=by(have:i<1:=hi;omega)
  subst this;exact Sz.zero)
 have gv:∀t,gap [(0,(0:Rat))] (sK cs m) G M t=sK cs m*t-val G M t:=λt=>by unfold gap;rw[IM];grind
 have mono:∀x y,0<=x->x<=y->sK cs m*x-val G M x<=sK cs m*y-val G M y:=λx y x0 xy=>by
  have y0:0<=y:=qAm x0 xy;rcases(iM y y0).2.1 with e|⟨u,u0,e⟩
  .have a:=(iM x x0).1;have b:=qAh k0 (show 0<=y-x from ⋯);rw[e];grind
  .have a:=(iM x x0).2.2 u u0;rw[Cv o,Cv o]at a e;have b:=Bh h.1 (x:=x+u) (y:=y+u) ⋯ ⋯;grind
 refine#[[(0,0)],sK cs m,G,M,1,46,1,1280,92,545,1280,rfl,#[o0,k0],kG.rise,l0,zG,∅,∅,by show 1+_<=_;omega,∅,∅,∅,λx y x0 xy=>by rw[gv,gv];exact mono x y x0 xy,?_,λC' M' kC' vC' eM' zC' lC'=>?_]
 .rw[gv];rcases(iM 0 qAb).2.1 with e|⟨u,u0,e⟩
  .rw[e];grind
  .rw[show(0:Rat)+u=u from ⋯]at e;grind
 have:M'=m:=by rw[eM',eM];grind
 subst this;obtain⟨t1,t2⟩:=V8 kg kC' λt t0=>#[_,iM t t0,by rw[vC' t t0,gv]];exact q C' t1 t2
variable (IA:Cal P w K mg base (CXU P w) 11 "surest" ["offer"] M4)
theorem IK:Ae ["_law_script","_law_k"] ["_law_script","_law_k"] (Ac Ea):=scN
include AH in
theorem JE (F:Fun K "_law_cell_at" "_law_cell_at" Ea f fd):Ap P w K mg base CX0 1 f fd ["_law_script","_law_k"] (Ag K mg Fa):=by
 refine fn3 F IK (λss R U h=>?_) (λ_ _ _ _ _ _ _ R U hr h=>?_)
 .obtain⟨ns,k,rfl,_⟩:=h;rfl
 obtain⟨ns,k,rfl,k0,k1,q⟩:=h;refine#[_,(Aa (BB (Cu Ku (vN 1) (CO AH (vN 0))) (A3 (A4 (vN 0) (vN 1))) Aj)
  (A3 (Ak Bf (Ak AL Ad (vN 1)) Ad))),?_]
 unfold cl at q;refine BY (λc=>?_) (λc=>?_)
 .rw[qAa]at c;rw[if_pos c]at q;refine atR (FD (ms:=ns) k.toNat () ()) ?_;rw[show((k.toNat:Nat):Int)=k from ()];exact q
 .rw[qAa]at c;rw[if_neg c]at q;exact#[AN (m:=10) (n:=20) ∅ () ∅,q]
variable (As:Cal P w K mg base (CXU P w) 1 "_law_cell_at" ["_law_script","_law_k"] Fa)
theorem CU:Ae ["_law_top","_law_bottom","_law_one","_law_other","_law_rest"] ["_law_top","_law_bottom"] (Ac Hx):=scN
include M3 in
theorem Nm (F:Fun K "_law_low" "_law_low" Hx f fd):Ap P w K mg base CX0 1 f fd ["_law_top","_law_bottom"] (Ag K mg JH):=by
 refine fn3 F CU (λss R U h=>?_) (λ_ _ _ _ _ _ _ R U hr h=>?_)
 .obtain⟨a,b,rfl,_⟩:=h;rfl
 obtain⟨a,b,rfl,hb,h1,h2,q⟩:=h;refine#[_,(Aa (AA 2 CU (JF Vm rfl M3 qCa (a1 (vN 0))))
  (Aa (AA 3 CU (vN 1))
  (Aa (Hr PassesOwn.never (Cu YD (vN 3) Ad) (Aa (AA 4 CU (Ak BI (vN 2) (vN 3)))
  (Aa (AA 2 CU (vN 3))
  (Ah (AA 3 CU (vN 4))))))
  (A3 (A9 (a2 (Ak Bo (vN 0) (vN 2)) (Ak Bo (vN 1) (vN 2)))))))),?_]
 have hb0:b≠0:=by clear h1 h2;omega
 have hp:=JB (a:=a) hb0;have hc:=PX (a:=a) hb0;have e:cm a b=g a b:=if_neg (by clear h1 h2;omega);rw[e]at hp hc;have ga:=Yo a b;rw[if_neg (show ¬b<0 by clear h1 h2;omega)]at ga;refine#[λm τ=>∃x y z,τ=[I a,I b,I x,I y,z]/\0<=x/\0<=y/\g x y=g a b/\m=y.toNat,#[_,_,_,_,rfl,Qw a,qCP hb,ga,rfl],?_];rintro m τ ⟨x,y,z,rfl,k1,k2,k3,rfl⟩;refine BY (λc=>?_) (λc=>?_)
 .clear h1 h2;have c:0<y:=c;refine#[(),(x.fmod y).toNat,?_,_,_,_,rfl,k2,?_,?_,rfl]
  .have:=qB3 x (show 0<y from ());omega
  .exact qB7 x ()
  .rw[<-k3,qCq x k2];exact UA ()
 .have c:y=0:=by have:¬0<y:=c;omega
  subst c;rw[Yh k1]at k3;subst k3;refine#[#[hc,YA h1],#[hc,YA h2],(by show 2<=1000;decide),?_];show R (.d (.tup [.int (a.fdiv (g a b)),.int (b.fdiv (g a b))]));rw[hp.1,hp.2];exact q
variable (AZ:Cal P w K mg base (CXU P w) 1 "_law_low" ["_law_top","_law_bottom"] JH)
theorem Nn:Ae ["_law_one","_law_other"] ["_law_one","_law_other"] (Ac HA):=scN
theorem NS (F:Fun K "_law_add" "_law_add" HA f fd):Ap P w K mg base CX0 1 f fd ["_law_one","_law_other"] (Ag K mg JI):=by
 refine fn3 F Nn (λss R U h=>?_) (λ_ _ _ _ _ _ _ R U hr h=>?_)
 .obtain⟨a,b,c,d,rfl,_⟩:=h;rfl
 obtain⟨a,b,c,d,rfl,⟨h1,h2,h3,h4⟩,q⟩:=h;refine#[_,(A3 (A9 (a2 (Ak Bf (Ak AL (vK 0) (vK 1)) (Ak AL (vK 1) (vK 0))) (Ak AL (vK 0) (vK 1))))),?_];exact#[AN h1 h4 ∅,AN h3 h2 ∅,AN h2 h4 ∅,(by show 2<=1000;decide),q]
variable (Bk:Cal P w K mg base (CXU P w) 1 "_law_add" ["_law_one","_law_other"] JI)
theorem Mr:Ae ["_law_one","_law_other"] ["_law_one","_law_other"] (Ac Gk):=scN
theorem Mh (F:Fun K "_law_take" "_law_take" Gk f fd):Ap P w K mg base CX0 1 f fd ["_law_one","_law_other"] (Ag K mg HY):=by
 refine fn3 F Mr (λss R U h=>?_) (λ_ _ _ _ _ _ _ R U hr h=>?_)
 .obtain⟨a,b,c,d,rfl,_⟩:=h;rfl
 obtain⟨a,b,c,d,rfl,⟨h1,h2,h3,h4⟩,q⟩:=h;refine#[_,(A3 (A9 (a2 (Ak CW (Ak AL (vK 0) (vK 1)) (Ak AL (vK 1) (vK 0))) (Ak AL (vK 0) (vK 1))))),?_];exact#[AN h1 h4 ∅,AN h3 h2 ∅,AN h2 h4 ∅,(by show 2<=1000;decide),q]
variable (Aw:Cal P w K mg base (CXU P w) 1 "_law_take" ["_law_one","_law_other"] HY)
theorem Ll:Ae ["_law_one","_law_other"] ["_law_one","_law_other"] (Ac Fb):=scN
theorem Lk (F:Fun K "_law_up_to" "_law_up_to" Fb f fd):Ap P w K mg base CX0 1 f fd ["_law_one","_law_other"] (Ag K mg Hc):=by
 refine fn3 F Ll (λss R U h=>?_) (λ_ _ _ _ _ _ _ R U hr h=>?_)
 .obtain⟨a,b,c,d,rfl,_⟩:=h;rfl
 obtain⟨a,b,c,d,rfl,⟨h1,h2,h3,h4⟩,q⟩:=h;refine#[_,(A3 (Ma cH (Ak AL (vK 0) (vK 1)) (Ak AL (vK 1) (vK 0)) (GK _))),?_];exact#[AN h1 h4 ∅,AN h3 h2 ∅,q]
variable (Af:Cal P w K mg base (CXU P w) 1 "_law_up_to" ["_law_one","_law_other"] Hc)
theorem Eu:Ae ["_law_f","_law_k","_law_high","_law_wide"] ["_law_f","_law_k"] (Ac EL):=scN
include AH Aw in
theorem LG (F:Fun K "_law_slope" "_law_slope" EL f fd):Ap P w K mg base CX0 2 f fd ["_law_f","_law_k"] (Ag K mg GH):=by
 refine fn3 F Eu (λss R U h=>?_) (λ_ _ _ _ _ _ _ R U hr h=>?_)
 .obtain⟨cs,m,k,j,n,rfl,_⟩:=h;rfl
 obtain⟨cs,m,k,j,n,rfl,rfl,jl,up,hn,zc,zm,q⟩:=h;refine#[_,(Aa (BB (Cu Im (Ak Bf (vN 1) Ad) (CO AH (vK 0))) (A3 (vK 0)) Aj)
  (Aa (AA 2 Eu (Ai hr Aw (a2 (A4 (A4 (vK 0) (Ak Bf (vN 1) Ad)) Ad) (A4 (A4 (vK 0) (vN 1)) Ad))))
  (Aa (AA 3 Eu (Ai hr Aw (a2 (A4 (A4 (vK 0) (Ak Bf (vN 1) Ad)) Ad) (A4 (A4 (vK 0) (vN 1)) Ad))))
  (A3 (A9 (a2 (Ak AL (vK 2) (vK 3)) (Ak AL (vK 2) (vK 3)))))))),?_]
 refine BY (λc=>?_) (λc=>?_)
 .rw[qAa]at c;have e:slp cs m j=m:=Az ();rw[e]at q;exact q _ _ ((Wq.of zm).mono ())
 .rw[qAa]at c;have j1:j+1<↥cs:=();have b1:=BC (cs:=cs) (i:=(j:Int)+1) (j+1) () j1;have b0:=BC (cs:=cs) (i:=(j:Int)) j rfl jl;have z1:=zc _ j1;have z0:=zc _ jl;refine atR b1 ?_;refine atR b0 ?_;refine#[_,_,_,_,rfl,l4 z1.2 z0.2 (),?_];refine atR b1 ?_;refine atR b0 ?_;refine#[_,_,_,_,rfl,l4 z1.1 z0.1 (),?_];have w1:=(Wq.of z1.2).minus (Wq.of z0.2);have w2:=(Wq.of z1.1).minus (Wq.of z0.1);refine#[AN w1.la w2.lb (),AN w1.lb w2.la (),(by show 2<=1000;decide),?_];rw[Cd j1]at q;exact q _ _ ((w1.div w2 (TY (up j j1))).mono ())
variable (Av:Cal P w K mg base (CXU P w) 2 "_law_slope" ["_law_f","_law_k"] GH)
theorem Eh:Ae ["_law_f","_law_t","_law_k","_law_slope_here","_law_gone"] ["_law_f","_law_t"] (Ac Jk):=scN
include AH Bk Aw Af Av in
theorem O6 (F:Fun K "_law_at" "_law_at" Jk f fd):Ap P w K mg base CX0 3 f fd ["_law_f","_law_t"] (Ag K mg Kq):=by
 refine fn3 F Eh (λss R U h=>?_) (λ_ _ _ _ _ _ _ R U hr h=>?_)
 .obtain⟨cs,m,t,tn,td,n,rfl,_⟩:=h;rfl
 obtain⟨cs,m,t,tn,td,n,rfl,oc,lc,hn,zc,zm,wt,t0,q⟩:=h;refine#[_,(Aa (AA 2 Eh Ad)
  (Aa (Hr PassesOwn.never (PW3.pt (Ib (Cu Ku (Ak Bf (vN 2) Ad) (CO AH (vK 0))) (EI (A6 (Ai hr Af (a2 (A4 (A4 (vK 0) (Ak Bf (vN 2) Ad)) Ad) (vN 1))))))) (Ah (AA 2 Eh (Ak Bf (vN 2) Ad))))
  (Aa (AA 3 Eh (Ai hr Av (a2 (vN 0) (vN 2))))
  (Aa (AA 4 Eh (Ai hr Aw (a2 (vN 1) (A4 (A4 (vK 0) (vN 2)) Ad))))
  (A3 (Ai hr Bk (a2 (A4 (A4 (vK 0) (vN 2)) Ad) (A9 (a2 (Ak AL (vK 3) (vK 4)) (Ak AL (vK 3) (vK 4))))))))))),?_]
 refine#[λmm τ=>∃j:Nat,τ=[some (.d (crv cs m)),some (.d (tp tn td)),I j,none,none]/\j<↥cs/\tt cs j<=t/\mm=↥cs-j,#[_,0,rfl,oc.ne,by rw[oc.t0];exact t0,rfl],?_];rintro mm τ ⟨j,rfl,jl,jt,rfl⟩;refine BY (λc=>?_) (λc=>?_)
 .rw[qAa]at c;have j1:j+1<↥cs:=();refine atR (BC (cs:=cs) (i:=(j:Int)+1) (j+1) () j1) ?_;have w1:=Wq.of (zc _ j1).1;refine#[_,_,_,_,rfl,w1.l4 wt (),?_];refine BY (λc2=>?_) (λc2=>?_)
  .rw[w1.le_iff wt]at c2;exact#[↥cs-(j+1),(),j+1,rfl,j1,c2,rfl]
  .rw[w1.le_iff wt]at c2;have on:On cs j t:=#[jl,jt,λ_=>⋯];refine#[cs,m,_,j,n,rfl,rfl,jl,oc.up,(),zc,zm,λA B wS=>?_];have b0:=BC (cs:=cs) (i:=(j:Int)) j rfl jl;refine atR b0 ?_;have w0:=Wq.of (zc _ jl).1;refine#[_,_,_,_,rfl,wt.l4 w0 (),?_];have wg:=wt.minus w0;refine atR b0 ?_;have wm:=wS.mul wg;refine#[AN wS.la wg.la (),AN wS.lb wg.lb (),(by show 2<=1000;decide),?_];have wv:=Wq.of (zc _ jl).2;refine#[_,_,_,_,rfl,(wv.mono (show n<=400000 from ())).l4 (wm.mono ()) (qAg _),?_];exact q _ _ (((wv.plus wm).cast (Bw oc.up on).symm).mono ())
 .rw[qAa]at c;have on:On cs j t:=#[jl,jt,λh=>absurd h ()];refine#[cs,m,_,j,n,rfl,rfl,jl,oc.up,(),zc,zm,λA B wS=>?_];have b0:=BC (cs:=cs) (i:=(j:Int)) j rfl jl;refine atR b0 ?_;have w0:=Wq.of (zc _ jl).1;refine#[_,_,_,_,rfl,wt.l4 w0 (),?_];have wg:=wt.minus w0;refine atR b0 ?_;have wm:=wS.mul wg;refine#[AN wS.la wg.la (),AN wS.lb wg.lb (),(by show 2<=1000;decide),?_];have wv:=Wq.of (zc _ jl).2;refine#[_,_,_,_,rfl,(wv.mono (show n<=400000 from ())).l4 (wm.mono ()) (qAg _),?_];exact q _ _ (((wv.plus wm).cast (Bw oc.up on).symm).mono ())
variable (AR:Cal P w K mg base (CXU P w) 3 "_law_at" ["_law_f","_law_t"] Kq)
theorem Gy:Ae ["_law_found","_law_part"] ["_law_found"] (Ac Fl):=scN
include AD Kc JT AH Ct AZ in
theorem LJ (F:Fun K "_law_ratio" "_law_ratio" Fl f fd):Ap P w K mg base CX0 2 f fd ["_law_found"] (Ag K mg G7):=by
 refine fn3 F Gy (λss R U h=>?_) (λ_ _ _ _ _ _ _ R U hr h=>?_)
 .obtain⟨q0,rfl,_⟩:=h;rfl
 obtain⟨q0,rfl,hz,q⟩:=h;refine#[_,(LZ (BB (PW3.pt (L8 (w_not (A6 (ML .tuple (vN 0) rfl AD rfl Ct qBv))) (FR (Cu Yl (CO AH (vN 0)) Ad)))) (A3 Hf) Aj)
  (Aa (Uh (Bx PassesOwn.never rfl (Bl (pv 0)) (AM (i:=1) Gy.nd rfl (Or.inl rfl)) (Dt.out (Ah (BB (PW3.pt (L8 (w_not (A6 (ML .int (vN 1) rfl AD rfl Kc qB9))) (FR (A6 (ML .bool (vN 1) rfl AD rfl JT qCK))))) (A3 Hf) Aj)))))
  (A3 (WN (Ma YD (vK 0) Ad (GK _)) (T8 (Ma (S7 1 (hu_ hr ∅)) (Ai hr AZ (a2 (vK 0) (vK 0))) (vN 0) (GK _))))))),?_]
 have hd:=den_pos q0;refine#[#[trivial,rfl],?_];refine#[λn τ=>∃z,τ=[some (.d (qd q0)),z],#[_,rfl],?_,?_]
 .rintro n τ x hx ⟨z,rfl⟩;have ex:∃i,x=.int i:=by
   match n,hx with
   |0,hx=>exact#[_,(qAo hx).symm]
   |1,hx=>exact#[_,(qAo hx).symm]
  obtain⟨i,rfl⟩:=ex;exact#[trivial,#[trivial,#[_,rfl]]]
 rintro τ ⟨z,rfl⟩;refine BY (λ_=>?_) (λc=>absurd (show(0:Int)<q0.den from ()) c);refine#[q0.num,q0.den,rfl,(),hz.1,AG hz,rfl,rfl,?_];rw[qB1];have e:eqN 1 (qd q0) (qd q0)=true:=IF 1 _ rfl;show R (.d (.bl (eqN 1 (qd q0) (qd q0))));rw[e];exact q
variable (Bj:Cal P w K mg base (CXU P w) 2 "_law_ratio" ["_law_found"] G7)
theorem CM:Ae ["_law_found","_law_corner","_law_k","_law_one","_law_other"] ["_law_found"] (Ac E5):=scN
include AD AH AF Ct Af Av Bj in
theorem Ly (F:Fun K "_law_curve" "_law_curve" E5 f fd):Ap P w K mg base CX0 3 f fd ["_law_found"] (Ag K mg G4):=by
 refine fn3 F CM (λss R U h=>?_) (λ_ _ _ _ _ _ _ R U hr h=>?_)
 .obtain⟨cs,m,rfl,_⟩:=h;rfl
 obtain⟨cs,m,rfl,hc,hz,q⟩:=h;refine#[_,(LZ (BB (PW3.pt (L8 (w_not (A6 (ML .tuple (vN 0) rfl AD rfl Ct qBv))) (L8 (Cu Yl (CO AH (vN 0)) Ad) (FR (w_not (A6 (ML .tuple (vK 0) rfl AD rfl Ct qBv))))))) (A3 Hf) Aj)
  (LZ (BB (PW3.pt (L8 (Cu Im (CO AH (vK 0)) Ad) (L8 (w_not (A6 (Ai hr Bj (a1 (vK 0))))) (FR (Cu Ku (A4 (vK 0) Ad) Ad))))) (A3 Hf) Aj)
  (Aa (Ds (Bx PassesOwn.never rfl (Bl (PE3.out (vK 0))) (AM (i:=1) CM.nd rfl (Or.inl rfl)) (Dt.out (LZ (BB (PW3.pt (L8 (w_not (A6 (ML .tuple (vN 1) rfl AD rfl Ct qBv))) (FR (Cu Yl (CO AH (vN 1)) Ad)))) (A3 Hf) Aj)
  (Ah (BB (PW3.pt (L8 (w_not (A6 (Ai hr Bj (a1 (vK 1))))) (FR (w_not (A6 (Ai hr Bj (a1 (vK 1)))))))) (A3 Hf) Aj))))))
  (LZ (BB (PW3.pt (L8 (Cu (TV 1 (hu_ hr ∅)) (A4 (A4 (vK 0) Ad) Ad) (A9 (a2 Ad Ad))) (FR (Cu Ku (A4 (A4 (A4 (vK 0) Ad) Ad) Ad) Ad)))) (A3 Hf) Aj)
  (Aa (Ol (Bx PassesOwn.never rfl (CB rfl AF (PA3.out (a2 Ad (CO AH (vK 0))))) (AM (i:=2) CM.nd rfl (Or.inl rfl)) (Dt.out (Aa (BB (A6 (Ai hr Af (a2 (A4 (A4 (vK 0) (vN 2)) Ad) (A4 (A4 (vK 0) (Ak CW (vN 2) Ad)) Ad)))) (A3 Hf) Aj)
  (Aa (BB (w_not (A6 (Ai hr Af (a2 (A4 (A4 (vK 0) (Ak CW (vN 2) Ad)) Ad) (A4 (A4 (vK 0) (vN 2)) Ad))))) (A3 Hf) Aj)
  (Aa (AA 3 CM (Ai hr Av (a2 (vN 0) (Ak CW (vN 2) Ad))))
  (Aa (AA 4 CM (Ai hr Av (a2 (vN 0) (vN 2))))
  (Ah (BB (Cu Im (Ak AL (vK 3) (vK 4)) (Ak AL (vK 4) (vK 3))) (A3 Hf) Aj)))))))))
  (A3 Hf)))))),?_]
 have hl:=hz.len;have c0:=hc.ne;have a0:=BC (cs:=cs) (i:=0) 0 rfl c0;refine#[#[trivial,#[trivial,rfl]],?_];refine#[?_,?_]
 .refine BY (λc=>?_) (λ_=>?_)
  .rw[qAa]at c;omega
  refine#[m,rfl,hz.m.mono ∅,?_];exact BY (λc=>absurd c (U6 hc.m0)) (λ_=>rfl)
 refine#[λn τ=>∃z,τ=[some (.d (crv cs m)),z,none,none,none],#[_,rfl],?_,?_]
 .rintro n τ x hx ⟨z,rfl⟩;obtain⟨nl,rfl⟩:=DL hx;refine#[#[trivial,rfl],?_];exact#[_,rfl,(hz.cs n nl).1.mono ∅,_,rfl,(hz.cs n nl).2.mono ∅,_,rfl]
 rintro τ ⟨z,rfl⟩;refine#[?_,?_]
 .refine atR a0 ?_;refine#[(by show 2<=1000;decide),rfl,rfl,?_];rw[hc.t0];refine atR a0 ?_;exact BY (λc=>absurd c (U6 hc.v0)) (λ_=>rfl)
 refine#[#[∅,∅,?_,?_],?_]
 .rw[qAa];omega
 .rw[qAa];omega
 refine#[λn τ=>∃y y2 y3,τ=[some (.d (crv cs m)),z,y,y2,y3],#[_,_,_,rfl],?_,?_]
 .rintro n τ hn ⟨y,y2,y3,rfl⟩;rw[qAa]at hn;have n1:n+1<↥cs:=();have b0:=BC (cs:=cs) (i:=1+n*1-1) n () ();have b1:=BC (cs:=cs) (i:=1+n*1) (n+1) () n1;have z0:=hz.cs n ();have z1:=hz.cs (n+1) n1;have w0:=Wq.of z0.1;have w1:=Wq.of z1.1;have u0:=Wq.of z0.2;have u1:=Wq.of z1.2;refine atR b1 ?_;refine atR b0 ?_;refine#[_,_,_,_,rfl,w1.l4 w0 ∅,?_];refine BY (λc=>absurd ((w1.le_iff w0).mp c) (qA1.mpr (hc.up n n1))) (λ_=>?_);refine atR b0 ?_;refine atR b1 ?_;refine#[_,_,_,_,rfl,u0.l4 u1 ∅,?_];refine KN (λc=>absurd ((u0.le_iff u1).mpr (hc.vu n n1)) c) (λ_=>?_);refine#[cs,m,_,n,2400,rfl,(),(),hc.up,∅,hz.cs,hz.m,λA B wA=>?_];refine#[cs,m,_,n+1,2400,rfl,(),(),hc.up,∅,hz.cs,hz.m,λA2 B2 wB=>?_];refine#[AN wA.la wB.lb ∅,AN wB.la wA.lb ∅,?_];refine BY (λc=>absurd (Ni wA wB c) (hc.bend n n1)) (λ_=>?_);exact#[_,_,_,rfl]
 rintro τ ⟨y,y2,y3,rfl⟩;exact q
variable (C9:Cal P w K mg base (CXU P w) 3 "_law_curve" ["_law_found"] G4)
theorem AW:Ae ["_law_cells","_law_slopes_here","_law_slope_here","_law_cell","_law_kind"] ["_law_cells"] (Ac Eo):=scN
theorem J9 (F:Fun K "_law_slopes" "_law_slopes" Eo f fd):Ap P w K mg base CX0 1 f fd ["_law_cells"] (Ag K mg F4):=by
 refine fn3 F AW (λss R U h=>?_) (λ_ _ _ _ _ _ _ R U hr h=>?_)
 .obtain⟨ms,rfl,_⟩:=h;rfl
 obtain⟨ms,rfl,hl,q⟩:=h;refine#[_,(Aa (AA 1 AW (FO MJ))
  (Aa (AA 2 AW Ad)
  (Aa (Uh (Bx PassesOwn.never rfl (Bl (pv 0)) (AM (i:=3) AW.nd rfl (Or.inl rfl)) (Dt.out (Aa (AA 4 AW (Ak BI (vN 3) Ad))
  (Cy (BB (Cu Im (vN 4) Ad) (Ah (AA 2 AW Ad)) Aj)
  (Cy (BB (Cu Im (vN 4) Ad) (Ah (AA 2 AW Ad)) Aj)
  (Cy (BB (Cu Im (vN 4) Ad) (Ah (AA 2 AW (Ak Bf Ad (Ak BI (Ak Bo (vN 3) Ad) Ad)))) Aj)
  (Cy (BB (Cu Im (vN 4) Ad) (Ah (AA 2 AW (Ak Bf Ad (Ak BI (Ak Bo (vN 3) Ad) Ad)))) Aj)
  (Cy (BB (Cu Im (vN 4) Ad) (Ah (AA 2 AW (Ak Bf Ad (Ak BI (Ak Bo (vN 3) Ad) (Ak Sj Ad Ad))))) Aj)
  (Ah (EU (BF (Fn qAH qAC qAD AY (pv 1) (A7 (PE3.out (vN 2)) BL))))))))))))))
  (Ah (Di (pv 1)))))),?_]
 refine#[(by show 0<=1000;decide),?_];refine#[λn τ=>∃(s:Int)(sl:List Int)(y3 y4:Option S),τ=[some (.r (ms.map D.int)),some (.l (sl.map D.int)),I s,y3,y4]/\↥sl=n/\0<=s/\s<=2000000000000/\∀x∈sl,0<=x/\x<=2000000000000,#[0,[],_,_,rfl,rfl,∅,∅,λx hx=>by cases hx],?_,?_]
 .rintro n τ x hx ⟨s,sl,y3,y4,rfl,e,s0,s1,bs⟩;have hn:n<↥ms:=by have:=(qAf.mp hx).1;rw[qAa]at this;exact this
  obtain⟨c,_,rfl⟩:=Bs hx;have h12:(0:Int)<10^(12:Int).toNat:=∅;have h121:(10:Int)^(12:Int).toNat=1000000000000:=∅;have f5:=fm (a:=c.fdiv 24) (show(0:Int)<5 from ∅);have f1000:=fm (a:=c.fdiv 24) (show(0:Int)<1000 from ∅);have f12:=fm (a:=c.fdiv 24) h12;refine#[∅,?_];refine#[λτ=>∃s:Int,τ=[some (.r (ms.map D.int)),some (.l (sl.map D.int)),I s,I c,I (c.fmod 6)]/\0<=s/\s<=2000000000000,?_,?_]
  .refine BY (λ_=>#[0,rfl,∅,∅]) (λ_=>#[s,rfl,s0,s1])
  clear s0 s1;rintro τ ⟨s,rfl,s0,s1⟩;refine#[λτ=>∃s:Int,τ=[some (.r (ms.map D.int)),some (.l (sl.map D.int)),I s,I c,I (c.fmod 6)]/\0<=s/\s<=2000000000000,?_,?_]
  .refine BY (λ_=>#[1,rfl,∅,∅]) (λ_=>#[s,rfl,s0,s1])
  clear s0 s1;rintro τ ⟨s,rfl,s0,s1⟩;refine#[λτ=>∃s:Int,τ=[some (.r (ms.map D.int)),some (.l (sl.map D.int)),I s,I c,I (c.fmod 6)]/\0<=s/\s<=2000000000000,?_,?_]
  .refine BY (λ_=>#[#[∅,Dm ∅],∅,_,rfl,(),()]) (λ_=>#[s,rfl,s0,s1])
  clear s0 s1;rintro τ ⟨s,rfl,s0,s1⟩;refine#[λτ=>∃s:Int,τ=[some (.r (ms.map D.int)),some (.l (sl.map D.int)),I s,I c,I (c.fmod 6)]/\0<=s/\s<=2000000000000,?_,?_]
  .refine BY (λ_=>#[#[∅,Dm ∅],∅,_,rfl,(),()]) (λ_=>#[s,rfl,s0,s1])
  clear s0 s1;rintro τ ⟨s,rfl,s0,s1⟩;refine#[λτ=>∃s:Int,τ=[some (.r (ms.map D.int)),some (.l (sl.map D.int)),I s,I c,I (c.fmod 6)]/\0<=s/\s<=2000000000000,?_,?_]
  .refine BY (λ_=>#[#[∅,Dm ∅],#[∅,∅,∅],qBu h12,_,rfl,(),by rw[h121]at f12 ⊢;omega]) (λ_=>#[s,rfl,s0,s1])
  clear s0 s1;rintro τ ⟨s,rfl,s0,s1⟩;refine#[by rw[qAa];omega,s,sl++[s],_,_,by rw[qAL];rfl,by rw[qAp,e];rfl,s0,s1,λx hx=>?_];rcases qAq.mp hx with h|h
  .exact bs x h
  .rw[qAM.mp h];exact#[s0,s1]
 rintro τ ⟨s,sl,y3,y4,rfl,e,s0,s1,bs⟩;rw[qAa]at e;exact q sl e bs
variable (DA:Cal P w K mg base (CXU P w) 1 "_law_slopes" ["_law_cells"] F4)
theorem Al:Ae ["_law_head","_law_cells","_law_start","_law_shape","_law_unit","_law_part","_law_slopes_here","_law_gaps","_law_time","_law_value","_law_corners","_law_k","_law_digits"] ["_law_head","_law_cells","_law_start","_law_shape"] (Ac DZ):=scN
variable (Tt:mg "min"=none)
variable (GX:mg "sorted"=none)
include Kc AH AF Ct AZ DA Tt GX in
theorem LO (F:Fun K "_law_drawn" "_law_drawn" DZ f fd):Ap P w K mg base CX0 2 f fd ["_law_head","_law_cells","_law_start","_law_shape"] (Ag K mg GF):=by
 refine fn3 F Al (λss R U h=>?_) (λ_ _ _ _ _ _ _ R U hr h=>?_)
 .obtain⟨c,ms,st,sh,rfl,_⟩:=h;rfl
 obtain⟨c,ms,st,sh,rfl,c0,c1,m0,m1,s0,s1,q⟩:=h;refine#[_,(Aa (AA 4 Al (Ak Bf Ad (Ak BI (vN 0) Ad)))
  (Aa (AA 5 Al (Ak Bf Ad (Ak BI (Ak Bo (vN 0) Ad) Ad)))
  (Cy (BB (Cu Im (Ak BI (Ak Bo (vN 0) Ad) Ad) Ad) (Ah (AA 4 Al (Ak Bf Ad (Ak BI (Ak Bo (vN 0) Ad) (Ak Sj Ad Ad))))) Aj)
  (Aa (AA 6 Al (Ai hr DA (a1 (vN 1))))
  (Aa (JA (i:=7) (N:=["_law_cell"]) (idx:=[]) (Ba.mk' (Ac DZ) ["_law_head","_law_cells","_law_start","_law_shape","_law_unit","_law_part","_law_slopes_here","_law_gaps","_law_time","_law_value","_law_corners","_law_k","_law_digits"] rfl rfl (by decide +kernel)) rfl (Bl (PE3.out (vN 1))) CT (λcl C s₀ H₀ fp=>Cc) (λcl C s₀ H₀ fp=>(Ak Bf (Ak Bf Ad (Ak BI (Ak Bo (vN 0) Ad) Ad)) (Ak AL (TN Yz rfl Kc qB9 (a1 (Ma Im (Ak BI (Ak Bo (vN 0) Ad) Ad) Ad (GK _)))) (Ak BI (Ak AL (vN 0) Ad) Ad)))) Al.nd rfl (Or.inl rfl))
  (Cy (BB (Cu Im (Ak BI (vK 1) Ad) Ad) (Aa (AA 12 Al (Ak Bo (vK 1) Ad))
  (Aa (AA 4 Al (Ak Bf Ad (Ak BI (vN 12) Ad)))
  (Aa (AA 5 Al (Ak Bf Ad (Ak BI (Ak Bo (vN 12) Ad) Ad)))
  (Aa (AA 2 Al (JF (Zc rfl) rfl Tt L3.boot_min (a2 (vN 2) (Ak BI (Ak Bo (vN 12) Ad) Ad))))
  (Aa (AA 12 Al (Ak Bo (vN 12) Ad))
  (Ah (QM (Bx PassesOwn.never rfl (IV rfl AF (PA3.out (a1 (CO AH (vN 1))))) (AM (i:=11) Al.nd rfl (Or.inl rfl)) (Dt.out (Aa (Ym (Ug (PE3.out (Ak BI (vN 12) Ad)) (Uo (pv 6) (PE3.out (vN 11)) OB)))
  (Aa (Ym (Ug (PE3.out (Ak Bf Ad (Ak BI (Ak Bo (vN 12) Ad) Ad))) (Uo (pv 7) (PE3.out (vN 11)) OB)))
  (Ah (AA 12 Al (Ak Bo (vN 12) Ad)))))))))))))) Aj)
  (Cy (BB (Cu Im (vN 3) Ad) (Ah (AA 6 Al (Tr (vN 6) rfl GX))) Aj)
  (Cy (BB (Cu Im (vN 3) Ad) (Ah (AA 6 Al (Vc (vN 6) rfl GX))) Aj)
  (Aa (AA 8 Al Ad)
  (Aa (AA 9 Al (vN 2))
  (Aa (AA 10 Al (FO (a1 (A9 (a2 (A9 (a2 Ad Ad)) (Ai hr AZ (a2 (vN 9) (Ak AL (vN 4) (vN 5)))))))))
  (Aa (Ol (Bx PassesOwn.never rfl (CB rfl AF (PA3.out (a2 Ad (CO AH (vN 1))))) (AM (i:=11) Al.nd rfl (Or.inl rfl)) (Dt.out (Aa (AA 8 Al (Ak Bf (vN 8) (A4 (vN 7) (Ak CW (vN 11) Ad))))
  (Aa (AA 9 Al (Ak Bf (vN 9) (Ak AL (A4 (vN 7) (Ak CW (vN 11) Ad)) (A4 (vN 6) (Ak CW (vN 11) Ad)))))
  (Ah (BB (Cu Yl (A4 (vN 6) (vN 11)) (A4 (vN 6) (Ak CW (vN 11) Ad))) (Ah (EU (BF (Fn qAH qAC qAD AY (pv 10) (A7 (PE3.out (A9 (a2 (Ai hr AZ (a2 (vN 8) (vN 4))) (Ai hr AZ (a2 (vN 9) (Ak AL (vN 4) (vN 5))))))) BL))))) Aj)))))))
  (A3 (A9 (a2 (RR (vN 10) rfl Ct) (Ai hr AZ (a2 (A4 (vN 6) (Gg Ad)) (vN 5)))))))))))))))))),?_]
 have c30:c.fdiv 30=0:=by rw[qBl _ ∅];omega
 have f6:=fm (a:=c) (show(0:Int)<6 from ∅);have f5:=fm (a:=c.fdiv 6) (show(0:Int)<5 from ∅);refine#[∅,#[∅,Dm ∅],∅,?_];refine#[λτ=>∃u p:Int,τ=[I c,some (.r (ms.map D.int)),I st,I sh,I u,I p,none,none,none,none,none,none,none]/\0<u/\u<=6/\0<p/\p<=5,?_,?_]
 .refine#[#[∅,Dm ∅],∅,?_];exact BY (λz=>absurd z (by rw[c30];decide)) (λ_=>#[_,_,rfl,(),(),(),()])
 clear f6 f5;rintro τ ⟨u,p,rfl,u0,u1,p0,p1⟩;refine#[ms,rfl,(),λsl el bs=>?_];refine#[ms.map λx=>some (.int (1+(x.fdiv 6).fmod 4+(if decide ((x.fdiv 6).fmod 4=3) then 1 else 0)*(x*48271).fmod 1000003)),by rw[qAa,qAa],λi x hx=>?_,by rw[qAa];omega,?_]
 .obtain⟨x,hp,rfl⟩:=Bs hx;have f3:=fm (a:=x*48271) (show(0:Int)<1000003 from ∅);refine#[#[∅,Dm ∅],∅,#[∅,Dm ∅],∅,PySem.IntMulOk.of_right ∅,∅,AN (m:=1) (n:=20) (by split<;>decide) () ∅,?_];show(ms.map _)[i]? = _;rw[qAd,hp];rfl
 rw[Dj ms (λx=>D.int (1+(x.fdiv 6).fmod 4+(if decide ((x.fdiv 6).fmod 4=3) then 1 else 0)*(x*48271).fmod 1000003))];obtain⟨gp,eg,lg,bg_⟩:∃gp:List Int,ms.map (λx=>D.int (1+(x.fdiv 6).fmod 4+(if decide ((x.fdiv 6).fmod 4=3) then 1 else 0)*(x*48271).fmod 1000003))=gp.map D.int/\↥gp=↥ms/\∀x∈gp,1<=x/\x<=1000010:=by
  refine#[ms.map λx=>1+(x.fdiv 6).fmod 4+(if decide ((x.fdiv 6).fmod 4=3) then 1 else 0)*(x*48271).fmod 1000003,by rw[qA3];rfl,qAa _,λx hx=>?_];obtain⟨y,_,rfl⟩:=qAy.mp hx;have f4:=fm (a:=y.fdiv 6) (show(0:Int)<4 from ∅);have f3:=fm (a:=y*48271) (show(0:Int)<1000003 from ∅);split<;>omega
 rw[eg];clear eg;have b0:=FD (ms:=ms) (i:=0) 0 () ();refine#[λτ=>∃(u p st':Int)(sl gp:List Int)(y11 y12:Option S),τ=[I c,some (.r (ms.map D.int)),I st',I sh,I u,I p,some (.l (sl.map D.int)),some (.l (gp.map D.int)),none,none,none,y11,y12]/\(0<u/\u<=6/\0<p/\p<=5)/\(0<=st'/\st'<=4000000000000/\(st=0->st'=0))/\(↥sl=↥ms/\∀x∈sl,0<=x/\x<=2000000000000)/\↥gp=↥ms/\∀x∈gp,1<=x/\x<=1000010,?_,?_]
 .refine atR b0 ?_;refine#[∅,?_];refine BY (λ_=>?_) (λ_=>#[u,p,st,sl,gp,_,_,rfl,#[u0,u1,p0,p1],#[s0,s1,λe=>e],#[el,bs],lg,bg_]);refine atR b0 ?_;refine#[#[∅,Dm ∅],?_];generalize (cell ms (0:Nat)).fdiv 2=d0;have f6:=fm (a:=d0) (show(0:Int)<6 from ∅);have f5:=fm (a:=d0.fdiv 6) (show(0:Int)<5 from ∅);have fk:=fm (a:=d0.fdiv 30) (show(0:Int)<1000 from ∅);refine#[∅,#[∅,Dm ∅],∅,#[∅,Dm ∅],∅,#[∅,Dm ∅],?_];refine#[by rw[qAa];omega,?_];refine#[λn τ=>∃(sl gp:List Int)(y11:Option S)(d:Int),τ=[I c,some (.r (ms.map D.int)),I (if (d0.fdiv 30).fmod 1000<st then (d0.fdiv 30).fmod 1000 else st),I sh,I (1+d0.fmod 6),I (1+(d0.fdiv 6).fmod 5),some (.l (sl.map D.int)),some (.l (gp.map D.int)),none,none,none,y11,I d]/\(↥sl=↥ms/\∀x∈sl,0<=x/\x<=2000000000000)/\↥gp=↥ms/\∀x∈gp,1<=x/\x<=1000010,#[sl,gp,_,_,rfl,#[el,bs],lg,bg_],?_,?_]
  .rintro n τ hn ⟨sl,gp,y11,d,rfl,⟨el,bs⟩,lg,bg_⟩;have hn:n<↥ms:=by rw[qAa]at hn;omega
   have f20:=fm (a:=d) (show(0:Int)<20 from ∅);have f21:=fm (a:=d.fdiv 20) (show(0:Int)<20 from ∅);refine#[∅,n,Ue () (by rw[qAa];omega),#[∅,Dm ∅],∅,n,Ue () (by rw[qAa];omega),#[∅,Dm ∅],?_];refine#[sl.set n (d.fmod 20),gp.set n (1+(d.fdiv 20).fmod 20),_,_,by rw[List.map_set,List.map_set];rfl,#[by rw[qCB];exact el,λx hx=>?_],by rw[qCB];exact lg,λx hx=>?_]
   .rcases qCs hx with h|rfl
    .exact bs x h
    .omega
   .rcases qCs hx with h|rfl
    .exact bg_ x h
    .omega
  rintro τ ⟨sl,gp,y11,d,rfl,hs_,hg_⟩;exact#[_,_,_,sl,gp,_,_,rfl,#[(),(),(),()],#[by split<;>omega,by split<;>omega,λe=>by rw[if_neg ()];exact e],hs_,hg_]
 clear bs el lg bg_ b0 u0 u1 p0 p1;clear sl gp u p;rintro τ ⟨u,p,st',sl,gp,y11,y12,rfl,⟨u0,u1,p0,p1⟩,⟨t0,t1,te⟩,⟨el,bs⟩,lg,bg_⟩;refine#[λτ=>∃sl:List Int,τ=[I c,some (.r (ms.map D.int)),I st',I sh,I u,I p,some (.l (sl.map D.int)),some (.l (gp.map D.int)),none,none,none,y11,y12]/\(↥sl=↥ms/\∀x∈sl,0<=x/\x<=2000000000000)/\(sh=1->PyProof.Rows.Ordered true sl),?_,?_]
 .refine BY (λ_=>?_) (λz=>#[sl,rfl,#[el,bs],λe=>absurd e z]);exact#[sl,rfl,(),λsl' pm po=>#[sl',rfl,#[by rw[pm.length_eq];exact el,λx hx=>bs x (pm.mem_iff.mp hx)],λ_=>po]]
 clear bs el;clear sl;rintro τ ⟨sl,rfl,⟨el,bs⟩,o1⟩;refine#[λτ=>∃sl:List Int,τ=[I c,some (.r (ms.map D.int)),I st',I sh,I u,I p,some (.l (sl.map D.int)),some (.l (gp.map D.int)),none,none,none,y11,y12]/\(↥sl=↥ms/\∀x∈sl,0<=x/\x<=2000000000000)/\(sh=1->PyProof.Rows.Ordered true sl)/\(sh=2->PyProof.Rows.Ordered false sl),?_,?_]
 .refine BY (λy=>?_) (λz=>#[sl,rfl,#[el,bs],o1,λe=>absurd e z]);exact#[sl,rfl,(),λsl' pm po=>#[sl',rfl,#[by rw[pm.length_eq];exact el,λx hx=>bs x (pm.mem_iff.mp hx)],λe=>absurd (e.symm.trans y) ∅,λ_=>po]]
 clear bs el o1;clear sl;rintro τ ⟨sl,rfl,⟨el,bs⟩,o1,o2⟩;obtain⟨B,hB⟩:∃B:Rat->Prop,B=λe=>∀n:Nat,n+1<↥sl->e*Rat.divInt (cell sl ((n+1:Nat):Int)) p<=e*Rat.divInt (cell sl (n:Nat)) p:=#[_,rfl];have up0:0<u*p:=qA5 u0 p0;have ub:u.natAbs<2^3:=();have pb:p.natAbs<2^3:=();have upb:(u*p).natAbs<2^6:=Aq ub pb;have mup:IntMulOk u p:=AN ub pb ∅;have u13:∀{x n:Nat},x<2^n->n<=100->x<2^13000:=λh l=>Bc h ();have s9:∀j:Nat,j<↥sl->0<=cell sl j/\cell sl j<=2000000000000:=λj hj=>bs _ (Om hj);have g9:∀j:Nat,j<↥gp->1<=cell gp j/\cell gp j<=1000010:=λj hj=>bg_ _ (Om hj);have zsl:∀j:Nat,j<↥sl->Sz 45 (Rat.divInt (cell sl j) p)/\Gd p 41 (Rat.divInt (cell sl j) p):=λj hj=>by
  have:=s9 j hj;exact#[VU p0 () (Bc pb ∅),OS () ()]
 have stb:st'.natAbs<2^67:=();refine#[(by show 2<=1000;decide),mup,st',u*p,rfl,up0,u13 stb ∅,u13 upb ∅,(by show 2<=1000;decide),(by show 1<=1000;decide),?_];refine#[#[∅,∅,by rw[qAa];omega,by rw[qAa];omega],?_];refine#[λn τ=>∃(ti va:Int)(cs:Cs)(y11:Option S),τ=[I c,some (.r (ms.map D.int)),I st',I sh,I u,I p,some (.l (sl.map D.int)),some (.l (gp.map D.int)),I ti,I va,some (.l (cs.map cd)),y11,y12]/\Ord cs/\(Ln 45 68 cs (Rat.divInt (cell sl n) p)/\Dw u p B cs (Rat.divInt (cell sl n) p)/\Rat.divInt va (u*p)=vv cs (↥cs-1)+Rat.divInt (cell sl n) p*(Rat.divInt ti u-tt cs (↥cs-1)))/\↥cs<=n+1/\vv cs 0=Rat.divInt st' (u*p)/\tt cs (↥cs-1)<=Rat.divInt ti u/\vv cs (↥cs-1)<=Rat.divInt va (u*p)/\0<=ti/\ti<=n*1000010/\0<=va/\va<=4000000000000+n*2000020000000000000,#[0,st',[(0,Rat.divInt st' (u*p))],_,rfl,Ord.one (Mz up0 t0),#[Ln.one (zsl 0 ()).1 (by show Sz 68 (Rat.divInt st' (u*p)-Rat.divInt (cell sl 0) p*0);rw[show Rat.divInt st' (u*p)-Rat.divInt (cell sl 0) p*0=Rat.divInt st' (u*p) from ⋯];exact VU up0 () (Bc upb ∅)),Dw.one (OS (qBu up0) stb) (zsl 0 ()).2,by rw[qCD];show Rat.divInt st' (u*p)=Rat.divInt st' (u*p)+Rat.divInt (cell sl 0) p*(0-0);grind],qAg _,rfl,by rw[qCD];exact qAb,qAb,∅,∅,t0,()],?_,?_]
 .rintro n τ hn ⟨ti,va,cs,y11,rfl,oc,⟨zl,dw,onl⟩,lc,hv0,ht,hv,i0,i1,v0,v1⟩;rw[qAa]at hn;have nl:n+1<↥ms:=();have b0:=FD (ms:=gp) (i:=1+n*1-1) n () ();have c0:=FD (ms:=sl) (i:=1+n*1-1) n () ();have c1:=FD (ms:=sl) (i:=1+n*1) (n+1) () ();have sn:=s9 n ();have gn:=g9 n ();have sn1:=s9 (n+1) ();have zs1:=zsl (n+1) ();have bn:∀e,B e->e*Rat.divInt (cell sl ((n+1:Nat):Int)) p<=e*Rat.divInt (cell sl (n:Nat)) p:=λe h=>by rw[hB]at h;exact h n ()
  refine atR b0 ?_;refine atR b0 ?_;refine atR c0 ?_;generalize ecx:cell sl n=x at sn zl onl dw bn ⊢;generalize cell gp n=g at gn ⊢;obtain⟨g0,g1⟩:=gn;have gx:0<=g*x:=qBS () sn.1;have gx1:g*x<=1000010*2000000000000:=Int.mul_le_mul g1 sn.2 sn.1 ∅;refine#[AN (m:=21) (n:=42) () () ∅,?_];refine atR c1 ?_;refine atR c0 ?_;have lt1:Rat.divInt ti u<Rat.divInt (ti+g) u:=MQ u0 ();have le1:Rat.divInt va (u*p)<=Rat.divInt (va+g*x) (u*p):=Jl up0 ();have tb:(ti+g).natAbs<2^26:=();have vb:(va+g*x).natAbs<2^67:=();have st2:=Qf (va:=va) (g:=g) (x:=x) (ti:=ti) u0 p0;have onl2:Rat.divInt (va+g*x) (u*p)=vv cs (↥cs-1)+Rat.divInt x p*(Rat.divInt (ti+g) u-tt cs (↥cs-1)):=by
   rw[st2,onl];generalize Rat.divInt x p=M;generalize Rat.divInt ti u=X0;generalize Rat.divInt (ti+g) u=X1;generalize vv cs (↥cs-1)=Y;generalize tt cs (↥cs-1)=Z;grind
  refine KN (λne=>?_) (λne=>?_)
  .refine#[ti+g,u,rfl,u0,u13 tb ∅,u13 ub ∅,mup,va+g*x,u*p,rfl,up0,u13 vb ∅,u13 upb ∅,(by show 2<=1000;decide),by rw[qAa];omega,?_];have dv:(Rat.divInt (va+g*x) (u*p)-vv cs (↥cs-1))/(Rat.divInt (ti+g) u-tt cs (↥cs-1))=Rat.divInt x p:=Mt (by rw[onl2];grind) ⋯;have o2:Ord (cs++[(Rat.divInt (ti+g) u,Rat.divInt (va+g*x) (u*p))]):=oc.snoc (c:=(Rat.divInt (ti+g) u,Rat.divInt (va+g*x) (u*p))) (by show _<Rat.divInt (ti+g) u;grind) (by show _<=Rat.divInt (va+g*x) (u*p);grind);have ln:(cs++[(Rat.divInt (ti+g) u,Rat.divInt (va+g*x) (u*p))]).length-1=↥cs:=by rw[Bq];omega
   have nx:Rat.divInt x p≠Rat.divInt (cell sl ((n+1:Nat):Int)) p:=λz=>ne (by rw[ecx];exact(Ve p0 z).symm);refine#[_,_,cs++[(Rat.divInt (ti+g) u,Rat.divInt (va+g*x) (u*p))],_,by rw[qAL];rfl,o2,#[zl.snoc dv zs1.1 ?_,dw.snoc oc.ne dv (OS () tb) (OS (qBu up0) vb) zs1.2 nx bn,?_],by rw[Bq];omega,by rw[M9 oc.ne];exact hv0,by rw[ln,OD];exact qAb,by rw[ln,Pa];exact qAb,(),(),(),()]
   .show Sz 68 (Rat.divInt (va+g*x) (u*p)-Rat.divInt (cell sl ((n+1:Nat):Int)) p*Rat.divInt (ti+g) u);rw[WV u0 p0];have m3:cell sl ((n+1:Nat):Int)*(ti+g)<=2000000000000*60000000:=Int.mul_le_mul sn1.2 () () ∅;have m4:0<=cell sl ((n+1:Nat):Int)*(ti+g):=qBS sn1.1 ();have m2:(cell sl ((n+1:Nat):Int)*(ti+g)).natAbs<2^67:=();exact VU up0 (GI vb m2) (Bc upb ∅)
   .rw[ln,OD,Pa];show Rat.divInt (va+g*x) (u*p)=Rat.divInt (va+g*x) (u*p)+_*(Rat.divInt (ti+g) u-Rat.divInt (ti+g) u);grind
  .have ne:cell sl ((n+1:Nat):Int)=x:=ne.trans ecx;exact#[_,_,cs,_,rfl,oc,#[by rw[ne];exact zl,by rw[ne];exact dw,by rw[ne];exact onl2],(),hv0,⋯,⋯,(),(),(),()]
 rintro τ ⟨ti,va,cs,y11,rfl,oc,⟨zl,dw,onl⟩,lc,hv0,ht,hv,i0,i1,v0,v1⟩;have eN:((((ms.map D.int).length:Nat):Int)-1).toNat=↥ms-1:=by rw[qAa];omega
 rw[eN]at lc zl dw;have bx:=s9 (↥ms-1) ();refine atR (MM (ms:=sl) ()) ?_;rw[el];have xb:(cell sl ((↥ms-1:Nat):Int)).natAbs<2^67:=();refine#[cell sl ((↥ms-1:Nat):Int),p,rfl,p0,u13 xb ∅,u13 pb ∅,(by show 2<=1000;decide),?_];have m0':=Mz p0 bx.1;have zt:∀i,i<↥cs->Sz 41 (tt cs i):=λi hi=>((dw.tm i hi).mono ∅).sz () ();refine q cs _ #[#[oc.ne,oc.t0,oc.v0,m0',oc.up,oc.vu,dw.bend],zl.ls oc zt,(),λi hi=>((dw.va i hi).mono ∅).sz () (Bc upb ∅),u,p,#[u0,u1],#[p0,p1],dw.tm,dw.sl,dw.va] (λe=>by rw[hv0,te e,qCD]) (λe=>dw.bow 1 ?_) (λe=>dw.bow (-1) ?_)
 .rw[hB];intro n hn;have:=Jl p0 (ZK (o1 e) hn);grind
 .rw[hB];intro n hn;have:=Jl p0 (Zf (o2 e) hn);grind
variable (Br:Cal P w K mg base (CXU P w) 2 "_law_drawn" ["_law_head","_law_cells","_law_start","_law_shape"] GF)
theorem NH:Ae ["_law_script","_law_begin","_law_many"] ["_law_script","_law_begin","_law_many"] (Ac Fv):=scN
include AF As in
theorem NX (F:Fun K "_law_few" "_law_few" Fv f fd):Ap P w K mg base CX0 2 f fd ["_law_script","_law_begin","_law_many"] (Ag K mg Je):=by
 refine fn3 F NH (λss R U h=>?_) (λ_ _ _ _ _ _ _ R U hr h=>?_)
 .obtain⟨ns,b,z,rfl,_⟩:=h;rfl
 obtain⟨ns,b,z,rfl,b0,b1,z0,z1,q⟩:=h;refine#[_,(A3 (Fi (N:=["_law_k","_law_script"]) (idx:=[0]) (Ba.mk' (Ac Fv) ["_law_script","_law_begin","_law_many"] rfl rfl (by decide +kernel)) rfl (CB rfl AF (PA3.out (a2 (vN 1) (Ak Bf (vN 1) (vN 2))))) He (λcl C s₀ H₀ fp=>Cc) (λcl C s₀ H₀ fp=>(Ai hr As (a2 (vN 1) (vN 0)))))),?_];refine#[#[(),(),(),()],?_];generalize ec:(b+z-b).toNat=cnt;have hc:0<cnt/\cnt<=8:=();refine#[(List.range cnt).map fun(i:Nat)=>some (D.int (cl ns (b+(i:Int)*1))),by rw[B6,qAa,qAz],?_,?_,?_]
 .intro n x hx;obtain⟨hn,rfl⟩:=E1 hx;refine#[ns,b+(n:Int)*1,rfl,(),(),?_];show((List.range cnt).map _)[n]? = _;rw[qAd,qAJ hn];rfl
 .rw[B6];omega
 rw[WU];exact q _ (by rw[qAa,qAz];omega)
variable (B5:Cal P w K mg base (CXU P w) 2 "_law_few" ["_law_script","_law_begin","_law_many"] Je)
theorem LF:Ae ["_law_f","_law_start","_law_length"] ["_law_f","_law_start","_law_length"] (Ac ET):=scN
include Bk Aw AR in
theorem K4 (F:Fun K "_law_grown" "_law_grown" ET f fd):Ap P w K mg base CX0 4 f fd ["_law_f","_law_start","_law_length"] (Ag K mg GN):=by
 refine fn3 F LF (λss R U h=>?_) (λ_ _ _ _ _ _ _ R U hr h=>?_)
 .obtain⟨cs,m,s,L,sn,sd,ln,ld,n,rfl,_⟩:=h;rfl
 obtain⟨cs,m,s,L,sn,sd,ln,ld,n,rfl,o,hn,hz,ws,s0,wl,l0,q⟩:=h;refine#[_,(A3 (Ai hr Aw (a2 (Ai hr AR (a2 (vN 0) (Ai hr Bk (a2 (vN 1) (vN 2))))) (Ai hr AR (a2 (vN 0) (vN 1)))))),?_];have hc:=hz.cs.mono (show n<=n+n+1 from ());have hm:=hz.m.mono (show n<=n+n+1 from ());refine#[_,_,_,_,rfl,ws.l4 wl (),?_];refine#[cs,m,s+L,_,_,n+n+1,rfl,o,hz.len,(),hc,hm,ws.plus wl,Rat.add_nonneg s0 l0,λA B w1=>?_];refine#[cs,m,s,_,_,n+n+1,rfl,o,hz.len,(),hc,hm,ws.mono (),s0,λA' B' w2=>?_];exact#[_,_,_,_,rfl,w1.l4 w2 (),q _ _ ((w1.minus w2).mono ())]
variable (BX:Cal P w K mg base (CXU P w) 4 "_law_grown" ["_law_f","_law_start","_law_length"] GN)
theorem Cg:Ae ["_law_f","_law_g","_law_rows","_law_corner","_law_other"] ["_law_f","_law_g"] (Ac Ey):=scN
include Aw Af in
theorem Kb (F:Fun K "_law_places" "_law_places" Ey f fd):Ap P w K mg base CX0 2 f fd ["_law_f","_law_g"] (Ag K mg F5):=by
 refine fn3 F Cg (λss R U h=>?_) (λ_ _ _ _ _ _ _ R U hr h=>?_)
 .obtain⟨cs,m,ds,k,rfl,_⟩:=h;rfl
 obtain⟨cs,m,ds,k,rfl,hc,hd,q⟩:=h;refine#[_,(Aa (AA 2 Cg (FO MJ))
  (Aa (Ds (Bx PassesOwn.never rfl (Bl (PE3.out (vK 0))) (AM (i:=3) Cg.nd rfl (Or.inl rfl)) (Dt.out (Aa (Ds (Bx PassesOwn.never rfl (Bl (PE3.out (vK 0))) (AM (i:=4) Cg.nd rfl (Or.inl rfl)) (Dt.out (Ah (BB (A6 (Ai hr Af (a2 (vK 3) (vK 4)))) (Ah (EU (BF (Fn qAH qAC qAD AY (pv 2) (A7 (PE3.out (A9 (a2 (vK 3) (Ai hr Aw (a2 (vK 4) (vK 3)))))) BL))))) Aj)))))
  (Ah (Ds (Bx PassesOwn.never rfl (Bl (PE3.out (vK 1))) (AM (i:=4) Cg.nd rfl (Or.inl rfl)) (Dt.out (Aa (EU (BF (Fn qAH qAC qAD AY (pv 2) (A7 (PE3.out (A9 (a2 (vK 3) (vK 4)))) BL))))
  (Ah (BB (A6 (Ai hr Af (a2 (vK 4) (vK 3)))) (Ah (EU (BF (Fn qAH qAC qAD AY (pv 2) (A7 (PE3.out (A9 (a2 (Ai hr Aw (a2 (vK 3) (vK 4))) (vK 4)))) BL))))) Aj)))))))))))
  (Ah (Di (pv 2))))),?_]
 have o:=hc.1.o;have od:=hd.1.o;have lc:=hc.2.2;have ld:=hd.2.2;have Wt:∀{i:Nat},i<↥cs->Wq 2400 (tt cs i).num (tt cs i).den (tt cs i):=λhi=>Wq.of (hc.2.1.cs _ hi).1;have Wd:∀{i:Nat},i<↥ds->Wq 2400 (tt ds i).num (tt ds i).den (tt ds i):=λhi=>Wq.of (hd.2.1.cs _ hi).1;refine#[by show 0<=1000;decide,?_];refine#[λn τ=>∃(rows:List D)(y3 y4:Option S),τ=[some (.d (crv cs m)),some (.d (crv ds k)),some (.l rows),y3,y4]/\↥rows<=49415*n/\n<=15/\∀x∈rows,PLr x,#[[],_,_,rfl,∅,∅,λx h=>nomatch h],?_,?_]
 .rintro n τ x hx ⟨rows,y3,y4,rfl,lr,n7,hr⟩;obtain⟨nl,rfl⟩:=DL hx;have t0:=BW o nl;refine#[λj τ=>∃(rows':List D)(y4:Option S),τ=[some (.d (crv cs m)),some (.d (crv ds k)),some (.l rows'),some (.d (.tup [qd (tt cs n),qd (vv cs n)])),y4]/\↥rows'<=49415*n+j/\j<=15/\∀x∈rows',PLr x,#[rows,_,rfl,lr,∅,hr],?_,?_]
  .rintro j τ x hx ⟨rows',y4,rfl,lr',j7,hr'⟩;obtain⟨jl,rfl⟩:=DL hx;refine#[_,_,_,_,rfl,(Wt nl).l4 (Wt jl) ∅,?_];refine BY (λc=>?_) (λc=>#[rows',_,rfl,(),(),hr']);rw[(Wt nl).le_iff (Wt jl)]at c;refine#[_,_,_,_,rfl,(Wt jl).l4 (Wt nl) ∅,(by show 2<=1000;decide),(),?_];exact#[_,_,rfl,by rw[qAp];show _+1<=_;omega,(),Na hr' #[_,_,_,_,_,_,rfl,(Wt nl).mono ∅,t0,((Wt jl).minus (Wt nl)).mono ∅,⋯]]
  rintro τ ⟨rows',y4,rfl,lr',j7,hr'⟩;rw[qAa]at lr' j7;refine#[λj τ=>∃(rows2:List D)(y4:Option S),τ=[some (.d (crv cs m)),some (.d (crv ds k)),some (.l rows2),some (.d (.tup [qd (tt cs n),qd (vv cs n)])),y4]/\↥rows2<=49415*n+15+2*j/\j<=24700/\∀x∈rows2,PLr x,#[rows',_,rfl,(),∅,hr'],?_,?_]
  .rintro j τ x hx ⟨rows2,y4,rfl,lr2,j7,hr2⟩;obtain⟨jl,rfl⟩:=DL hx;have d0:=BW od jl;have aa:=Na hr2 (y:=.tup [qd (tt cs n),qd (tt ds j)]) #[_,_,_,_,_,_,rfl,(Wt nl).mono ∅,t0,(Wd jl).mono ∅,d0];refine#[(by show 2<=1000;decide),(),?_];refine#[_,_,_,_,rfl,(Wd jl).l4 (Wt nl) ∅,?_];refine BY (λc=>?_) (λc=>#[_,_,rfl,by rw[qAp];show _+1<=_;omega,(),aa]);rw[(Wd jl).le_iff (Wt nl)]at c;refine#[_,_,_,_,rfl,(Wt nl).l4 (Wd jl) ∅,(by show 2<=1000;decide),by rw[qAp];show _+1<_;omega,?_];exact#[_,_,rfl,by rw[qAp,qAp];show _+1+1<=_;omega,(),Na aa #[_,_,_,_,_,_,rfl,((Wt nl).minus (Wd jl)).mono ∅,⋯,(Wd jl).mono ∅,d0]]
  rintro τ ⟨rows2,y4,rfl,lr2,j7,hr2⟩;rw[qAa]at lr2 j7;exact#[rows2,_,_,rfl,(),(),hr2]
 rintro τ ⟨rows,y3,y4,rfl,lr,n7,hr⟩;rw[qAa]at lr;exact q rows () hr
variable (BH:Cal P w K mg base (CXU P w) 2 "_law_places" ["_law_f","_law_g"] F5)
theorem Ew:Ae ["_law_coming","_law_f","_law_corner","_law_place"] ["_law_coming","_law_f"] (Ac E3):=scN
include Af AR BX BH in
theorem Lf (F:Fun K "_law_keeps" "_law_keeps" E3 f fd):Ap P w K mg base CX0 5 f fd ["_law_coming","_law_f"] (Ag K mg Gv):=by
 refine fn3 F Ew (λss R U h=>?_) (λ_ _ _ _ _ _ _ R U hr h=>?_)
 .obtain⟨cs,m,ds,k,rfl,_⟩:=h;rfl
 obtain⟨cs,m,ds,k,rfl,hc,hd,h2,q⟩:=h;refine#[_,(Aa (BB (w_not (A6 (Ai hr Af (a2 (vK 0) (vK 1))))) (A3 Hf) Aj)
  (Aa (Ds (Bx PassesOwn.never rfl (Bl (PE3.out (Ke J7 (vK 0) (vK 1)))) (AM (i:=2) Ew.nd rfl (Or.inl rfl)) (Dt.out (Ah (BB (w_not (A6 (Ai hr Af (a2 (Ai hr AR (a2 (vN 0) (vK 2))) (Ai hr AR (a2 (vN 1) (vK 2))))))) (A3 Hf) Aj)))))
  (Aa (Ds (Bx PassesOwn.never rfl (Bl (PE3.out (Ai hr BH (a2 (vN 0) (vN 1))))) (AM (i:=3) Ew.nd rfl (Or.inl rfl)) (Dt.out (Ah (BB (w_not (A6 (Ai hr Af (a2 (Ai hr BX (AQ (vN 0) (a2 (vK 3) (vK 3)))) (Ai hr AR (a2 (vN 1) (vK 3))))))) (A3 Hf) Aj)))))
  (A3 Hf)))),?_]
 have o:=hc.1.o;have od:=hd.1.o;have lc:=hc.2.2;have ld:=hd.2.2;have hz:SzK 4801 cs m:=#[hc.2.1.len,hc.2.1.cs.mono ∅,hc.2.1.m.mono ∅];have hs:SzK 4801 ds k:=#[hd.2.1.len,hd.2.1.cs.mono ∅,hd.2.1.m.mono ∅];have wm:Wq 2400 m.num m.den m:=Wq.of hc.2.1.m;have wk:Wq 2400 k.num k.den k:=Wq.of hd.2.1.m;have mk:m<=k:=Lu o od h2.1;refine#[_,_,_,_,rfl,wm.l4 wk ∅,?_];refine KN (λc=>absurd ((wm.le_iff wk).mpr mk) c) (λ_=>?_);refine#[UJ o.ne,by rw[qAa,qAa];omega,?_];rw[<-qAL];refine#[λn τ=>∃y y3:Option S,τ=[some (.d (crv cs m)),some (.d (crv ds k)),y,y3],#[_,_,rfl],?_,?_]
 .rintro n τ x hx ⟨y,y3,rfl⟩;obtain⟨c,hc_,rfl⟩:=Bs hx;obtain⟨z1,z0⟩:Sz 2400 c.1/\0<=c.1:=by
   rcases qAq.mp (qAB hc_) with h|h
   .exact#[(hc.mem h).1,(hc.mem h).2.1]
   .exact#[(hd.mem h).1,(hd.mem h).2.1]
  have w1:=Wq.of z1;refine#[cs,m,c.1,_,_,2400,rfl,o,hc.2.1.len,∅,hc.2.1.cs,hc.2.1.m,w1,z0,λA B wA=>?_];refine#[ds,k,c.1,_,_,2400,rfl,od,hd.2.1.len,∅,hd.2.1.cs,hd.2.1.m,w1,z0,λA' B' wB=>?_];refine#[_,_,_,_,rfl,wA.l4 wB ∅,?_];exact KN (λd=>absurd ((wA.le_iff wB).mpr (h2.1 _ z0)) d) (λ_=>#[_,_,rfl])
 rintro τ ⟨y,y3,rfl⟩;refine#[cs,m,ds,k,rfl,hc,hd,λrows lr hr=>?_];refine#[λn τ=>∃y3:Option S,τ=[some (.d (crv cs m)),some (.d (crv ds k)),y,y3],#[_,rfl],?_,?_]
 .rintro n τ x hx ⟨y3,rfl⟩;obtain⟨a,b,c,d,s,L,rfl,ws,s0,wL,l0⟩:=hr x (qAB hx);refine#[cs,m,s,L,_,_,_,_,4801,rfl,o,∅,hz,ws,s0,wL,l0,λA B wA=>?_];refine#[ds,k,L,_,_,4801,rfl,od,hs.len,∅,hs.cs,hs.m,wL,l0,λA' B' wB=>?_];refine#[_,_,_,_,rfl,wA.l4 (wB.mono ∅) ∅,?_];exact KN (λd=>absurd ((wA.le_iff wB).mpr (h2.2 _ _ s0 l0)) d) (λ_=>#[_,rfl])
 rintro τ ⟨y3,rfl⟩;exact q
variable (Dd:Cal P w K mg base (CXU P w) 5 "_law_keeps" ["_law_coming","_law_f"] Gv)
theorem HP:Ae ["_law_offer","_law_g","_law_place"] ["_law_offer","_law_g"] (Ac Ge):=scN
include Af AR BX BH in
theorem Mu (F:Fun K "_law_sure" "_law_sure" Ge f fd):Ap P w K mg base CX0 5 f fd ["_law_offer","_law_g"] (Ag K mg HX):=by
 refine fn3 F HP (λss R U h=>?_) (λ_ _ _ _ _ _ _ R U hr h=>?_)
 .obtain⟨cs,m,ds,k,rfl,_⟩:=h;rfl
 obtain⟨cs,m,ds,k,rfl,hc,hd,h2,q⟩:=h;refine#[_,(Aa (BB (w_not (A6 (Ai hr Af (a2 (vK 1) (vK 0))))) (A3 Hf) Aj)
  (Aa (Ds (Bx PassesOwn.never rfl (Bl (PE3.out (Ai hr BH (a2 (vN 0) (vN 1))))) (AM (i:=2) HP.nd rfl (Or.inl rfl)) (Dt.out (Ah (BB (w_not (A6 (Ai hr Af (a2 (Ai hr AR (a2 (vN 1) (vK 2))) (Ai hr BX (AQ (vN 0) (a2 (vK 2) (vK 2)))))))) (A3 Hf) Aj)))))
  (A3 Hf))),?_]
 have o:=hc.1.o;have od:=hd.1.o;have lc:=hc.2.2;have ld:=hd.2.2;have hz:SzK 4801 cs m:=#[hc.2.1.len,hc.2.1.cs.mono ∅,hc.2.1.m.mono ∅];have hs:SzK 4801 ds k:=#[hd.2.1.len,hd.2.1.cs.mono ∅,hd.2.1.m.mono ∅];have wm:Wq 2400 m.num m.den m:=Wq.of hc.2.1.m;have wk:Wq 2400 k.num k.den k:=Wq.of hd.2.1.m;have mk:k<=m:=Lu od o λt t0=>by
  have a:=h2 0 t qAb t0;rw[show 0+t=t from ⋯]at a;have:=ON hc.1 (qAb (a:=0));grind
 refine#[_,_,_,_,rfl,wk.l4 wm ∅,?_];refine KN (λc=>absurd ((wk.le_iff wm).mpr mk) c) (λ_=>?_);refine#[cs,m,ds,k,rfl,hc,hd,λrows lr hr=>?_];refine#[λn τ=>∃y:Option S,τ=[some (.d (crv cs m)),some (.d (crv ds k)),y],#[_,rfl],?_,?_]
 .rintro n τ x hx ⟨y,rfl⟩;obtain⟨a,b,c,d,s,L,rfl,ws,s0,wL,l0⟩:=hr x (qAB hx);refine#[ds,k,L,_,_,4801,rfl,od,hs.len,∅,hs.cs,hs.m,wL,l0,λA' B' wB=>?_];refine#[cs,m,s,L,_,_,_,_,4801,rfl,o,∅,hz,ws,s0,wL,l0,λA B wA=>?_];refine#[_,_,_,_,rfl,(wB.mono ∅).l4 wA ∅,?_];exact KN (λd=>absurd ((wB.le_iff wA).mpr (h2 _ _ s0 l0)) d) (λ_=>#[_,rfl])
 rintro τ ⟨y,rfl⟩;exact q
variable (Em:Cal P w K mg base (CXU P w) 5 "_law_sure" ["_law_offer","_law_g"] HX)
theorem C7:Ae ["_law_f","_law_g","_law_time","_law_corner","_law_early"] ["_law_f","_law_g","_law_time"] (Ac Et):=scN
include Bk Aw Af AR in
theorem Kd (F:Fun K "_law_enough" "_law_enough" Et f fd):Ap P w K mg base CX0 4 f fd ["_law_f","_law_g","_law_time"] (Ag K mg F3):=by
 refine fn3 F C7 (λss R U h=>?_) (λ_ _ _ _ _ _ _ R U hr h=>?_)
 .obtain⟨cs,m,ds,k,t,rfl,_⟩:=h;rfl
 obtain⟨cs,m,ds,k,t,rfl,hc,hd,zt,t0,h2,q⟩:=h;refine#[_,(Aa (BB (w_not (A6 (Ai hr Af (a2 (vK 0) (vK 1))))) (A3 Hf) Aj)
  (Aa (Ds (Bx PassesOwn.never rfl (Bl (PE3.out (vK 0))) (AM (i:=3) C7.nd rfl (Or.inl rfl)) (Dt.out (Ah (BB (w_not (A6 (Ai hr Af (a2 (vK 3) (Ai hr AR (a2 (vN 1) (Ai hr Bk (a2 (vK 3) (vN 2))))))))) (A3 Hf) Aj)))))
  (Aa (Ds (Bx PassesOwn.never rfl (Bl (PE3.out (vK 1))) (AM (i:=3) C7.nd rfl (Or.inl rfl)) (Dt.out (Aa (AA 4 C7 (Ai hr Aw (a2 (vK 3) (vN 2))))
  (Ah (BB (PW3.pt (Ib (Cu dX (vK 4) Ad) (EI (w_not (A6 (Ai hr Af (a2 (Ai hr AR (a2 (vN 0) (vN 4))) (vK 3)))))))) (A3 Hf) Aj))))))
  (A3 Hf)))),?_]
 have o:=hc.1.o;have od:=hd.1.o;have lc:=hc.2.2;have ld:=hd.2.2;have hz:SzK 10600 cs m:=#[hc.2.1.len,hc.2.1.cs.mono ∅,hc.2.1.m.mono ∅];have hs:SzK 7700 ds k:=#[hd.2.1.len,hd.2.1.cs.mono ∅,hd.2.1.m.mono ∅];have wm:Wq 2400 m.num m.den m:=Wq.of hc.2.1.m;have wk:Wq 2400 k.num k.den k:=Wq.of hd.2.1.m;have wt:Wq 5285 t.num t.den t:=Wq.of zt;have mk:m<=k:=QJ o od t0 h2;refine#[_,_,_,_,rfl,wm.l4 wk ∅,?_];refine KN (λc=>absurd ((wm.le_iff wk).mpr mk) c) (λ_=>?_);refine#[λn τ=>∃y y4:Option S,τ=[some (.d (crv cs m)),some (.d (crv ds k)),some (.d (qd t)),y,y4],#[_,_,rfl],?_,?_]
 .rintro n τ x hx ⟨y,y4,rfl⟩;obtain⟨c,hc_,rfl⟩:=Bs hx;obtain⟨z1,z0,z2,ev⟩:=hc.mem (qAB hc_);have w1:=Wq.of z1;have w2:=Wq.of z2;refine#[_,_,_,_,rfl,(w1.mono ∅).l4 wt ∅,?_];refine#[ds,k,c.1+t,_,_,7700,rfl,od,hs.len,∅,hs.cs,hs.m,(w1.plus wt).mono ∅,⋯,λA B wA=>?_];refine#[_,_,_,_,rfl,(w2.mono ∅).l4 wA ∅,?_];exact KN (λd=>absurd ((w2.le_iff wA).mpr (by rw[<-ev];exact h2 _ z0)) d) (λ_=>#[_,_,rfl])
 rintro τ ⟨y,y4,rfl⟩;refine#[λn τ=>∃y y4:Option S,τ=[some (.d (crv cs m)),some (.d (crv ds k)),some (.d (qd t)),y,y4],#[_,_,rfl],?_,?_]
 .rintro n τ x hx ⟨y,y4,rfl⟩;obtain⟨c,hc_,rfl⟩:=Bs hx;obtain⟨z1,z0,z2,ev⟩:=hd.mem (qAB hc_);have w1:=Wq.of z1;have w2:=Wq.of z2;refine#[_,_,_,_,rfl,(w1.mono ∅).l4 wt ∅,?_];have w:=(w1.mono (show 2400<=5285 from ∅)).minus wt;refine BY (λe=>?_) (λe=>#[_,_,rfl]);have e:0<=c.1-t:=(Zl w).mp e;refine#[cs,m,c.1-t,_,_,10600,rfl,o,hz.len,∅,hz.cs,hz.m,w.mono ∅,e,λA B wA=>?_];refine#[_,_,_,_,rfl,wA.l4 (w2.mono ∅) ∅,?_];exact KN (λd=>absurd ((wA.le_iff w2).mpr (by have:=h2 _ e;rw[show c.1-t+t=c.1 from ⋯,ev]at this;exact this)) d) (λ_=>#[_,_,rfl])
 rintro τ ⟨y,y4,rfl⟩;exact q
variable (DB:Cal P w K mg base (CXU P w) 4 "_law_enough" ["_law_f","_law_g","_law_time"] F3)
theorem Cm:Ae ["_law_f","_law_best","_law_k"] ["_law_f"] (Ac DK):=scN
include AH AF AZ Af Av in
theorem Il (F:Fun K "_law_steepest" "_law_steepest" DK f fd):Ap P w K mg base CX0 3 f fd ["_law_f"] (Ag K mg EH):=by
 refine fn3 F Cm (λss R U h=>?_) (λ_ _ _ _ _ _ _ R U hr h=>?_)
 .obtain⟨cs,m,rfl,_⟩:=h;rfl
 obtain⟨cs,m,rfl,h,q⟩:=h;refine#[_,(Aa (AA 1 Cm (A9 (a2 Ad Ad)))
  (Aa (QM (Bx PassesOwn.never rfl (IV rfl AF (PA3.out (a1 (CO AH (vK 0))))) (AM (i:=2) Cm.nd rfl (Or.inl rfl)) (Dt.out (Ah (BB (w_not (A6 (Ai hr Af (a2 (Ai hr Av (a2 (vN 0) (vN 2))) (vN 1))))) (Ah (AA 1 Cm (Ai hr Av (a2 (vN 0) (vN 2))))) Aj)))))
  (A3 (Ai hr AZ (a2 (vK 1) (vK 1)))))),?_]
 have r:=h.1.rise;have o:=r.o;have lc:=h.2.2.1;have hz:=h.2.1.szk (n:=155) o () ∅;refine#[(by show 2<=1000;decide),?_];refine#[by rw[qAa];omega,?_];refine#[λn τ=>∃(A B:Int)(s:Rat)(y:Option S),τ=[some (.d (crv cs m)),some (.d (tp A B)),y]/\Wq 622 A B s/\Sz 45 s/\0<=s/\(∀j,j<n->j<↥cs->slp cs m j<=s)/\s∈0::slL cs m,#[0,1,0,_,rfl,(Wq.of Sz.zero:Wq 1 0 1 0).mono ∅,Sz.zero.mono ∅,qAb,λj hj=>absurd hj (qBf j),qAK],?_,?_]
 .rintro n τ hn ⟨A,B,s,y,rfl,w,zs,s0,al,ms⟩;rw[qAa]at hn;have nl:n<↥cs:=();refine#[cs,m,_,n,155,rfl,(),nl,o.up,∅,hz.cs,hz.m,λA1 B1 w1=>?_];refine#[_,_,_,_,rfl,w1.l4 w ∅,?_];refine KN (λc=>?_) (λc=>#[A,B,s,_,rfl,w,zs,s0,λj hj hl=>?_,ms])
  .rw[w1.le_iff w]at c;exact#[cs,m,_,n,155,rfl,(),nl,o.up,∅,hz.cs,hz.m,λA2 B2 w2=>#[A2,B2,_,_,rfl,w2,(h.2.1.ln o n nl).1,Ff r n,λj hj hl=>by
    by_cases e:j<n
    .have:=al j e hl;grind
    .have:j=n:=();subst this;exact qAb,qAE _ (qAy.mpr #[n,qAu.mpr nl,rfl])]]
  .rw[w1.le_iff w]at c;by_cases e:j<n
   .exact al j e hl
   .have:j=n:=();subst this;exact c
 rintro τ ⟨A,B,s,y,rfl,w,zs,s0,al,ms⟩;rw[qAa]at al;refine#[_,_,rfl,w.pos,Bc w.la ∅,Bc w.lb ∅,?_];rw[Ko w];exact q s zs s0 (λi hi=>al i () hi) ms
variable (CK:Cal P w K mg base (CXU P w) 3 "_law_steepest" ["_law_f"] EH)
theorem Cj:Ae ["_law_f","_law_best","_law_k"] ["_law_f"] (Ac DP):=scN
include AH AF AZ Af Av in
theorem Ii (F:Fun K "_law_flattest" "_law_flattest" DP f fd):Ap P w K mg base CX0 3 f fd ["_law_f"] (Ag K mg EF):=by
 refine fn3 F Cj (λss R U h=>?_) (λ_ _ _ _ _ _ _ R U hr h=>?_)
 .obtain⟨cs,m,rfl,_⟩:=h;rfl
 obtain⟨cs,m,rfl,h,q⟩:=h;refine#[_,(Aa (AA 1 Cj (Ai hr Av (a2 (vN 0) Ad)))
  (Aa (QM (Bx PassesOwn.never rfl (IV rfl AF (PA3.out (a1 (CO AH (vK 0))))) (AM (i:=2) Cj.nd rfl (Or.inl rfl)) (Dt.out (Ah (BB (w_not (A6 (Ai hr Af (a2 (vN 1) (Ai hr Av (a2 (vN 0) (vN 2))))))) (Ah (AA 1 Cj (Ai hr Av (a2 (vN 0) (vN 2))))) Aj)))))
  (A3 (Ai hr AZ (a2 (vK 1) (vK 1)))))),?_]
 have r:=h.1.rise;have o:=r.o;have lc:=h.2.2.1;have hz:=h.2.1.szk (n:=155) o () ∅;refine#[cs,m,_,0,155,rfl,(),o.ne,o.up,∅,hz.cs,hz.m,λA B w=>?_];refine#[by rw[qAa];omega,?_];refine#[λn τ=>∃(A B:Int)(s:Rat)(y:Option S),τ=[some (.d (crv cs m)),some (.d (tp A B)),y]/\Wq 622 A B s/\Sz 45 s/\0<=s/\(∀j,j<n->j<↥cs->s<=slp cs m j)/\s∈slL cs m,#[A,B,_,_,rfl,w,(h.2.1.ln o 0 o.ne).1,Ff r 0,λj hj=>absurd hj (qBf j),qAy.mpr #[0,qAu.mpr o.ne,rfl]],?_,?_]
 .rintro n τ hn ⟨A,B,s,y,rfl,w,zs,s0,al,ms⟩;rw[qAa]at hn;have nl:n<↥cs:=();refine#[cs,m,_,n,155,rfl,(),nl,o.up,∅,hz.cs,hz.m,λA1 B1 w1=>?_];refine#[_,_,_,_,rfl,w.l4 w1 ∅,?_];refine KN (λc=>?_) (λc=>#[A,B,s,_,rfl,w,zs,s0,λj hj hl=>?_,ms])
  .rw[w.le_iff w1]at c;exact#[cs,m,_,n,155,rfl,(),nl,o.up,∅,hz.cs,hz.m,λA2 B2 w2=>#[A2,B2,_,_,rfl,w2,(h.2.1.ln o n nl).1,Ff r n,λj hj hl=>by
    by_cases e:j<n
    .have:=al j e hl;grind
    .have:j=n:=();subst this;exact qAb,qAy.mpr #[n,qAu.mpr nl,rfl]]]
  .rw[w.le_iff w1]at c;by_cases e:j<n
   .exact al j e hl
   .have:j=n:=();subst this;exact c
 rintro τ ⟨A,B,s,y,rfl,w,zs,s0,al,ms⟩;rw[qAa]at al;refine#[_,_,rfl,w.pos,Bc w.la ∅,Bc w.lb ∅,?_];rw[Ko w];exact q s zs s0 (λi hi=>al i () hi) ms
variable (CG:Cal P w K mg base (CXU P w) 3 "_law_flattest" ["_law_f"] EF)
theorem CD:Ae ["_law_coming","_law_leaving","_law_pile","_law_corner","_law_high"] ["_law_coming","_law_leaving","_law_pile"] (Ac CV):=scN
include Bk Af AR in
theorem GY (F:Fun K "_law_pile_up_to" "_law_pile_up_to" CV f fd):Ap P w K mg base CX0 4 f fd ["_law_coming","_law_leaving","_law_pile"] (Ag K mg DW):=by
 refine fn3 F CD (λss R U h=>?_) (λ_ _ _ _ _ _ _ R U hr h=>?_)
 .obtain⟨cs,m,ds,k,t,rfl,_⟩:=h;rfl
 obtain⟨cs,m,ds,k,t,rfl,hc,hd,zt,t0,h2,q⟩:=h;refine#[_,(Aa (BB (w_not (A6 (Ai hr Af (a2 (vK 0) (vK 1))))) (A3 Hf) Aj)
  (Aa (Ds (Bx PassesOwn.never rfl (Bl (PE3.out (Ke J7 (vK 0) (vK 1)))) (AM (i:=3) CD.nd rfl (Or.inl rfl)) (Dt.out (Aa (AA 4 CD (Ai hr Bk (a2 (Ai hr AR (a2 (vN 1) (vK 3))) (vN 2))))
  (Ah (BB (w_not (A6 (Ai hr Af (a2 (Ai hr AR (a2 (vN 0) (vK 3))) (vN 4))))) (A3 Hf) Aj))))))
  (A3 Hf))),?_]
 have o:=hc.1.o;have od:=hd.1.o;have lc:=hc.2.2;have ld:=hd.2.2;have wm:Wq 2400 m.num m.den m:=Wq.of hc.2.1.m;have wk:Wq 2400 k.num k.den k:=Wq.of hd.2.1.m;have wt:Wq 5285 t.num t.den t:=Wq.of zt;have mk:m<=k:=Lu (ds:=lw ds (-t)) o (Yy od (by have:=od.v0;grind)) λx x0=>by rw[(XO od x).1];have:=h2 x x0;grind
 refine#[_,_,_,_,rfl,wm.l4 wk ∅,?_];refine KN (λc=>absurd ((wm.le_iff wk).mpr mk) c) (λ_=>?_);refine#[UJ o.ne,by rw[qAa,qAa];omega,?_];rw[<-qAL];refine#[λn τ=>∃y y4:Option S,τ=[some (.d (crv cs m)),some (.d (crv ds k)),some (.d (qd t)),y,y4],#[_,_,rfl],?_,?_]
 .rintro n τ x hx ⟨y,y4,rfl⟩;obtain⟨c,hc_,rfl⟩:=Bs hx;obtain⟨z1,z0⟩:Sz 2400 c.1/\0<=c.1:=by
   rcases qAq.mp (qAB hc_) with h|h
   .exact#[(hc.mem h).1,(hc.mem h).2.1]
   .exact#[(hd.mem h).1,(hd.mem h).2.1]
  have w1:=Wq.of z1;refine#[ds,k,c.1,_,_,2400,rfl,od,hd.2.1.len,∅,hd.2.1.cs,hd.2.1.m,w1,z0,λA' B' wB=>?_];refine#[_,_,_,_,rfl,wB.l4 (wt.mono ∅) ∅,?_];have w:=wB.plus wt;refine#[cs,m,c.1,_,_,2400,rfl,o,hc.2.1.len,∅,hc.2.1.cs,hc.2.1.m,w1,z0,λA B wA=>?_];refine#[_,_,_,_,rfl,(wA.mono ∅).l4 w ∅,?_];exact KN (λd=>absurd ((wA.le_iff w).mpr (h2 _ z0)) d) (λ_=>#[_,_,rfl])
 rintro τ ⟨y,y4,rfl⟩;exact q
variable (Ca:Cal P w K mg base (CXU P w) 4 "_law_pile_up_to" ["_law_coming","_law_leaving","_law_pile"] DW)
theorem AI:Ae ["_law_script","_law_coming","_law_offer","_law_way","_law_f","_law_g","_law_side","_law_cells"] ["_law_script","_law_coming","_law_offer","_law_way"] (Ac Dn):=scN
include LA JL Fw IA As Br B5 CK CG in
theorem HL (F:Fun K "_law_curves_by" "_law_curves_by" Dn f fd):Ap P w K mg base CX0 12 f fd ["_law_script","_law_coming","_law_offer","_law_way"] (Ag K mg Ef):=by
 refine fn3 F AI (λss R U h=>?_) (λ_ _ _ _ _ _ _ R U hr h=>?_)
 .obtain⟨ns,cs,m,ds,k,w,rfl,_⟩:=h;rfl
 obtain⟨ns,cs,m,ds,k,w,rfl,hc,hd,h3,q⟩:=h;refine#[_,(Aa (BB (Cu Im (vN 3) Ad) (A3 (A9 (a2 (vN 1) (vN 2)))) Aj)
  (Aa (BB (Cu Im (vN 3) Ad) (A3 (A9 (a2 (A9 (a2 (A9 (a1 (A4 (vK 1) Ad))) (Ai hr CK (a1 (vN 1))))) (A9 (a2 (A9 (a1 (A9 (a2 (A9 (a2 Ad Ad)) (A9 (a2 Ad Ad)))))) (Ai hr CG (a1 (vN 2)))))))) Aj)
  (Aa (AA 4 AI (Ai hr Fw (a1 (vN 1))))
  (Aa (AA 5 AI (Ai hr IA (a1 (vN 2))))
  (Cy (BB (Cu Im (vN 3) Ad) (Aa (AA 6 AI (Ai hr As (a2 (vN 0) Ad)))
  (Aa (AA 7 AI (Ai hr B5 (AQ (vN 0) (a2 Ad (Ak Bf Ad (Ak BI (Ak Bf (Ak Bo (vN 6) Ad) Ad) Ad))))))
  (Aa (AA 4 AI (Ai hr JL (a2 (vN 4) (Ai hr Br (AQ (Ak BI (Ai hr As (a2 (vN 0) Ad)) Ad) (AQ (vN 7) (a2 (Ak AL (Ak BI (vN 6) Ad) (Ak BI (Ak Bo (vN 6) Ad) (Ak Sj Ad Ad))) (Ak BI (Ak Bo (vN 6) Ad) Ad))))))))
  (Aa (AA 6 AI (Ai hr As (a2 (vN 0) Ad)))
  (Aa (AA 7 AI (Ai hr B5 (AQ (vN 0) (a2 Ad (Ak Bf Ad (Ak BI (Ak Bf (Ak Bo (vN 6) Ad) Ad) Ad))))))
  (Ah (AA 5 AI (Ai hr LA (a2 (vN 5) (Ai hr Br (AQ (Ak BI (Ak Bo (Ai hr As (a2 (vN 0) Ad)) Ad) Ad) (AQ (vN 7) (a2 Ad (Ak BI (vN 6) Ad)))))))))))))) Aj)
  (A3 (A9 (a2 (vN 4) (vN 5))))))))),?_]
 have o:=hc.1.rise.o;have od:=hd.1.rise.o;have lc:=hc.2.2.1;have ld:=hd.2.2.1;refine BY (λe=>?_) (λ_=>?_)
 .obtain⟨b1,b2,v0⟩:=h3 e;refine#[(by show 2<=1000;decide),q cs m ds k #[hc.pr,hd.pr,#[λt _=>qAb,λs t s0 t0=>?_],λs t s0 t0=>?_,UP (KI o) (KI od) () ()]]
  .have a:=OW o b1 s0 t0;have b:=ON hc.1.rise (qAb (a:=0));grind
  .have a:=OW od b2 s0 t0;rw[Bz od,v0]at a;grind
 refine BY (λ_=>?_) (λ_=>?_)
 .refine atR (BC (cs:=cs) (i:=0) 0 rfl o.ne) ?_;refine#[(by show 1<=1000;decide),?_];refine#[cs,m,rfl,hc,λs zs s0 ls ms=>?_];refine#[(by show 2<=1000;decide),(by show 2<=1000;decide),(by show 2<=1000;decide),(by show 2<=1000;decide),(by show 1<=1000;decide),?_];refine#[ds,k,rfl,hd,λf zf f0 lf mf=>?_];refine#[(by show 2<=1000;decide),(by show 2<=1000;decide),?_];obtain⟨_,_,_,_,km,sl⟩:=hd.ko.st;have n:=o.ne;have ms':m<=s:=by have:=ls (↥cs-1) ();rw[Az ()]at this;exact this
  have e0:=o.t0;suffices B0:BO cs m ds k [(0,vv cs 0)] s [(0,0)] f from q [(tt cs 0,vv cs 0)] s [(0,0)] f (by rw[e0];exact B0)
  refine#[UQ o.v0 s0 ((hc.2.2.2.1 0 n).mono ∅) zs,UQ qAb f0 (Sz.zero.mono ∅) zf,#[λt t0=>?_,λx t x0 t0=>?_],λx t x0 t0=>?_,?_]
  .have a:=NY o ms' ls (qAb (a:=0)) t0;rw[show 0+t=t from ⋯,Bz o]at a;rw[IM];grind
  .have a:=NY o ms' ls x0 t0;have:=o.v0;rw[IM];grind
  .have a:=Wy od (show k<=sK ds k from ⋯) sl lf x0 t0;rw[IM];grind
  .refine#[0::(slL cs m++slL ds k),by rw[qAQ,qAp,DR,DR];omega,UU ?_ o.v0,UU ?_ qAb,qAK]
   .rcases qAl.mp ms with h|h
    .rw[h];exact qAK
    .simp[h]
   .simp[mf]
 refine#[cs,m,rfl,hc,λF tf kf=>?_];refine#[ds,k,rfl,hd,λG tg kg=>?_];refine#[λτ=>∃(fc:Cs)(fm:Rat)(gc:Cs)(gm:Rat)(y6 y7:Option S),τ=[some (.r (ns.map D.int)),some (.d (crv cs m)),some (.d (crv ds k)),I w,some (.d (crv fc fm)),some (.d (crv gc gm)),y6,y7]/\BO cs m ds k fc fm gc gm,?_,?_]
 .refine BY (λ_=>?_) (λ_=>#[F,m,G,k,_,_,rfl,tf.pr,tg.pr,kf,kg,UP tf.2.2.2 tg.2.2.2 () ()]);refine#[ns,11,rfl,∅,∅,?_];have h9:(0:Int)<10^(9:Int).toNat:=∅;have h91:(10:Int)^(9:Int).toNat=1000000000:=∅;have f3:=fm (a:=(cl ns 11).fdiv 4+1) (show(0:Int)<3 from ∅);refine#[#[∅,Dm ∅],∅,ns,14,_,rfl,∅,∅,(),(),λms lm=>?_];have f30:=fm (a:=cl ns 12) (show(0:Int)<30 from ∅);have f2:=fm (a:=cl ns 11) (show(0:Int)<2 from ∅);have f9:=fm (a:=(cl ns 11).fdiv 12) h9;refine#[ns,12,rfl,∅,∅,∅,∅,#[∅,Dm ∅],#[∅,∅,∅],qBu h9,AN (m:=2) (n:=31) () (by rw[h91]at f9 ⊢;omega) ∅,#[∅,Dm ∅],∅,?_];obtain⟨st,est,s0,s1⟩:∃st:Int,(cl ns 11).fmod 2*((cl ns 11).fdiv 12).fmod (10^(9:Int).toNat)=st/\0<=st/\st<=1000000000:=by
   refine#[_,rfl,qBS f2.1 f9.1,?_];rw[h91]at f9 ⊢;rcases(show(cl ns 11).fmod 2=0\/(cl ns 11).fmod 2=1 from ()) with e|e<;>rw[e]<;>omega
  rw[est];refine#[_,ms,_,_,rfl,f30.1,f30.2,(),(),s0,(),λd1 m1 hd1 _ _ _=>?_];have l1:=hd1.2.2.1;have nF:=tf.2.2.1;have nG:=tg.2.2.1;refine#[F,m,d1,m1,240,45,70,slL cs m++slL d1 m1,rfl,tf.1.rise,hd1.1.rise,tf.pr.2.1,hd1.pr.2.1,∅,∅,(),tf.2.2.2.mono λx h=>by simp[h],(KI hd1.1.rise.o).mono λx h=>by simp[h],λF' fm' kF' _ zF' sF' lF' vF'=>?_];refine#[ns,13,rfl,∅,∅,?_];have f3':=fm (a:=(cl ns 13).fdiv 4+1) (show(0:Int)<3 from ∅);refine#[#[∅,Dm ∅],∅,ns,17,_,rfl,∅,∅,(),(),λms' lm'=>?_];have f31:=fm (a:=(cl ns 12).fdiv 30) (show(0:Int)<30 from ∅);refine#[ns,12,rfl,∅,∅,#[∅,Dm ∅],∅,∅,?_];refine#[_,ms',0,_,rfl,f31.1,f31.2,(),(),∅,∅,λd2 m2 hd2 _ _ _=>?_];have l2:=hd2.2.2.1;refine#[G,k,d2,m2,240,45,70,slL ds k++slL d2 m2,rfl,tg.1.rise,hd2.1.rise,tg.pr.2.1,hd2.pr.2.1,∅,∅,(),tg.2.2.2.mono λx h=>by simp[h],(KI hd2.1.rise.o).mono λx h=>by simp[h],λG' gm' kG' _ zG' sG' lG' vG'=>?_];refine#[F',fm',G',gm',_,_,rfl,#[kF',zF',()],#[kG',zG',()],#[λt t0=>?_,λx t x0 t0=>?_],λx t x0 t0=>?_,0::(slL cs m++slL d1 m1++(slL ds k++slL d2 m2)),?_,sF'.mono λx h=>?_,sG'.mono λx h=>?_,qAK]
  .rw[vF' t t0];exact qAm (kf.1 t t0) (GP _ _).1
  .rw[vF' t t0];exact qAm (kf.2 x t x0 t0) (GP _ _).1
  .rw[vG' t t0];exact qAm (Zv _ _).1 (kg x t x0 t0)
  .rw[qAQ,qAp,qAp,qAp,DR,DR,DR,DR];omega
  .exact qAE _ (qAq.mpr (.inl h))
  .exact qAE _ (qAq.mpr (.inr h))
 rintro τ ⟨fc,fm,gc,gm,y6,y7,rfl,bo⟩;exact#[(by show 2<=1000;decide),q fc fm gc gm bo]
variable (Co:Cal P w K mg base (CXU P w) 12 "_law_curves_by" ["_law_script","_law_coming","_law_offer","_law_way"] Ef)
theorem Ch:Ae ["_law_script","_law_way","_law_side","_law_shape","_law_cells","_law_start","_law_coming","_law_offer","_law_both","_law_leaving","_law_f","_law_pile","_law_wait","_law_after"] ["_law_script"] (Ac NV):=scN
include Iv Hd IE Ez As Bj C9 Br B5 Dd Em DB Ca Co in
theorem YQ (F:Fun K "law" "law" NV f fd):Ap P w K mg base CX0 13 f fd ["_law_script"] (Ag K mg Xd):=by
 refine fn3 F Ch (λss R U h=>?_) (λ_ _ _ _ _ _ _ R U hr h=>?_)
 .obtain⟨ns,rfl,_⟩:=h;rfl
 obtain⟨ns,rfl,hl,q⟩:=h;refine#[_,(Aa (AA 1 Ch (Ak BI (Ai hr As (a2 (vN 0) Ad)) Ad))
  (Aa (AA 2 Ch (Ai hr As (a2 (vN 0) Ad)))
  (Aa (AA 3 Ch (Ak BI (Ak Bo (vN 2) Ad) Ad))
  (Cy (BB (Cu Im (vN 1) Ad) (Ah (AA 3 Ch Ad)) Aj)
  (Aa (AA 4 Ch (Ai hr B5 (AQ (vN 0) (a2 Ad (Ak Bf Ad (Ak BI (Ak Bf (Ak Bo (vN 2) Ad) Ad) Ad))))))
  (Aa (AA 5 Ch (Ak AL (Ak BI (vN 2) Ad) (Ak BI (Ak Bo (vN 2) Ad) (Ak Sj Ad Ad))))
  (Aa (AA 6 Ch (Ai hr Br (AQ (Ak BI (Ai hr As (a2 (vN 0) Ad)) Ad) (AQ (vN 4) (a2 (vN 5) (vN 3))))))
  (Aa (AA 2 Ch (Ai hr As (a2 (vN 0) Ad)))
  (Aa (AA 3 Ch (Ak BI (Ak Bo (vN 2) Ad) Ad))
  (Aa (AA 5 Ch (Ak AL (Ak BI (vN 2) Ad) (Ak BI (Ak Bo (vN 2) Ad) (Ak Sj Ad Ad))))
  (Cy (BB (Cu Im (vN 1) Ad) (Aa (AA 3 Ch Ad)
  (Ah (AA 5 Ch Ad))) Aj)
  (Aa (AA 4 Ch (Ai hr B5 (AQ (vN 0) (a2 Ad (Ak Bf Ad (Ak BI (Ak Bf (Ak Bo (vN 2) Ad) Ad) Ad))))))
  (Aa (AA 7 Ch (Ai hr Br (AQ (Ak BI (Ai hr As (a2 (vN 0) Ad)) Ad) (AQ (vN 4) (a2 (vN 5) (vN 3))))))
  (Aa (AA 8 Ch (Ai hr Co (AQ (vN 0) (AQ (vN 6) (a2 (vN 7) (vN 1))))))
  (Aa (AA 9 Ch (Ai hr Iv (a2 (vN 6) (vN 7))))
  (Aa (Ds (Bx PassesOwn.never rfl (Bl (PE3.out (FO (AQ (vK 8) (a2 (vK 8) (vN 9)))))) (AM (i:=10) Ch.nd rfl (Or.inl rfl)) (Dt.out (Ah (BB (w_not (A6 (Ai hr C9 (a1 (vN 10))))) (A3 Hf) Aj)))))
  (LZ (BB (PW3.pt (L8 (w_not (A6 (Ai hr Dd (a2 (vN 6) (vK 8))))) (FR (w_not (A6 (Ai hr Em (a2 (vN 7) (vK 8)))))))) (A3 Hf) Aj)
  (Aa (AA 11 Ch (Ai hr Hd (a2 (vK 8) (vK 8))))
  (LZ (BB (PW3.pt (Ib (Cu Ut (vN 11) Jq) (EI (PW3.pt (L8 (w_not (A6 (Ai hr Bj (a1 (vN 11))))) (FR (w_not (A6 (Ai hr Ca (AQ (vN 6) (a2 (vN 9) (vN 11)))))))))))) (A3 Hf) Aj)
  (Aa (AA 12 Ch (Ai hr IE (a2 (vK 8) (vK 8))))
  (LZ (BB (PW3.pt (Ib (Cu Ut (vN 12) Jq) (EI (PW3.pt (L8 (w_not (A6 (Ai hr Bj (a1 (vN 12))))) (FR (w_not (A6 (Ai hr DB (AQ (vN 6) (a2 (vN 9) (vN 12)))))))))))) (A3 Hf) Aj)
  (Aa (AA 13 Ch (Ai hr Ez (a2 (vK 8) (vK 8))))
  (A3 (dE (Ma S4 (vN 13) Jq (GK _)) (T8 (WN (Ai hr C9 (a1 (vN 13))) (T8 (Ai hr Dd (a2 (vN 9) (vN 13)))))))))))))))))))))))))))))),?_]
 have h9:(0:Int)<10^(9:Int).toNat:=∅;have h91:(10:Int)^(9:Int).toNat=1000000000:=∅;have est:∀c:Int,∃st:Int,c.fmod 2*(c.fdiv 18).fmod (10^(9:Int).toNat)=st/\0<=st/\st<=1000000000:=λc=>by
  have f2:=fm (a:=c) (show(0:Int)<2 from ∅);have f9:=fm (a:=c.fdiv 18) h9;refine#[_,rfl,qBS f2.1 f9.1,?_];rw[h91]at f9 ⊢;rcases(show c.fmod 2=0\/c.fmod 2=1 from ()) with e|e<;>rw[e]<;>omega
 have mok:∀c:Int,IntMulOk (c.fmod 2) ((c.fdiv 18).fmod (10^(9:Int).toNat)):=λc=>by
  have f2:=fm (a:=c) (show(0:Int)<2 from ∅);have f9:=fm (a:=c.fdiv 18) h9;exact AN (m:=2) (n:=31) () (by rw[h91]at f9 ⊢;omega) ∅
 refine#[ns,0,rfl,∅,∅,∅,ns,1,rfl,∅,∅,#[∅,Dm ∅],∅,?_];generalize (cl ns 0).fmod 4=w;refine#[λτ=>∃sh:Int,τ=[some (.r (ns.map D.int)),I w,I (cl ns 1),I sh,none,none,none,none,none,none,none,none,none,none]/\(w=3->sh=1),BY (λ_=>#[_,rfl,λ_=>rfl]) (λz=>#[_,rfl,λe=>absurd e z]),?_];rintro τ ⟨sh,rfl,w1⟩;have f3:=fm (a:=(cl ns 1).fdiv 6+2) (show(0:Int)<3 from ∅);refine#[#[∅,Dm ∅],∅,ns,5,_,rfl,∅,∅,(),(),λms lm=>?_];refine#[∅,#[∅,Dm ∅],#[∅,∅,∅],qBu h9,mok _,?_];obtain⟨st,es,s0,s1⟩:=est (cl ns 1);rw[es];have f30:=fm (a:=cl ns 2) (show(0:Int)<30 from ∅);refine#[ns,2,rfl,∅,∅,∅,_,ms,st,sh,rfl,f30.1,f30.2,(),(),s0,(),λcs m hc _ b1 _=>?_];refine#[ns,3,rfl,∅,∅,#[∅,Dm ∅],∅,∅,#[∅,Dm ∅],#[∅,∅,∅],qBu h9,mok _,?_];obtain⟨st2,es2,t0,t1⟩:=est (cl ns 3);rw[es2];refine#[λτ=>∃sh st:Int,τ=[some (.r (ns.map D.int)),I w,I (cl ns 3),I sh,some (.l (ms.map D.int)),I st,some (.d (crv cs m)),none,none,none,none,none,none,none]/\0<=st/\st<=1000000000/\(w=3->sh=2/\st=0),BY (λ_=>#[_,_,rfl,∅,∅,λ_=>#[rfl,rfl]]) (λz=>#[_,_,rfl,t0,t1,λe=>absurd e z]),?_];clear t0 t1 es2 st2 s0 s1 es;rintro τ ⟨sh2,st2,rfl,t0,t1,w2⟩;have f3:=fm (a:=(cl ns 3).fdiv 6+2) (show(0:Int)<3 from ∅);refine#[#[∅,Dm ∅],∅,ns,8,_,rfl,∅,∅,(),(),λms2 lm2=>?_];have f30:=fm (a:=cl ns 4) (show(0:Int)<30 from ∅);refine#[ns,4,rfl,∅,∅,∅,_,ms2,st2,sh2,rfl,f30.1,f30.2,(),(),t0,(),λds k hd v0 _ b2=>?_];refine#[ns,cs,m,ds,k,w,rfl,hc,hd,λe=>#[b1 (w1 e),b2 (w2 e).1,v0 (w2 e).2],λfc fm_ gc gm bo=>?_];have nc:=hc.2.2.1;have nd:=hd.2.2.1;refine#[ds,k,cs,m,41,45,68,41,45,68,41,rfl,hd.1.rise,hc.1.rise,hd.2.1,hc.2.1,∅,∅,nd,nc,∅,∅,∅,∅,λL K C M cL k0 vL cC m0 eM vC zC lC=>?_];obtain⟨pf,pg,kp_,sr,S0,nS,sf,sg,s00⟩:=bo;have srv:Srv (val cs m) (val ds k) (val C M):=Srv.of vL vC;have b0:0<=val ds k 0:=ON hd.1.rise qAb;have kC:KQ 15 C M:=#[cC.rise,zC.szk cC.rise.o () ∅,lC];refine#[(by show 3<=1000;decide),?_];refine#[λn τ=>∃y10:Option S,τ=[some (.r (ns.map D.int)),I w,I (cl ns 3),I sh2,some (.l (ms2.map D.int)),I st2,some (.d (crv cs m)),some (.d (crv ds k)),some (.d (.tup [crv fc fm_,crv gc gm])),some (.d (crv C M)),y10,none,none,none],#[_,rfl],?_,?_]
 .rintro n τ x hx ⟨y10,rfl⟩;obtain⟨X,x,rfl,kX,zX⟩:∃(X:Cs)(y:Rat),x=crv X y/\Crv X y/\SzK 2400 X y:=by
   match n,hx with
   |0,hx=>cases hx;exact#[fc,fm_,rfl,pf.1,pf.kq.2.1]
   |1,hx=>cases hx;exact#[gc,gm,rfl,pg.1,pg.kq.2.1]
   |2,hx=>cases hx;exact#[C,M,rfl,cC,kC.2.1]
   |n+3,hx=>cases hx
  exact#[X,x,rfl,kX,zX,_,rfl]
 rintro τ ⟨y10,rfl⟩;refine#[#[cs,m,fc,fm_,rfl,hc.kq,pf.kq,kp_,ds,k,gc,gm,rfl,hd.kq,pg.kq,sr,rfl],?_];refine#[fc,fm_,gc,gm,rfl,pf.gz,pg.gz,λr1 ta z1=>?_];refine#[?_,?_]
 .cases r1 with
  |none=>exact rfl
  |some v=>
   have tl:=ta.2;exact#[v,rfl,(z1 v rfl).mono ∅,cs,m,C,M,v,rfl,hc.kq,kC,(z1 v rfl).mono ∅,tl.nn,λx x0=>srv.pile kp_ sr b0 (λt t0=>tl.le t t0) x0,rfl]
 refine#[fc,fm_,gc,gm,rfl,pf.gz,pg.gz,λr2 wi z2=>?_];refine#[?_,?_]
 .cases r2 with
  |none=>exact rfl
  |some v=>
   have w0:=wi.2.nn;have ch:fm_<=gm:=qAI.mp λz=>wi.1 (.inl z);exact#[v,rfl,(z2 v rfl).mono ∅,cs,m,C,M,v,rfl,hc.kq,kC,z2 v rfl,w0,λx x0=>srv.wait kp_ sr b0 w0 (λa b a0 ab=>Bh hc.1.rise a0 ab) (λa b a0 ab=>Bh hd.1.rise a0 ab) (λt t0=>Q9 pf.1.rise.o pg.1.rise.o ch w0 wi.2.ok t0) x0,rfl]
 have lf:=pf.2.2;have lg:=pg.2.2;refine#[fc,fm_,gc,gm,240,45,70,24609,S0,rfl,#[pf.1.rise,pg.1.rise,pf.2.1,pg.2.1,∅,∅,bL lf lg nS,∅,sf,sg,s00,(),()],λ_=>q,λ_ U kU iU zU _ lU=>?_];have kp2:=srv.after kp_ sr b0 (U:=val U fm_) λl x l0 x0=>(iU l l0).2.2 x x0;have qU:KQ 24700 U fm_:=#[kU.rise,zU.szk kU.rise.o () ∅,()];exact#[U,fm_,rfl,kU,qU.2.1,C,M,U,fm_,rfl,kC,qU,kp2,q]
end
abbrev Due (l:W.OpenLaw)(w:World)(K:W.Frag)(mg:Str->Option Value)(fa:Addr):Prop:=∃fd:FuncData,(∀(s:Shared)(v:Value),BindsTo s fd #[[v],[]] [("_law_script",v)])/\∀base:Heap,K.In base->base.Ns mainGlobals mg->∃mg',Ap l.prog w K mg base CX0 13 fa fd ["_law_script"] (Ag K mg' OP)
theorem all_mk {l:W.OpenLaw}{w:World}{K:W.Frag}{h:Heap}{mg:Str->Option Value}{fa:Addr}(X:K.In h)(G:h.Ns mainGlobals mg)(hfa:mg "law"=some (.ref fa))(fx:Facts l K):Due l w K mg fa:=by
 obtain @⟨kV,dc,pm,cd,ct,oc,od,an,sl,fL,K_NoCurve,K_NoTime,gt_NOUGHT_0,gt_NOUGHT_1,ga_NOUGHT_2,gd_NOUGHT_3,gn_NOUGHT_3,gs_NOUGHT_3,r0,r1,r2,r3,r4,r5,r6,r7,r8,r9,r10,r11,r12,r13,r14,r15,r16,r17,r18,r19,r20,r21,r22,r23,r24,r25,r26,r27,r28,r29,r30,r31,r32,r33,r34,r35,r36,r37,r38,r39,r40,r41,r42,r43,r44,r45,r46,r47,r48,r49,r50,r51,r52,r53,r54,r55,r56,r57,r58,r59,r60,r61,r62,r63,r64,r65,r66,r67,r68,r69,r70,r71,r72,r73,r74,r75,r76,r77,r78,r79,r80,r81,r82,r83,r84,r85,r86,r87,r88,r89,r90,r91,aL,lL,cL,kL,z0,z1,z2,z3,z4,z5,z6,z7,z8,z9,z10,z11,n_NoCurve,n_NoTime,n_NOUGHT,n_gl_NOUGHT_6,x_NoCurve,x_NoTime,ht_piece_at,hp_piece_at,ht_reached,hp_reached,ht_passed,hp_passed,ht_from_nought,hp_from_nought,ht_side_by_side,hp_side_by_side,ht_lowered,hp_lowered⟩:=fx;have e:=hfa.symm.trans (qBN X G aL);cases e;have AD:=qAV X G z0;have Kc:=qAV X G z1;have JT:=qAV X G z2;have M3:=qAV X G z3;have AH:=qAV X G z4;have AF:=qAV X G z5;have Ct:=qAV X G z6;have Ua:=qAV X G z7;have Bv:=qAV X G z8;have NR:=qAV X G z9;have Tt:=qAV X G z10;have GX:=qAV X G z11;have gc_NOUGHT:GC K mg "NOUGHT" (.tup [(.int 0),(.int 1)]):=KD.of (qBN X G n_NOUGHT) (KD.tup n_gl_NOUGHT_6 (Nat.le_of_ble_eq_true rfl) (.cons KD.int (.cons KD.int .nil)));have ec_NoCurve:ExC K "NoCurve" K_NoCurve:=#[n_NoCurve,x_NoCurve];have m_NoCurve:=qBN X G n_NoCurve;have ec_NoTime:ExC K "NoTime" K_NoTime:=#[n_NoTime,x_NoTime];have m_NoTime:=qBN X G n_NoTime;obtain⟨⟨cA_piece_at,cT_piece_at⟩,n_ht_piece_at⟩:=qA2.mp ht_piece_at;obtain⟨⟨cA_reached,cT_reached⟩,n_ht_reached⟩:=qA2.mp ht_reached;obtain⟨⟨cA_passed,cT_passed⟩,n_ht_passed⟩:=qA2.mp ht_passed;obtain⟨⟨cA_from_nought,cT_from_nought⟩,n_ht_from_nought⟩:=qA2.mp ht_from_nought;obtain⟨⟨cA_side_by_side,cT_side_by_side⟩,n_ht_side_by_side⟩:=qA2.mp ht_side_by_side;obtain⟨⟨cA_lowered,cT_lowered⟩,n_ht_lowered⟩:=qA2.mp ht_lowered;refine#[W.fnOf "law" "law" (Gi NV) (CC NV) (Ac NV) .none kV dc pm an cd ct,λs v=>.of_eq rfl,λbase _ _=>#[mg,?_]];have M:=@mkC l.prog w K mg base h X G;have Eg:=M r0 (λF _=>Ap.anyCX (NT AD Kc JT F));have Hk:=M r1 (λF _=>Ap.anyCX (P0 M3 F));have Bm:=M r2 (λF _=>Ap.anyCX (SY Eg Hk F));have FU:=M r3 (λF _=>Ap.anyCX (VM Bm F));have Ax:=M r4 (λF _=>Ap.anyCX (S6 Bm F));have Gq:=M r5 (λF _=>Ap.anyCX (Tx Bm F));have Jf:=M r6 (λF _=>Ap.anyCX (Vs Bm F));have An:=M r7 (λF _=>Ap.anyCX (SI F));have A8:=M r7 (λF _=>Ap.anyCX (NC F));have Gs:=M r8 (λF _=>Ap.anyCX (QE An F));have A5:=M r9 (λF _=>Ap.anyCX (PN An F));have Dz:=M r10 (λF _=>Kj An AH gc_NOUGHT ec_NoCurve m_NoCurve F);have D5:=M r11 (λF _=>KY An AH ec_NoCurve m_NoCurve AF F);have AS:=M r12 (λF _=>Ap.anyCX (Ia Ax Jf F));have AO:=M r13 (λF _=>Ap.anyCX (Ig AH AF AS F));have Am:=M r13 (λF _=>Ap.anyCX (Gm AH AF AS F));have BE:=M r14 (λF _=>Ub An AH gc_NOUGHT ec_NoCurve m_NoCurve Dz AF D5 AO Ct F);have Ju:=M r15 (λF _=>Vt gc_NOUGHT BE F);have D1:=M r16 (λF _=>Lm An gc_NOUGHT ec_NoTime m_NoTime F);have Ar:=mkL (P:=l.prog) (w:=w) (base:=base) X G r17 (λF _=>J3 AH F);have Fx:=M r18 (λF a=>NN An D1 Ar F n_ht_piece_at a hp_piece_at);have Bg:=M r19 (λF _=>Ap.anyCX (Hm AH AS F));have Cz:=M r20 (λF _=>Nl FU Ax Gq Fx Bg F);have B9:=M r21 (λF _=>Ap.anyCX (G2 An AH AF Am F));have B4:=M r22 (λF _=>Ap.anyCX (GU An AH AF Am F));have Bt:=M r23 (λF _=>Ap.anyCX (Ja Am Ua F));have BN:=M r24 (λF _=>Ap.anyCX (NO An F));have Ce:=M r25 (λF _=>Ap.anyCX (PJ FU Ax Jf F));have CY:=M r26 (λF _=>Ap.anyCX (Jv An AH F));have AK:=M r27 (λF _=>Ap.anyCX (Ka Cz CY F));have AV:=M r28 (λF _=>Ap.anyCX (LD Ax F));have FC:=M r29 (λF _=>Ap.anyCX (Nf F));have Bu:=M r30 (λF _=>Ap.anyCX (Jc Ax gc_NOUGHT AO Cz Ce AK AV FC Bv F));have LA:=M r31 (λF _=>Ap.anyCX (Tq Gs BE Bu F));have JL:=M r32 (λF _=>Ap.anyCX (Vn A5 BE Bu F));have F0:=M r33 (λF _=>Ap.anyCX (VJ Ax BE AK AV F));have Dy:=M r34 (λF _=>Ap.anyCX (Kg An AH gc_NOUGHT F));have OI:=M r35 (λF _=>Ap.anyCX (Vb Ax An A5 gc_NOUGHT AO BE Ce AK AV Bv Dy F));have IC:=M r36 (λF _=>Ap.anyCX (QL OI F));have Iv:=M r37 (λF _=>Ap.anyCX (Qx F0 IC F));have DM:=M r38 (λF _=>Ap.anyCX (Py gc_NOUGHT Bg Ce F));have Dg:=M r39 (λF a=>Ap.anyCX (PY An gc_NOUGHT Ar DM F n_ht_reached a hp_reached));have GQ:=M r40 (λF a=>Ap.anyCX (Sf An Ar DM F n_ht_passed a hp_passed));have CI:=M r41 (λF _=>Ap.anyCX (Ik An AK AV F));have Hd:=M r42 (λF _=>Ap.anyCX (Pl A5 gc_NOUGHT BN CI F));have Fs:=M r43 (λF _=>Ap.anyCX (Pt Ax gc_NOUGHT F));have G6:=M r44 (λF _=>Ap.anyCX (PZ A5 Dg GQ Fs F));have IE:=M r45 (λF _=>Ap.anyCX (RF A5 gc_NOUGHT BN Dg G6 F));have CZ:=M r46 (λF _=>Ap.anyCX (Jy Ax Gq F));have DG:=M r47 (λF _=>Ap.anyCX (MP Am CZ NR F));have Ep:=M r48 (λF _=>Ap.anyCX (MR Bm F));have FK:=M r49 (λF _=>Ap.anyCX (NU Bm BE Ep F));have D7:=M r50 (λF _=>Ap.anyCX (K9 F));have DU:=M r51 (λF _=>Ap.anyCX (Lx F));have Mp:=M r52 (λF _=>Ap.anyCX (Wb D7 DU F));have Fc:=M r53 (λF _=>Ap.anyCX (PH F));have Iz:=M r54 (λF _=>Ap.anyCX (RZ Ax gc_NOUGHT NR F));have CJ:=M r55 (λF a=>Ap.anyCX (Ki A8 gc_NOUGHT Ar F n_ht_from_nought a hp_from_nought));have C3:=M r56 (λF _=>Ap.anyCX (Jw A8 F));have C2:=M r57 (λF a=>Ap.anyCX (JO A8 AH Ar C3 F n_ht_side_by_side a hp_side_by_side));have JU:=M r58 (λF _=>Ap.anyCX (VT F));have Ot:=M r59 (λF _=>Ap.anyCX (WC JU F));have Og:=M r60 (λF _=>Ap.anyCX (Vh JU F));have Cw:=mkM (P:=l.prog) (w:=w) (base:=base) X G r61 (λF _=>Mm F);have Ei:=M r62 (λF _=>Ap.anyCX (Nh Bm F));have Er:=mkM (P:=l.prog) (w:=w) (base:=base) X G r63 (λF _=>MH Cw Ei F);have ES:=M r64 (λF a=>Ap.anyCX (Pd A8 Ar Bv C2 Ot Og Er F n_ht_lowered a hp_lowered));have BD:=M r65 (λF _=>Ap.anyCX (FP B9 F));have Ez:=M r66 (λF _=>Ap.anyCX (QD FU Ax gc_NOUGHT B4 BN DG FK Mp Fc Iz CJ ES BD F));have En:=M r67 (λF _=>Ap.anyCX (Qz Ez F));have Fw:=M r68 (λF _=>Ap.anyCX (NI JL En F));have GL:=M r69 (λF _=>Ap.anyCX (PF Ju Bt F0 F));have IA:=M r70 (λF _=>Ap.anyCX (Qa gc_NOUGHT Ju Bt F0 En GL F));have As:=M r71 (λF _=>Ap.anyCX (JE AH F));have AZ:=M r72 (λF _=>Ap.anyCX (Nm M3 F));have Bk:=M r73 (λF _=>Ap.anyCX (NS F));have Aw:=M r74 (λF _=>Ap.anyCX (Mh F));have Af:=M r75 (λF _=>Ap.anyCX (Lk F));have Av:=M r76 (λF _=>Ap.anyCX (LG AH Aw F));have AR:=M r77 (λF _=>Ap.anyCX (O6 AH Bk Aw Af Av F));have Bj:=M r78 (λF _=>Ap.anyCX (LJ AD Kc JT AH Ct AZ F));have C9:=M r79 (λF _=>Ap.anyCX (Ly AD AH AF Ct Af Av Bj F));have DA:=M r80 (λF _=>Ap.anyCX (J9 F));have Br:=M r81 (λF _=>Ap.anyCX (LO Kc AH AF Ct AZ DA Tt GX F));have B5:=M r82 (λF _=>Ap.anyCX (NX AF As F));have BX:=M r83 (λF _=>Ap.anyCX (K4 Bk Aw AR F));have BH:=M r84 (λF _=>Ap.anyCX (Kb Aw Af F));have Dd:=M r85 (λF _=>Ap.anyCX (Lf Af AR BX BH F));have Em:=M r86 (λF _=>Ap.anyCX (Mu Af AR BX BH F));have DB:=M r87 (λF _=>Ap.anyCX (Kd Bk Aw Af AR F));have CK:=M r88 (λF _=>Ap.anyCX (Il AH AF AZ Af Av F));have CG:=M r89 (λF _=>Ap.anyCX (Ii AH AF AZ Af Av F));have Ca:=M r90 (λF _=>Ap.anyCX (GY Bk Af AR F));have Co:=M r91 (λF _=>Ap.anyCX (HL LA JL Fw IA As Br B5 CK CG F));exact YQ Iv Hd IE Ez As Bj C9 Br B5 Dd Em DB Ca Co (Oz (st:=NV) lL cL kL)
end CL
theorem PySem.Challenge.cw_curvehouse_k37_whole_one_house_holds : PySem.Challenge.rw_curvehouse_k37_whole_one_house.Holds := by
 exact CL.front fun e1 e2 e3 e4 e5 fx=>L3.walk3 (l:=PySem.Challenge.rw_curvehouse_k37_whole_one_house) (k:=13) (x:="_law_script") rfl e1 #[rfl,∅,∅] e2 e3 e4 fun w mg fa h X G hg=>CL.all_mk X G (e5 ▸ hg) (fx w)
