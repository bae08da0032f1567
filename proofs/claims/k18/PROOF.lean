import PyProof.Rows.All
import PySem.Challenge.RW_curvehouse_k18_whole_least_of_partings
import KE.KItem
import KE.KLam
import KE.KNestM
import KE.KIsAll
import KE.KLcPair
import KE.RegMulBits
import KE.KFromBytes
set_option Elab.async false
set_option linter.all false
set_option maxRecDepth 100000
local macro_rules|`(())=>`(by omega)
local macro_rules|`(∅)=>`(by decide)
local macro_rules|`(⋯)=>`(by grind)
section
open PySem
abbrev qAa:=@List.length_map
abbrev qAb:=@List.getElem?_eq_getElem
abbrev qAc:=@Nat.le_refl
abbrev qAd:=@List.getD_eq_getElem?_getD
abbrev qAe:=@List.getElem?_map
abbrev qAf:=@Heap.get?_push_of_some
abbrev qAg:=@List.getElem?_eq_some_iff
abbrev qAh:=@Heap.lt_size
abbrev qAi:=@Rat.le_refl
abbrev qAj:=@Rat.mul_nonneg
abbrev qAk:=@Rat.intCast_mul
abbrev qAl:=@Option.some.inj
abbrev qAm:=@Bool.false_ne_true
abbrev qAn:=@List.length_append
abbrev qAo:=@List.mem_cons
abbrev qAp:=@Rat.le_of_lt
abbrev qAq:=@Nat.lt_of_lt_of_le
abbrev qAr:=@Heap.get?_push_size
abbrev qAs:=@PySem.F.slot_list_append
abbrev qAt:=@PySem.F.type_list_append
abbrev qAu:=@PySem.F.plainAttrs_list
abbrev qAv:=@List.getElem?_append_left
abbrev qAw:=@Nat.ne_of_lt
abbrev qAx:=@Rat.divInt_eq_div
abbrev qAy:=@Rat.le_trans
abbrev qAz:=@List.getElem?_append_right
abbrev qAA:=@List.mem_append
abbrev qAB:=@List.mem_append_right
abbrev qAC:=@List.map_append
abbrev qAD:=@List.size_toArray
abbrev qAE:=@List.mem_of_getElem?
abbrev qAF:=@List.mem_singleton
abbrev qAG:=@List.all_eq_true
abbrev qAH:=@List.length_range
abbrev qAI:=@List.mem_cons_of_mem
abbrev qAJ:=@List.mem_append_left
abbrev qAK:=@List.getElem?_range
abbrev qAL:=@Nat.le_trans
abbrev qAM:=@Rat.not_lt
abbrev qAN:=@Rat.intCast_eq_zero_iff
abbrev qAO:=@List.getElem?_eq_none_iff
abbrev qAP:=@W.kia_one
abbrev qAQ:=@List.length_take
abbrev qAR:=@Rat.intCast_sub
abbrev qAS:=@W.mg_none_of
abbrev qAT:=@List.eq_nil_of_length_eq_zero
abbrev qAU:=@Int.mul_pos
abbrev qAV:=@Bool.and_eq_true
abbrev qAW:=@List.mem_range
abbrev qAX:=@W.mg_of
abbrev qAY:=@Rat.intCast_pos
abbrev qAZ:=@List.length_drop
abbrev qA0:=@PyProof.Rows.callWith_type1
abbrev qA1:=@List.mem_cons_self
abbrev qA2:=@Nat.mul_le_mul_right
abbrev qA3:=@Nat.zero_le
abbrev qA4:=@Nat.lt_irrefl
abbrev qA5:=@List.mem_map
abbrev qA6:=@Heap.size_push
abbrev qA7:=@List.mem_filter
abbrev qA8:=@Rat.not_le
abbrev qA9:=@Nat.not_lt_zero
abbrev qBa:=@Option.isSome_iff_exists
abbrev qBb:=@List.not_mem_nil
abbrev qBc:=@PyProof.Rows.boot_tuple
abbrev qBd:=@List.take_add_one
abbrev qBe:=@List.append_nil
abbrev qBf:=@Rat.mul_eq_zero
abbrev qBg:=@Nat.ne_of_gt
abbrev qBh:=@List.take_of_length_le
abbrev qBi:=@List.lookup_cons
abbrev qBj:=@List.filter_cons
abbrev qBk:=@Rat.div_mul_cancel
abbrev qBl:=@List.getElem?_zip_eq_some
abbrev qBm:=@List.mem_iff_getElem
abbrev qBn:=@Int.ne_of_gt
abbrev qBo:=@F.slot_zip_next
abbrev qBp:=@List.map_cons
abbrev qBq:=@Rat.lt_irrefl
abbrev qBr:=@List.length_cons
abbrev qBs:=@List.getElem?_set_self
abbrev qBt:=@Nat.le_of_lt
abbrev qBu:=@Nat.add_sub_cancel
abbrev qBv:=@List.forIn_cons
abbrev qBw:=@F.slot_tuple_iterator_next
abbrev qBx:=@Rat.mul_pos
abbrev qBy:=@List.getElem?_take_of_lt
abbrev qBz:=@Nat.le_of_not_lt
abbrev qBA:=@Nat.lt_trans
abbrev qBB:=@List.length_filterMap_le
abbrev qBC:=@Bool.eq_iff_iff
abbrev qBD:=@Rat.intCast_add
abbrev qBE:=@Bool.false_eq_true
abbrev qBF:=@Nat.min_eq_left
abbrev qBG:=@Nat.eq_zero_or_pos
abbrev qBH:=@Rat.intCast_lt_intCast
abbrev qBI:=@W.kitx_list
abbrev qBJ:=@List.getElem?_toArray
abbrev qBK:=@List.getElem?_set_ne
abbrev qBL:=@Nat.lt_succ_self
abbrev qBM:=@Nat.le_add_right
abbrev qBN:=@Int.sign_eq_neg_one_of_neg
abbrev qBO:=@Int.fdiv_eq_ediv_of_nonneg
abbrev qBP:=@List.filterMap_cons
abbrev qBQ:=@W.looks_mroIn
abbrev qBR:=@List.mem_filterMap
abbrev qBS:=@List.map_nil
abbrev qBT:=@Rat.num_divInt_den
abbrev qBU:=@Nat.add_comm
abbrev qBV:=@List.getElem?_drop
abbrev qBW:=@List.map_map
abbrev qBX:=@Nat.sub_self
abbrev qBY:=@List.forIn_nil
abbrev qBZ:=@Int.mul_nonneg
abbrev qB0:=@List.getElem?_replicate
abbrev qB1:=@List.getElem?_cons_succ
abbrev qB2:=@Int.toNat_natCast
abbrev qB3:=@F.args_zip_next_1
abbrev qB4:=@W.cellsFrom_some
abbrev qB5:=@Int.sign_eq_one_of_pos
abbrev qB6:=@Int.fmod_nonneg_of_pos
abbrev qB7:=@List.drop_eq_nil_of_le
abbrev qB8:=@List.map_drop
abbrev qB9:=@List.getElem_mem
abbrev qCa:=@List.zipIdx_cons
abbrev qCb:=@F.entry_zip_next
abbrev qCc:=@List.length_filter_le
abbrev qCd:=@PyProof.Rows.boot_abs
abbrev qCe:=@PyProof.Rows.slot_tuple_getitem
abbrev qCf:=@List.nodup_cons
abbrev qCg:=@List.of_mem_zip
abbrev qCh:=@List.getElem?_of_mem
abbrev qCi:=@W.looks_findIn
abbrev qCj:=@Rat.intCast_inj
abbrev qCk:=@List.pairwise_append
abbrev qCl:=@Rat.zero_divInt
abbrev qCm:=@Int.le_of_lt
abbrev qCn:=@List.zipIdx_nil
abbrev qCo:=@Rat.ne_of_gt
abbrev qCp:=@Int.mul_fdiv_cancel
abbrev qCq:=@PyProof.Rows.boot_isinstance
abbrev qCr:=@W.kla_fn
abbrev qCs:=@F.args_tuple_iterator_next_1
abbrev qCt:=@Nat.mul_le_mul
abbrev qCu:=@Int.mul_one
abbrev qCv:=@Nat.le_succ
abbrev qCw:=@W.callWith_K
abbrev qCx:=@List.filterMap_map
abbrev qCy:=@Int.fmod_lt_of_pos
abbrev qCz:=@F.entry_tuple_iterator_next
abbrev qCA:=@Bool.and_true
abbrev qCB:=@Int.fmod_eq_emod_of_nonneg
abbrev qCC:=@List.pairwise_iff_getElem
abbrev qCD:=@PySem.F.args_tuple_add_2
abbrev qCE:=@Nat.min_eq_right
abbrev qCF:=@PySem.F.entry_tuple_add
abbrev qCG:=@PyProof.Rows.intBits_le
abbrev qCH:=@List.pairwise_singleton
abbrev qCI:=@Rat.le_antisymm
abbrev qCJ:=@PySem.F.slot_tuple_add
abbrev qCK:=@Nat.one_pos
abbrev qCL:=@Rat.div_def
abbrev qCM:=@PyProof.Rows.boot_bool
abbrev qCN:=@List.take_append_drop
abbrev qCO:=@List.length_replicate
abbrev qCP:=@List.filterMap_append
abbrev qCQ:=@List.filterMap_eq_map
abbrev qCR:=@Heap.get?_update_self
abbrev qCS:=@PyProof.Rows.boot_zip
abbrev qCT:=@PyProof.Rows.boot_int
abbrev qCU:=@List.map_take
abbrev qCV:=@Nat.succ_mul
abbrev qCW:=@Rat.add_comm
end
namespace L2
open PySem
def Gg (s:Stmt):Arguments:=match s with
 |.FunctionDef _ a _ _ _ _ _ _ _ _=>a
 |_=>{ posonlyargs:=[],args:=[],vararg:=none,kwonlyargs:=[],kw_defaults:=[],kwarg:=none,defaults:=[] }
def Cp (s:Stmt):List Stmt:=match s with
 |.FunctionDef _ _ b _ _ _ _ _ _ _=>b
 |_=>[]
def Ab (s:Stmt):Scope:=match s with
 |.FunctionDef _ _ _ _ _ _ sc _ _ _=>sc
 |_=>{ kind:=.function,names:=[],isGenerator:=false,isCoroutine:=false }
end L2
namespace L3
open PySem L2
abbrev rA (K:W.Frag)(n:Str)(f:Addr):Prop:=W.nsIn K mainGlobals n=some (some (.ref f))
abbrev rL (K:W.Frag)(f:Addr)(n:Str)(st:Stmt)(oc:Value)(od:Option Addr)(kV dc pm:Value)(an:Option Addr)(cd ct:Value)(sl:Array (Option Value)):Prop:=K.lookup f=some ⟨oc,od,.func (W.fnOf n n (Gg st) (Cp st) (Ab st) .none kV dc pm an cd ct),sl⟩
abbrev rC (K:W.Frag)(cd:Value)(n:Str):Prop:=W.codeIn K cd n=true
abbrev rK (K:W.Frag)(f:Addr):Prop:=W.keepIn K (.ref f)=true
inductive Rw (K:W.Frag)(n:Str)(st:Stmt):Prop
 |mk {f:Addr}{oc:Value}{od:Option Addr}{kV dc pm:Value}{an:Option Addr}{cd ct:Value}{sl:Array (Option Value)}(a:rA K n f) (l:rL K f n st oc od kV dc pm an cd ct sl) (c:rC K cd n) (k:rK K f)
end L3
namespace CL
open PySem L2 L3
def top (i:Nat):Stmt:=PySem.Challenge.pw_curvehouse_k18_whole_least_of_partings.main.body.getD i (.Pass ⟨0,0,0,0⟩)
abbrev Hc:Stmt:=top 12
abbrev Ii:Stmt:=top 13
abbrev L7:Stmt:=top 16
abbrev Ox:Stmt:=top 17
abbrev Mb:Stmt:=top 18
abbrev L9:Stmt:=top 19
abbrev Qn:Stmt:=top 20
abbrev Kp:Stmt:=top 21
abbrev JY:Stmt:=top 22
abbrev Mz:Stmt:=top 24
abbrev EG:Stmt:=top 25
abbrev E3:Stmt:=top 26
abbrev Hr:Stmt:=top 27
abbrev Fz:Stmt:=top 28
abbrev Fu:Stmt:=top 29
abbrev De:Stmt:=top 30
abbrev DH:Stmt:=top 31
abbrev Bt:Stmt:=top 32
abbrev BS:Stmt:=top 33
abbrev BQ:Stmt:=top 34
abbrev IS:Stmt:=top 35
abbrev ED:Stmt:=top 36
abbrev Ky:Stmt:=top 38
abbrev Ds:Stmt:=top 39
abbrev CS:Stmt:=top 40
abbrev D6:Stmt:=top 41
abbrev CT:Stmt:=top 42
abbrev He:Stmt:=top 43
abbrev EO:Stmt:=top 45
abbrev Ej:Stmt:=top 46
abbrev FN:Stmt:=top 47
abbrev Gn:Stmt:=top 48
abbrev MU:Stmt:=top 49
abbrev E8:Stmt:=top 50
abbrev E5:Stmt:=top 51
abbrev Fw:Stmt:=top 52
abbrev CQ:Stmt:=top 53
abbrev Eh:Stmt:=top 54
abbrev OD:Stmt:=top 55
abbrev Qk:Stmt:=top 56
abbrev P7:Stmt:=top 57
abbrev Ga:Stmt:=top 58
abbrev Gi:Stmt:=top 59
abbrev Hv:Stmt:=top 60
abbrev KY:Stmt:=top 62
abbrev Dg:Stmt:=top 63
abbrev CI:Stmt:=top 64
abbrev Hm:Stmt:=top 65
abbrev Cg:Stmt:=top 66
abbrev IC:Stmt:=top 67
abbrev Dj:Stmt:=top 68
abbrev Ml:Stmt:=top 69
abbrev Ei:Stmt:=top 71
abbrev ER:Stmt:=top 72
abbrev Gj:Stmt:=top 73
abbrev Fh:Stmt:=top 74
abbrev Gm:Stmt:=top 75
abbrev Dx:Stmt:=top 76
abbrev DD:Stmt:=top 77
abbrev DU:Stmt:=top 78
abbrev C8:Stmt:=top 79
abbrev Cj:Stmt:=top 80
abbrev Hf:Stmt:=top 81
abbrev Fm:Stmt:=top 82
abbrev DE:Stmt:=top 83
abbrev Fe:Stmt:=top 84
abbrev DM:Stmt:=top 85
abbrev Gp:Stmt:=top 86
abbrev EK:Stmt:=top 87
abbrev Fg:Stmt:=top 88
abbrev Ek:Stmt:=top 89
abbrev E7:Stmt:=top 90
abbrev KP:Stmt:=top 91
inductive Facts (l:W.OpenLaw)(K:W.Frag):Prop
 |mk {kV dc pm cd ct oc:Value}{od an:Option Addr}{sl:Array (Option Value)}{fL K_CurveError K_NoRatio K_NoCurve K_NoTime K_NoHouse K_NoWay K_NoText K_NoName K_NoEnd K_NoRow:Addr}{gt_NOUGHT_0:Tok}{gt_NOUGHT_1:Tok}{ga_NOUGHT_2:Addr}{gd_NOUGHT_3:Option Addr}{gn_NOUGHT_3:Nat}{gs_NOUGHT_3:Array (Option Value)}
  (r0:Rw K "is_whole" Hc)
  (r1:Rw K "divisor" Ii)
  (r2:Rw K "ratio" L7)
  (r3:Rw K "plus" Ox)
  (r4:Rw K "minus" Mb)
  (r5:Rw K "times" L9)
  (r6:Rw K "over" Qn)
  (r7:Rw K "under" Kp)
  (r8:Rw K "lesser" JY)
  (r9:Rw K "check_begin" EG)
  (r10:Rw K "check_rise" E3)
  (r11:Rw K "slope_between" DH)
  (r12:Rw K "slopes_behind" Bt)
  (r13:Rw K "curve" Mz)
  (r14:Rw K "check_time" Fu)
  (r15:Rw K "count_while" ED)
  (r16:Rw K "piece_at" Fz)
  (r17:Rw K "slope_of_piece" De)
  (r18:Rw K "value_at" Hr)
  (r19:Rw K "steeper_corners" BS)
  (r20:Rw K "flatter_corners" BQ)
  (r21:Rw K "time_of" IS)
  (r22:Rw K "corner_times" CS)
  (r23:Rw K "corner_rows" Ds)
  (r24:Rw K "gap_points" D6)
  (r25:Rw K "opposite" He)
  (r26:Rw K "crossed_rows" CT)
  (r27:Rw K "least" Ky)
  (r28:Rw K "line_through" Ej)
  (r29:Rw K "pieces_of" EO)
  (r30:Rw K "corner_of" Gn)
  (r31:Rw K "curve_of" FN)
  (r32:Rw K "moved_time" E8)
  (r33:Rw K "moved_line" E5)
  (r34:Rw K "laid" MU)
  (r35:Rw K "sooner_begin" Eh)
  (r36:Rw K "side_by_side" CQ)
  (r37:Rw K "sign" P7)
  (r38:Rw K "side" OD)
  (r39:Rw K "lean" Qk)
  (r40:Rw K "add_piece" Gi)
  (r41:Rw K "crossing" Hv)
  (r42:Rw K "add_lower" Ga)
  (r43:Rw K "lowered" Fw)
  (r44:Rw K "joined_by_corners" Cg)
  (r45:Rw K "by_slope" Hm)
  (r46:Rw K "stretches_under" CI)
  (r47:Rw K "flattest_first" Dg)
  (r48:Rw K "joined" KY)
  (r49:Rw K "given" Ml)
  (r50:Rw K "other_partings" Dj)
  (r51:Rw K "parting" IC)
  (r52:Rw K "_law_cell_at" Ei)
  (r53:Rw K "_law_lowest" ER)
  (r54:Rw K "_law_less" Gj)
  (r55:Rw K "_law_minus" Fh)
  (r56:Rw K "_law_plus" Gm)
  (r57:Rw K "_law_slope_by" Dx)
  (r58:Rw K "_law_curve_by" DD)
  (r59:Rw K "_law_cells" DU)
  (r60:Rw K "_law_mixed" C8)
  (r61:Rw K "_law_digits_curve" Cj)
  (r62:Rw K "_law_two" Hf)
  (r63:Rw K "_law_value" Fm)
  (r64:Rw K "_law_is_ratio" DE)
  (r65:Rw K "_law_bends" Fe)
  (r66:Rw K "_law_is_curve" DM)
  (r67:Rw K "_law_back" Gp)
  (r68:Rw K "_law_moment" EK)
  (r69:Rw K "_law_gives" Fg)
  (r70:Rw K "_law_refused" Ek)
  (r71:Rw K "_law_pairs" E7)
  (aL:rA K "law" fL) (lL:rL K fL "law" KP oc od kV dc pm an cd ct sl) (cL:rC K cd "law") (kL:rK K fL)
  (z0:W.nsIn K mainGlobals "isinstance"=some none)
  (z1:W.nsIn K mainGlobals "int"=some none)
  (z2:W.nsIn K mainGlobals "bool"=some none)
  (z3:W.nsIn K mainGlobals "abs"=some none)
  (z4:W.nsIn K mainGlobals "len"=some none)
  (z5:W.nsIn K mainGlobals "range"=some none)
  (z6:W.nsIn K mainGlobals "tuple"=some none)
  (z7:W.nsIn K mainGlobals "enumerate"=some none)
  (z8:W.nsIn K mainGlobals "zip"=some none)
  (z9:W.nsIn K mainGlobals "ValueError"=some none)
  (z10:W.nsIn K mainGlobals "max"=some none)
  (z11:W.nsIn K mainGlobals "min"=some none)
  (z12:W.nsIn K mainGlobals "list"=some none)
  (n_CurveError:rA K "CurveError" K_CurveError)
  (n_NoRatio:rA K "NoRatio" K_NoRatio)
  (n_NoCurve:rA K "NoCurve" K_NoCurve)
  (n_NoTime:rA K "NoTime" K_NoTime)
  (n_NoHouse:rA K "NoHouse" K_NoHouse)
  (n_NoWay:rA K "NoWay" K_NoWay)
  (n_NoText:rA K "NoText" K_NoText)
  (n_NoName:rA K "NoName" K_NoName)
  (n_NoEnd:rA K "NoEnd" K_NoEnd)
  (n_NoRow:rA K "NoRow" K_NoRow)
  (n_NOUGHT:W.nsIn K mainGlobals "NOUGHT"=some (some (.ref ga_NOUGHT_2)))
  (n_gl_NOUGHT_6:K.lookup ga_NOUGHT_2=some ⟨.type "tuple",gd_NOUGHT_3,.seq #[(.int 0 gt_NOUGHT_0),(.int 1 gt_NOUGHT_1)] gn_NOUGHT_3,gs_NOUGHT_3⟩)
  (x_NoCurve:W.excIn K K_NoCurve [.type "ValueError",.type "Exception",.type "BaseException",.type "object"] "ValueError.__new__"=true)
  (x_NoTime:W.excIn K K_NoTime [.type "ValueError",.type "Exception",.type "BaseException",.type "object"] "ValueError.__new__"=true)
  (h0_CurveError:W.instIn K (.ref K_CurveError) (.type "tuple")=some false)
  (h1_CurveError:(W.clsIn K K_CurveError).isSome=true)
  (h2_CurveError:W.mroIn K K_CurveError (.type "BaseException")=some true)
  (mr_NoTime_CurveError:W.mroIn K K_NoTime (.ref K_CurveError)=some true)
  (kT_NoTime_ValueError:W.kitOne K (.ref K_NoTime) (.type "ValueError")=some true)
  (i0_NoTime:W.findIn K (.ref K_NoTime) "__getattribute__"=some (some (.builtin "BaseException.__getattribute__")))
  (i1_NoTime:W.findIn K (.ref K_NoTime) "__getattr__"=some none)
  (i2_NoTime:(W.clsIn K K_NoTime).isSome=true)
  (i3_NoTime:W.findIn K (.ref K_NoTime) "__class__"=some (some (.builtin "object.__class__")))
  (i4_NoTime:W.specialIn K (.builtin "object.__class__") "__get__"=some (some (.builtin "getset_descriptor.__get__")))
  (i5_NoTime:W.takesIn K (.builtin "object.__class__")=some true)
  (i6_NoTime:W.mroIn K K_NoTime (.type "object")=some true)
  (i7_NoTime:W.mroIn K K_NoTime (.type "BaseException")=some true)
  (kt_NoTime_NoTime:W.kitOne K (.ref K_NoTime) (.ref K_NoTime)=some true)
  (kt_NoTime_NoRow:W.kitOne K (.ref K_NoTime) (.ref K_NoRow)=some false)
  (kt_NoTime_NoEnd:W.kitOne K (.ref K_NoTime) (.ref K_NoEnd)=some false)
  (kt_NoTime_NoName:W.kitOne K (.ref K_NoTime) (.ref K_NoName)=some false)
  (kt_NoTime_NoText:W.kitOne K (.ref K_NoTime) (.ref K_NoText)=some false)
  (kt_NoTime_NoHouse:W.kitOne K (.ref K_NoTime) (.ref K_NoHouse)=some false)
  (kt_NoTime_NoRatio:W.kitOne K (.ref K_NoTime) (.ref K_NoRatio)=some false)
  (kt_NoTime_NoWay:W.kitOne K (.ref K_NoTime) (.ref K_NoWay)=some false)
  (kt_NoTime_NoCurve:W.kitOne K (.ref K_NoTime) (.ref K_NoCurve)=some false)
  (ht_piece_at:(W.tabIn K "piece_at").isSome=true)
  (hp_piece_at:(PyProof.Rows.recsOf l.prog).any (fun d=>d.name == "piece_at")=true)
  (ht_side_by_side:(W.tabIn K "side_by_side").isSome=true)
  (hp_side_by_side:(PyProof.Rows.recsOf l.prog).any (fun d=>d.name == "side_by_side")=true)
  (ht_lowered:(W.tabIn K "lowered").isSome=true)
  (hp_lowered:(PyProof.Rows.recsOf l.prog).any (fun d=>d.name == "lowered")=true)
end CL
section
set_option maxRecDepth 100000
set_option maxHeartbeats 0
open PySem PySem.W PyProof.Rows
theorem HD.ws:OpenLaw.wellSaid PySem.Challenge.rw_curvehouse_k18_whole_least_of_partings=true:=by kernel_rfl
noncomputable def HD.qv:Program:={ PySem.Challenge.pw_curvehouse_k18_whole_least_of_partings with main:={ PySem.Challenge.pw_curvehouse_k18_whole_least_of_partings.main with body:=[CL.top 1,CL.top 2,CL.top 3,CL.top 4,CL.top 5,CL.top 6,CL.top 7,CL.top 8,CL.top 9,CL.top 10,CL.top 12,CL.top 13,CL.top 15,CL.top 16,CL.top 17,CL.top 18,CL.top 19,CL.top 20,CL.top 21,CL.top 22,CL.top 24,CL.top 25,CL.top 26,CL.top 27,CL.top 28,CL.top 29,CL.top 30,CL.top 31,CL.top 32,CL.top 33,CL.top 34,CL.top 35,CL.top 36,CL.top 38,CL.top 39,CL.top 40,CL.top 41,CL.top 42,CL.top 43,CL.top 45,CL.top 46,CL.top 47,CL.top 48,CL.top 49,CL.top 50,CL.top 51,CL.top 52,CL.top 53,CL.top 54,CL.top 55,CL.top 56,CL.top 57,CL.top 58,CL.top 59,CL.top 60,CL.top 62,CL.top 63,CL.top 64,CL.top 65,CL.top 66,CL.top 67,CL.top 68,CL.top 69,CL.top 71,CL.top 72,CL.top 73,CL.top 74,CL.top 75,CL.top 76,CL.top 77,CL.top 78,CL.top 79,CL.top 80,CL.top 81,CL.top 82,CL.top 83,CL.top 84,CL.top 85,CL.top 86,CL.top 87,CL.top 88,CL.top 89,CL.top 90,CL.top 91] } }
structure HD.R where
 o:List Obj
 e:List DictEntry
 p:List Value
 s:List Value
 n:Nat
 k:Nat
 m:Value
def HD.tx:List Str->Nat->List Value
 |[],_=>[]
 |x::l,k=>.str x k::HD.tx l (k+1)
def HD.tu (l:List Value):Obj:=⟨.type "tuple",none,.seq l.toArray 0,#[]⟩
def HD.fo (c:Value)(l:List Value):Obj:=⟨c,none,.fields l.toArray,#[]⟩
def HD.co (x:Str)(k i j f:Nat)(a:Value)(b:Bool)(c d e t:Value)(k':Nat):Obj :=
 HD.fo (.type "code") [.str x k,.str x (k+1),.str "/claim/cut.py" (k+2),.int i 0,.int j 0,.int 0 0,.int 0 0,.int f 0,a,.bool b,.int 181 0,c,.none,d,e,t,.int k' 0,.int i 0,.str "/claim/cut.py" (k'+1)]
def HD.fd (x:Str)(p:Arguments)(b:List Stmt)(s:Scope)(g:Addr)(m c:Value):Data:=.func ⟨x,x,p,.stmts b,s,g,[],.none,.none,.none,m,none,c,.none,0⟩
def HD.en (P:Params)(x:Str)(k:Nat)(v:Value):DictEntry:=⟨PyData.keyHash P x,.str x k,v⟩
def HD.cl (P:Params)(x:Str)(q:Pos)(a k:Nat)(m:Value)(b:List Value)(mro:List Value)(s:List Value)(r:Bool):List Obj :=
 let u (j:Nat):Value:=.ref (a+j)
 let f:=HD.en P "__firstlineno__" (k+11) (.int q.line (k+10))
 let g:=HD.en P "__static_attributes__" (k+12) (u 7)
 let n:=HD.en P "__module__" (k+7) m
 [HD.tu b,HD.fo (.type "builtin_function_or_method") [.builtin "type.__prepare__",.type "type"],
  ⟨.type "dict",none,.dict [n,HD.en P "__qualname__" (k+9) (.str x (k+8)),f,g].toArray 4,#[]⟩,HD.tu [],HD.fo .none [],
  HD.co x (k+2) q.line 0 0 (u 3) false (u 4) .none .none .none (k+5),
  ⟨.type "frame",none,.plain,#[some (u 5),some (.ref 3),some (u 2),none,some m,none,some (.ref 0)]⟩,HD.tu [],
  ⟨.type "dict",none,.dict ([n,f,g]++(match r with|true=>[HD.en P "__weakref__" (k+14) (u 10),HD.en P "__doc__" (k+15) .none]|false=>[HD.en P "__doc__" (k+13) .none])).toArray (match r with|true=>3|false=>2),#[]⟩,
  ⟨.type "type",none,.cls ⟨x,b,u 9::mro,a+8,x,true,[],s,false,none,false⟩,#[some (u 0),none,some (.str x k),some (.str x (k+8)),some (.builtin "ValueError.__new__"),some (.bool true)]⟩] ++
 (match r with|true=>[HD.fo (.type "getset_descriptor") [.str "__weakref__" (k+13),u 9,.builtin "ExceptionGroup.__weakref__",.none]]|false=>[]) ++
 [HD.fo (.type "super") [u 9,u 9,u 9],HD.fo (.type "builtin_function_or_method") [.builtin "object.__init_subclass__",u 9]]
def HD.ve:List Value:=[.type "ValueError",.type "Exception",.type "BaseException",.type "object"]
def HD.cs:List PySem.Expr->Nat->List Value
 |.Constant (.int i) _ _::l,k=>.int i k::HD.cs l (k+1)
 |_,_=>[]
def HD.one (P:Params)(t:Stmt)(a k:Nat)(m:Value)(r:Nat->Nat->Value->HD.R):HD.R:=match t with
 |.FunctionDef x p b _ _ _ s _ _ q=>match localNames p s (.stmts b) with
  |some (y,z)=>match r (a+7) (k+3+y.length+z.length+3) m with
   |⟨o,e,l,u,n,i,j⟩=>⟨HD.tu []::HD.fo .none []::HD.tu (HD.tx y (k+3))::HD.tu (HD.tx z (k+3+y.length)) :: ⟨.none,none,HD.fd x p b s 0 .none .none,#[]⟩ ::
    HD.co x k q.line p.args.length 3 (.ref a) true (.ref (a+1)) (.ref (a+2)) (.ref (a+3)) (.ref (a+4)) (k+3+y.length+z.length) :: ⟨.type "function",none,HD.fd x p b s 3 m (.ref (a+5)),#[]⟩::o,
    HD.en P x (k+3+y.length+z.length+2) (.ref (a+6))::e,.int q.line 0 :: .int q.col 0 :: .ref (a+5)::l,u,n,i,j⟩
  |none=>match r (a+5) (k+6) m with
   |⟨o,e,l,u,n,i,j⟩=>⟨HD.tu []::HD.fo .none [] :: ⟨.none,none,HD.fd x p b s 0 .none .none,#[]⟩ ::
    HD.co x k q.line p.args.length 3 (.ref a) true (.ref (a+1)) .none .none (.ref (a+2)) (k+3) :: ⟨.type "function",none,HD.fd x p b s 3 m (.ref (a+3)),#[]⟩::o,
    HD.en P x (k+5) (.ref (a+4))::e,.int q.line 0 :: .int q.col 0 :: .ref (a+3)::l,u,n,i,j⟩
 |.ClassDef x _ _ _ _ _ _ _ _ _ q=>match Nat.beq a 15 with
  |true=>match r (a+13) (k+18) m with
   |⟨o,e,l,u,n,i,j⟩=>⟨HD.cl P x q a k m [.type "ValueError"] HD.ve u true++o,HD.en P x (k+17) (.ref (a+9))::e,.int q.line 0 :: .int q.col 0 :: .ref (a+5)::l,u,n,i,j⟩
  |false=>match r (a+12) (k+16) m with
   |⟨o,e,l,u,n,i,j⟩=>⟨HD.cl P x q a k m [.ref 24] (.ref 24::HD.ve) [] false++o,HD.en P x (k+15) (.ref (a+9))::e,.int q.line 0 :: .int q.col 0 :: .ref (a+5)::l,.ref (a+9)::u,n,i,j⟩
 |.Assign _ (.Constant (.str x) _ _) _=>r a (k+2) (.str x k)
 |.Assign [.Name x _] (.Tuple b _ _) _=>match r (a+1) (k+b.length+1) m with
  |⟨o,e,l,u,n,i,j⟩=>⟨HD.tu (HD.cs b k)::o,HD.en P x (k+b.length) (.ref a)::e,l,u,n,i,j⟩
 |_=>r a k m
def HD.go (P:Params):List Stmt->Nat->Nat->Value->HD.R
 |[],a,k,m=>⟨[],[],[],[],a,k,m⟩
 |t::l,a,k,m=>HD.one P t a k m (fun a k m=>HD.go P l a k m)
def HD.alt:List Obj->List Obj
 |x::_::l=>x::HD.alt l
 |l=>l
def HD.bt:Nat->List Obj->BT
 |n+1,x::l=>.node x (HD.bt n (HD.alt l)) (HD.bt n (HD.alt l.tail))
 |_,_=>.nil
def HD.bu:Nat->List Obj->BT
 |n+1,x::l=>.node x (HD.bu n (HD.alt l)) (HD.bu n (HD.alt l.tail))
 |_,_=>.nil
noncomputable def HD.ob (P:Params)(r:HD.R):List Obj :=
 boot_o_0 P::boot_o_1 P::boot_o_2 P::(match boot_o_3 P with
  |⟨c,d,.dict es n,s⟩=>(match es.toList with
   |x::l=>⟨c,d,.dict (⟨x.hash,x.key,r.m⟩::(l++r.e)).toArray (n+r.e.length),s⟩
   |[]=>default)
  |o=>o)::boot_o_4 P::boot_o_5 P::boot_o_6 P::boot_o_7 P::boot_o_8 P::boot_o_9 P::boot_o_10 P::HD.tu []::HD.fo .none r.p ::
 HD.co "<module>" 182 1 0 0 (.ref 11) false (.ref 12) .none .none .none 185 :: ⟨.type "frame",none,.plain,#[some (.ref 13),some (.ref 3),some (.ref 3),none,some (.str "__main__" 164),none,some (.ref 0)]⟩::r.o
noncomputable def HD.S (f:Nat->List Obj->BT)(l:List Stmt)(P:Params)(os:OsState):SharedT :=
 match HD.go P l 15 187 (.str "__main__" 164) with
 |r=>⟨f 12 (HD.ob P r),r.n,(boot_heap P).life,Array.mk [],boot_drawn,r.k,os⟩
theorem HD.ap {tb:String->Option Builtin}{p:Program}{w:World}{n₀:Nat}{ann:Option Value}{env:Env}{q:Pos}{n N:Nat}{s s':SharedT}{r:Shared}{l:List Stmt}{c:Code}{pos p':Pos}(i:Nat) (h:segRunT tb p w n₀ ann 1 n s (piecesOf (l.take i) env c pos [topFrame q])=some (.next,s',c,p'))
 (k:topRun tb p w n₀ ann N s'.abs (restOf (l.drop i) env c p' [topFrame q])=some r):topRun tb p w n₀ ann (n+N) s.abs (restOf l env c pos [topFrame q])=some r:=by
 have:=piece_app (segRun_of h) k
 rwa [qCN] at this
theorem HD.ae {tb:String->Option Builtin}{p:Program}{w:World}{n₀:Nat}{ann:Option Value}{env:Env}{q:Pos}{n N:Nat}{s s':SharedT}{r:Shared}{l:List Stmt}{c:Code}{pos p':Pos}(h:segRunT tb p w n₀ ann 1 n s (piecesOf l env c pos [topFrame q])=some (.next,s',c,p'))
 (k:topRun tb p w n₀ ann N s'.abs ⟨doneF .next,c,p',[topFrame q]⟩=some r):topRun tb p w n₀ ann (n+N) s.abs (restOf l env c pos [topFrame q])=some r:=by
 have:=piece_app (rest:=[]) (segRun_of h) (piece_nil k)
 rwa [qBe] at this
noncomputable def HD.ok (p:Program)(w:World)(s:Shared):Bool :=
 staticsOk (importedModules p.main.body) (boot_heap w.params) s.heap&&namesBound p s.heap &&
 gensDone s&&laidKept (boot_heap w.params) s.heap
theorem HD.lo {p q:Program}{Xt:Shared->Bool}{α:Type}{Yf:Shared->α}{Ya:World->α}{N M k:Nat}{H:Params->Heap}(le:Nat.ble M N=true)
 (o:∀w:World,(fencedOpening treeTable p w N).map (fun s=>(s.heap,s.gens,s.drawn,s.toks))=some (boot_heap w.params,Array.mk [],boot_drawn,boot_toks))
 (r:∀(w:World)(os:OsState),topRun treeTable p w 11 (some (.ref 6)) M ⟨boot_heap w.params,Array.mk [],boot_drawn,boot_toks,os⟩ (topStub p)=some ⟨H w.params,Array.mk [],boot_drawn,k,os⟩)
 (a:∀(w:World)(os:OsState),(HD.ok p w ⟨H w.params,Array.mk [],boot_drawn,k,os⟩,openSeen q [] (importedModules p.main.body) Xt true ⟨H w.params,Array.mk [],boot_drawn,k,os⟩)=(true,openGood q []))
 (b:∀(w:World)(os:OsState),Yf ⟨H w.params,Array.mk [],boot_drawn,k,os⟩=Ya w):LeftO p q [] Xt Yf Ya N true :=
 LeftO.of_pieces o (fun w=>by kernel_rfl) r le fun w=>funext fun os=>by
  obtain⟨e,f⟩:=Prod.mk.inj (a w os)
  exact looks_pair e (looks_pair f (b w os))
theorem HD.tri {β γ δ ε ζ η θ ι κ:Type}{b:Bool}{x y:β×γ×δ×ε×ζ×η×θ×ι×κ}(h0:b=true) (h1:x.1=y.1) (h2:x.2.1=y.2.1) (h3:x.2.2.1=y.2.2.1) (h4:x.2.2.2.1=y.2.2.2.1) (h5:x.2.2.2.2.1=y.2.2.2.2.1) (h6:x.2.2.2.2.2.1=y.2.2.2.2.2.1) (h7:x.2.2.2.2.2.2.1=y.2.2.2.2.2.2.1) (h8:x.2.2.2.2.2.2.2.1=y.2.2.2.2.2.2.2.1) (h9:x.2.2.2.2.2.2.2.2=y.2.2.2.2.2.2.2.2):(b,x)=(true,y) :=
 Prod.ext h0 (Prod.ext h1 (Prod.ext h2 (Prod.ext h3 (Prod.ext h4 (Prod.ext h5 (Prod.ext h6 (Prod.ext h7 (Prod.ext h8 h9))))))))
theorem HD.op (w:World):(fencedOpening treeTable ((OpenLaw.row PySem.Challenge.rw_curvehouse_k18_whole_least_of_partings).toRowW.prog) w 9050).map (fun s=>(s.heap,s.gens,s.drawn,s.toks))=some (boot_heap w.params,Array.mk [],boot_drawn,boot_toks):=boot_open (by kernel_rfl) (by decide +kernel) (fun s=>by kernel_rfl) w
noncomputable def HD.bd:List Stmt:=behindTheImports ((OpenLaw.row PySem.Challenge.rw_curvehouse_k18_whole_least_of_partings).toRowW.prog)
noncomputable def HD.ev:Env:={ scope:=((OpenLaw.row PySem.Challenge.rw_curvehouse_k18_whole_least_of_partings).toRowW.prog).main.scope,locals:=3,globals:=3,cells:=[],code:=.ref 13,frame:=some 14 }
noncomputable def HD.cE:Code:=.body HD.bd HD.ev
noncomputable def HD.H (P:Params):Heap:=absHeap (HD.S HD.bt HD.bd P default).tree 618 (boot_heap P).life
noncomputable def HD.Z (w:World)(os:OsState):Shared:=⟨HD.H w.params,Array.mk [],boot_drawn,1030,os⟩
theorem HD.pre (w:World)(os:OsState):topGo treeTable ((OpenLaw.row PySem.Challenge.rw_curvehouse_k18_whole_least_of_partings).toRowW.prog) w 11 (some (.ref 6)) 12 ⟨boot_heap w.params,Array.mk [],boot_drawn,boot_toks,os⟩ (topStub ((OpenLaw.row PySem.Challenge.rw_curvehouse_k18_whole_least_of_partings).toRowW.prog))=some ((HD.S HD.bt [] w.params os).abs,⟨denote treeTable HD.cE,HD.cE,⟨0,0,0,0⟩,[topFrame ⟨0,0,0,0⟩]⟩):=by kernel_rfl
theorem HD.blk (w:World)(os:OsState):segRun treeTable ((OpenLaw.row PySem.Challenge.rw_curvehouse_k18_whole_least_of_partings).toRowW.prog) w 11 (some (.ref 6)) 1 1 (HD.S HD.bt [] w.params os).abs (blockOf HD.bd HD.ev HD.cE ⟨0,0,0,0⟩ [topFrame ⟨0,0,0,0⟩])=some (.next,(HD.S HD.bt [] w.params os).abs,HD.cE,⟨0,0,0,0⟩):=by kernel_rfl
theorem HD.q0 (w:World)(os:OsState):segRunT treeTable ((OpenLaw.row PySem.Challenge.rw_curvehouse_k18_whole_least_of_partings).toRowW.prog) w 11 (some (.ref 6)) 1 1048 (HD.S HD.bt [] w.params os) (piecesOf (HD.bd.take 6) HD.ev HD.cE ⟨0,0,0,0⟩ [topFrame ⟨0,0,0,0⟩])=some (.next,(HD.S HD.bu (HD.bd.take 6) w.params os),HD.cE,⟨10,0,11,8⟩):=by kernel_rfl
theorem HD.q1 (w:World)(os:OsState):segRunT treeTable ((OpenLaw.row PySem.Challenge.rw_curvehouse_k18_whole_least_of_partings).toRowW.prog) w 11 (some (.ref 6)) 1 853 (HD.S HD.bu (HD.bd.take 6) w.params os) (piecesOf ((HD.bd.drop 6).take 4) HD.ev HD.cE ⟨10,0,11,8⟩ [topFrame ⟨0,0,0,0⟩])=some (.next,(HD.S HD.bt (HD.bd.take 10) w.params os),HD.cE,⟨18,0,19,8⟩):=by kernel_rfl
theorem HD.q2 (w:World)(os:OsState):segRunT treeTable ((OpenLaw.row PySem.Challenge.rw_curvehouse_k18_whole_least_of_partings).toRowW.prog) w 11 (some (.ref 6)) 1 773 (HD.S HD.bt (HD.bd.take 10) w.params os) (piecesOf (((HD.bd.drop 6).drop 4).take 22) HD.ev HD.cE ⟨18,0,19,8⟩ [topFrame ⟨0,0,0,0⟩])=some (.next,(HD.S HD.bu (HD.bd.take 32) w.params os),HD.cE,⟨102,0,103,65⟩):=by kernel_rfl
theorem HD.q3 (w:World)(os:OsState):segRunT treeTable ((OpenLaw.row PySem.Challenge.rw_curvehouse_k18_whole_least_of_partings).toRowW.prog) w 11 (some (.ref 6)) 1 875 (HD.S HD.bu (HD.bd.take 32) w.params os) (piecesOf ((((HD.bd.drop 6).drop 4).drop 22).take 32) HD.ev HD.cE ⟨102,0,103,65⟩ [topFrame ⟨0,0,0,0⟩])=some (.next,(HD.S HD.bt (HD.bd.take 64) w.params os),HD.cE,⟨244,0,250,31⟩):=by kernel_rfl
theorem HD.q4 (w:World)(os:OsState):segRunT treeTable ((OpenLaw.row PySem.Challenge.rw_curvehouse_k18_whole_least_of_partings).toRowW.prog) w 11 (some (.ref 6)) 1 881 (HD.S HD.bt (HD.bd.take 64) w.params os) (piecesOf ((((HD.bd.drop 6).drop 4).drop 22).drop 32) HD.ev HD.cE ⟨244,0,250,31⟩ [topFrame ⟨0,0,0,0⟩])=some (.next,(HD.S HD.bu HD.bd w.params os),HD.cE,⟨492,0,516,15⟩):=by kernel_rfl
theorem HD.fn (w:World)(os:OsState):topRun treeTable ((OpenLaw.row PySem.Challenge.rw_curvehouse_k18_whole_least_of_partings).toRowW.prog) w 11 (some (.ref 6)) 2 (HD.S HD.bu HD.bd w.params os).abs ⟨doneF .next,HD.cE,⟨492,0,516,15⟩,[topFrame ⟨0,0,0,0⟩]⟩=some (HD.Z w os):=by kernel_rfl
theorem HD.run (w:World)(os:OsState):topRun treeTable ((OpenLaw.row PySem.Challenge.rw_curvehouse_k18_whole_least_of_partings).toRowW.prog) w 11 (some (.ref 6)) (12+(1+(1048+(853+(773+(875+(881+2))))))) ⟨boot_heap w.params,Array.mk [],boot_drawn,boot_toks,os⟩ (topStub ((OpenLaw.row PySem.Challenge.rw_curvehouse_k18_whole_least_of_partings).toRowW.prog))=some (HD.Z w os):=go_top (HD.pre w os) (piece_block (HD.blk w os) (HD.ap 6 (HD.q0 w os) (HD.ap 4 (HD.q1 w os) (HD.ap 22 (HD.q2 w os) (HD.ap 32 (HD.q3 w os) (HD.ae (HD.q4 w os) (HD.fn w os)))))))
theorem HD.l0 (w:World)(os:OsState):HD.ok ((OpenLaw.row PySem.Challenge.rw_curvehouse_k18_whole_least_of_partings).toRowW.prog) w (HD.Z w os)=true:=by kernel_rfl
theorem HD.l1 (w:World)(os:OsState):(openSeen HD.qv [] (importedModules ((OpenLaw.row PySem.Challenge.rw_curvehouse_k18_whole_least_of_partings).toRowW.prog).main.body) (fun s=>xlAt HD.qv [] s&&recOk (RowW.records (OpenRow.toRowW (OpenLaw.row PySem.Challenge.rw_curvehouse_k18_whole_least_of_partings))) s) true (HD.Z w os)).1=expectedOf HD.qv:=by kernel_rfl
theorem HD.l2 (w:World)(os:OsState):(openSeen HD.qv [] (importedModules ((OpenLaw.row PySem.Challenge.rw_curvehouse_k18_whole_least_of_partings).toRowW.prog).main.body) (fun s=>xlAt HD.qv [] s&&recOk (RowW.records (OpenRow.toRowW (OpenLaw.row PySem.Challenge.rw_curvehouse_k18_whole_least_of_partings))) s) true (HD.Z w os)).2.1=bltViewBooted:=by kernel_rfl
theorem HD.l3 (w:World)(os:OsState):(openSeen HD.qv [] (importedModules ((OpenLaw.row PySem.Challenge.rw_curvehouse_k18_whole_least_of_partings).toRowW.prog).main.body) (fun s=>xlAt HD.qv [] s&&recOk (RowW.records (OpenRow.toRowW (OpenLaw.row PySem.Challenge.rw_curvehouse_k18_whole_least_of_partings))) s) true (HD.Z w os)).2.2.1=true:=by kernel_rfl
theorem HD.l4 (w:World)(os:OsState):(openSeen HD.qv [] (importedModules ((OpenLaw.row PySem.Challenge.rw_curvehouse_k18_whole_least_of_partings).toRowW.prog).main.body) (fun s=>xlAt HD.qv [] s&&recOk (RowW.records (OpenRow.toRowW (OpenLaw.row PySem.Challenge.rw_curvehouse_k18_whole_least_of_partings))) s) true (HD.Z w os)).2.2.2.1=true:=by kernel_rfl
theorem HD.l5 (w:World)(os:OsState):(openSeen HD.qv [] (importedModules ((OpenLaw.row PySem.Challenge.rw_curvehouse_k18_whole_least_of_partings).toRowW.prog).main.body) (fun s=>xlAt HD.qv [] s&&recOk (RowW.records (OpenRow.toRowW (OpenLaw.row PySem.Challenge.rw_curvehouse_k18_whole_least_of_partings))) s) true (HD.Z w os)).2.2.2.2.1=pinGoodD (drecsOf HD.qv):=by kernel_rfl
theorem HD.l6 (w:World)(os:OsState):(openSeen HD.qv [] (importedModules ((OpenLaw.row PySem.Challenge.rw_curvehouse_k18_whole_least_of_partings).toRowW.prog).main.body) (fun s=>xlAt HD.qv [] s&&recOk (RowW.records (OpenRow.toRowW (OpenLaw.row PySem.Challenge.rw_curvehouse_k18_whole_least_of_partings))) s) true (HD.Z w os)).2.2.2.2.2.1=plainGoodE HD.qv (looseW HD.qv []):=by kernel_rfl
theorem HD.l7 (w:World)(os:OsState):(openSeen HD.qv [] (importedModules ((OpenLaw.row PySem.Challenge.rw_curvehouse_k18_whole_least_of_partings).toRowW.prog).main.body) (fun s=>xlAt HD.qv [] s&&recOk (RowW.records (OpenRow.toRowW (OpenLaw.row PySem.Challenge.rw_curvehouse_k18_whole_least_of_partings))) s) true (HD.Z w os)).2.2.2.2.2.2.1=plainGoodD HD.qv []:=by kernel_rfl
theorem HD.l8 (w:World)(os:OsState):(openSeen HD.qv [] (importedModules ((OpenLaw.row PySem.Challenge.rw_curvehouse_k18_whole_least_of_partings).toRowW.prog).main.body) (fun s=>xlAt HD.qv [] s&&recOk (RowW.records (OpenRow.toRowW (OpenLaw.row PySem.Challenge.rw_curvehouse_k18_whole_least_of_partings))) s) true (HD.Z w os)).2.2.2.2.2.2.2.1=wideGood HD.qv:=by kernel_rfl
theorem HD.l9 (w:World)(os:OsState):(openSeen HD.qv [] (importedModules ((OpenLaw.row PySem.Challenge.rw_curvehouse_k18_whole_least_of_partings).toRowW.prog).main.body) (fun s=>xlAt HD.qv [] s&&recOk (RowW.records (OpenRow.toRowW (OpenLaw.row PySem.Challenge.rw_curvehouse_k18_whole_least_of_partings))) s) true (HD.Z w os)).2.2.2.2.2.2.2.2=clsGoodW HD.qv []:=by kernel_rfl
theorem HD.lA (w:World)(os:OsState):(HD.ok ((OpenLaw.row PySem.Challenge.rw_curvehouse_k18_whole_least_of_partings).toRowW.prog) w (HD.Z w os),openSeen HD.qv [] (importedModules ((OpenLaw.row PySem.Challenge.rw_curvehouse_k18_whole_least_of_partings).toRowW.prog).main.body) (fun s=>xlAt HD.qv [] s&&recOk (RowW.records (OpenRow.toRowW (OpenLaw.row PySem.Challenge.rw_curvehouse_k18_whole_least_of_partings))) s) true (HD.Z w os))=(true,openGood HD.qv []):=HD.tri (HD.l0 w os) (HD.l1 w os) (HD.l2 w os) (HD.l3 w os) (HD.l4 w os) (HD.l5 w os) (HD.l6 w os) (HD.l7 w os) (HD.l8 w os) (HD.l9 w os)
end
section
open PySem PySem.W PyProof.Rows
local macro_rules|`(tactic| o_head $H)=>`(tactic| (
 refine holds_open (q:=HD.qv) (loose:=[]) (N:=9050)
  (Xt:=(fun s=>xlAt HD.qv [] s&&recOk (RowW.records (OpenRow.toRowW (OpenLaw.row PySem.Challenge.rw_curvehouse_k18_whole_least_of_partings))) s))
  (XP:=XL HD.qv []) (Yf:=Hook.obs $H) (Ya:=Hook.val $H)
  (YP:=Hook.says $H) ?hl (Hook.of $H) (Hook.keeps $H)
  (fun s e=>xl_of s (Bool.and_eq_true_iff.mp e).1) XL.keeps (by rfl) (by rfl) (by rfl)
  (fun s e=>recFacts_of (Bool.and_eq_true_iff.mp e).2) (by rfl) (by first|assumption|decide +kernel)
  (by decide +kernel) ⟨rfl,rfl,rfl,rfl,rfl,by decide +kernel⟩ ?hw ?hc
 case hl =>
  refine HD.lo (by decide +kernel) HD.op HD.run HD.lA ?_
  intro w os
  kernel_rfl))
set_option maxRecDepth 100000 in
set_option maxHeartbeats 0 in
theorem CL.front (hF:∀{q:Program}{loose:List Str}{XP:(Str->Option Value)->Heap->Prop}{YP:World->Heap->Prop}{d:DefRec}{K:Params->W.Frag},d.params.defaults=[]->(∀y:Str,(recsOf PySem.Challenge.rw_curvehouse_k18_whole_least_of_partings.prog).any (fun d=>d.name==y)=true->(recsOf q).any (fun d=>d.name==y)=true)->(∀(w:World)(h:Heap),YP w h->(K w.params).In h)->(∀w:World,W.noTabs (K w.params)=true)->d.name="law"->(∀w:World,CL.Facts PySem.Challenge.rw_curvehouse_k18_whole_least_of_partings (K w.params))->W.WalkO q loose XP YP PySem.Challenge.rw_curvehouse_k18_whole_least_of_partings.row.toRowW d [] (fun f vs=>PySem.call f vs)):PySem.Challenge.rw_curvehouse_k18_whole_least_of_partings.Holds:=by
 w_on;refine holds_law HD.ws fun said=>?_;k_head;(case hw=>w_witness2)
 k_fill
 refine hF rfl (fun _ h=>h) (fun w h Y=>W.km_in_of Y) (fun w=>?nt) rfl (fun w=>?F)
 case nt=>kernel_rfl
 case F =>
  refine' CL.Facts.mk (.mk ?a0 ?l0 ?c0 ?k0) (.mk ?a1 ?l1 ?c1 ?k1) (.mk ?a2 ?l2 ?c2 ?k2) (.mk ?a3 ?l3 ?c3 ?k3) (.mk ?a4 ?l4 ?c4 ?k4) (.mk ?a5 ?l5 ?c5 ?k5) (.mk ?a6 ?l6 ?c6 ?k6) (.mk ?a7 ?l7 ?c7 ?k7) (.mk ?a8 ?l8 ?c8 ?k8) (.mk ?a9 ?l9 ?c9 ?k9) (.mk ?a10 ?l10 ?c10 ?k10) (.mk ?a11 ?l11 ?c11 ?k11) (.mk ?a12 ?l12 ?c12 ?k12) (.mk ?a13 ?l13 ?c13 ?k13) (.mk ?a14 ?l14 ?c14 ?k14) (.mk ?a15 ?l15 ?c15 ?k15) (.mk ?a16 ?l16 ?c16 ?k16) (.mk ?a17 ?l17 ?c17 ?k17) (.mk ?a18 ?l18 ?c18 ?k18) (.mk ?a19 ?l19 ?c19 ?k19) (.mk ?a20 ?l20 ?c20 ?k20) (.mk ?a21 ?l21 ?c21 ?k21) (.mk ?a22 ?l22 ?c22 ?k22) (.mk ?a23 ?l23 ?c23 ?k23) (.mk ?a24 ?l24 ?c24 ?k24) (.mk ?a25 ?l25 ?c25 ?k25) (.mk ?a26 ?l26 ?c26 ?k26) (.mk ?a27 ?l27 ?c27 ?k27) (.mk ?a28 ?l28 ?c28 ?k28) (.mk ?a29 ?l29 ?c29 ?k29) (.mk ?a30 ?l30 ?c30 ?k30) (.mk ?a31 ?l31 ?c31 ?k31) (.mk ?a32 ?l32 ?c32 ?k32) (.mk ?a33 ?l33 ?c33 ?k33) (.mk ?a34 ?l34 ?c34 ?k34) (.mk ?a35 ?l35 ?c35 ?k35) (.mk ?a36 ?l36 ?c36 ?k36) (.mk ?a37 ?l37 ?c37 ?k37) (.mk ?a38 ?l38 ?c38 ?k38) (.mk ?a39 ?l39 ?c39 ?k39) (.mk ?a40 ?l40 ?c40 ?k40) (.mk ?a41 ?l41 ?c41 ?k41) (.mk ?a42 ?l42 ?c42 ?k42) (.mk ?a43 ?l43 ?c43 ?k43) (.mk ?a44 ?l44 ?c44 ?k44) (.mk ?a45 ?l45 ?c45 ?k45) (.mk ?a46 ?l46 ?c46 ?k46) (.mk ?a47 ?l47 ?c47 ?k47) (.mk ?a48 ?l48 ?c48 ?k48) (.mk ?a49 ?l49 ?c49 ?k49) (.mk ?a50 ?l50 ?c50 ?k50) (.mk ?a51 ?l51 ?c51 ?k51) (.mk ?a52 ?l52 ?c52 ?k52) (.mk ?a53 ?l53 ?c53 ?k53) (.mk ?a54 ?l54 ?c54 ?k54) (.mk ?a55 ?l55 ?c55 ?k55) (.mk ?a56 ?l56 ?c56 ?k56) (.mk ?a57 ?l57 ?c57 ?k57) (.mk ?a58 ?l58 ?c58 ?k58) (.mk ?a59 ?l59 ?c59 ?k59) (.mk ?a60 ?l60 ?c60 ?k60) (.mk ?a61 ?l61 ?c61 ?k61) (.mk ?a62 ?l62 ?c62 ?k62) (.mk ?a63 ?l63 ?c63 ?k63) (.mk ?a64 ?l64 ?c64 ?k64) (.mk ?a65 ?l65 ?c65 ?k65) (.mk ?a66 ?l66 ?c66 ?k66) (.mk ?a67 ?l67 ?c67 ?k67) (.mk ?a68 ?l68 ?c68 ?k68) (.mk ?a69 ?l69 ?c69 ?k69) (.mk ?a70 ?l70 ?c70 ?k70) (.mk ?a71 ?l71 ?c71 ?k71) ?aL ?lL ?cL ?kL ?z0 ?z1 ?z2 ?z3 ?z4 ?z5 ?z6 ?z7 ?z8 ?z9 ?z10 ?z11 ?z12 ?n_CurveError ?n_NoRatio ?n_NoCurve ?n_NoTime ?n_NoHouse ?n_NoWay ?n_NoText ?n_NoName ?n_NoEnd ?n_NoRow ?n_NOUGHT ?n_gl_NOUGHT_6 ?x_NoCurve ?x_NoTime ?h0_CurveError ?h1_CurveError ?h2_CurveError ?mr_NoTime_CurveError ?kT_NoTime_ValueError ?i0_NoTime ?i1_NoTime ?i2_NoTime ?i3_NoTime ?i4_NoTime ?i5_NoTime ?i6_NoTime ?i7_NoTime ?kt_NoTime_NoTime ?kt_NoTime_NoRow ?kt_NoTime_NoEnd ?kt_NoTime_NoName ?kt_NoTime_NoText ?kt_NoTime_NoHouse ?kt_NoTime_NoRatio ?kt_NoTime_NoWay ?kt_NoTime_NoCurve ?ht_piece_at ?hp_piece_at ?ht_side_by_side ?hp_side_by_side ?ht_lowered ?hp_lowered
  case a0|l0|c0|k0|a1|l1|c1|k1|a2|l2|c2|k2|a3|l3|c3|k3|a4|l4|c4|k4|a5|l5|c5|k5|a6|l6|c6|k6|a7|l7|c7|k7|a8|l8|c8|k8|a9|l9|c9|k9|a10|l10|c10|k10|a11|l11|c11|k11|a12|l12|c12|k12|a13|l13|c13|k13|a14|l14|c14|k14|a15|l15|c15|k15|a16|l16|c16|k16|a17|l17|c17|k17|a18|l18|c18|k18|a19|l19|c19|k19|a20|l20|c20|k20|a21|l21|c21|k21|a22|l22|c22|k22|a23|l23|c23|k23|a24|l24|c24|k24|a25|l25|c25|k25|a26|l26|c26|k26|a27|l27|c27|k27|a28|l28|c28|k28|a29|l29|c29|k29|a30|l30|c30|k30|a31|l31|c31|k31|a32|l32|c32|k32|a33|l33|c33|k33|a34|l34|c34|k34|a35|l35|c35|k35|a36|l36|c36|k36|a37|l37|c37|k37|a38|l38|c38|k38|a39|l39|c39|k39|a40|l40|c40|k40|a41|l41|c41|k41|a42|l42|c42|k42|a43|l43|c43|k43|a44|l44|c44|k44|a45|l45|c45|k45|a46|l46|c46|k46|a47|l47|c47|k47|a48|l48|c48|k48|a49|l49|c49|k49|a50|l50|c50|k50|a51|l51|c51|k51|a52|l52|c52|k52|a53|l53|c53|k53|a54|l54|c54|k54|a55|l55|c55|k55|a56|l56|c56|k56|a57|l57|c57|k57|a58|l58|c58|k58|a59|l59|c59|k59|a60|l60|c60|k60|a61|l61|c61|k61|a62|l62|c62|k62|a63|l63|c63|k63|a64|l64|c64|k64|a65|l65|c65|k65|a66|l66|c66|k66|a67|l67|c67|k67|a68|l68|c68|k68|a69|l69|c69|k69|a70|l70|c70|k70|a71|l71|c71|k71|aL|lL|cL|kL|z0|z1|z2|z3|z4|z5|z6|z7|z8|z9|z10|z11|z12|n_CurveError|n_NoRatio|n_NoCurve|n_NoTime|n_NoHouse|n_NoWay|n_NoText|n_NoName|n_NoEnd|n_NoRow|n_NOUGHT|n_gl_NOUGHT_6=>(show _=_;k_is)
  case x_NoCurve|x_NoTime|h0_CurveError|h1_CurveError|h2_CurveError|mr_NoTime_CurveError|kT_NoTime_ValueError|i0_NoTime|i1_NoTime|i2_NoTime|i3_NoTime|i4_NoTime|i5_NoTime|i6_NoTime|i7_NoTime|kt_NoTime_NoTime|kt_NoTime_NoRow|kt_NoTime_NoEnd|kt_NoTime_NoName|kt_NoTime_NoText|kt_NoTime_NoHouse|kt_NoTime_NoRatio|kt_NoTime_NoWay|kt_NoTime_NoCurve|ht_piece_at|hp_piece_at|ht_side_by_side|hp_side_by_side|ht_lowered|hp_lowered=>kernel_rfl
end
local macro_rules|`(#[$xs,*])=>`(⟨$xs,*⟩)
namespace L2
open PySem PySem.Spec PyProof.Rows
abbrev Key:=Sum Int Str
def U7:Key->Value->Bool
 |.inl k,v=>Value.isInt k v
 |.inr x,v=>Value.isStrOf x v
def Yv (w:World):Key->Int
 |.inl k=>hashInt k
 |.inr x=>hashStr w x
theorem BC:∀{k:Key}{v:Value},U7 k v=true->(∃i t,k=Sum.inl i/\v=Value.int i t)\/(∃x t,k=Sum.inr x/\v=Value.str x t)
 |.inl i,v,h=>by
  obtain⟨t,e⟩:=Value.isInt_shape (k:=i) (v:=v) h
  exact .inl #[i,t,rfl,e]
 |.inr x,v,h=>by
  obtain⟨t,e⟩:=Value.isStrOf_shape (x:=x) (v:=v) h
  exact .inr #[x,t,rfl,e]
theorem UZ (a b:Int):decide ((Sum.inl a:Key)=Sum.inl b)=(a==b):=by
 by_cases e:a=b
 .subst e;simp
 .have h:¬(Sum.inl a:Key)=Sum.inl b:=fun q=>e (Sum.inl.inj q)
  rw[decide_eq_false h]
  exact(beq_eq_false_iff_ne.mpr e).symm
theorem U5 (a b:Str):decide ((Sum.inr a:Key)=Sum.inr b)=decide (a=b):=by
 by_cases e:a=b
 .subst e;simp
 .have h:¬(Sum.inr a:Key)=Sum.inr b:=fun q=>e (Sum.inr.inj q)
  rw[decide_eq_false h,decide_eq_false e]
theorem Ww (a:Int)(b:Str):decide ((Sum.inl a:Key)=Sum.inr b)=false:=decide_eq_false (fun q=>nomatch q)
theorem VM (a:Str)(b:Int):decide ((Sum.inr a:Key)=Sum.inl b)=false:=decide_eq_false (fun q=>nomatch q)
def MF (prog:Program)(w:World):PySem.KeyKind prog w Key where
 is:=U7
 hash:=Yv w
 inj:=fun v a b ha hb=>by
  rcases BC ha with⟨i,t,rfl,rfl⟩|⟨x,t,rfl,rfl⟩
  .rcases BC hb with⟨j,u,rfl,e⟩|⟨y,u,rfl,e⟩
   .injection e with e1 _;rw[e1]
   .exact nomatch e
  .rcases BC hb with⟨j,u,rfl,e⟩|⟨y,u,rfl,e⟩
   .exact nomatch e
   .injection e with e1 _;rw[e1]
 byValue:=fun k v h=>by
  rcases BC h with⟨i,t,rfl,rfl⟩|⟨x,t,rfl,rfl⟩<;>rfl
 pyHash:=fun hv h=>by
  rcases BC hv with⟨i,t,rfl,rfl⟩|⟨x,t,rfl,rfl⟩
  .exact wpAny_pyHash_int h
  .exact wpAny_pyHash_str h
 eqBool:=fun hu hv h=>by
  rcases BC hu with⟨i,t,rfl,rfl⟩|⟨x,t,rfl,rfl⟩
  .rcases BC hv with⟨j,u,rfl,rfl⟩|⟨y,u,rfl,rfl⟩
   .rw[UZ] at h;exact wpAny_eqBool_int h
   .rw[Ww] at h;exact SeqAt.EqAt.int_str i t y u _ _ _ _ h
  .rcases BC hv with⟨j,u,rfl,rfl⟩|⟨y,u,rfl,rfl⟩
   .rw[VM] at h;exact SeqAt.EqAt.str_int x t j u _ _ _ _ h
   .rw[U5] at h;exact wpAny_eqBool_str h
 «strs»:=fun k x t v h=>by
  rcases BC h with⟨i,u,rfl,e⟩|⟨y,u,rfl,e⟩
  .exact nomatch e
  .injection e with e1 _
   subst e1
   cases v<;>rfl
inductive V where
 |non|bl (b:Bool)|int (i:Int)|str (x:Str)|byt (b:Array UInt8)|flt (b:UInt64)|ref (a:Addr)|ty (n:String)
 deriving DecidableEq
def CA:V->Value->Prop
 |.non,u=>u=Value.none
 |.bl b,u=>u=Value.bool b
 |.int i,u=>∃t,u=Value.int i t
 |.str x,u=>∃t,u=Value.str x t
 |.byt b,u=>∃t,u=Value.bytes b t
 |.flt b,u=>∃t,u=Value.float b t
 |.ref a,u=>u=Value.ref a
 |.ty n,u=>u=Value.type n
abbrev CK:List V->List Value->Prop:=Paired CA
theorem CK.length {xs:List V}{us:List Value}(r:CK xs us):xs.length=us.length:=Paired.length r
theorem CK.get:∀{xs:List V}{us:List Value}{i:Nat}{x:V},CK xs us->xs[i]? = some x->∃u,us[i]? = some u/\CA x u
 |_,_,_,_,.nil,e=>by simp at e
 |_,_,0,_,.cons r _,e=>by simp at e;subst e;exact#[_,rfl,r]
 |_,_,i+1,x,.cons _ t,e=>by
  obtain⟨u,h1,h2⟩:=CK.get (i:=i) (x:=x) t (by simpa using e)
  exact#[u,by simpa using h1,h2]
theorem CK.append:∀{xs ys:List V}{us ws:List Value},CK xs us->CK ys ws->CK (xs++ys) (us++ws)
 |_,_,_,_,.nil,s=>s
 |_,_,_,_,.cons r t,s=>.cons r (CK.append t s)
theorem CK.take:∀{xs:List V}{us:List Value}(n:Nat),CK xs us->CK (xs.take n) (us.take n)
 |_,_,0,_=>.nil
 |_,_,_+1,.nil=>.nil
 |_,_,n+1,.cons r t=>.cons r (CK.take n t)
theorem CK.drop:∀{xs:List V}{us:List Value}(n:Nat),CK xs us->CK (xs.drop n) (us.drop n)
 |_,_,0,r=>r
 |_,_,_+1,.nil=>.nil
 |_,_,n+1,.cons _ t=>CK.drop n t
def XM:Option V->Option Value->Prop
 |some v,some u=>CA v u
 |none,none=>True
 |_,_=>False
def KV {κ:Type}:List (κ×V)->List (κ×Value)->Prop:=Paired fun(p:κ×V)(q:κ×Value)=>p.1=q.1/\CA p.2 q.2
def kV:Key->V
 |.inl i=>.int i
 |.inr x=>.str x
inductive HO where
 |lst (xs:List V)
 |tup (xs:List V)
 |dK (kvs:List (Key×V))|dT (kvs:List (List Key×V))
 |set (S:Int->Bool) (n:Nat)
 |ins (C dx:Addr) (fs:List (Str×V))
 |own (x:Addr)
 |xd (fs:List (Str×V))
 |met (f x:Addr)
 |rng (lo hi:Int)
 |frz (o:Obj) (u:HO)
 |tbl (ps:Array Value)
 |ext (φ:Heap->Prop)
abbrev Hp:=Addr->Option HO
def upd (H:Hp)(a:Addr)(o:HO):Hp:=fun b=>if b=a then some o else H b
theorem Au {H:Hp}{a:Addr}{o:HO}:upd H a o a=some o:=by unfold upd;rw[if_pos rfl]
theorem Al {H:Hp}{a b:Addr}{o:HO}(h:b≠a):upd H a o b=H b:=by unfold upd;rw[if_neg h]
theorem Ap {H:Hp}{a b:Addr}{o:HO}(h:H a=some o) (h':H b=none):a≠b:=by
 intro e;subst e;rw[h] at h';cases h'
def Md (H:Hp)(h:Heap)(a:Addr):Prop:=∃tab:Array Value,h.get? a=some { cls:=.none,data:=.fields tab }/\TriplesOk tab.toList /\
 ∀(pos:Pos)(cv:Value),codeAmong pos tab.toList=some cv->∃(c:Addr)(oc:Obj)(fs:Array Value)(nm:Str)(t:Nat),cv=.ref c/\H c=some (.frz oc (.own a))/\oc.data=.fields fs/\fs[1]? = some (.str nm t)
theorem Md.stay {H H':Hp}{h h':Heap}{a:Addr}(x:Md H h a) (k:∀o,h.get? a=some o->h'.get? a=some o) (hf:∀b o u,H b=some (.frz o u)->H' b=some (.frz o u)):Md H' h' a:=by
 obtain⟨tab,e,tr,q⟩:=x
 refine#[tab,k _ e,tr,fun pos cv z=>?_]
 obtain⟨c,oc,fs,nm,t,z1,z2,z3⟩:=q pos cv z
 exact#[c,oc,fs,nm,t,z1,hf _ _ _ z2,z3]
section
variable (P:Program) (w:World)
def DC (H:Hp)(h:Heap)(a:Addr):HO->Prop
 |.lst xs=>xs.length<=sizeLine/\∃(its:List Value)(n:Nat),CK xs its/\h.get? a=some { cls:=.type "list",data:=.seq its.toArray n }
 |.tup xs=>xs.length<=sizeLine/\∃its:List Value,CK xs its/\IsTup h a its.toArray
 |.dK kvs=>kvs.length<=sizeLine/\(a==sysModules)=false/\∃vs,KV kvs vs/\h.DictOf (MF P w) a vs
 |.dT kvs=>kvs.length<=sizeLine/\(a==sysModules)=false/\∃xs:List (List Key×Addr×Value),
  Paired (fun(p:List Key×V)(q:List Key×Addr×Value)=>p.1=q.1/\H q.2.1=some (.tup (p.1.map kV))/\CA p.2 q.2.2) kvs xs /\
  ∃o es ep,h.get? a=some o/\o.ExactDict/\o.data=.dict es ep/\es.toList=xs.map (entryOfKey (tupleKind (MF P w)))/\(xs.map (·.1)).Nodup
 |.set S n=>h.SetOf (intKind P w) a S n
 |.ins C dx fs=>H dx=some (.own a)/\fs.length<=1000/\dx≠a/\h.get? a=some (W.instObj C dx) /\
  ∃mA,h.Ns1 dx mA/\(∀f,XM (fs.lookup f) (mA f))/\PySem.Within mA (fs.map (·.1))
 |.own _=>∃o,h.get? a=some o
 |.xd fs=>∃mA,h.Ns1 a mA/\∀f,XM (fs.lookup f) (mA f)
 |.rng lo hi=>∃t u v,h.get? a=some { cls:=.type "range",data:=.fields (List.toArray [.int lo t,.int hi u,.int 1 v]) }
 |.frz o u=>h.get? a=some o/\DC H h a u
 |.tbl _=>Md H h a
 |.met f x=>h.get? a=some (W.methodObj (.ref f) (.ref x))
 |.ext φ=>φ h/\(∃o,h.get? a=some o)/\∀h1 h2:Heap,φ h1->(∀o,h1.get? a=some o->h2.get? a=some o)->φ h2
def HOk (H:Hp)(h:Heap):Prop:=∀a o,H a=some o->DC P w H h a o
end
section
variable {P:Program}{w:World}{H H':Hp}{h h':Heap}{a:Addr}{o:HO}
theorem DC.lt (x:DC P w H h a o):a<h.objs.size:=by
 cases o with
 |lst xs=>obtain⟨_,_,_,_,e⟩:=x;exact qAh e
 |tup xs=>obtain⟨_,_,_,p⟩:=x;exact p.lt
 |dK kvs=>obtain⟨_,_,_,_,o,_,_,e,_⟩:=x;exact qAh e
 |dT kvs=>obtain⟨_,_,_,_,o,_,_,e,_⟩:=x;exact qAh e
 |set S n=>obtain⟨o,_,_,_,e,_⟩:=x;exact qAh e
 |ins C dx fs=>obtain⟨_,_,_,e,_⟩:=x;exact qAh e
 |own y=>obtain⟨_,e⟩:=x;exact qAh e
 |xd fs=>obtain⟨_,⟨_,_,_,e,_⟩,_⟩:=x;exact qAh e
 |rng lo hi=>obtain⟨_,_,_,e⟩:=x;exact qAh e
 |frz ob u=>obtain⟨e,_⟩:=x;exact qAh e
 |tbl ps=>obtain⟨_,e,_⟩:=x;exact qAh e
 |met f y=>exact qAh (show h.get? a=some _ from x)
 |ext φ=>obtain⟨_,⟨_,e⟩,_⟩:=x;exact qAh e
theorem Paired.mapP {α β:Type}{F G:α->β->Prop}:∀{l₁:List α}{l₂:List β},Paired F l₁ l₂->(∀a b,F a b->G a b)->Paired G l₁ l₂
 |_,_,.nil,_=>.nil
 |_,_,.cons r t,f=>.cons (f _ _ r) (Paired.mapP t f)
theorem DC.stay (x:DC P w H h a o)(k:∀b u,(b=a\/H b=some (.own a))->h.get? b=some u->h'.get? b=some u)
 (ho:∀b,H b=some (.own a)->H' b=some (.own a))(ht:∀b xs,H b=some (.tup xs)->H' b=some (.tup xs))(hf:∀b o u,H b=some (.frz o u)->H' b=some (.frz o u):=by intro _ _ _ q;exact q):DC P w H' h' a o:=by
 induction o with
 |lst xs=>obtain⟨z,its,n,r,e⟩:=x;exact#[z,its,n,r,k _ _ (.inl rfl) e]
 |tup xs=>obtain⟨z,its,r,ob,e,c⟩:=x;exact#[z,its,r,ob,k _ _ (.inl rfl) e,c]
 |dK kvs=>obtain⟨z,y,vs,r,ob,es,ep,e,c⟩:=x;exact#[z,y,vs,r,ob,es,ep,k _ _ (.inl rfl) e,c]
 |dT kvs =>
  obtain⟨z,y,xs,r,ob,es,ep,e,c⟩:=x
  exact#[z,y,xs,Paired.mapP r fun p q z=>#[z.1,ht _ _ z.2.1,z.2.2],ob,es,ep,k _ _ (.inl rfl) e,c]
 |set S n=>obtain⟨ob,es,ep,t,e,c⟩:=x;exact#[ob,es,ep,t,k _ _ (.inl rfl) e,c]
 |ins C dx fs =>
  obtain⟨d,z,ne,e,mA,⟨od,es,ep,e2,c⟩,r⟩:=x
  exact#[ho _ d,z,ne,k _ _ (.inl rfl) e,mA,#[od,es,ep,k _ _ (.inr d) e2,c],r]
 |own y=>obtain⟨ob,e⟩:=x;exact#[ob,k _ _ (.inl rfl) e]
 |xd fs=>obtain⟨mA,⟨od,es,ep,e,c⟩,r⟩:=x;exact#[mA,#[od,es,ep,k _ _ (.inl rfl) e,c],r]
 |rng lo hi=>obtain⟨t,u,v,e⟩:=x;exact#[t,u,v,k _ _ (.inl rfl) e]
 |frz ob u ih=>obtain⟨e,q⟩:=x;exact#[k _ _ (.inl rfl) e,ih q]
 |tbl ps=>exact Md.stay x (fun u q=>k _ _ (.inl rfl) q) hf
 |met f y =>
  have e:h.get? a=some (W.methodObj (.ref f) (.ref y)):=x
  show h'.get? a=some (W.methodObj (.ref f) (.ref y))
  exact k a _ (.inl rfl) e
 |ext φ=>obtain⟨p,⟨o,e⟩,st⟩:=x;exact#[st _ _ p fun o q=>k _ _ (.inl rfl) q,#[o,k _ _ (.inl rfl) e],st]
theorem HOk.lt (x:HOk P w H h)(e:H a=some o):a<h.objs.size:=(x a o e).lt
theorem HOk.fresh (x:HOk P w H h)(e:h.objs.size<=a):H a=none:=by
 cases q:H a with
 |none=>rfl
 |some u=>exact absurd (qAq (x.lt q) e) (qA4 _)
theorem HOk.kept (x:HOk P w H h)(k:∀b u,h.get? b=some u->h'.get? b=some u):HOk P w H h':=fun a o e =>
 (x a o e).stay (fun b u _ q=>k b u q) (fun _ q=>q) fun _ _ q=>q
theorem HOk.laid (x:HOk P w H h)(k:∀b u,h.get? b=some u->h'.get? b=some u)(hp:h.objs.size<=a)(new:DC P w (upd H a o) h' a o):HOk P w (upd H a o) h':=fun b u e=>by
 have hn:=x.fresh hp
 by_cases hb:b=a
 .subst hb;rw[Au] at e;cases e;exact new
 .rw[Al hb] at e
  exact(x b u e).stay (hf:=fun c w1 w2 q=>by rw[Al (Ap q hn)];exact q) (fun c v _ q=>k c v q) (fun c q=>by rw[Al (Ap q hn)];exact q) fun c xs q=>by rw[Al (Ap q hn)];exact q
end
def Rd (H:Hp)(a:Addr)(u:HO):Prop:=H a=some u\/∃o,H a=some (.frz o u)
theorem Rd.ok {P:Program}{w:World}{H:Hp}{h:Heap}{a:Addr}{u:HO}(r:Rd H a u) (x:HOk P w H h):DC P w H h a u:=by
 rcases r with r|⟨o,r⟩
 .exact x a u r
 .obtain⟨_,q⟩:=x a _ r
  exact q
def Mut:Option HO->Prop
 |some (.lst _)=>True
 |some (.dK _)=>True
 |some (.dT _)=>True
 |some (.set _ _)=>True
 |some (.ins _ _ _)=>True
 |some (.ext _)=>True
 |_=>False
section
variable {P:Program}{w:World}{H:Hp}{h h':Heap}{x e:Addr}{o':HO}
theorem HOk.write (ok:HOk P w H h)(mu:Mut (H x))(he:e=x\/H e=some (.own x))(k:∀b u,b≠e->h.get? b=some u->h'.get? b=some u)(heo:∃u,h'.get? e=some u)
 (new:DC P w (upd H x o') h' x o'):HOk P w (upd H x o') h':=fun b u q=>by
 have nown:∀c y,H c=some (.own y)->c≠x:=fun c y r z=>by subst z;rw[r] at mu;exact mu
 have ntup:∀c xs,H c=some (.tup xs)->c≠x:=fun c xs r z=>by subst z;rw[r] at mu;exact mu
 by_cases hb:b=x
 .subst hb;rw[Au] at q;cases q;exact new
 .rw[Al hb] at q
  by_cases hbe:b=e
  .have q':H b=some (.own x):=by
    rcases he with z|z
    .exact absurd (hbe.trans z) hb
    .rw[hbe];exact z
   rw[q] at q';cases q'
   obtain⟨v,hv⟩:=heo
   exact#[v,by rw[hbe];exact hv]
  .refine(ok b u q).stay (hf:=fun c w1 w2 r=>by rw[Al (fun z=>by subst z;rw[r] at mu;exact mu)];exact r) (fun c v hc r=>k c v ?_ r) (fun c r=>by rw[Al (nown c b r)];exact r) fun c xs r=>by rw[Al (ntup c xs r)];exact r
   rcases hc with rfl|hc
   .exact hbe
   .rintro rfl
    rcases he with z|z
    .exact nown c b hc z
    .rw[hc] at z;cases z;exact hb rfl
end
structure Un (fs ex:List Addr)(H H':Hp)(h h':Heap):Prop where
 keep:∀b o,h.get? b=some o->H b=none->b∉fs->b∉ex->h'.get? b=some o
 slot:∀b o,h.get? b=some o->H b=none->b∈fs->b∉ex->∃sl,h'.get? b=some { o with slots:=sl }
 free:∀b o,h.get? b=some o->H b=none->b∉ex->H' b=none
 there:∀b o,h.get? b=some o->b∉ex->∃o',h'.get? b=some o'
 tups:∀b xs,H b=some (.tup xs)->H' b=some (.tup xs)
 frzs:∀b o u,H b=some (.frz o u)->H' b=some (.frz o u)
 tbls:∀b ps,H b=some (.tbl ps)->∃more,H' b=some (.tbl (ps++more))
section
variable {fs fs' ex ex':List Addr}{H H1 H2:Hp}{h h1 h2 h':Heap}{a x e:Addr}{o:HO}
theorem Un.any (u:Un fs ex H H1 h h1){b:Addr}{ob:Obj}(q:h.get? b=some ob) (n:H b=none) (hx:b∉ex):∃sl,h1.get? b=some { ob with slots:=sl }:=by
 by_cases hb:b∈fs
 .exact u.slot b ob q n hb hx
 .exact#[ob.slots,u.keep b ob q n hb hx]
theorem Un.kept (k:∀b u,h.get? b=some u->h'.get? b=some u):Un fs ex H H h h' :=
 #[fun b ob q _ _ _=>k b ob q,fun b ob q _ _ _=>#[ob.slots,k b ob q],fun _ _ _ n _=>n,fun b ob q _=>#[ob,k b ob q],fun _ _ q=>q,fun _ _ _ q=>q,fun _ ps q=>#[(List.toArray []),by rw[q];simp]]
theorem Un.refl:Un fs ex H H h h:=Un.kept fun _ _ q=>q
theorem Un.laid (k:∀b u,h.get? b=some u->h'.get? b=some u)(hp:h.objs.size<=a)(hn:H a=none):Un fs ex H (upd H a o) h h' where
 keep:=fun b u q _ _ _=>k b u q
 slot:=fun b u q _ _ _=>#[u.slots,k b u q]
 free:=fun b u q n _=>by rw[Al (qAw (qAq (qAh q) hp))];exact n
 there:=fun b u q _=>#[u,k b u q]
 tups:=fun b xs q=>by rw[Al (Ap q hn)];exact q
 frzs:=fun b u xs q=>by rw[Al (Ap q hn)];exact q
 tbls:=fun b ps q=>#[(List.toArray []),by rw[Al (Ap q hn),q];simp]
theorem Un.write (mu:Mut (H x))(he:e=x\/H e=some (.own x))(k:∀b u,b≠e->h.get? b=some u->h'.get? b=some u)(heo:∃u,h'.get? e=some u):Un fs ex H (upd H x o) h h':=by
 have hx:∀b,H b=none->b≠x:=fun b n z=>by subst z;rw[n] at mu;exact mu
 have hb:∀b,H b=none->b≠e:=fun b n z=>by
  subst z
  rcases he with r|r
  .exact hx b n r
  .rw[n] at r;cases r
 have hm:∀b u,H b=some u->¬Mut (some u)->b≠x:=fun b u q nm z=>by subst z;rw[q] at mu;exact nm mu
 refine#[fun b u q n _ _=>k b u (hb b n) q,fun b u q n _ _=>#[u.slots,k b u (hb b n) q],fun b u q n _=>by rw[Al (hx b n)];exact n,fun b u q _=>?_,
  fun b xs q=>by rw[Al (hm b _ q fun z=>z)];exact q,fun b u xs q=>by rw[Al (hm b _ q fun z=>z)];exact q,fun b ps q=>#[(List.toArray []),by rw[Al (hm b _ q fun z=>z),q];simp]]
 by_cases hbe:b=e
 .subst hbe;exact heo
 .exact#[u,k b u hbe q]
end
def trk (h:Heap)(H:Hp):List Addr:=(List.range h.objs.size).filter fun a=>(H a).isSome
def Qz (h:Heap)(H:Hp):Heap:=W.hideAll h (trk h H)
theorem O6 (h:Heap)(H:Hp):(Qz h H).objs.size=h.objs.size:=W.hideAll_size _ _
theorem QY {h:Heap}{H:Hp}{b:Addr}{o:Obj}(e:h.get? b=some o) (n:H b=none):(Qz h H).get? b=some o :=
 W.hideAll_get _ e fun hm=>by
  have q:(H b).isSome=true:=(qA7.mp hm).2
  rw[n] at q;simp at q
theorem TU {h:Heap}{H:Hp}{b:Addr}{o:Obj}(e:(Qz h H).get? b=some o):h.get? b=some o/\H b=none:=by
 have e':h.get? b=some o:=W.of_hideAll (trk h H) e
 refine#[e',?_]
 cases q:H b with
 |none=>rfl
 |some x =>
  have hm:b∈trk h H:=qA7.mpr #[qAW.mpr (qAh e'),by simp[q]]
  have z:(Qz h H).get? b=none:=W.hideAll_none (trk h H) hm
  rw[z] at e;cases e
structure Mod (K:W.Frag)(mg:Str->Option Value)(base:Heap):Prop where
 kin:K.In base
 glob:base.Ns mainGlobals mg
 blt:∃mb,base.Ns builtinsNs mb/\∀x:Str,x≠"__name__"->mb x=bootBuiltins x
 nolimit:base.NoLimit
structure Cx where
 prog:Program
 w:World
 K:W.Frag
 mg:Str->Option Value
 base:Heap
 A:Around
 N:List Str
 s₀:Shared
 H₀:Hp
 env:Env
 outer:List Env
 stack:List Env
 ex:List Addr
 fn:Str->Bool
 calm:Bool
 pn:List (Addr×Obj)
 xe:Value->Shared->Prop
 lent:Option (Nat×Addr):=none
def frs (l:List Env):List Addr:=l.filterMap (·.frame)
abbrev Cx.fs (X:Cx):List Addr:=frs X.outer
def Vis (sc:Scope)(x:Str):Prop:=sc.names.lookup x=some .local\/sc.names.lookup x=some .cell\/sc.names.lookup x=some .free
def Loc (sc:Scope)(x:Str):Prop:=sc.names.lookup x=some .local\/sc.names.lookup x=some .cell
def YX (env:Env)(h:Heap)(m:Str->Option Value)(x:Str)(u:Value):Prop :=
 (env.kindOf x=some .local/\m x=some u)\/((env.kindOf x=some .cell\/env.kindOf x=some .free)/\∃c,env.cells.lookup x=some c/\h.IsCell c (some u))
structure TB (P:Program)(K:W.Frag)(mg:Str->Option Value)(base:Heap)(H:Hp):Prop where
 bm:∃(b:Addr)(o:Obj),mg "__builtins__"=some (.ref b)/\b≠builtinsNs/\base.get? b=some o/\o.cls=.type "module"/\o.dict=some builtinsNs/\o.data=.plain
 tab:∀(x:Str)(c T:Addr),W.tabIn K x=some (c,T)->(recsOf P).any (fun d=>d.name==x)=true->W.CodeHd base c T/\∃ps,H T=some (.tbl ps)
structure Cx.Ok (X:Cx):Prop where
 mod:Mod X.K X.mg X.base
 kind:X.env.scope.kind=.function
 glob:X.env.globals=mainGlobals
 blt:X.env.builtins=builtinsNs
 above:X.s₀.heap.objs.size<=X.env.locals
 inj:∀x y c,X.env.cells.lookup x=some c->X.env.cells.lookup y=some c->x=y
 has:∀x,(X.env.kindOf x=some .cell\/X.env.kindOf x=some .free)->∃c,X.env.cells.lookup x=some c
 cab:∀x c,X.fn x=true->X.env.cells.lookup x=some c->X.s₀.heap.objs.size<=c
 hd:X.calm=true->X.A.handled=none
 frames:X.A.frames=some X.stack
 stk:X.stack=X.outer\/(X.stack=X.env::X.outer/\X.env.frame=some X.env.locals)
 exf:∀b∈X.ex,b≠X.env.locals/\∀x c,X.env.cells.lookup x=some c->c≠b
 bs:∀b o,X.base.get? b=some o->X.s₀.heap.get? b=some o/\X.H₀ b=none
 bsz:X.base.objs.size<=X.s₀.heap.objs.size
 noex:∀b o,X.base.get? b=some o->b∉X.ex
 exfs:∀b∈X.ex,b∉X.fs
 funs:X.s₀.heap.FunFrames X.base X.outer
 frf:∀b∈X.fs,X.H₀ b=none
 tb:TB X.prog X.K X.mg X.base X.H₀
structure Inv (X:Cx)(pins:List (Addr×Obj))(σ:List (Option V))(H:Hp)(s:Shared):Prop where
 ok:X.Ok
 os:s.os=X.s₀.os
 bare:AllBare s.gens
 base:Un X.fs X.ex X.H₀ H X.s₀.heap s.heap
 loc:∃m,s.heap.Ns X.env.locals m/\∀(i:Nat)(x:Str)(v:V),X.N[i]? = some x->σ[i]? = some (some v)->Vis X.env.scope x->∃u,CA v u/\YX X.env s.heap m x u
 cell:∀x c,X.env.cells.lookup x=some c->∃v,s.heap.IsCell c v
 free:H X.env.locals=none
 freeC:∀x c,X.env.cells.lookup x=some c->H c=none
 pin:∀p∈X.pn++pins,s.heap.get? p.1=some p.2/\H p.1=none/\p.1≠X.env.locals/\p.1∉X.fs/\∀v,p.2.data≠.cell v
 hok:HOk X.prog X.w H s.heap
 len:σ.length=X.N.length
section
variable {X:Cx}{pins:List (Addr×Obj)}{σ:List (Option V)}{H H':Hp}{s:Shared}{h':Heap}
theorem Cx.Ok.nofr (ok:X.Ok){b:Addr}{o:Obj}(e:X.base.get? b=some o):b∉X.fs:=fun hb=>by
 have:=(ok.funs.mem hb).1
 rw[e] at this;cases this
theorem Inv.bs (I:Inv X pins σ H s):∀b o,X.base.get? b=some o->s.heap.get? b=some o/\H b=none:=fun b o e =>
 #[I.base.keep b o (I.ok.bs b o e).1 (I.ok.bs b o e).2 (I.ok.nofr e) (I.ok.noex b o e),I.base.free b o (I.ok.bs b o e).1 (I.ok.bs b o e).2 (I.ok.noex b o e)]
theorem Inv.bk (I:Inv X pins σ H s):∀b o,X.base.get? b=some o->s.heap.get? b=some o:=fun b o e=>(I.bs b o e).1
theorem Inv.tb (I:Inv X pins σ H s):TB X.prog X.K X.mg X.base H:=#[I.ok.tb.bm,fun x c T h1 h2=>by
 obtain⟨z,ps,e⟩:=I.ok.tb.tab x c T h1 h2
 obtain⟨more,e'⟩:=I.base.tbls T ps e
 exact#[z,_,e']]
theorem Inv.mod (I:Inv X pins σ H s):Mod X.K X.mg X.base:=I.ok.mod
theorem Inv.kIn (I:Inv X pins σ H s):X.K.In s.heap:=I.ok.mod.kin.keeps I.bk
theorem Inv.lt (I:Inv X pins σ H s):X.env.locals<s.heap.objs.size:=let #[_,hn,_]:=I.loc;hn.lt
theorem Inv.sz (I:Inv X pins σ H s):X.s₀.heap.objs.size<=s.heap.objs.size:=qAL I.ok.above (qBt I.lt)
theorem Inv.nofs (I:Inv X pins σ H s){a:Addr}(h:s.heap.objs.size<=a):a∉X.fs:=fun hb=>by
 obtain⟨_,o,ho,_⟩:=I.ok.funs.mem hb
 exact absurd (qAq (qAh ho) (qAL I.sz h)) (qA4 _)
theorem Inv.cne (I:Inv X pins σ H s):∀x c,X.env.cells.lookup x=some c->c≠X.env.locals:=fun x c e z=>by
 obtain⟨v,o,ho,hd⟩:=I.cell x c e
 obtain⟨m,⟨o',es,ep,ho',hd',_⟩,_⟩:=I.loc
 rw[z,ho'] at ho;cases ho;rw[hd'] at hd;cases hd
theorem Inv.funs (I:Inv X pins σ H s):s.heap.FunFrames X.base X.outer:=by
 have all:∀(l:List Env),(∀b∈frs l,b∈X.fs)->X.s₀.heap.FunFrames X.base l->s.heap.FunFrames X.base l:=by
  intro l
  induction l with
  |nil=>intro _ _;trivial
  |cons env r ih =>
   intro hs hl
   obtain⟨hk,⟨L,o,hf,hn,ho,hd⟩,hr⟩:=hl
   have hL:L∈X.fs:=hs L (by unfold frs;rw[qBP,hf];exact qA1)
   obtain⟨sl,e⟩:=I.base.slot L o ho (I.ok.frf L hL) hL fun z=>I.ok.exfs L z hL
   exact#[hk,#[L,_,hf,hn,e,hd],ih (fun b hb=>hs b (by unfold frs;rw[qBP,hf];exact qAI _ hb)) hr]
 exact all X.outer (fun _ hb=>hb) I.ok.funs
theorem Inv.stack (I:Inv X pins σ H s):s.heap.FunFrames X.base X.stack:=by
 rcases I.ok.stk with e|⟨e,hf⟩
 .rw[e];exact I.funs
 .rw[e]
  obtain⟨m,hn,_⟩:=I.loc
  refine .cons (by rw[I.ok.kind];decide) hf hn ?_ I.funs
  exact Heap.get?_none_of_le (qAL I.ok.bsz I.ok.above)
theorem Inv.stkSub (I:Inv X pins σ H s):∀b∈frs X.stack,b∈X.env.locals::X.fs:=fun b hb=>by
 rcases I.ok.stk with e|⟨e,hf⟩
 .rw[e] at hb;exact qAI _ hb
 .rw[e] at hb
  unfold frs at hb
  rw[qBP,hf] at hb
  exact hb
theorem Inv.stkFree (I:Inv X pins σ H s):∀b∈frs X.stack,H b=none:=fun b hb=>by
 rcases qAo.mp (I.stkSub b hb) with e|hb
 .rw[e];exact I.free
 .obtain⟨_,o,ho,_⟩:=I.ok.funs.mem hb
  exact I.base.free b o ho (I.ok.frf b hb) fun z=>I.ok.exfs b z hb
theorem Inv.step {g':Array GenState}{t':Nat}{d':Drawn}{ch:List Addr}(I:Inv X pins σ H s)
 (hch:∀b∈ch,(b∈X.ex\/X.s₀.heap.objs.size<=b)/\b≠X.env.locals/\(∀x c,X.env.cells.lookup x=some c->c≠b)/\∀p∈X.pn++pins,p.1≠b)
 (keep:∀b o,b≠X.env.locals->b∉X.fs->b∉ch->s.heap.get? b=some o->H b=none->h'.get? b=some o)
 (slot:∀b o,b≠X.env.locals->b∈X.fs->b∉ch->s.heap.get? b=some o->H b=none->∃sl,h'.get? b=some { o with slots:=sl }) (free:∀b o,b∉ch->s.heap.get? b=some o->H b=none->H' b=none)
 (there:∀b o,b∉ch->s.heap.get? b=some o->∃o',h'.get? b=some o')
 (tups:∀b xs,H b=some (.tup xs)->H' b=some (.tup xs)) (frzs:∀b o u,H b=some (.frz o u)->H' b=some (.frz o u)) (tbls:∀b ps,H b=some (.tbl ps)->∃more,H' b=some (.tbl (ps++more)))
 (ns:∀m,s.heap.Ns X.env.locals m->h'.Ns X.env.locals m) (hok:HOk X.prog X.w H' h') (hg:AllBare g') :
 Inv X pins σ H' { s with heap:=h',gens:=g',drawn:=d',toks:=t' }:=by
 have neL:∀b o,X.s₀.heap.get? b=some o->b≠X.env.locals:=fun b o e=>qAw (qAq (qAh e) I.ok.above)
 have neC:∀b o,X.s₀.heap.get? b=some o->b∉X.ex->b∉ch:=fun b o e hx hb=>by
  rcases(hch b hb).1 with z|z
  .exact hx z
  .exact absurd (qAq (qAh e) z) (qA4 _)
 have cellK:∀x c,X.env.cells.lookup x=some c->∀v,s.heap.IsCell c v->h'.IsCell c v:=fun x c e v hh=>by
  obtain⟨o,ho,hd⟩:=hh
  have nch:c∉ch:=fun z=>(hch c z).2.2.1 x c e rfl
  by_cases hc:c∈X.fs
  .obtain⟨sl,q⟩:=slot c o (I.cne x c e) hc nch ho (I.freeC x c e)
   exact#[_,q,hd]
  .exact#[o,keep c o (I.cne x c e) hc nch ho (I.freeC x c e),hd]
 refine#[I.ok,I.os,hg,#[fun b o e n hb hx=>?_,fun b o e n hb hx=>?_,fun b o e n hx=>?_,fun b o e hx=>?_,fun b xs e=>tups b xs (I.base.tups b xs e),fun b o xs e=>frzs b o xs (I.base.frzs b o xs e),fun b ps e=>?_],?_,fun x c e=>?_,?_,fun x c e=>?_,fun p hp=>?_,hok,I.len]
 .exact keep b o (neL b o e) hb (neC b o e hx) (I.base.keep b o e n hb hx) (I.base.free b o e n hx)
 .obtain⟨sl,e1⟩:=I.base.slot b o e n hb hx
  obtain⟨sl',e2⟩:=slot b _ (neL b o e) hb (neC b o e hx) e1 (I.base.free b o e n hx)
  exact#[sl',e2]
 .obtain⟨o',e1⟩:=I.base.there b o e hx
  exact free b o' (neC b o e hx) e1 (I.base.free b o e n hx)
 .obtain⟨o',e1⟩:=I.base.there b o e hx
  exact there b o' (neC b o e hx) e1
 .obtain⟨m1,e1⟩:=I.base.tbls b ps e
  obtain⟨m2,e2⟩:=tbls b _ e1
  exact#[m1++m2,by rw[e2,Array.append_assoc]]
 .obtain⟨m,hn,hl⟩:=I.loc
  refine#[m,ns m hn,fun i x v e1 e2 e3=>?_]
  obtain⟨u,r,l⟩:=hl i x v e1 e2 e3
  refine#[u,r,?_]
  rcases l with l|⟨k,c,e,z⟩
  .exact .inl l
  .exact .inr #[k,c,e,cellK x c e _ z]
 .obtain⟨v,z⟩:=I.cell x c e
  exact#[v,cellK x c e v z]
 .obtain⟨m,⟨o,_,_,ho,_⟩,_⟩:=I.loc
  exact free _ o (fun z=>(hch _ z).2.1 rfl) ho I.free
 .obtain⟨v,o,ho,hd⟩:=I.cell x c e
  exact free c o (fun z=>(hch c z).2.2.1 x c e rfl) ho (I.freeC x c e)
 .obtain⟨e,n,ne,nf,d⟩:=I.pin p hp
  have nch:p.1∉ch:=fun z=>(hch p.1 z).2.2.2 p hp rfl
  exact#[keep p.1 p.2 ne nf nch e n,free p.1 p.2 nch e n,ne,nf,d]
theorem Inv.un {t':Nat}(I:Inv X pins σ H s) (u:Un X.fs [] H H' s.heap h') (hok:HOk X.prog X.w H' h'):Inv X pins σ H' { s with heap:=h',toks:=t' }:=by
 obtain⟨m,⟨o,es,ep,ho,r⟩,_⟩:=id I.loc
 obtain⟨sl,hL⟩:=u.any ho I.free (by simp)
 exact I.step (g':=s.gens) (d':=s.drawn) (ch:=[]) (fun _ z=>nomatch z) (fun b o _ hb _ e n=>u.keep b o e n hb (by simp)) (fun b o _ hb _ e n=>u.slot b o e n hb (by simp)) (fun b o _ e n=>u.free b o e n (by simp)) (fun b o _ e=>u.there b o e (by simp)) u.tups u.frzs u.tbls (fun m' hm=>by
  obtain⟨o',es',ep',ho',r'⟩:=hm
  rw[ho] at ho';cases ho'
  exact#[_,es',ep',hL,r']) hok I.bare
theorem Inv.call {g':Array GenState}{t':Nat}{d':Drawn}{ch:List Addr}(I:Inv X pins σ H s) (u:Un (frs X.stack) ch H H' s.heap h') (hok:HOk X.prog X.w H' h') (hg:AllBare g')
 (hch:∀b∈ch,(b∈X.ex\/X.s₀.heap.objs.size<=b)/\b≠X.env.locals/\(∀x c,X.env.cells.lookup x=some c->c≠b)/\∀p∈X.pn++pins,p.1≠b) :
 Inv X pins σ H' { s with heap:=h',gens:=g',drawn:=d',toks:=t' }:=by
 obtain⟨m,⟨o,es,ep,ho,r⟩,_⟩:=id I.loc
 obtain⟨sl,hL⟩:=u.any ho I.free fun z=>(hch _ z).2.1 rfl
 exact I.step (ch:=ch) hch (fun b o hL hb hc e n=>u.keep b o e n (fun z=>(qAo.mp (I.stkSub b z)).elim hL hb) hc) (fun b o _ _ hc e n=>u.any e n hc) (fun b o hc e n=>u.free b o e n hc) (fun b o hc e=>u.there b o e hc) u.tups u.frzs u.tbls (fun m' hm=>by
  obtain⟨o',es',ep',ho',r'⟩:=hm
  rw[ho] at ho';cases ho'
  exact#[_,es',ep',hL,r']) hok hg
theorem Inv.turned {t':Nat}{it:Addr}(I:Inv X pins σ H s) (k:∀b o,b≠it->s.heap.get? b=some o->h'.get? b=some o) (hn:H it=none) (hL:it≠X.env.locals)
 (h1:it∈X.ex\/X.s₀.heap.objs.size<=it) (h2:∀x c,X.env.cells.lookup x=some c->c≠it) (h3:∀p∈X.pn++pins,p.1≠it):Inv X pins σ H { s with heap:=h',toks:=t' }:=by
 have nit:∀b u,H b=some u->b≠it:=fun b u e z=>by rw[z,hn] at e;cases e
 refine I.step (g':=s.gens) (d':=s.drawn) (ch:=[it]) (fun b hb=>?_) (fun b o _ _ hc e _=>k b o (fun z=>hc (by simp[z])) e) (fun b o _ _ hc e _=>#[o.slots,k b o (fun z=>hc (by simp[z])) e]) (fun _ _ _ _ n=>n)
  (fun b o hc e=>#[o,k b o (fun z=>hc (by simp[z])) e]) (fun _ _ e=>e) (fun _ _ _ e=>e) (fun b ps e=>#[(List.toArray []),by rw[e];simp]) (fun m hm=>?_) (fun b u e=>?_) I.bare
 .have e:b=it:=by simpa using hb
  subst e
  exact#[h1,hL,h2,h3]
 .obtain⟨o,es,ep,ho,r⟩:=hm
  exact#[o,es,ep,k _ o (Ne.symm hL) ho,r]
 .refine(I.hok b u e).stay (fun c v hc q=>k c v ?_ q) (fun _ q=>q) fun _ _ q=>q
  rcases hc with z|z
  .rw[z];exact nit b u e
  .exact nit c _ z
theorem Inv.tok (I:Inv X pins σ H s)(t:Nat):Inv X pins σ H { s with toks:=t }:=I.un (h':=s.heap) (t':=t) Un.refl I.hok
theorem Inv.kept {t':Nat}(I:Inv X pins σ H s) (k:∀b u,s.heap.get? b=some u->h'.get? b=some u):Inv X pins σ H { s with heap:=h',toks:=t' }:=I.un (Un.kept k) (I.hok.kept k)
theorem Inv.laid {a:Addr}{o:HO}{t':Nat}(I:Inv X pins σ H s) (k:∀b u,s.heap.get? b=some u->h'.get? b=some u) (hp:s.heap.objs.size<=a) (new:DC X.prog X.w (upd H a o) h' a o) :
 Inv X pins σ (upd H a o) { s with heap:=h',toks:=t' }:=I.un (Un.laid k hp (I.hok.fresh hp)) (I.hok.laid k hp new)
theorem Inv.write {x e:Addr}{o:HO}{t':Nat}(I:Inv X pins σ H s) (mu:Mut (H x)) (he:e=x\/H e=some (.own x)) (k:∀b u,b≠e->s.heap.get? b=some u->h'.get? b=some u) (heo:∃u,h'.get? e=some u)
 (new:DC X.prog X.w (upd H x o) h' x o):Inv X pins σ (upd H x o) { s with heap:=h',toks:=t' }:=I.un (Un.write mu he k heo) (I.hok.write mu he k heo new)
theorem Inv.pins_of {pins':List (Addr×Obj)}(I:Inv X pins σ H s) (h:∀p∈pins',s.heap.get? p.1=some p.2/\H p.1=none/\p.1≠X.env.locals/\p.1∉X.fs/\∀v,p.2.data≠.cell v):Inv X pins' σ H s :=
 #[I.ok,I.os,I.bare,I.base,I.loc,I.cell,I.free,I.freeC,fun p hp=>(qAA.mp hp).elim (fun z=>I.pin p (qAJ _ z)) (h p),I.hok,I.len]
theorem MS {N:List Str}(hN:N.Nodup){i j:Nat}{x:Str}(a:N[i]? = some x) (b:N[j]? = some x):i=j:=by
 obtain⟨h1,e1⟩:=qAg.mp a
 obtain⟨h2,e2⟩:=qAg.mp b
 exact(List.getElem_inj hN).mp (e1.trans e2.symm)
theorem Lx {M:Model}{A:Around}{E:Value->Shared->Prop}{i:Nat}{x:Str}{v:V}{u:Value}{Q:Unit->Shared->Prop}(I:Inv X pins σ H s) (hN:X.N.Nodup) (hi:X.N[i]? = some x) (hx:Loc X.env.scope x) (r:CA v u)
 (h:∀s',Inv X pins (σ.set i (some v)) H s'->(∃a,Heap.SameBut a s.heap s'.heap/\(a=X.env.locals\/X.env.cells.lookup x=some a))->Q Unit.unit s') (hf:X.fn x=true\/X.env.scope.names.lookup x=some .local:=by first|exact .inl rfl|exact .inr rfl|assumption):wpAny M A (storeName X.env x u) Q E s:=by
 obtain⟨m,hn,hl⟩:=id I.loc
 have hcls:(X.env.scope.kind == .class||(X.env.scope.kind == .module&&X.env.locals != X.env.globals))=false:=by rw[I.ok.kind];rfl
 have hiσ:i<σ.length:=by rw[I.len];exact(qAg.mp hi).1
 have cne:=I.cne
 have tracked:∀{a:Addr}{h':Heap},(∃o,s.heap.get? a=some o/\H a=none)->Heap.SameBut a s.heap h'->HOk X.prog X.w H h':=fun {a h'} ha hs b ob e=>by
  obtain⟨_,_,hfree⟩:=ha
  refine(I.hok b ob e).stay (fun c w' hc q=>(hs.2 c ?_).trans q) (fun _ q=>q) fun _ _ q=>q
  rintro rfl
  rcases hc with rfl|hc
  .rw[hfree] at e;cases e
  .rw[hfree] at hc;cases hc
 rcases hx with hk|hk
 .refine wpAny_storeName_local hk hn (fun h' hn' hs=>?_) hcls
  obtain⟨oL,_,_,hoL,_⟩:=id hn
  refine h _ #[I.ok,I.os,I.bare,#[fun b o e n hb hx=>?_,fun b o e n hb hx=>?_,I.base.free,fun b o e hx=>?_,I.base.tups,I.base.frzs,I.base.tbls],#[_,hn',fun j y v' e1 e2 e3=>?_],fun y c e=>?_,I.free,I.freeC,fun p hp=>?_,tracked #[oL,hoL,I.free] hs,by simpa using I.len] #[_,hs,.inl rfl]
  .exact(hs.2 b (qAw (qAq (qAh e) I.ok.above))).trans (I.base.keep b o e n hb hx)
  .obtain⟨sl,e1⟩:=I.base.slot b o e n hb hx
   exact#[sl,(hs.2 b (qAw (qAq (qAh e) I.ok.above))).trans e1]
  .obtain⟨o',e1⟩:=I.base.there b o e hx
   exact#[o',(hs.2 b (qAw (qAq (qAh e) I.ok.above))).trans e1]
  .by_cases hj:j=i
   .subst hj
    rw[hi] at e1;cases e1
    rw[qBs hiσ] at e2
    cases e2
    exact#[u,r,.inl #[hk,by simp]]
   .rw[qBK (Ne.symm hj)] at e2
    obtain⟨u',r',q⟩:=hl j y v' e1 e2 e3
    refine#[u',r',?_]
    rcases q with⟨k,e⟩|⟨k,c,e,z⟩
    .refine .inl #[k,?_]
     have:y≠x:=fun e=>hj (MS hN e1 (e ▸ hi))
     simp[this,e]
    .exact .inr #[k,c,e,z.sameBut hs (cne y c e)]
  .obtain⟨w',z⟩:=I.cell y c e
   exact#[w',z.sameBut hs (cne y c e)]
  .obtain⟨e,n,ne,nf,d⟩:=I.pin p hp
   exact#[(hs.2 p.1 ne).trans e,n,ne,nf,d]
 .have hfn:X.fn x=true:=by
   rcases hf with z|z
   .exact z
   .rw[z] at hk;cases hk
  obtain⟨c,hc⟩:=I.ok.has x (.inl hk)
  obtain⟨w',z⟩:=I.cell x c hc
  refine wpAny_storeName_cell I.ok.kind hk hc z (fun h' hc' hs=>?_)
  obtain⟨oc,hoc,hocd⟩:=id z
  refine h { s with heap:=h' } #[I.ok,I.os,I.bare,#[fun b o e n hb hx=>?_,fun b o e n hb hx=>?_,I.base.free,fun b o e hx=>?_,I.base.tups,I.base.frzs,I.base.tbls],#[m,hn.sameBut hs (Ne.symm (cne x c hc)),fun j y v' e1 e2 e3=>?_],fun y c' e=>?_,I.free,I.freeC,fun p hp=>?_,tracked #[oc,hoc,I.freeC x c hc] hs,by simpa using I.len] #[c,hs,.inr hc]
  .exact(hs.2 b (qAw (qAq (qAh e) (I.ok.cab x c hfn hc)))).trans (I.base.keep b o e n hb hx)
  .obtain⟨sl,e1⟩:=I.base.slot b o e n hb hx
   exact#[sl,(hs.2 b (qAw (qAq (qAh e) (I.ok.cab x c hfn hc)))).trans e1]
  .obtain⟨o',e1⟩:=I.base.there b o e hx
   exact#[o',(hs.2 b (qAw (qAq (qAh e) (I.ok.cab x c hfn hc)))).trans e1]
  .by_cases hj:j=i
   .subst hj
    rw[hi] at e1;cases e1
    rw[qBs hiσ] at e2
    cases e2
    exact#[u,r,.inr #[.inl hk,c,hc,hc']]
   .rw[qBK (Ne.symm hj)] at e2
    obtain⟨u',r',q⟩:=hl j y v' e1 e2 e3
    refine#[u',r',?_]
    rcases q with q|⟨k,c',e,z'⟩
    .exact .inl q
    .refine .inr #[k,c',e,z'.sameBut hs ?_]
     rintro rfl
     exact hj (MS hN e1 (I.ok.inj _ _ _ e hc ▸ hi))
  .by_cases hcc:c'=c
   .subst hcc;exact#[_,hc']
   .obtain⟨w2,z2⟩:=I.cell y c' e
    exact#[w2,z2.sameBut hs hcc]
  .obtain⟨e,n,ne,nf,d⟩:=I.pin p hp
   refine#[(hs.2 p.1 ?_).trans e,n,ne,nf,d]
   intro q
   rw[q,hoc] at e
   have q':oc=p.2:=qAl e
   exact d w' (by rw[<-q'];exact hocd)
theorem GY {M:Model}{A:Around}{E:Value->Shared->Prop}{i:Nat}{x:Str}{v:V}{u:Value}{Q:Unit->Shared->Prop}(I:Inv X pins σ H s) (hN:X.N.Nodup) (hi:X.N[i]? = some x) (hx:Loc X.env.scope x) (r:CA v u)
 (h:∀s',Inv X pins (σ.set i (some v)) H s'->Q Unit.unit s') (hf:X.fn x=true\/X.env.scope.names.lookup x=some .local:=by first|exact .inl rfl|exact .inr rfl|assumption):wpAny M A (storeName X.env x u) Q E s :=
 Lx I hN hi hx r (fun s' I' _=>h s' I') hf
theorem Inv.call' {s':Shared}{ch:List Addr}(I:Inv X pins σ H s) (ho:s'.os=s.os) (u:Un (frs X.stack) ch H H' s.heap s'.heap) (hok:HOk X.prog X.w H' s'.heap) (hg:AllBare s'.gens)
 (hch:∀b∈ch,(b∈X.ex\/X.s₀.heap.objs.size<=b)/\b≠X.env.locals/\(∀x c,X.env.cells.lookup x=some c->c≠b)/\∀p∈X.pn++pins,p.1≠b):Inv X pins σ H' s':=by
 obtain⟨h',g',d',t',o'⟩:=s'
 have e:o'=s.os:=ho
 subst e
 exact I.call (g':=g') (t':=t') (d':=d') u hok hg hch
end
abbrev XK:=Value->Option Addr->Hp->Prop
abbrev St:=List (Option V)
abbrev VK:=V->Hp->Prop
abbrev TE:=St->Hp->VK->Prop
abbrev TT:=St->Hp->(Bool->Hp->Prop)->Prop
abbrev TA:=St->Hp->(List V->Hp->Prop)->Prop
structure Nc where
 nx:St->Hp->Prop
 rt:VK
 bk:St->Hp->Prop:=fun _ _=>False
 ct:St->Hp->Prop:=fun _ _=>False
abbrev TS:=Nc->St->Hp->Prop
def EP (X:Cx)(pins:List (Addr×Obj))(σ:St)(Q:VK)(u:Value)(s':Shared):Prop:=∃v H',Inv X pins σ H' s'/\CA v u/\Q v H'
def TP (X:Cx)(pins:List (Addr×Obj))(σ:St)(Q:Bool->Hp->Prop)(b:Bool)(s':Shared):Prop:=∃H',Inv X pins σ H' s'/\Q b H'
def AP (X:Cx)(pins:List (Addr×Obj))(σ:St)(Q:List V->Hp->Prop)(us:List Value)(s':Shared):Prop:=∃vs H',Inv X pins σ H' s'/\CK vs us/\Q vs H'
def SP (X:Cx)(pins:List (Addr×Obj))(D:Nc)(f:Flow)(s':Shared):Prop :=
 match f with
 |.next=>∃σ' H',Inv X pins σ' H' s'/\D.nx σ' H'
 |.brk=>∃σ' H',Inv X pins σ' H' s'/\D.bk σ' H'
 |.cont=>∃σ' H',Inv X pins σ' H' s'/\D.ct σ' H'
 |.ret u=>∃v σ' H',Inv X pins σ' H' s'/\CA v u/\D.rt v H'
def PE (X:Cx)(e:Expr)(t:TE):Prop :=
 ∀(pins:List (Addr×Obj))(s:Shared)(σ:St)(H:Hp)(Q:VK),Inv X pins σ H s->t σ H Q->wpAny (model X.prog X.w) X.A (eval e X.env) (EP X pins σ Q) X.xe s
def PT (X:Cx)(e:Expr)(t:TT):Prop :=
 ∀(pins:List (Addr×Obj))(s:Shared)(σ:St)(H:Hp)(Q:Bool->Hp->Prop),Inv X pins σ H s->t σ H Q->wpAny (model X.prog X.w) X.A (isTrue e X.env (eval e X.env)) (TP X pins σ Q) X.xe s
def PW (X:Cx)(e:Expr)(t:TT):Prop :=
 ∀(whole:Sem Value)(pins:List (Addr×Obj))(s:Shared)(σ:St)(H:Hp)(Q:Bool->Hp->Prop),Inv X pins σ H s->t σ H Q->wpAny (model X.prog X.w) X.A (isTrue e X.env whole) (TP X pins σ Q) X.xe s
def PA (X:Cx)(es:List Expr)(t:TA):Prop :=
 ∀(pos:Pos)(pins:List (Addr×Obj))(s:Shared)(σ:St)(H:Hp)(Q:List V->Hp->Prop),Inv X pins σ H s->t σ H Q->wpAny (model X.prog X.w) X.A (spliced (backTo pos (starEach es X.env))) (AP X pins σ Q) X.xe s
def PS (X:Cx)(st:Stmt)(t:TS):Prop :=
 ∀(pins:List (Addr×Obj))(s:Shared)(σ:St)(H:Hp)(D:Nc),Inv X pins σ H s->t D σ H->wpAny (model X.prog X.w) X.A (exec st X.env) (SP X pins D) X.xe s
def PSs (X:Cx)(st:List Stmt)(t:TS):Prop :=
 ∀(pins:List (Addr×Obj))(s:Shared)(σ:St)(H:Hp)(D:Nc),Inv X pins σ H s->t D σ H->wpAny (model X.prog X.w) X.A (execs st X.env) (SP X pins D) X.xe s
theorem thn {α:Type}{t:Sem α}{Q Q':α->Shared->Prop}{M:Model}{A:Around}{E:Value->Shared->Prop}{s:Shared}(h:wpAny M A t Q E s) (hQ:∀a s,Q a s->Q' a s):wpAny M A t Q' E s:=wpAny_mono h hQ fun _ _ x=>x
section
variable {X:Cx}
def Ny (i:Nat):TE:=fun σ H Q=>∃v,σ[i]? = some (some v)/\Q v H
def tC (v:V):TE:=fun _ H Q=>Q v H
theorem UW {i:Nat}{x:Str}{pos:Pos}(hN:X.N[i]? = some x) (hv:Vis X.env.scope x) (hd:(x==("__debug__":Str))=false:=by decide) (hcd:(x==("__classdict__":Str))=false:=by decide):PE X (.Name x pos) (Ny i):=by
 intro pins s σ H Q I h
 obtain⟨v,e,h⟩:=h
 obtain⟨m,hn,hl⟩:=I.loc
 obtain⟨u,r,l⟩:=hl i x v hN e hv
 have fin:EP X pins σ Q u s:=#[v,H,I,r,h]
 rcases l with⟨hk,hm⟩|⟨hk,c,hc,hcell⟩
 .exact wpAny_Name (wpAny_loadName_local I.ok.kind hk hn hm fin) hd
 .rcases hk with hk|hk
  .exact wpAny_Name (wpAny_loadName_cell I.ok.kind hk hc hcell fin) hd
  .exact wpAny_Name (wpAny_loadName_free I.ok.kind hk hc hcell fin hcd) hd
theorem V3 {i j pos}:PE X (.Constant (.int i) j pos) (tC (.int i)):=fun _ _ _ H _ I h=>wpAny_Constant_int #[.int i,H,I.tok _,#[_,rfl],h]
theorem WK {b j pos}:PE X (.Constant (.bool b) j pos) (tC (.bl b)):=fun _ _ _ H _ I h=>Constant_bool #[.bl b,H,I,rfl,h]
theorem Wr {j pos}:PE X (.Constant .none j pos) (tC .non):=fun _ _ _ H _ I h=>Constant_none #[.non,H,I,rfl,h]
theorem Vq {x j pos}:PE X (.Constant (.str x) j pos) (tC (.str x)):=fun _ _ _ H _ I h=>Calls.Constant_str #[.str x,H,I.tok _,#[_,rfl],h]
def Gl (X:Cx)(x:Str):Prop:=X.env.kindOf x=some .globalImplicit
theorem Hk {E:Value->Shared->Prop}{pins:List (Addr×Obj)}{s:Shared}{σ:St}{H:Hp}{x:Str}{u:Value}{pos:Pos}{Q:Value->Shared->Prop}(I:Inv X pins σ H s) (hg:Gl X x) (hm:X.mg x=some u) (h:Q u s)
 (hd:(x==("__debug__":Str))=false:=by decide):wpAny (model X.prog X.w) X.A (eval (.Name x pos) X.env) Q E s :=
 Calls.Name_function_global I.ok.kind hg (Calls.loadGlobal_global (by rw[I.ok.glob];exact I.mod.glob.keeps I.bk) hm h) hd
theorem G1 {E:Value->Shared->Prop}{pins:List (Addr×Obj)}{s:Shared}{σ:St}{H:Hp}{x:Str}{u:Value}{pos:Pos}{Q:Value->Shared->Prop}(I:Inv X pins σ H s) (hg:Gl X x) (hm:X.mg x=none) (hv:bootBuiltins x=some u) (h:Q u s)
 (hn:x≠"__name__":=by decide) (hd:(x==("__debug__":Str))=false:=by decide):wpAny (model X.prog X.w) X.A (eval (.Name x pos) X.env) Q E s:=by
 obtain⟨mb,h1,h2⟩:=I.mod.blt
 exact Calls.Name_function_global I.ok.kind hg (Calls.loadGlobal_builtin (by rw[I.ok.glob];exact I.mod.glob.keeps I.bk) hm (by rw[I.ok.blt];exact h1.keeps I.bk) ((h2 x hn).trans hv) h) hd
theorem PX {x:Str}{v:V}{u:Value}{pos:Pos}(hg:Gl X x) (hm:X.mg x=some u) (r:CA v u) (hd:(x==("__debug__":Str))=false:=by decide):PE X (.Name x pos) (tC v) :=
 fun _ _ _ H _ I h=>Hk I hg hm #[v,H,I,r,h] hd
theorem Pm {x:Str}{v:V}{u:Value}{pos:Pos}(hg:Gl X x) (hm:X.mg x=none) (hv:bootBuiltins x=some u) (r:CA v u) (hn:x≠"__name__":=by decide) (hd:(x==("__debug__":Str))=false:=by decide):PE X (.Name x pos) (tC v) :=
 fun _ _ _ H _ I h=>G1 I hg hm hv #[v,H,I,r,h] hn hd
variable {a b:Expr}{ta tb:TE}{pos:Pos}
def tB (t:TE):TT:=fun σ H Q=>t σ H fun x H1=>∃c,x=.bl c/\Q c H1
theorem Vm {e:Expr}{t:TE}(h:PE X e t) (he:∀whole,isTrue e X.env whole=(do let v <-whole;standAt e.pos;holding [v] (truthy v)):=by intro _;rfl):PT X e (tB t):=by
 intro pins s σ H Q I hw
 refine isTrue_plain (thn (h pins s σ H _ I hw) fun v s1 #[x,H1,I1,r1,q1]=>?_) (he _)
 obtain⟨d,rfl,q⟩:=q1
 cases r1
 exact wpAny_truthy_bool #[H1,I1,q]
variable {tA tB':TT}{rest:List Expr}
def YT (t u:TT):TT:=fun σ H Q=>t σ H fun c H1=>if c=true then u σ H1 Q else Q false H1
def tOr (t u:TT):TT:=fun σ H Q=>t σ H fun c H1=>if c=true then Q true H1 else u σ H1 Q
def Yo (t:TT):TT:=fun σ H Q=>t σ H fun c H1=>Q (!c) H1
theorem UK (ha:PT X a tA):PW X (.BoolOp .And [a] pos) tA:=by
 intro wh pins s σ H Q I h
 refine isTrue_and (thn (ha pins s σ H Q I h) fun c s1 e=>?_)
 cases c with
 |true=>exact isTrue_and_nil e
 |false=>exact e
theorem Vl (ha:PT X a tA):PW X (.BoolOp .Or [a] pos) tA:=by
 intro wh pins s σ H Q I h
 refine isTrue_or (thn (ha pins s σ H Q I h) fun c s1 e=>?_)
 cases c with
 |false=>exact isTrue_or_nil e
 |true=>exact e
theorem Vo (ha:PT X a tA)(hb:PW X (.BoolOp .And (b::rest) pos) tB'):PW X (.BoolOp .And (a::b::rest) pos) (YT tA tB'):=by
 intro wh pins s σ H Q I h
 refine isTrue_and (thn (ha pins s σ H _ I h) fun c s1 hh=>?_)
 obtain⟨H1,I1,q1⟩:=hh
 cases c with
 |true=>exact hb wh pins s1 σ H1 Q I1 q1
 |false=>exact#[H1,I1,q1]
theorem WQ (ha:PT X a tA)(hb:PW X (.BoolOp .Or (b::rest) pos) tB'):PW X (.BoolOp .Or (a::b::rest) pos) (tOr tA tB'):=by
 intro wh pins s σ H Q I h
 refine isTrue_or (thn (ha pins s σ H _ I h) fun c s1 hh=>?_)
 obtain⟨H1,I1,q1⟩:=hh
 cases c with
 |true=>exact#[H1,I1,q1]
 |false=>exact hb wh pins s1 σ H1 Q I1 q1
theorem Vb (ha:PT X a tA):PT X (.UnaryOp .Not a pos) (Yo tA):=by
 intro pins s σ H Q I h
 exact isTrue_not (ha pins s σ H (fun c H1=>Q (!c) H1) I h)
def WY (ta tb:TE):TE:=fun σ H Q=>ta σ H fun x H1=>∃c,x=.bl c/\if c=true then tb σ H1 Q else Q (.bl false) H1
def Xe (ta:TE):TE:=fun σ H Q=>ta σ H fun x H1=>∃c,x=.bl c/\Q (.bl (!c)) H1
theorem V4 {op}{t:TE}(h:PE X a t):PE X (.BoolOp op [a] pos) t:=fun pins s σ H Q I hw=>BoolOp_one (h pins s σ H Q I hw)
theorem Wu (ha:PE X a ta)(hb:PE X (.BoolOp .And (b::rest) pos) tb):PE X (.BoolOp .And (a::b::rest) pos) (WY ta tb):=by
 intro pins s σ H Q I h
 refine BoolOp_and (thn (ha pins s σ H _ I h) fun v s1 hh=>?_)
 obtain⟨x,H1,I1,r1,q1⟩:=hh
 obtain⟨c,rfl,q1⟩:=q1
 cases r1
 refine wpAny_truthy_bool ?_
 cases c with
 |true=>exact hb pins s1 σ H1 Q I1 q1
 |false=>exact#[.bl false,H1,I1,rfl,q1]
theorem VJ (ha:PE X a ta):PE X (.UnaryOp .Not a pos) (Xe ta):=by
 intro pins s σ H Q I h
 refine UnaryOp_ (thn (ha pins s σ H _ I h) fun v s1 hh=>?_)
 obtain⟨x,H1,I1,r1,q1⟩:=hh
 obtain⟨c,rfl,q1⟩:=q1
 cases r1
 exact not_of (wpAny_truthy_bool #[.bl (!c),H1,I1,rfl,q1])
end
def SqL (K:W.Frag)(H:Hp)(a:Addr)(xs:List V):Prop :=
 Rd H a (.lst xs) \/
  ∃(o:Obj)(its:Array Value)(n:Nat),K.lookup a=some o/\o.cls=.type "list"/\o.dict=none/\o.data=.seq its n/\its.size<=sizeLine/\CK xs its.toList
def SqT (K:W.Frag)(H:Hp)(a:Addr)(xs:List V):Prop :=
 Rd H a (.tup xs) \/
  ∃(o:Obj)(its:Array Value)(n:Nat),K.lookup a=some o/\o.cls=.type "tuple"/\o.data=.seq its n/\its.size<=sizeLine/\CK xs its.toList
def Yk:Value->Option V
 |.none=>some .non
 |.bool b=>some (.bl b)
 |.int i _=>some (.int i)
 |.str x _=>some (.str x)
 |.bytes b _=>some (.byt b)
 |.float b _=>some (.flt b)
 |.ref a=>some (.ref a)
 |.type n=>some (.ty n)
 |_=>none
theorem CA.abs {x:V}{u:Value}(r:CA x u):Yk u=some x:=by
 cases x with
 |non=>cases r;rfl
 |bl _=>cases r;rfl
 |int _=>obtain⟨t,rfl⟩:=r;rfl
 |str _=>obtain⟨t,rfl⟩:=r;rfl
 |byt _=>obtain⟨t,rfl⟩:=r;rfl
 |flt _=>obtain⟨t,rfl⟩:=r;rfl
 |ref _=>cases r;rfl
 |ty _=>cases r;rfl
theorem CA.inj {x y:V}{u:Value}(r:CA x u) (q:CA y u):x=y:=qAl (r.abs.symm.trans q.abs)
theorem CK.inj:∀{xs ys:List V}{us:List Value},CK xs us->CK ys us->xs=ys
 |_,_,_,.nil,.nil=>rfl
 |_,_,_,.cons r t,.cons r' t'=>by rw[r.inj r',CK.inj t t']
section
variable {X:Cx}{pins:List (Addr×Obj)}{σ:St}{H:Hp}{s:Shared}{a:Addr}{xs ys:List V}
theorem SqL.of {K:W.Frag}(h:H a=some (.lst xs)):SqL K H a xs:=.inl (.inl h)
theorem SqT.of {K:W.Frag}(h:H a=some (.tup xs)):SqT K H a xs:=.inl (.inl h)
theorem Inv.list (I:Inv X pins σ H s)(h:SqL X.K H a xs):∃its:List Value,CK xs its/\PlainL s.heap a its.toArray/\xs.length<=sizeLine:=by
 rcases h with h|⟨o,its,n,hk,hc,hd,hs,hz,r⟩
 .obtain⟨z,its,n,r,e⟩:=h.ok I.hok
  exact#[its,r,#[_,n,e,rfl,rfl,rfl],z]
 .refine#[its.toList,r,#[o,n,I.kIn a o hk,hc,hd,by simpa using hs],?_]
  have e:=r.length
  simp only[Array.length_toList] at e
  omega
theorem Inv.tuple (I:Inv X pins σ H s)(h:SqT X.K H a xs):∃its:List Value,CK xs its/\IsTup s.heap a its.toArray/\xs.length<=sizeLine:=by
 rcases h with h|⟨o,its,n,hk,hc,hs,hz,r⟩
 .obtain⟨z,its,r,p⟩:=h.ok I.hok
  exact#[its,r,p,z]
 .refine#[its.toList,r,#[o,I.kIn a o hk,hc,n,by simpa using hs],?_]
  have e:=r.length
  simp only[Array.length_toList] at e
  omega
theorem Inv.list_inj (I:Inv X pins σ H s)(h:SqL X.K H a xs)(h':SqL X.K H a ys):xs=ys:=by
 obtain⟨its,r,⟨o,n,e,_,_,d⟩,_⟩:=I.list h
 obtain⟨its',r',⟨o',n',e',_,_,d'⟩,_⟩:=I.list h'
 rw[e] at e';cases e'
 rw[d] at d'
 injection d' with d1 _
 have:its=its':=by simpa using congrArg Array.toList d1
 subst this
 exact r.inj r'
theorem Inv.tuple_inj (I:Inv X pins σ H s)(h:SqT X.K H a xs)(h':SqT X.K H a ys):xs=ys:=by
 obtain⟨its,r,⟨o,e,_,n,d⟩,_⟩:=I.tuple h
 obtain⟨its',r',⟨o',e',_,n',d'⟩,_⟩:=I.tuple h'
 rw[e] at e';cases e'
 rw[d] at d'
 injection d' with d1 _
 have:its=its':=by simpa using congrArg Array.toList d1
 subst this
 exact r.inj r'
end
abbrev Cx.wish (X:Cx)(E:Value->Shared->Prop):Cx:={ X with xe:=E }
abbrev Cx.nox (X:Cx):Cx:=X.wish fun _ _=>False
theorem Cx.Ok.wish {X:Cx}(ok:X.Ok) (E:Value->Shared->Prop):(X.wish E).Ok :=
 #[ok.mod,ok.kind,ok.glob,ok.blt,ok.above,ok.inj,ok.has,ok.cab,ok.hd,ok.frames,ok.stk,ok.exf,ok.bs,ok.bsz,ok.noex,ok.exfs,ok.funs,ok.frf,ok.tb]
theorem Cx.Ok.unwish {X:Cx}{E:Value->Shared->Prop}(ok:(X.wish E).Ok):X.Ok :=
 #[ok.mod,ok.kind,ok.glob,ok.blt,ok.above,ok.inj,ok.has,ok.cab,ok.hd,ok.frames,ok.stk,ok.exf,ok.bs,ok.bsz,ok.noex,ok.exfs,ok.funs,ok.frf,ok.tb]
section
variable {X:Cx}{pins:List (Addr×Obj)}{σ:St}{H:Hp}{s:Shared}{E:Value->Shared->Prop}
theorem Inv.wish (I:Inv X pins σ H s)(E:Value->Shared->Prop):Inv (X.wish E) pins σ H s:=#[I.ok.wish E,I.os,I.bare,I.base,I.loc,I.cell,I.free,I.freeC,I.pin,I.hok,I.len]
theorem Inv.unwish (I:Inv (X.wish E) pins σ H s):Inv X pins σ H s:=#[I.ok.unwish,I.os,I.bare,I.base,I.loc,I.cell,I.free,I.freeC,I.pin,I.hok,I.len]
theorem SP.unwish {D:Nc}{f:Flow}{s':Shared}(h:SP (X.wish E) pins D f s'):SP X pins D f s':=by
 cases f with
 |next=>obtain⟨σ',H',I,q⟩:=h;exact#[σ',H',I.unwish,q]
 |brk=>obtain⟨σ',H',I,q⟩:=h;exact#[σ',H',I.unwish,q]
 |cont=>obtain⟨σ',H',I,q⟩:=h;exact#[σ',H',I.unwish,q]
 |ret u=>obtain⟨v,σ',H',I,r,q⟩:=h;exact#[v,σ',H',I.unwish,r,q]
theorem PSs.nox {st:List Stmt}{t:TS}(h:PSs X.nox st t):PSs X st t:=fun pins s σ H D I hw =>
 wpAny_mono (h pins s σ H D (I.wish _) hw) (fun _ _ q=>q.unwish) fun _ _ z=>False.elim z
end
section
variable {X:Cx}{st:Stmt}{rest:List Stmt}{t u:TS}{e:Expr}{te:TE}{pos:Pos}
def XF:TS:=fun D σ H=>D.nx σ H
def Ym (t u:TS):TS:=fun D σ H=>t { D with nx:=u D } σ H
theorem Ux:PSs X [] XF:=fun _ _ σ H _ I h=>wpAny_execs_nil #[σ,H,I,h]
theorem MJ (h1:PS X st t)(h2:PSs X rest u):PSs X (st::rest) (Ym t u):=by
 intro pins s σ H D I h
 refine wpAny_execs_cons (thn (h1 pins s σ H { D with nx:=u D } I h) fun f s1 q=>?_)
 cases f with
 |next =>
  obtain⟨σ',H',I',q⟩:=q
  exact h2 pins s1 σ' H' D I' q
 |ret v=>exact q
 |brk=>exact q
 |cont=>exact q
theorem UH (h1:PS X st t):PSs X [st] t:=by
 intro pins s σ H D I h
 refine wpAny_execs_cons (thn (h1 pins s σ H D I h) fun f s1 q=>?_)
 cases f with
 |next=>exact wpAny_execs_nil q
 |ret v=>exact q
 |brk=>exact q
 |cont=>exact q
theorem Inv.quiet {pins:List (Addr×Obj)}{σ:St}{H:Hp}{s:Shared}(I:Inv X pins σ H s):interactive X.env=false:=by simp[interactive,I.ok.kind]
def Vi (te:TE):TS:=fun D σ H=>te σ H fun _ H1=>D.nx σ H1
theorem Be (he:PE X e te)(hs:swapsWith e none pos.line X.env=pure false:=by rfl):PS X (.Expr e pos) (Vi te):=by
 intro pins s σ H D I h
 exact wpAny_Expr_any (thn (he pins s σ H _ I h) fun v s1 #[x,H1,I1,r1,q1]=>#[σ,H1,I1,q1]) I.quiet hs
def Yy (te:TE):TS:=fun D σ H=>te σ H D.rt
theorem R9 (he:PE X e te):PS X (.Return (some e) pos) (Yy te):=by
 intro pins s σ H D I h
 exact wpAny_Return_some (thn (he pins s σ H _ I h) fun v s1 #[x,H1,I1,r1,q1]=>#[x,σ,H1,I1,r1,q1])
def Y2 (c:TT)(t u:TS):TS:=fun D σ H=>c σ H fun b H1=>if b=true then t D σ H1 else u D σ H1
theorem Xh {c:Expr}{a b:List Stmt}{tc:TT}(hc:PT X c tc) (ha:PSs X a t) (hb:PSs X b u):PS X (.If c a b pos) (Y2 tc t u):=by
 intro pins s σ H D I h
 refine wpAny_If (thn (hc pins s σ H _ I h) fun d s1 hh=>?_)
 obtain⟨H1,I1,q1⟩:=hh
 cases d with
 |true=>exact ha pins s1 σ H1 D I1 q1
 |false=>exact hb pins s1 σ H1 D I1 q1
def Ws:TS:=fun _ _ _=>False
theorem RM:PS X st Ws:=fun _ _ _ _ _ _ h=>h.elim
end
abbrev TG:=V->St->Hp->(St->Hp->Prop)->Prop
abbrev TGs:=List V->St->Hp->(St->Hp->Prop)->Prop
def PG (X:Cx)(target:Expr)(t:TG):Prop :=
 ∀(pins:List (Addr×Obj))(s:Shared)(σ:St)(H:Hp)(v:V)(u:Value)(Q:St->Hp->Prop),Inv X pins σ H s->CA v u->t v σ H Q ->
  wpAny (model X.prog X.w) X.A (assign target X.env u) (fun _ s'=>∃σ' H',Inv X pins σ' H' s'/\Q σ' H') X.xe s
def PGs (X:Cx)(ts:List Expr)(t:TGs):Prop :=
 ∀(pins:List (Addr×Obj))(s:Shared)(σ:St)(H:Hp)(vs:List V)(us:List Value)(Q:St->Hp->Prop),Inv X pins σ H s->CK vs us->t vs σ H Q ->
  wpAny (model X.prog X.w) X.A (assignInOrder ((assignEach ts X.env).map (·.2)) us) (fun _ s'=>∃σ' H',Inv X pins σ' H' s'/\Q σ' H') X.xe s
abbrev TIp:=V->V->Hp->VK->Prop
def PIp (X:Cx)(op:Operator)(t:TIp):Prop :=
 ∀(pins:List (Addr×Obj))(s:Shared)(σ:St)(H:Hp)(x y:V)(v u:Value)(Q:VK),Inv X pins σ H s->CA x v->CA y u->t x y H Q ->
  wpAny (model X.prog X.w) X.A (inplaceOp op v u) (EP X pins σ Q) X.xe s
section
variable {X:Cx}{pos:Pos}
def Dc (i:Nat):TG:=fun v σ H Q=>Q (σ.set i (some v)) H
theorem AR {i:Nat}{x:Str}(hN:X.N.Nodup) (hi:X.N[i]? = some x) (hx:Loc X.env.scope x) (hf:X.fn x=true\/X.env.scope.names.lookup x=some .local:=by first|exact .inl rfl|exact .inr rfl|assumption):PG X (.Name x pos) (Dc i):=by
 intro pins s σ H v u Q I r h
 exact wpAny_assign_Name (GY I hN hi hx r (fun s' I'=>#[_,H,I',h]) hf)
def UQ:TGs:=fun vs σ H Q=>vs=[]/\Q σ H
def HJ (t:TG)(u:TGs):TGs:=fun vs σ H Q=>∃v r,vs=v::r/\t v σ H fun σ' H'=>u r σ' H' Q
theorem IM:PGs X [] UQ:=by
 intro pins s σ H vs us Q I r h
 obtain⟨e,h⟩:=h
 subst e
 cases r
 exact assignInOrder_nil #[σ,H,I,h]
theorem Cz {e:Expr}{es:List Expr}{t:TG}{u:TGs}(h1:PG X e t) (h2:PGs X es u)
 (hs:(assignEach (e::es) X.env).map (·.2)=assign e X.env::(assignEach es X.env).map (·.2):=by rfl):PGs X (e::es) (HJ t u):=by
 intro pins s σ H vs us Q I r h
 obtain⟨v,vr,e1,h⟩:=h
 subst e1
 cases r with
 |cons r rr =>
  rw[hs]
  refine assignInOrder_cons (thn (h1 pins s σ H _ _ _ I r h) fun _ s1 hh=>?_)
  obtain⟨σ1,H1,I1,q1⟩:=hh
  exact h2 pins s1 σ1 H1 _ _ Q I1 rr q1
def UO (K:W.Frag)(n:Nat)(t:TGs):TG:=fun v σ H Q=>∃a xs,v=.ref a/\SqT K H a xs/\xs.length=n/\t xs σ H Q
theorem Lm {es:List Expr}{k:Nat}{t:TGs}{n:Nat}(hc:X.calm=true) (h:PGs X es t)
 (hn:(assignEach es X.env).length=n:=by rfl) (hst:(assignEach es X.env).findIdx? (·.1)=none:=by rfl):PG X (.Tuple es k pos) (UO X.K n t):=by
 intro pins s σ H v u Q I r hw
 obtain⟨a,xs,e1,hq,hl,hw⟩:=hw
 subst e1
 cases r
 obtain⟨its,rv,ht,hz⟩:=I.tuple hq
 refine assign_Tuple_tuple (I.ok.hd hc) ht (by simp[hn,<-hl,rv.length]) hst fun h' hx=>?_
 have I1:Inv X pins σ H { s with heap:=h' }:=I.kept (t':=s.toks) fun b o e=>hx b o (qAw (qAh e)) e
 exact h pins _ σ H xs _ Q I1 (by simpa using rv) hw
def YO (te:TE)(g:TG):TS:=fun D σ H=>te σ H fun x H1=>g x σ H1 D.nx
theorem Wj {i:Nat}{x:Str}{e:Expr}{te:TE}{pos':Pos}(hN:X.N.Nodup) (hi:X.N[i]? = some x) (hx:Loc X.env.scope x) (he:PE X e te) (hs:swapsWith e (some (.Name x pos')) pos.line X.env=pure false:=by rfl) (hf:X.fn x=true\/X.env.scope.names.lookup x=some .local:=by first|exact .inl rfl|exact .inr rfl|assumption) :
 PS X (.Assign [.Name x pos'] e pos) (YO te (Dc i)):=by
 intro pins s σ H D I h
 refine wpAny_Assign_Name (thn (he pins s σ H _ I h) fun v s1 #[y,H1,I1,r1,q1]=>?_) hs
 exact GY I1 hN hi hx r1 (fun s2 I2=>#[_,H1,I2,q1]) hf
def YM (i:Nat)(te:TE)(ti:TIp):TS:=fun D σ H=>∃x,σ[i]? = some (some x)/\te σ H fun y H1=>ti x y H1 fun z H2=>D.nx (σ.set i (some z)) H2
theorem Vj {i:Nat}{x:Str}{e:Expr}{te:TE}{op:Operator}{ti:TIp}{pos':Pos}(hN:X.N.Nodup) (hi:X.N[i]? = some x) (hx:Loc X.env.scope x) (he:PE X e te) (ho:PIp X op ti) (hf:X.fn x=true\/X.env.scope.names.lookup x=some .local:=by first|exact .inl rfl|exact .inr rfl|assumption) :
 PS X (.AugAssign (.Name x pos') op e pos) (YM i te ti):=by
 intro pins s σ H D I h
 obtain⟨v,e1,h⟩:=h
 obtain⟨m,hn,hl⟩:=I.loc
 have vis:Vis X.env.scope x:=by rcases hx with k|k;exact .inl k;exact .inr (.inl k)
 obtain⟨u,r,l⟩:=hl i x v hi e1 vis
 refine wpAny_AugAssign_Name ?_
 have go:wpAny (model X.prog X.w) X.A (eval e X.env) (fun w s₂=>wpAny (model X.prog X.w) X.A (inplaceOp op u w) (fun r s₃=>wpAny (model X.prog X.w) X.A (storeName X.env x r) (fun _=>SP X pins D .next) X.xe s₃) X.xe s₂) X.xe s:=by
  refine thn (he pins s σ H _ I h) fun w s1 hh=>?_
  obtain⟨y,H1,I1,r1,q1⟩:=hh
  refine thn (ho pins s1 σ H1 v y u w _ I1 r r1 q1) fun z s2 hh=>?_
  obtain⟨zv,H2,I2,r2,q2⟩:=hh
  exact GY I2 hN hi hx r2 (fun s3 I3=>#[_,H2,I3,q2]) hf
 rcases l with⟨hk,hm⟩|⟨hk,c,hc,hcell⟩
 .exact wpAny_loadName_local I.ok.kind hk hn hm go
 .rcases hk with hk|hk
  .exact wpAny_loadName_cell I.ok.kind hk hc hcell go
  .rcases hx with k|k
   .have:X.env.scope.names.lookup x=some .free:=hk
    rw[k] at this;cases this
   .have:X.env.scope.names.lookup x=some .free:=hk
    rw[k] at this;cases this
def ipI (f:Int->Int->Int):TIp:=fun x y H Q=>∃i j,x=.int i/\y=.int j/\Q (.int (f i j)) H
theorem VT:PIp X .Add (ipI fun i j=>i+j):=by
 intro pins s σ H x y v u Q I r1 r2 h
 obtain⟨i,j,e1,e2,q⟩:=h
 subst e1;subst e2
 obtain⟨t,rfl⟩:=r1
 obtain⟨t',rfl⟩:=r2
 exact iadd_int #[.int _,H,I.tok _,#[_,rfl],q]
end
section
variable {X:Cx}{pos:Pos}
def Ve (c:TT)(tb:TS):TS:=fun D σ H=>∃W:Nat->St->Hp->Prop,(∃m,W m σ H)/\∀m σ H,W m σ H ->
 c σ H fun b H1=>if b=true then ∃N:St->Hp->Prop,(∀σ' H',N σ' H'->∃m',m'<m/\W m' σ' H')/\tb { D with nx:=N,ct:=N,bk:=D.nx } σ H1 else D.nx σ H1
theorem RN {c:Expr}{body:List Stmt}{tc:TT}{tb:TS}(hp:PassesOwn (model X.prog X.w) X.A X.env X.xe) (hc:PT X c tc) (hb:PSs X body tb):PS X (.While c body [] pos) (Ve tc tb):=by
 intro pins s σ H D I h
 obtain⟨W,⟨m0,w0⟩,turn⟩:=h
 refine wpAny_While (codeAny_whileLoop (fun n s'=>∃σ' H',Inv X pins σ' H' s'/\W n σ' H') ?_ m0 #[σ,H,I,w0])
 rintro n s1 ⟨σ1,H1,I1,w1⟩
 refine wpAny_passesOwn hp (thn (hc pins s1 σ1 H1 _ I1 (turn n σ1 H1 w1)) fun b s2 hh=>?_)
 obtain⟨H2,I2,q2⟩:=hh
 cases b with
 |true =>
  obtain⟨N,hN,q2⟩:=q2
  rw[if_pos rfl]
  refine wpAny_passesOwn hp (thn (hb pins s2 σ1 H2 _ I2 q2) fun f s3 q3=>?_)
  cases f with
  |next =>
   obtain⟨σ3,H3,I3,n3⟩:=q3
   obtain⟨m',hm,w3⟩:=hN σ3 H3 n3
   exact#[m',hm,σ3,H3,I3,w3]
  |cont =>
   obtain⟨σ3,H3,I3,n3⟩:=q3
   obtain⟨m',hm,w3⟩:=hN σ3 H3 n3
   exact#[m',hm,σ3,H3,I3,w3]
  |brk=>exact q3
  |ret v=>exact q3
 |false =>
  rw[if_neg qAm]
  exact wpAny_execs_nil #[σ1,H2,I2,q2]
end
structure It where
 go:Nat->Hp->Prop
 yld:Nat->Hp->V->Hp->Prop
 stop:Nat->Hp->Prop
def NS (X:Cx)(pins:List (Addr×Obj))(H:Hp)(b:Addr):Prop :=
 H b=none/\b≠X.env.locals/\b∉X.fs/\(b∈X.ex\/X.s₀.heap.objs.size<=b)/\(∀x c,X.env.cells.lookup x=some c->c≠b)/\∀p∈X.pn++pins,p.1≠b
theorem Inv.fpOk {X:Cx}{pins:List (Addr×Obj)}{σ:St}{H H':Hp}{s:Shared}{b:Addr}(I:Inv X pins σ H s) (hb:s.heap.objs.size<=b) (hn:H' b=none):NS X pins H' b:=by
 refine#[hn,qBg (qAq I.lt hb),I.nofs hb,.inr (qAL I.sz hb),fun x c e z=>?_,fun p hp z=>?_]
 .obtain⟨v,q⟩:=I.cell x c e
  exact absurd (qAq q.lt (by rw[z];exact hb)) (qA4 _)
 .exact absurd (qAq (qAh (I.pin p hp).1) (by rw[z];exact hb)) (qA4 _)
structure Qv (P:Program)(w:World)(K:W.Frag)(tg:Expr)(J:It)(fp:List Addr)(it:Addr)(tn:Nat->Heap->Prop):Prop where
 mem:it∈fp
 obj:∀i h,tn i h->∀b∈fp,∃o,h.get? b=some o/\∀v,o.data≠.cell v
 keep:∀i h h',tn i h->(∀b∈fp,∀o,h.get? b=some o->h'.get? b=some o)->tn i h'
 item:∀(X:Cx),X.prog=P->X.w=w->X.K=K->X.calm=true->∀(i:Nat)(pins:List (Addr×Obj))(s:Shared)(σ:St)(H:Hp)(E:Value->Shared->Prop),Inv X pins σ H s->(∀b∈fp,NS X pins H b)->tn i s.heap->J.go i H ->
  wpAny (model P w) X.A (pyNext (.ref it)) (fun r s1=>∃u,r=some u /\
   wpAny (model P w) X.A (letOwnedTupleGo tg (.ref it) u) (fun _ s2=>∃x H',Inv X pins σ H' s2/\CA x u/\J.yld i H x H'/\tn (i+1) s2.heap/\∀b∈fp,H' b=none) E s1) E s
 done:∀(X:Cx),X.prog=P->X.w=w->X.K=K->X.calm=true->∀(i:Nat)(pins:List (Addr×Obj))(s:Shared)(σ:St)(H:Hp)(E:Value->Shared->Prop),Inv X pins σ H s->(∀b∈fp,NS X pins H b)->tn i s.heap->J.stop i H ->
  wpAny (model P w) X.A (pyNext (.ref it)) (fun r s1=>r=none/\Inv X pins σ H s1) E s
 self:∀(A:Around)(i:Nat)(s:Shared)(Q:Value->Shared->Prop)(E:Value->Shared->Prop),tn i s.heap->Q (.ref it) s->wpAny (model P w) A (pyIter (.ref it)) Q E s
abbrev TI:=St->Hp->(It->Hp->Prop)->Prop
def PIE (X:Cx)(pins:List (Addr×Obj))(σ:St)(tg:Expr)(R:It->Hp->Prop)(itv:Value)(s2:Shared):Prop :=
 ∃(it:Addr)(fp:List Addr)(tn:Nat->Heap->Prop)(J:It)(H':Hp),itv=.ref it/\Inv X pins σ H' s2/\Qv X.prog X.w X.K tg J fp it tn/\tn 0 s2.heap/\(∀b∈fp,NS X pins H' b)/\R J H'
def PI (X:Cx)(tg iter:Expr)(wi:TI):Prop :=
 ∀(pins:List (Addr×Obj))(s:Shared)(σ:St)(H:Hp)(R:It->Hp->Prop),Inv X pins σ H s->wi σ H R ->
  wpAny (model X.prog X.w) X.A (eval iter X.env) (fun v s1=>wpAny (model X.prog X.w) X.A (pyIter v) (PIE X pins σ tg R) X.xe s1) X.xe s
theorem Ro {M:Model}{A:Around}{E:Value->Shared->Prop}{s:Shared}{tg:Expr}{it:Addr}{u:Value}{o:Obj}{n:String}{vs:Array Value}{Q:Unit->Shared->Prop}(ho:s.heap.get? it=some o) (hc:o.cls=.type n) (hd:o.data=.fields vs)
 (hn:["enumerate","zip","dict_itemiterator","dict_reverseitemiterator","odict_iterator","itertools.zip_longest","itertools.pairwise"].contains n=false) (hQ:Q Unit.unit s):wpAny M A (letOwnedTupleGo tg (.ref it) u) Q E s:=by
 unfold letOwnedTupleGo
 cases tg<;>first
  |exact wpAny_pure hQ
  |(cases u<;>first
   |exact wpAny_pure hQ
   |(refine wpAny_bind (wpAny_load ho ?_)
     rw[hc,hd]
     show wpAny M A (if (["enumerate","zip","dict_itemiterator","dict_reverseitemiterator","odict_iterator","itertools.zip_longest","itertools.pairwise"].contains n&&vs[0]? == some (rawInt _))=true then _ else _) Q E s
     rw[if_neg (by intro h;rw[hn,Bool.false_and] at h;cases h)]
     exact wpAny_pure hQ))
def Itl (K:W.Frag)(a:Addr):It :=
 #[fun i H=>∃xs x,SqL K H a xs/\xs[i]? = some x,fun i H x H'=>H'=H/\∀xs,SqL K H a xs->xs[i]? = some x,fun i H=>∃xs,SqL K H a xs/\xs.length<=i]
def Itt (K:W.Frag)(a:Addr):It :=
 #[fun i H=>∃xs x,SqT K H a xs/\xs[i]? = some x,fun i H x H'=>H'=H/\∀xs,SqT K H a xs->xs[i]? = some x,fun i H=>∃xs,SqT K H a xs/\xs.length<=i]
def Itr (lo:Int)(n:Nat):It:=#[fun i _=>i<n,fun i H x H'=>H'=H/\x=.int (lo+i),fun i _=>n<=i]
theorem OQ {P:Program}{w:World}{K:W.Frag}{tg:Expr}(a it:Addr):Qv P w K tg (Itl K a) [it] it (fun i h=>h.IsListIter it a i) where
 mem:=by simp
 obj:=fun i h st b hb=>by
  have e:b=it:=by simpa using hb
  subst e
  obtain⟨o,e,c,d⟩:=st
  exact#[o,e,fun v z=>by rw[d] at z;cases z]
 keep:=fun i h h' st k=>st.at fun o e=>k it (by simp) o e
 item:=by
  intro X hP hw hK hc i pins s σ H E I hf st hg
  subst hP hw hK
  obtain⟨xs,x,hq,hx⟩:=hg
  obtain⟨its,rv,p,hz⟩:=I.list hq
  obtain⟨u,hu,ru⟩:=rv.get hx
  obtain⟨f0,f1,f2,f3,f4,f5⟩:=hf it (by simp)
  refine wpAny_pyNext_list_item st p.isList (x:=u) (by simpa using hu) fun h' st' sb=>?_
  have I1:Inv X pins σ H { s with heap:=h' }:=I.turned (t':=s.toks) (fun b o hb e=>(sb.2 b hb).trans e) f0 f1 f3 f4 f5
  obtain⟨o,e,c,d⟩:=id st'
  exact#[u,rfl,Ro (s:={ s with heap:=h' }) e c d ∅ #[x,H,I1,ru,#[rfl,fun ys hy=>by rw[I.list_inj hy hq];exact hx],st',fun b hb=>(hf b hb).1]]
 done:=by
  intro X hP hw hK hc i pins s σ H E I hf st hg
  subst hP hw hK
  obtain⟨xs,hq,hx⟩:=hg
  obtain⟨its,rv,p,hz⟩:=I.list hq
  obtain⟨f0,f1,f2,f3,f4,f5⟩:=hf it (by simp)
  have hl:=rv.length
  exact wpAny_pyNext_list_end (I.ok.hd hc) st p.isList (by simp;omega) fun h' eb=>#[rfl,I.turned (t':=s.toks) (fun b o hb e=>eb b o hb e) f0 f1 f3 f4 f5]
 self:=fun _ _ _ _ _ st h=>wpAny_pyIter_listiter st h
theorem N7 {P:Program}{w:World}{K:W.Frag}{tg:Expr}(a it:Addr):Qv P w K tg (Itt K a) [it] it (fun i h=>h.IsTupleIter it a i) where
 mem:=by simp
 obj:=fun i h st b hb=>by
  have e:b=it:=by simpa using hb
  subst e
  obtain⟨o,e,c,d⟩:=st
  exact#[o,e,fun v z=>by rw[d] at z;cases z]
 keep:=fun i h h' st k=>st.at fun o e=>k it (by simp) o e
 item:=by
  intro X hP hw hK hc i pins s σ H E I hf st hg
  subst hP hw hK
  obtain⟨xs,x,hq,hx⟩:=hg
  obtain⟨its,rv,p,hz⟩:=I.tuple hq
  obtain⟨u,hu,ru⟩:=rv.get hx
  obtain⟨f0,f1,f2,f3,f4,f5⟩:=hf it (by simp)
  refine wpAny_pyNext_tuple_item st (show s.heap.IsTuple a its.toArray from p) (x:=u) (by simpa using hu) fun h' st' sb=>?_
  have I1:Inv X pins σ H { s with heap:=h' }:=I.turned (t':=s.toks) (fun b o hb e=>(sb.2 b hb).trans e) f0 f1 f3 f4 f5
  obtain⟨o,e,c,d⟩:=id st'
  exact#[u,rfl,Ro (s:={ s with heap:=h' }) e c d ∅ #[x,H,I1,ru,#[rfl,fun ys hy=>by rw[I.tuple_inj hy hq];exact hx],st',fun b hb=>(hf b hb).1]]
 done:=by
  intro X hP hw hK hc i pins s σ H E I hf st hg
  subst hP hw hK
  obtain⟨xs,hq,hx⟩:=hg
  obtain⟨its,rv,p,hz⟩:=I.tuple hq
  obtain⟨f0,f1,f2,f3,f4,f5⟩:=hf it (by simp)
  have hl:=rv.length
  exact wpAny_pyNext_tuple_end (I.ok.hd hc) st (show s.heap.IsTuple a its.toArray from p) (by simp;omega) fun h' eb=>#[rfl,I.turned (t':=s.toks) (fun b o hb e=>eb b o hb e) f0 f1 f3 f4 f5]
 self:=fun _ _ _ _ _ st h=>wpAny_pyIter_tupleiter st h
theorem N1 {P:Program}{w:World}{K:W.Frag}{tg:Expr}(it:Addr) (lo:Int) (n:Nat):Qv P w K tg (Itr lo n) [it] it (fun i h=>IsRangeIter h it (lo+(i:Nat)*1) ((n:Int)-(i:Nat)) 1) where
 mem:=by simp
 obj:=fun i h st b hb=>by
  have e:b=it:=by simpa using hb
  subst e
  exact#[_,st,fun v z=>by
   have z':Data.fields _=Data.cell v:=z
   cases z']
 keep:=fun i h h' st k=>k it (by simp) _ st
 item:=by
  intro X hP hw hK hc i pins s σ H E I hf st hg
  subst hP hw hK
  obtain⟨f0,f1,f2,f3,f4,f5⟩:=hf it (by simp)
  have W:=Walks.range (prog:=X.prog) (w:=X.w) (I.ok.hd hc) it lo 1 n
  refine W.item i s _ _ hg st fun v h' tk hv st' kk=>?_
  obtain⟨t,rfl⟩:=hv
  have I1:Inv X pins σ H { s with heap:=h',toks:=tk }:=I.turned (fun b o hb e=>kk b o (by simpa using hb) e) f0 f1 f3 f4 f5
  refine#[_,rfl,Ro (s:={ s with heap:=h',toks:=tk }) (n:="range_iterator") st' rfl rfl ∅ #[.int (lo+i),H,I1,#[t,?_],#[rfl,rfl],st',fun b hb=>(hf b hb).1]]
  rw[qCu]
 done:=by
  intro X hP hw hK hc i pins s σ H E I hf st hg
  subst hP hw hK
  obtain⟨f0,f1,f2,f3,f4,f5⟩:=hf it (by simp)
  exact wpAny_pyNext_range_end (I.ok.hd hc) st (by have:n<=i:=hg;omega) fun h' eb=>#[rfl,I.turned (t':=s.toks) (fun b o hb e=>eb b o hb e) f0 f1 f3 f4 f5]
 self:=fun _ _ _ _ _ st h=>wpAny_pyIter_rangeiter st h
section
variable {X:Cx}{tg:Expr}
theorem Nw {pins:List (Addr×Obj)}{σ:St}{H:Hp}{s:Shared}{R:It->Hp->Prop}{E:Value->Shared->Prop}{lo hi:Int}{t u v:Tok}{tk:Nat}(I:Inv X pins σ H s) (h1:-(2^62)<=lo) (h2:lo<2^62) (h3:-(2^62)<=hi) (h4:hi<2^62)
 (q:R (Itr lo (hi-lo).toNat) H):wpAny (model X.prog X.w) X.A (pyIter (.ref s.heap.objs.size)) (PIE X pins σ tg R) E { s with heap:=s.heap.push { cls:=.type "range",data:=.fields (List.toArray [.int lo t,.int hi u,.int 1 v]) },toks:=tk }:=by
 refine wpAny_pyIter_range (IsRange.new ..) (small_one h1 h2 h3 h4) ?_
 have I1:Inv X pins σ H { s with heap:=s.heap.push { cls:=.type "range",data:=.fields (List.toArray [.int lo t,.int hi u,.int 1 v]) },toks:=tk }:=I.kept fun b o e=>qAf _ e
 refine#[(s.heap.push { cls:=.type "range",data:=.fields (List.toArray [.int lo t,.int hi u,.int 1 v]) }).objs.size,[(s.heap.push { cls:=.type "range",data:=.fields (List.toArray [.int lo t,.int hi u,.int 1 v]) }).objs.size],_,_,H,rfl,
  I1.kept (t':=tk) fun b o e=>qAf _ e,N1 _ lo (hi-lo).toNat,?_,fun b hb=>?_,q]
 .have e1:lo+((0:Nat):Int)*1=lo:=by simp
  have e2:(((hi-lo).toNat:Nat):Int)-((0:Nat):Int)=Builtin.Range.rangeSize lo hi 1:=by rw[rangeSize_one];split<;>omega
  show IsRangeIter _ _ (lo+((0:Nat):Int)*1) ((((hi-lo).toNat:Nat):Int)-((0:Nat):Int)) 1
  rw[e1,e2]
  exact qAr _ rfl
 .have e:b=(s.heap.push { cls:=.type "range",data:=.fields (List.toArray [.int lo t,.int hi u,.int 1 v]) }).objs.size:=by simpa using hb
  subst e
  exact I1.fpOk (qAc _) (I1.hok.fresh (qAc _))
def TF (ta:TA):TI:=fun σ H R=>ta σ H fun vs H1=>∃j:Int,vs=[.int j]/\-(2^62)<=j/\j<2^62/\R (Itr 0 j.toNat) H1
def Tq (ta:TA):TI:=fun σ H R=>ta σ H fun vs H1=>∃i j:Int,vs=[.int i,.int j]/\(-(2^62)<=i/\i<2^62/\-(2^62)<=j/\j<2^62)/\R (Itr i (j-i).toNat) H1
theorem Fj {a:Expr}{ta:TA}{p pos:Pos}(hg:Gl X "range") (hm:X.mg "range"=none) (ha:PA X [a] ta) (hs:starEach [a] X.env=[(false,eval a X.env)]:=by rfl):PI X tg (.Call (.Name "range" p) [a] [] pos) (TF ta):=by
 intro pins s σ H R I h
 refine Call_ (G1 I hg hm boot_range (qA0 (thn (ha pos pins s σ H _ I h) fun us s1 #[vs,H1,I1,r1,q1]=>?_) hs rfl))
 obtain⟨j,e,q1,q2,q⟩:=q1
 subst e
 cases r1 with
 |cons r rr =>
  cases rr
  obtain⟨t,rfl⟩:=r
  exact call_range_1 (Nw I1 () () q1 q2 (by simpa using q))
theorem DG {a b:Expr}{ta:TA}{p pos:Pos}(hg:Gl X "range") (hm:X.mg "range"=none) (ha:PA X [a,b] ta) (hs:starEach [a,b] X.env=[(false,eval a X.env),(false,eval b X.env)]:=by rfl) (hs2:starEach [b] X.env=[(false,eval b X.env)]:=by rfl) :
 PI X tg (.Call (.Name "range" p) [a,b] [] pos) (Tq ta):=by
 intro pins s σ H R I h
 refine Call_ (G1 I hg hm boot_range (qA0 (thn (ha pos pins s σ H _ I h) fun us s1 #[vs,H1,I1,r1,q1]=>?_) (by rw[hs,hs2]) (by rw[hs2];rfl)))
 obtain⟨i,j,e,⟨q1,q2,q3,q4⟩,q⟩:=q1
 subst e
 cases r1 with
 |cons r rr =>
  cases rr with
  |cons r' rr =>
   cases rr
   obtain⟨t,rfl⟩:=r
   obtain⟨t',rfl⟩:=r'
   exact call_range_2 (Nw I1 q1 q2 q3 q4 q)
def Qx (wi:TI)(g:TG)(tb:TS):TS:=fun D σ H=>wi σ H fun J H1=>∃W:Nat->Nat->St->Hp->Prop,(∃m,W 0 m σ H1)/\∀i m σ H,W i m σ H ->
 (J.stop i H/\D.nx σ H)\/(J.go i H/\∃N:St->Hp->Prop,(∀σ' H',N σ' H'->∃m',m'<m/\W (i+1) m' σ' H')/\∀x H',J.yld i H x H'->g x σ H' fun σ2 H2=>tb { D with nx:=N,ct:=N,bk:=D.nx } σ2 H2)
def JT (fp:List Addr)(h:Heap):List (Addr×Obj):=fp.filterMap fun b=>(h.get? b).map fun o=>(b,o)
theorem Dw {fp:List Addr}{h:Heap}{b:Addr}{o:Obj}(hb:b∈fp) (e:h.get? b=some o):(b,o)∈JT fp h:=qBR.mpr #[b,hb,by rw[e];rfl]
theorem Ow {fp:List Addr}{h:Heap}{p:Addr×Obj}(hp:p∈JT fp h):p.1∈fp/\h.get? p.1=some p.2:=by
 obtain⟨b,hb,e⟩:=qBR.mp hp
 cases q:h.get? b with
 |none=>rw[q] at e;cases e
 |some o =>
  rw[q] at e
  have e':(b,o)=p:=qAl e
  subst e'
  exact#[hb,q]
theorem Inv.pinned {pins:List (Addr×Obj)}{σ:St}{H:Hp}{s:Shared}{fp:List Addr}(I:Inv X pins σ H s) (hf:∀b∈fp,NS X pins H b) (ho:∀b∈fp,∃o,s.heap.get? b=some o/\∀v,o.data≠.cell v):Inv X (pins++JT fp s.heap) σ H s :=
 I.pins_of fun p hp=>(qAA.mp hp).elim (fun z=>I.pin p (qAB _ z)) fun z=>by
  obtain⟨hb,e⟩:=Ow z
  obtain⟨f0,f1,f2,_⟩:=hf p.1 hb
  obtain⟨o,e',d⟩:=ho p.1 hb
  rw[e] at e';cases e'
  exact#[e,f0,f1,f2,d]
theorem Inv.unpinned {pins pl:List (Addr×Obj)}{σ:St}{H:Hp}{s:Shared}(I:Inv X (pins++pl) σ H s):Inv X pins σ H s:=I.pins_of fun p hp=>I.pin p (qAB _ (qAJ _ hp))
theorem BP {iter:Expr}{body:List Stmt}{wi:TI}{g:TG}{tb:TS}{pos:Pos}(hp:PassesOwn (model X.prog X.w) X.A X.env X.xe) (hc:X.calm=true) (hi:PI X tg iter wi) (hg:PG X tg g) (hb:PSs X body tb)
 (hs:∀x,foldedSetIterable iter X.env x=pure x:=by intro _;rfl):PS X (.For tg iter body [] pos) (Qx wi g tb):=by
 intro pins s σ H D I h
 refine wpAny_For (thn (hi pins s σ H _ I h) fun v s1 h1=>thn h1 fun itv s2 h2=>?_) hs
 obtain⟨it,fp,tn,J,H2,e,I2,T,st2,f2,W,⟨m0,w0⟩,turn⟩:=h2
 subst e
 have stat:∀{H':Hp},(∀b∈fp,H' b=none)->∀b∈fp,NS X pins H' b:=fun hn b hb=>#[hn b hb,(f2 b hb).2]
 refine codeAny_forLoop_any (fun n s'=>∃i σ' H',Inv X pins σ' H' s'/\tn i s'.heap/\(∀b∈fp,H' b=none)/\W i n σ' H') ?_ m0 #[0,σ,H2,I2,st2,fun b hb=>(f2 b hb).1,w0]
 rintro n s3 ⟨i,σ3,H3,I3,st3,fr3,w3⟩
 rcases turn i n σ3 H3 w3 with⟨stop,qn⟩|⟨go,N,hN,step⟩
 .refine wpAny_passesOwn hp (thn (T.done X rfl rfl rfl hc i pins s3 σ3 H3 X.xe I3 (stat fr3) st3 stop) fun r s4 hh=>?_)
  obtain⟨hr,I4⟩:=hh
  subst hr
  exact wpAny_execs_nil #[σ3,H3,I4,qn]
 .refine wpAny_passesOwn hp (thn (T.item X rfl rfl rfl hc i pins s3 σ3 H3 X.xe I3 (stat fr3) st3 go) fun r s4 hh=>?_)
  obtain⟨u,hr,h4⟩:=hh
  subst hr
  refine wpAny_passesOwn hp (thn h4 fun _ s5 hh=>?_)
  obtain⟨x,H5,I5,r5,y5,st5,fr5⟩:=hh
  have I5':=I5.pinned (stat fr5) (T.obj _ _ st5)
  refine wpAny_passesOwn hp (thn (hg _ s5 σ3 H5 x u _ I5' r5 (step x H5 y5)) fun _ s6 hh=>?_)
  obtain⟨σ6,H6,I6,q6⟩:=hh
  refine wpAny_passesOwn hp (thn (hb _ s6 σ6 H6 _ I6 q6) fun f s7 q7=>?_)
  have again:∀{σ7:St}{H7:Hp},Inv X (pins++JT fp s5.heap) σ7 H7 s7->N σ7 H7->∃m,m<n/\∃i σ' H',Inv X pins σ' H' s7/\tn i s7.heap/\(∀b∈fp,H' b=none)/\W i m σ' H':=fun {σ7 H7} I7 n7=>by
   obtain⟨m',hm,w7⟩:=hN σ7 H7 n7
   refine#[m',hm,i+1,σ7,H7,I7.unpinned,T.keep _ _ _ st5 fun b hb o e=>(I7.pin (b,o) (qAB _ (qAB _ (Dw hb e)))).1,fun b hb=>?_,w7]
   obtain⟨o,e,d⟩:=T.obj _ _ st5 b hb
   exact(I7.pin (b,o) (qAB _ (qAB _ (Dw hb e)))).2.1
  cases f with
  |next=>obtain⟨σ7,H7,I7,n7⟩:=q7;exact again I7 n7
  |cont=>obtain⟨σ7,H7,I7,n7⟩:=q7;exact again I7 n7
  |brk=>obtain⟨σ7,H7,I7,q7⟩:=q7;exact#[σ7,H7,I7.unpinned,q7]
  |ret v=>obtain⟨x7,σ7,H7,I7,r7,q7⟩:=q7;exact#[x7,σ7,H7,I7.unpinned,r7,q7]
end
theorem MO {K:W.Frag}{a:Addr}{xs:List V}{g:TG}{tb:TS}{D:Nc}{σ:St}{H:Hp}(Pv:Nat->St->Hp->Prop) (h0:Pv 0 σ H) (hl:∀i σ H,i<=xs.length->Pv i σ H->SqL K H a xs)
 (hs:∀i x σ H,xs[i]? = some x->Pv i σ H->g x σ H fun σ2 H2=>tb { D with nx:=Pv (i+1),ct:=Pv (i+1),bk:=D.nx } σ2 H2) (hd:∀σ H,Pv xs.length σ H->D.nx σ H) :
 ∃W:Nat->Nat->St->Hp->Prop,(∃m,W 0 m σ H)/\∀i m σ H,W i m σ H ->
  ((Itl K a).stop i H/\D.nx σ H)\/((Itl K a).go i H/\∃N:St->Hp->Prop,(∀σ' H',N σ' H'->∃m',m'<m/\W (i+1) m' σ' H')/\∀x H',(Itl K a).yld i H x H'->g x σ H' fun σ2 H2=>tb { D with nx:=N,ct:=N,bk:=D.nx } σ2 H2):=by
 refine#[fun i m σ H=>m=xs.length-i/\i<=xs.length/\Pv i σ H,#[xs.length,by simp,qA3 _,h0],?_]
 rintro i m σ H ⟨rfl,hi,p⟩
 have q:=hl i σ H hi p
 by_cases hlt:i<xs.length
 .refine .inr #[#[xs,xs[i],q,by simp[hlt]],Pv (i+1),fun σ' H' p'=>#[xs.length-(i+1),(),rfl,hlt,p'],fun x H' y=>?_]
  obtain⟨e,y⟩:=y
  subst e
  exact hs i x σ _ (y xs q) p
 .have e:i=xs.length:=()
  subst e
  exact .inl #[#[xs,q,qAc _],hd σ H p]
theorem T7 {K:W.Frag}{a:Addr}{xs:List V}{g:TG}{tb:TS}{D:Nc}{σ:St}{H:Hp}(Pv:Nat->St->Hp->Prop) (h0:Pv 0 σ H) (hl:∀i σ H,i<=xs.length->Pv i σ H->SqT K H a xs)
 (hs:∀i x σ H,xs[i]? = some x->Pv i σ H->g x σ H fun σ2 H2=>tb { D with nx:=Pv (i+1),ct:=Pv (i+1),bk:=D.nx } σ2 H2) (hd:∀σ H,Pv xs.length σ H->D.nx σ H) :
 ∃W:Nat->Nat->St->Hp->Prop,(∃m,W 0 m σ H)/\∀i m σ H,W i m σ H ->
  ((Itt K a).stop i H/\D.nx σ H)\/((Itt K a).go i H/\∃N:St->Hp->Prop,(∀σ' H',N σ' H'->∃m',m'<m/\W (i+1) m' σ' H')/\∀x H',(Itt K a).yld i H x H'->g x σ H' fun σ2 H2=>tb { D with nx:=N,ct:=N,bk:=D.nx } σ2 H2):=by
 refine#[fun i m σ H=>m=xs.length-i/\i<=xs.length/\Pv i σ H,#[xs.length,by simp,qA3 _,h0],?_]
 rintro i m σ H ⟨rfl,hi,p⟩
 have q:=hl i σ H hi p
 by_cases hlt:i<xs.length
 .refine .inr #[#[xs,xs[i],q,by simp[hlt]],Pv (i+1),fun σ' H' p'=>#[xs.length-(i+1),(),rfl,hlt,p'],fun x H' y=>?_]
  obtain⟨e,y⟩:=y
  subst e
  exact hs i x σ _ (y xs q) p
 .have e:i=xs.length:=()
  subst e
  exact .inl #[#[xs,q,qAc _],hd σ H p]
theorem LY {lo:Int}{n:Nat}{g:TG}{tb:TS}{D:Nc}{σ:St}{H:Hp}(Pv:Nat->St->Hp->Prop) (h0:Pv 0 σ H)
 (hs:∀i σ H,i<n->Pv i σ H->g (.int (lo+i)) σ H fun σ2 H2=>tb { D with nx:=Pv (i+1),ct:=Pv (i+1),bk:=D.nx } σ2 H2) (hd:∀σ H,Pv n σ H->D.nx σ H) :
 ∃W:Nat->Nat->St->Hp->Prop,(∃m,W 0 m σ H)/\∀i m σ H,W i m σ H ->
  ((Itr lo n).stop i H/\D.nx σ H)\/((Itr lo n).go i H/\∃N:St->Hp->Prop,(∀σ' H',N σ' H'->∃m',m'<m/\W (i+1) m' σ' H')/\∀x H',(Itr lo n).yld i H x H'->g x σ H' fun σ2 H2=>tb { D with nx:=N,ct:=N,bk:=D.nx } σ2 H2):=by
 refine#[fun i m σ H=>m=n-i/\i<=n/\Pv i σ H,#[n,by simp,qA3 _,h0],?_]
 rintro i m σ H ⟨rfl,hi,p⟩
 by_cases hlt:i<n
 .refine .inr #[hlt,Pv (i+1),fun σ' H' p'=>#[n-(i+1),(),rfl,hlt,p'],fun x H' y=>?_]
  obtain⟨e,y⟩:=y
  subst e y
  exact hs i σ _ hlt p
 .have e:i=n:=()
  subst e
  exact .inl #[qAc _,hd σ H p]
abbrev R2:=V->V->Hp->VK->Prop
def OpR (X:Cx)(f:Value->Value->Sem Value)(r:R2):Prop :=
 ∀(pins:List (Addr×Obj))(s:Shared)(σ:St)(H:Hp)(x y:V)(v u:Value)(Q:VK),Inv X pins σ H s->CA x v->CA y u->r x y H Q ->
  wpAny (model X.prog X.w) X.A (f v u) (EP X pins σ Q) X.xe s
def UnR (X:Cx)(f:Value->Sem Value)(r:V->Hp->VK->Prop):Prop :=
 ∀(pins:List (Addr×Obj))(s:Shared)(σ:St)(H:Hp)(x:V)(v:Value)(Q:VK),Inv X pins σ H s->CA x v->r x H Q ->
  wpAny (model X.prog X.w) X.A (f v) (EP X pins σ Q) X.xe s
def Hj (X:Cx)(f:Value)(r:List V->Hp->VK->Prop):Prop :=
 ∀(pins:List (Addr×Obj))(s:Shared)(σ:St)(H:Hp)(xs:List V)(us:List Value)(Q:VK),Inv X pins σ H s->CK xs us->r xs H Q ->
  wpAny (model X.prog X.w) X.A (call f us) (EP X pins σ Q) X.xe s
def YN (X:Cx)(r:V->Hp->(Bool->Hp->Prop)->Prop):Prop :=
 ∀(pins:List (Addr×Obj))(s:Shared)(σ:St)(H:Hp)(x:V)(v:Value)(Q:Bool->Hp->Prop),Inv X pins σ H s->CA x v->r x H Q ->
  wpAny (model X.prog X.w) X.A (truthy v) (TP X pins σ Q) X.xe s
def tOp (r:R2)(ta tb:TE):TE:=fun σ H Q=>ta σ H fun x H1=>tb σ H1 fun y H2=>r x y H2 Q
def tUn (r:V->Hp->VK->Prop)(ta:TE):TE:=fun σ H Q=>ta σ H fun x H1=>r x H1 Q
def rI (C:Int->Int->Prop)(g:Int->Int->V):R2:=fun x y H Q=>∃i j,x=.int i/\y=.int j/\C i j/\Q (g i j) H
def rI0 (g:Int->Int->V):R2:=fun x y H Q=>∃i j,x=.int i/\y=.int j/\Q (g i j) H
def rU (g:Int->V):V->Hp->VK->Prop:=fun x H Q=>∃i,x=.int i/\Q (g i) H
section
variable {X:Cx}{a b c:Expr}{ta tb tc:TE}{pos:Pos}
theorem Xb (ha:PE X a ta)(hb:PE X b tb){pins:List (Addr×Obj)}{s:Shared}{σ:St}{H:Hp}{R:V->V->Hp->Prop}(I:Inv X pins σ H s)
 (h:ta σ H fun x H1=>tb σ H1 fun y H2=>R x y H2){Q:Value->Shared->Prop}{f:Value->Value->Sem Value}
 (hf:∀v u s2 x y H2,Inv X pins σ H2 s2->CA x v->CA y u->R x y H2->wpAny (model X.prog X.w) X.A (f v u) Q X.xe s2) :
 wpAny (model X.prog X.w) X.A (eval a X.env) (fun v s₁=>wpAny (model X.prog X.w) X.A (eval b X.env) (fun u s₂=>wpAny (model X.prog X.w) X.A (f v u) Q X.xe s₂) X.xe s₁) X.xe s:=by
 refine thn (ha pins s σ H _ I h) fun v s1 hh=>?_
 obtain⟨x,H1,I1,r1,q1⟩:=hh
 refine thn (hb pins s1 σ H1 _ I1 q1) fun u s2 hh=>?_
 obtain⟨y,H2,I2,r2,q2⟩:=hh
 exact hf v u s2 x y H2 I2 r1 r2 q2
theorem Uy {op:Operator}{r:R2}(ho:OpR X (binaryOp op) r) (ha:PE X a ta) (hb:PE X b tb):PE X (.BinOp a op b pos) (tOp r ta tb):=by
 intro pins s σ H Q I h
 exact wpAny_BinOp (Xb ha hb I h fun v u s2 x y H2 I2 rx ry q=>ho pins s2 σ H2 x y v u Q I2 rx ry q)
theorem XE {op:UnaryOp}{r:V->Hp->VK->Prop}(ho:UnR X (unaryOp op) r) (ha:PE X a ta):PE X (.UnaryOp op a pos) (tUn r ta):=by
 intro pins s σ H Q I h
 exact UnaryOp_ (thn (ha pins s σ H _ I h) fun v s1 #[x,H1,I1,r1,q1]=>ho pins s1 σ H1 x v Q I1 r1 q1)
theorem opI {f:Value->Value->Sem Value}{C:Int->Int->Prop}{g:Int->Int->Int}
 (rule:∀(i j:Int)(t u:Tok)(s:Shared)(Q:Value->Shared->Prop)(E:Value->Shared->Prop),C i j->Q (.int (g i j) s.toks) { s with toks:=s.toks+1 }->wpAny (model X.prog X.w) X.A (f (.int i t) (.int j u)) Q E s) :
 OpR X f (rI C fun i j=>.int (g i j)):=by
 intro pins s σ H x y v u Q I rx ry h
 obtain⟨i,j,rfl,rfl,hc,q⟩:=h
 obtain⟨t,rfl⟩:=rx
 obtain⟨t',rfl⟩:=ry
 exact rule i j t t' s _ _ hc #[.int (g i j),H,I.tok _,#[_,rfl],q]
theorem Yb {f:Value->Value->Sem Value}{g:Int->Int->Int}
 (rule:∀(i j:Int)(t u:Tok)(s:Shared)(Q:Value->Shared->Prop)(E:Value->Shared->Prop),Q (.int (g i j) s.toks) { s with toks:=s.toks+1 }->wpAny (model X.prog X.w) X.A (f (.int i t) (.int j u)) Q E s) :
 OpR X f (rI0 fun i j=>.int (g i j)):=by
 intro pins s σ H x y v u Q I rx ry h
 obtain⟨i,j,rfl,rfl,q⟩:=h
 obtain⟨t,rfl⟩:=rx
 obtain⟨t',rfl⟩:=ry
 exact rule i j t t' s _ _ #[.int (g i j),H,I.tok _,#[_,rfl],q]
theorem XW {f:Value->Value->Sem Value}{g:Int->Int->Bool}
 (rule:∀(i j:Int)(t u:Tok)(s:Shared)(Q:Value->Shared->Prop)(E:Value->Shared->Prop),Q (.bool (g i j)) s->wpAny (model X.prog X.w) X.A (f (.int i t) (.int j u)) Q E s) :
 OpR X f (rI0 fun i j=>.bl (g i j)):=by
 intro pins s σ H x y v u Q I rx ry h
 obtain⟨i,j,rfl,rfl,q⟩:=h
 obtain⟨t,rfl⟩:=rx
 obtain⟨t',rfl⟩:=ry
 exact rule i j t t' s _ _ #[.bl (g i j),H,I,rfl,q]
def Yh (i j:Int):Prop:=0<=j/\j<=1000000/\i.natAbs<2^64
theorem Sd:OpR X (binaryOp .Add) (rI0 fun i j=>.int (i+j)):=Yb fun _ _ _ _ _ _ _ q=>add_int q
theorem VR:OpR X (binaryOp .Sub) (rI0 fun i j=>.int (i-j)):=Yb fun _ _ _ _ _ _ _ q=>sub_int q
theorem S9:OpR X (binaryOp .Mod) (rI (fun _ j=>j≠0) fun i j=>.int (i.fmod j)):=opI fun _ _ _ _ _ _ _ hc q=>mod_int' hc q
theorem VX:OpR X (binaryOp .Pow) (rI Yh fun i j=>.int (i^j.toNat)):=opI fun _ _ _ _ _ _ _ hc q=>pow_int_small hc.1 hc.2.1 hc.2.2 q
theorem unI {f:Value->Sem Value}{g:Int->Int}
 (rule:∀(i:Int)(t:Tok)(s:Shared)(Q:Value->Shared->Prop)(E:Value->Shared->Prop),Q (.int (g i) s.toks) { s with toks:=s.toks+1 }->wpAny (model X.prog X.w) X.A (f (.int i t)) Q E s) :
 UnR X f (rU fun i=>.int (g i)):=by
 intro pins s σ H x v Q I rx h
 obtain⟨i,rfl,q⟩:=h
 obtain⟨t,rfl⟩:=rx
 exact rule i t s _ _ #[.int (g i),H,I.tok _,#[_,rfl],q]
theorem Vc:UnR X (unaryOp .USub) (rU fun i=>.int (-i)):=unI fun _ _ _ _ _ q=>neg_int q
end
def X6:V->V->Bool
 |.non,.non=>true|.non,.int _=>true|.int _,.non=>true|.non,.bl _=>true|.bl _,.non=>true|.non,.str _=>true|.str _,.non=>true
 |.int _,.int _=>true|.bl _,.bl _=>true|.str _,.str _=>true|.byt _,.byt _=>true
 |.int _,.str _=>true|.str _,.int _=>true|.bl _,.str _=>true|.str _,.bl _=>true
 |_,_=>false
def rEq:R2:=fun x y H Q=>X6 x y=true/\Q (.bl (decide (x=y))) H
def rNe:R2:=fun x y H Q=>X6 x y=true/\Q (.bl (!decide (x=y))) H
theorem OH {i j:Int}:decide (V.int i=V.int j)=(i==j):=by
 rw[qBC]
 simp
theorem Ss {i j:Bool}:decide (V.bl i=V.bl j)=(i==j):=by
 rw[qBC]
 simp
theorem Qe {i j:Str}:decide (V.str i=V.str j)=(i==j):=by
 rw[qBC]
 simp
theorem Qq {i j:Array UInt8}:decide (V.byt i=V.byt j)=(i.toList==j.toList):=by
 rw[qBC]
 cases i
 cases j
 simp
section
variable {X:Cx}{a b c:Expr}{ta tb tc:TE}{pos:Pos}
theorem Bi {pins:List (Addr×Obj)}{σ:St}{H:Hp}{s:Shared}{Q:VK}{k k':Bool}(I:Inv X pins σ H s) (q:Q (.bl k) H) (e:k=k'):EP X pins σ Q (.bool k') s:=by
 subst e
 exact#[.bl k,H,I,rfl,q]
theorem Xo:OpR X (compareOp .Eq) rEq:=by
 intro pins s σ H x y v u Q I rx ry h
 obtain⟨hs,q⟩:=h
 cases x with
 |non =>
  cases rx
  cases y with
  |non=>cases ry;exact PySem.EqNone.eq_none_none (Bi I q (by simp))
  |bl j=>cases ry;exact PySem.EqNone.eq_none_bool (Bi I q (by simp))
  |int j=>obtain⟨t',rfl⟩:=ry;exact PySem.EqNone.eq_none_int (Bi I q (by simp))
  |str j=>obtain⟨t',rfl⟩:=ry;exact PySem.EqNone.eq_none_str (Bi I q (by simp))
  |_=>exact absurd (show false=true from hs) qAm
 |bl i =>
  cases rx
  cases y with
  |non=>cases ry;exact PySem.EqNone.eq_bool_none (Bi I q (by simp))
  |bl j=>cases ry;exact eq_bool (Bi I q Ss)
  |str j=>obtain⟨t',rfl⟩:=ry;exact PySem.EqMixed.eq_bool_str (Bi I q (by simp))
  |_=>exact absurd (show false=true from hs) qAm
 |int i =>
  obtain⟨t,rfl⟩:=rx
  cases y with
  |non=>cases ry;exact PySem.EqNone.eq_int_none (Bi I q (by simp))
  |int j=>obtain⟨t',rfl⟩:=ry;exact eq_int (Bi I q OH)
  |str j=>obtain⟨t',rfl⟩:=ry;exact PySem.EqMixed.eq_int_str (Bi I q (by simp))
  |_=>exact absurd (show false=true from hs) qAm
 |str i =>
  obtain⟨t,rfl⟩:=rx
  cases y with
  |non=>cases ry;exact PySem.EqNone.eq_str_none (Bi I q (by simp))
  |bl j=>cases ry;exact PySem.EqMixed.eq_str_bool (Bi I q (by simp))
  |int j=>obtain⟨t',rfl⟩:=ry;exact PySem.EqMixed.eq_str_int (Bi I q (by simp))
  |str j=>obtain⟨t',rfl⟩:=ry;exact eq_str (Bi I q Qe)
  |_=>exact absurd (show false=true from hs) qAm
 |byt i =>
  obtain⟨t,rfl⟩:=rx
  cases y with
  |byt j=>obtain⟨t',rfl⟩:=ry;exact W.eq_bytes (Bi I q Qq)
  |_=>exact absurd (show false=true from hs) qAm
 |_=>cases y<;>exact absurd (show false=true from hs) qAm
theorem W9:OpR X (compareOp .NotEq) rNe:=by
 intro pins s σ H x y v u Q I rx ry h
 obtain⟨hs,q⟩:=h
 cases x with
 |non =>
  cases rx
  cases y with
  |non=>cases ry;exact PySem.EqNone.ne_none_none (Bi I q (by simp))
  |bl j=>cases ry;exact PySem.EqNone.ne_none_bool (Bi I q (by simp))
  |int j=>obtain⟨t',rfl⟩:=ry;exact PySem.EqNone.ne_none_int (Bi I q (by simp))
  |str j=>obtain⟨t',rfl⟩:=ry;exact PySem.EqNone.ne_none_str (Bi I q (by simp))
  |_=>exact absurd (show false=true from hs) qAm
 |bl i =>
  cases rx
  cases y with
  |non=>cases ry;exact PySem.EqNone.ne_bool_none (Bi I q (by simp))
  |bl j=>cases ry;exact ne_bool (Bi I q (congrArg not Ss))
  |str j=>obtain⟨t',rfl⟩:=ry;exact PySem.EqMixed.ne_bool_str (Bi I q (by simp))
  |_=>exact absurd (show false=true from hs) qAm
 |int i =>
  obtain⟨t,rfl⟩:=rx
  cases y with
  |non=>cases ry;exact PySem.EqNone.ne_int_none (Bi I q (by simp))
  |int j=>obtain⟨t',rfl⟩:=ry;exact ne_int (Bi I q (congrArg not OH))
  |str j=>obtain⟨t',rfl⟩:=ry;exact PySem.EqMixed.ne_int_str (Bi I q (by simp))
  |_=>exact absurd (show false=true from hs) qAm
 |str i =>
  obtain⟨t,rfl⟩:=rx
  cases y with
  |non=>cases ry;exact PySem.EqNone.ne_str_none (Bi I q (by simp))
  |bl j=>cases ry;exact PySem.EqMixed.ne_str_bool (Bi I q (by simp))
  |int j=>obtain⟨t',rfl⟩:=ry;exact PySem.EqMixed.ne_str_int (Bi I q (by simp))
  |str j=>obtain⟨t',rfl⟩:=ry;exact ne_str (Bi I q (congrArg not Qe))
  |_=>exact absurd (show false=true from hs) qAm
 |byt i =>
  obtain⟨t,rfl⟩:=rx
  cases y with
  |byt j=>obtain⟨t',rfl⟩:=ry;exact W.ne_bytes (Bi I q (congrArg not Qq))
  |_=>exact absurd (show false=true from hs) qAm
 |_=>cases y<;>exact absurd (show false=true from hs) qAm
theorem XN:OpR X (compareOp .Lt) (rI0 fun i j=>.bl (decide (i<j))):=XW fun _ _ _ _ _ _ _ q=>lt_int q
theorem W5:OpR X (compareOp .Gt) (rI0 fun i j=>.bl (decide (j<i))):=XW fun _ _ _ _ _ _ _ q=>gt_int q
theorem Vd:OpR X (compareOp .Is) (fun x y H Q=>y=.non/\Q (.bl (decide (x=.non))) H):=by
 intro pins s σ H x y v u Q I rx ry h
 obtain⟨rfl,q⟩:=h
 cases ry
 refine is_none_gen (Bi I q ?_)
 cases x<;>first
  |(cases rx;rfl)
  |(obtain⟨t,rfl⟩:=rx;rfl)
theorem OpR.or {f:Value->Value->Sem Value}{r r':R2}(h:OpR X f r) (h':OpR X f r'):OpR X f (fun x y H Q=>r x y H Q\/r' x y H Q):=by
 intro pins s σ H x y v u Q I rx ry q
 rcases q with q|q
 .exact h pins s σ H x y v u Q I rx ry q
 .exact h' pins s σ H x y v u Q I rx ry q
theorem HF (b:Expr){op:CmpOp}(h:op≠.In:=by decide) (h2:op≠.NotIn:=by decide):behindInMarks op b=false:=by
 have e1:(op==CmpOp.In)=false:=by cases op<;>first|rfl|exact absurd rfl h
 have e2:(op==CmpOp.NotIn)=false:=by cases op<;>first|rfl|exact absurd rfl h2
 cases b<;>simp[behindInMarks,e1,e2]
theorem Tl {op:CmpOp}{r:R2}(ho:OpR X (compareOp op) r) (ha:PE X a ta) (hb:PE X b tb) (hm:behindInMarks op b=false):PE X (.Compare a [op] [b] pos) (tOp r ta tb):=by
 intro pins s σ H Q I h
 exact wpAny_Compare1 (Xb ha hb I h fun v u s2 x y H2 I2 rx ry q=>ho pins s2 σ H2 x y v u Q I2 rx ry q) hm
def Xi (t:TE):TT:=fun σ H Q=>t σ H fun x H'=>∃k,x=.bl k/\Q k H'
theorem SH {op:CmpOp}{r:R2}(ho:OpR X (compareOp op) r) (ha:PE X a ta) (hb:PE X b tb) (hm:behindInMarks op b=false):PT X (.Compare a [op] [b] pos) (Xi (tOp r ta tb)):=by
 intro pins s σ H Q I h
 refine wpAny_isTrue_Compare1 (thn (ha pins s σ H _ I h) fun v s1 #[x,H1,I1,r1,q1]=>thn (hb pins s1 σ H1 _ I1 q1) fun u s2 #[y,H2,I2,r2,q2] =>
  thn (ho pins s2 σ H2 x y v u _ I2 r1 r2 q2) fun c s3 #[z,H3,I3,r3,k,e,q3]=>?_) hm
 subst e
 cases r3
 exact wpAny_truthy_bool #[H3,I3,q3]
def XU (K:W.Frag)(x:V)(H:Hp)(k:Bool):Prop :=
 match x with
 |.non=>k=false
 |.bl b=>k=b
 |.int i=>k=(i != 0)
 |.str y=>y.length<=sizeLine/\k=((y.length:Int) != 0)
 |.byt y=>y.size<=sizeLine/\k=((y.size:Int) != 0)
 |.ref p=>(∃xs,SqL K H p xs/\k=!xs.isEmpty)\/(∃xs,SqT K H p xs/\k=!xs.isEmpty)\/∃kvs,H p=some (.dK kvs)/\k=!kvs.isEmpty
 |_=>False
theorem Oh {κ:Type}{kvs:List (κ×V)}{vs:List (κ×Value)}(r:KV kvs vs):(!vs.isEmpty)=!kvs.isEmpty:=by
 cases r<;>rfl
theorem JR {xs:List V}{its:List Value}(r:CK xs its):(!its.toArray.isEmpty)=!xs.isEmpty:=by
 cases r<;>simp
theorem MN:(sizeLine:Nat)<2^63:=by rw[sizeLine_eq];decide
theorem Wv:YN X (fun x H Q=>∃k,XU X.K x H k/\Q k H):=by
 intro pins s σ H x v Q I rx h
 obtain⟨k,e,q⟩:=h
 have hl:=MN
 have hs:sizeLine=16777216:=sizeLine_eq
 cases x with
 |non =>
  cases rx
  have e':k=false:=e
  subst e'
  exact truthy_none #[H,I,q]
 |bl b =>
  cases rx
  have e':k=b:=e
  subst e'
  exact wpAny_truthy_bool #[H,I,q]
 |int i =>
  obtain⟨t,rfl⟩:=rx
  have e':k=(i != 0):=e
  subst e'
  exact PySem.P.truthy_int #[H,I,q]
 |str y =>
  obtain⟨t,rfl⟩:=rx
  obtain⟨hy,e'⟩:y.length<=sizeLine/\k=((y.length:Int) != 0):=e
  subst e'
  exact PySem.P.truthy_str () #[H,I.tok _,q]
 |byt y =>
  obtain⟨t,rfl⟩:=rx
  obtain⟨hy,e'⟩:y.size<=sizeLine/\k=((y.size:Int) != 0):=e
  subst e'
  exact W.truthy_bytes () #[H,I.tok _,q]
 |ref p =>
  cases rx
  have e':(∃xs,SqL X.K H p xs/\k=!xs.isEmpty)\/(∃xs,SqT X.K H p xs/\k=!xs.isEmpty)\/∃kvs,H p=some (.dK kvs)/\k=!kvs.isEmpty:=e
  rcases e' with⟨xs,hx,e'⟩|⟨xs,hx,e'⟩|⟨kvs,hx,e'⟩
  .subst e'
   obtain⟨its,r,pl,hz⟩:=I.list hx
   have hlen:=r.length
   exact wpAny_truthy_list pl.isList (by simp only[qAD];omega) #[H,I.tok _,by rw[JR r];exact q]
  .subst e'
   obtain⟨its,r,pl,hz⟩:=I.tuple hx
   have hlen:=r.length
   exact truthy_tuple pl (by simp only[qAD];omega) #[H,I.tok _,by rw[JR r];exact q]
  .subst e'
   obtain⟨hz,hS,vs,r,m⟩:kvs.length<=sizeLine/\(p==sysModules)=false/\∃vs,KV kvs vs/\s.heap.DictOf (MF X.prog X.w) p vs:=I.hok p _ hx
   have hlen:kvs.length=vs.length:=Paired.length r
   exact wpAny_truthy_dict hS m () #[H,I.tok _,by rw[Oh r];exact q]
 |_=>exact(show False from e).elim
theorem MW (ha:PE X a ta)(he:∀whole,isTrue a X.env whole=(do let v <-whole;standAt a.pos;holding [v] (truthy v))) :
 PT X a (fun σ H Q=>ta σ H fun x H'=>∃k,XU X.K x H' k/\Q k H'):=by
 intro pins s σ H Q I h
 exact isTrue_plain (thn (ha pins s σ H _ I h) fun v s1 #[x,H1,I1,r1,q1]=>Wv pins s1 σ H1 x v Q I1 r1 q1) (he _)
theorem Rm {x:V}{us:List Value}(r:CK [x] us):∃u,us=[u]/\CA x u:=by
 cases r with
 |cons r1 r2=>cases r2;exact#[_,rfl,r1]
theorem Ry {x y:V}{us:List Value}(r:CK [x,y] us):∃u w',us=[u,w']/\CA x u/\CA y w':=by
 cases r with
 |cons r1 r2 =>
  cases r2 with
  |cons r3 r4=>cases r4;exact#[_,_,rfl,r1,r3]
theorem QZ:Hj X (.builtin "abs") (fun xs H Q=>∃i,xs=[.int i]/\Q (.int (if i<0 then -i else i)) H):=by
 intro pins s σ H xs us Q I r h
 obtain⟨i,rfl,q⟩:=h
 obtain⟨u,rfl,t,rfl⟩:=Rm r
 exact call_abs_int fun u tk=>#[.int (if i<0 then -i else i),H,I.tok _,#[_,rfl],q]
theorem OO (hc:X.calm=true):Hj X (.builtin "max") (fun xs H Q=>∃i j,xs=[.int i,.int j]/\Q (.int (if j>i then j else i)) H):=by
 intro pins s σ H xs us Q I r h
 obtain⟨i,j,rfl,q⟩:=h
 obtain⟨u,w',rfl,⟨t,rfl⟩,⟨t',rfl⟩⟩:=Ry r
 refine max_two_ints (I.ok.hd hc) fun h' tk k=>#[_,H,I.kept k,?_,q]
 by_cases hj:j>i
 .rw[if_pos hj,if_pos hj];exact#[_,rfl]
 .rw[if_neg hj,if_neg hj];exact#[_,rfl]
theorem OG (hc:X.calm=true):Hj X (.builtin "min") (fun xs H Q=>∃i j,xs=[.int i,.int j]/\Q (.int (if j<i then j else i)) H):=by
 intro pins s σ H xs us Q I r h
 obtain⟨i,j,rfl,q⟩:=h
 obtain⟨u,w',rfl,⟨t,rfl⟩,⟨t',rfl⟩⟩:=Ry r
 refine min_two_ints (I.ok.hd hc) fun h' tk k=>#[_,H,I.kept k,?_,q]
 by_cases hj:j<i
 .rw[if_pos hj,if_pos hj];exact#[_,rfl]
 .rw[if_neg hj,if_neg hj];exact#[_,rfl]
end
structure WV (h:Heap)(x dx C:Addr)(mA:Str->Option Value):Prop where
 obj:h.get? x=some (W.instObj C dx)
 ns:h.Ns1 dx mA
 ne:dx≠x
theorem Qm {h:Heap}{dx:Addr}{mA:Str->Option Value}(n:h.Ns1 dx mA):∃od,h.get? dx=some od/\∀name,W.lookIn name od=some (mA name):=by
 obtain⟨o,es,ep,ho,hd,hk,_,hm⟩:=n
 refine#[o,ho,fun name=>?_]
 have e:=hm name
 unfold nsFind findBy at e
 rw[<-Array.find?_toList] at e
 unfold W.lookIn
 rw[hd]
 dsimp only
 split
 .rename_i y q
  rw[q] at e
  exact congrArg some e
 .rename_i q
  rw[q] at e
  have a:es.toList.any (·.refKey)=false:=by
   rw[List.any_eq_false]
   intro y hy
   obtain⟨z,t,hkey⟩:=hk y (Array.mem_toList_iff.mp hy)
   simp[DictEntry.refKey,hkey]
  have a':¬es.toList.any (·.refKey)=true:=by rw[a];exact qAm
  rw[if_neg a']
  exact congrArg some e
theorem WV.look {h:Heap}{x dx C:Addr}{mA:Str->Option Value}(I:WV h x dx C mA):∃od,W.InstAt h x (W.instObj C dx) C (some od)/\∀name,W.lookIn name od=some (mA name) :=
 let #[od,ho,hl]:=Qm I.ns
 #[od,#[I.obj,rfl,rfl,ho],hl]
section
variable {prog:Program}{w:World}{A:Around}{E:Value->Shared->Prop}{s:Shared}{K:W.Frag}{x dx C f:Addr}{mA:Str->Option Value}{name:Str}{v:Value}
end
section
variable {P:Program}{w:World}{H H':Hp}{h h':Heap}{a C dx:Addr}{fs fs':List (Str×V)}
theorem T5 (hok:HOk P w H h)(e:H a=some (.ins C dx fs)):∃mA,WV h a dx C mA/\(∀f,XM (fs.lookup f) (mA f))/\PySem.Within mA (fs.map (·.1))/\fs.length<=1000/\H dx=some (.own a):=by
 obtain⟨d,z,ne,ob,mA,n,r,q⟩:=(show DC P w H h a (.ins C dx fs) from hok a _ e)
 exact#[mA,#[ob,n,ne],r,q,z,d]
end
structure Cls (K:W.Frag)(C:Addr):Prop where
 pg:W.plainGet K C Str.empty=true
 hd:W.hasDictIn K C=true
 po:W.plainOver K C=true
 sa:W.findIn K (.ref C) "__setattr__"=some (some (.builtin "object.__setattr__"))
theorem Cls.get {K:W.Frag}{C:Addr}(c:Cls K C) (f:Str):W.plainGet K C f=true:=c.pg
section
variable {X:Cx}{pins:List (Addr×Obj)}{σ:St}{H:Hp}{s:Shared}{a C dx:Addr}{fs:List (Str×V)}{f:Str}{v:V}{A:Around}{E:Value->Shared->Prop}
end
section
variable {X:Cx}{o e value:Expr}{f:Str}{pos pos' tpos:Pos}{ta tv:TE}
end
section
variable {X:Cx}{pins:List (Addr×Obj)}{σ:St}{H:Hp}{s:Shared}{A:Around}{E:Value->Shared->Prop}{Q:Value->Shared->Prop}{c:Value}{b:Bool}
inductive Ol (K:W.Frag)(H:Hp):V->Value->Prop where
 |non:Ol K H .non (.type "NoneType")
 |bl (x:Bool):Ol K H (.bl x) (.type "bool")
 |int (i:Int):Ol K H (.int i) (.type "int")
 |str (x:Str):Ol K H (.str x) (.type "str")
 |flt (x:UInt64):Ol K H (.flt x) (.type "float")
 |lst {a:Addr}{xs:List V}(e:H a=some (.lst xs)):Ol K H (.ref a) (.type "list")
 |frz {a:Addr}{o:Obj}{xs:List V}(e:H a=some (.frz o (.lst xs))):Ol K H (.ref a) (.type "list")
 |tup {a:Addr}{xs:List V}(e:H a=some (.tup xs)):Ol K H (.ref a) (.type "tuple")
 |dK {a:Addr}{kvs:List (Key×V)}(e:H a=some (.dK kvs)):Ol K H (.ref a) (.type "dict")
 |dT {a:Addr}{kvs:List (List Key×V)}(e:H a=some (.dT kvs)):Ol K H (.ref a) (.type "dict")
 |ins {a C dx:Addr}{fs:List (Str×V)}(e:H a=some (.ins C dx fs)) (cl:Cls K C) (ha:W.findIn K (.ref C) "__class__"=some (some (.builtin "object.__class__")))
  (hn:W.specialIn K (.builtin "object.__class__") "__get__"=some (some (.builtin "getset_descriptor.__get__"))) (htk:W.takesIn K (.builtin "object.__class__")=some true)
  (hm:W.mroIn K C (.type "object")=some true):Ol K H (.ref a) (.ref C)
theorem GR {x:V}{u t:Value}(I:Inv X pins σ H s) (rx:CA x u) (ty:Ol X.K H x t) (e:W.kitOne X.K t c=some b) (h:∀tk,Q (.bool b) { s with toks:=tk }) :
 wpAny (model X.prog X.w) A (call (.builtin "isinstance") [u,c]) Q E s:=by
 cases ty with
 |non=>cases (show u=Value.none from rx);exact qAP W.kitx_none I.kIn True.intro e (fun z=>nomatch z) h
 |bl y=>cases (show u=Value.bool y from rx);exact qAP W.kitx_bool I.kIn True.intro e (fun z=>nomatch z) h
 |int i=>obtain⟨t,q⟩:=(show ∃t,u=Value.int i t from rx);cases q;exact qAP W.kitx_int I.kIn True.intro e (fun z=>nomatch z) h
 |str y=>obtain⟨t,q⟩:=(show ∃t,u=Value.str y t from rx);cases q;exact qAP W.kitx_str I.kIn True.intro e (fun z=>nomatch z) h
 |flt y=>obtain⟨t,q⟩:=(show ∃t,u=Value.float y t from rx);cases q;exact qAP W.kitx_float I.kIn True.intro e (fun z=>nomatch z) h
 |@lst a xs ea =>
  cases (show u=Value.ref a from rx)
  obtain⟨_,_,n,_,h1⟩:=(show DC X.prog X.w H s.heap a (.lst xs) from I.hok a _ ea)
  exact qAP qBI I.kIn #[_,h1,rfl] e (fun z=>nomatch z) h
 |@frz a ob xs ea =>
  cases (show u=Value.ref a from rx)
  obtain⟨_,_,_,n,_,h1⟩:=(show DC X.prog X.w H s.heap a (.frz ob (.lst xs)) from I.hok a _ ea)
  exact qAP qBI I.kIn #[_,h1,rfl] e (fun z=>nomatch z) h
 |@tup a xs ea =>
  cases (show u=Value.ref a from rx)
  obtain⟨_,_,_,p⟩:=(show DC X.prog X.w H s.heap a (.tup xs) from I.hok a _ ea)
  obtain⟨o,h1,h2,_⟩:=p
  exact qAP W.kitx_tuple I.kIn #[o,h1,h2] e (fun z=>nomatch z) h
 |@dK a kvs ea =>
  cases (show u=Value.ref a from rx)
  obtain⟨_,_,vs,_,p⟩:=(show DC X.prog X.w H s.heap a (.dK kvs) from I.hok a _ ea)
  obtain⟨o,es,ep,h1,h2,_⟩:=p
  exact qAP W.kitx_dict I.kIn #[o,h1,h2.1] e (fun z=>nomatch z) h
 |@dT a kvs ea =>
  cases (show u=Value.ref a from rx)
  obtain⟨_,_,xs,_,o,es,ep,h1,h2,_⟩:=(show DC X.prog X.w H s.heap a (.dT kvs) from I.hok a _ ea)
  exact qAP W.kitx_dict I.kIn #[o,h1,h2.1] e (fun z=>nomatch z) h
 |@ins a C dx fs ea cl ha hn htk hm =>
  cases (show u=Value.ref a from rx)
  obtain⟨mA,O,_⟩:=T5 I.hok ea
  obtain⟨od,J,_⟩:=O.look
  exact qAP (W.kitx_own (cl.get _) cl.hd ha hn htk hm) I.kIn J e (fun z=>nomatch z) h
end
structure E4 (k:Nat)(A:Around):Prop where
 hd:A.handled=none
 dp:A.depth+3*k+5<recursionLimit
 un:A.units+16*k+200<cLine
theorem E4.mono {j k:Nat}{A:Around}(r:E4 k A) (h:j<=k):E4 j A:=#[r.hd,by have:=r.dp;omega,by have:=r.un;omega]
theorem E4.deeper {k:Nat}{A:Around}(r:E4 (k+1) A) (env:Env):E4 k (A.deeper env) :=
 #[r.hd,by have:=r.dp;show A.depth+1+3*k+5<_;omega,by have:=r.un;show A.units+3+16*k+200<_;omega]
theorem E4.depth {k:Nat}{A:Around}(r:E4 k A):A.depth<recursionLimit:=by have:=r.dp;omega
def Xr:TA:=fun _ H Q=>Q [] H
def Om (ta:TE)(tr:TA):TA:=fun σ H Q=>ta σ H fun x H1=>tr σ H1 fun xs H2=>Q (x::xs) H2
section
variable {X:Cx}{e:Expr}{es:List Expr}{te:TE}{t:TA}{pos:Pos}
theorem Bn:PA X [] Xr:=fun _ _ _ _ H Q I h=>Calls.spliced_nil #[[],H,I,.nil,h]
theorem AL (ha:PE X e te)(hr:PA X es t)(hs:starEach (e::es) X.env=(false,eval e X.env)::starEach es X.env:=by rfl):PA X (e::es) (Om te t):=by
 intro pos pins s σ H Q I h
 rw[hs]
 show wpAny _ _ (spliced ((false,eval e X.env)::backTo pos (starEach es X.env))) _ _ s
 refine Calls.spliced_cons (thn (ha pins s σ H _ I h) fun u s1 hh=>?_)
 obtain⟨x,H1,I1,r1,q1⟩:=hh
 exact thn (hr pos pins s1 σ H1 _ I1 q1) fun us s2 #[xs,H2,I2,r2,q2]=>#[x::xs,H2,I2,.cons r1 r2,q2]
def YC (t:TA):TE:=fun σ H Q=>t σ H fun xs H1=>xs.length<=sizeLine/\∀p,H1 p=none->Q (.ref p) (upd H1 p (.tup xs))
theorem Vp {x1}(h:PA X es t):PE X (.Tuple es x1 pos) (YC t):=by
 intro pins s σ H Q I hq
 refine wpAny_Tuple_spliced (thn (h pos pins s σ H _ I hq) fun us s1 #[xs,H1,I1,r,z,q]=>#[by rw[<-r.length];exact z,?_])
 have hf:H1 s1.heap.objs.size=none:=I1.hok.fresh (qAc _)
 refine#[.ref s1.heap.objs.size,upd H1 s1.heap.objs.size (.tup xs),I1.laid (t':=s1.toks) (fun b u e=>qAf _ e) (qAc _) ?_,rfl,q _ hf]
 exact#[z,us,r,#[_,qAr _ rfl,rfl,_,rfl]]
end
abbrev Sp:=List V->Hp->VK->XK->Prop
abbrev CXT:=List Env->Hp->Shared->XK->Value->Shared->Prop
structure Tz (P:Program)(w:World)(K:W.Frag)(mg:Str->Option Value)(base:Heap)(A:Around)(outer:List Env)(s:Shared)(H:Hp):Prop where
 frames:A.frames=some outer
 mod:Mod K mg base
 bs:∀b o,base.get? b=some o->s.heap.get? b=some o/\H b=none
 bsz:base.objs.size<=s.heap.objs.size
 funs:s.heap.FunFrames base outer
 frf:∀b∈frs outer,H b=none
 hok:HOk P w H s.heap
 bare:AllBare s.gens
 tb:TB P K mg base H
def CE (outer:List Env)(P:Program)(w:World)(H:Hp)(s:Shared)(Q:VK)(u:Value)(s':Shared):Prop :=
 ∃v H',s'.os=s.os/\AllBare s'.gens/\Un (frs outer) [] H H' s.heap s'.heap/\HOk P w H' s'.heap/\CA v u/\Q v H'
def CR (CX:CXT)(outer:List Env)(P:Program)(w:World)(H:Hp)(s:Shared)(Q:VK)(E:XK)(r:Result)(s':Shared):Prop :=
 match r with
 |.ok (.ret u)=>CE outer P w H s Q u s'
 |.ok _=>False
 |.error e=>CX outer H s E e s'
structure Az (P:Program)(w:World)(K:W.Frag)(mg:Str->Option Value)(base:Heap)(CX:CXT)(k:Nat)(f:Addr)(fd:FuncData)(ps:List Str)(sp:Sp):Prop where
 len:∀vs H Q E,sp vs H Q E->vs.length=ps.length
 run:∀(A:Around)(outer:List Env)(s:Shared)(H:Hp)(args:Args)(us:List Value)(vs:List V)(Q:VK)(E:XK),E4 k A->Tz P w K mg base A outer s H->BindsTo s fd args (ps.zip us)->CK vs us->sp vs H Q E ->
  codeAny (model P w) A (.call (.ref f) args) (CR CX outer P w H s Q E) s
theorem Az.imp {P:Program}{w:World}{K:W.Frag}{mg:Str->Option Value}{base:Heap}{CX:CXT}{k:Nat}{f:Addr}{fd:FuncData}{ps:List Str}{sp sp':Sp}(F:Az P w K mg base CX k f fd ps sp)
 (h:∀vs H Q E,sp' vs H Q E->sp vs H Q E):Az P w K mg base CX k f fd ps sp' :=
 #[fun vs H Q E q=>F.len vs H Q E (h _ _ _ _ q),fun A outer s H args us vs Q E hr he hb hv hs=>F.run A outer s H args us vs Q E hr he hb hv (h _ _ _ _ hs)]
section
variable {X:Cx}{pins:List (Addr×Obj)}{σ:St}{H:Hp}{s s':Shared}
theorem Inv.env0 (I:Inv X pins σ H s):Tz X.prog X.w X.K X.mg X.base X.A X.stack s H :=
 #[I.ok.frames,I.ok.mod,I.bs,qAL I.ok.bsz I.sz,I.stack,I.stkFree,I.hok,I.bare,I.tb]
theorem Inv.after {Q:VK}{u:Value}(I:Inv X pins σ H s) (h:CE X.stack X.prog X.w H s Q u s'):EP X pins σ Q u s':=by
 obtain⟨v,H',os,bare,un,hok,r,q⟩:=h
 obtain⟨hh,g,d,t,os'⟩:=s'
 obtain rfl:os'=s.os:=os
 exact#[v,H',I.call (h':=hh) (g':=g) (d':=d) (t':=t) (ch:=[]) un hok bare (fun b z=>absurd z (by simp)),r,q]
end
def Xu (sp:Sp)(dvs:List V)(E:XK)(t:TA):TE:=fun σ H Q=>t σ H fun vs H1=>sp (vs++dvs) H1 Q E
def Binds (K:W.Frag)(fd:FuncData)(ps:List Str)(ds:List Value):Prop :=
 ∀(s:Shared)(us:List Value),K.In s.heap->(us++ds).length=ps.length->BindsTo s fd #[us,[]] (ps.zip (us++ds))
theorem Binds.all {K:W.Frag}{fd:FuncData}{ps:List Str}(h:∀us:List Value,us.length=ps.length->bindArgs fd #[us,[]]=pure (ps.zip us)):Binds K fd ps []:=fun s us _ hl=>by
 rw[qBe] at hl ⊢
 exact .of_eq (h us hl)
def Pb (CX:CXT)(X:Cx)(E:XK):Prop:=∀(pins:List (Addr×Obj))(σ:St)(H:Hp)(s:Shared)(e:Value)(s':Shared),Inv X pins σ H s->CX X.stack H s E e s'->X.xe e s'
section
variable {X:Cx}{CX:CXT}{k:Nat}{f C:Addr}{fd:FuncData}{ps:List Str}{sp:Sp}{dvs:List V}{ds:List Value}{E:XK}{x m:Str}{p pos apos:Pos}{e o:Expr}{es:List Expr}{ta:TE}{t:TA}
theorem VV {pins:List (Addr×Obj)}{σ:St}{H:Hp}{s:Shared}{Q:VK}{us:List Value}{vs:List V}(F:Az X.prog X.w X.K X.mg X.base CX k f fd ps sp) (hr:E4 k X.A) (hb:Binds X.K fd ps ds) (hd:CK dvs ds) (hx:Pb CX X E)
 (I:Inv X pins σ H s) (r:CK vs us) (h:sp (vs++dvs) H Q E):wpAny (model X.prog X.w) X.A (call (.ref f) us) (EP X pins σ Q) X.xe s:=by
 have r2:CK (vs++dvs) (us++ds):=r.append hd
 have hl:(us++ds).length=ps.length:=by rw[<-r2.length];exact F.len _ _ _ _ h
 refine wpAny_call (codeAny_mono (F.run X.A X.stack s H #[us,[]] (us++ds) (vs++dvs) Q E hr I.env0 (hb s us I.kIn hl) r2 h) fun r s' hq=>?_)
 cases r with
 |error e=>exact hx pins σ H s e s' I hq
 |ok fl =>
  cases fl with
  |ret u=>exact I.after hq
  |next=>exact False.elim hq
  |brk=>exact False.elim hq
  |cont=>exact False.elim hq
theorem Pt (F:Az X.prog X.w X.K X.mg X.base CX k f fd ps sp)(hr:E4 k X.A)(hg:Gl X x)(hm:X.mg x=some (.ref f))(hk:W.keepIn X.K (.ref f)=true)(hb:Binds X.K fd ps ds)(hd:CK dvs ds)(hx:Pb CX X E)
 (ha:PA X (e::es) t)(hdb:(x==("__debug__":Str))=false:=by decide)(he:starEach (e::es) X.env=(false,eval e X.env)::starEach es X.env:=by rfl)(hpl:(backTo pos (starEach es X.env)).any (·.1)=false:=by rfl) :
 PE X (.Call (.Name x p) (e::es) [] pos) (Xu sp dvs E t):=by
 intro pins s σ H Q I h
 refine wpAny_Call_Name_kw (Hk I hg hm ?_ hdb)
 refine qCw (h₀:=X.base) I.ok.mod.kin hk (thn (ha pos pins s σ H _ I h) fun us s1 #[vs,H1,I1,r,q]=>#[I1.kIn,?_]) he hpl
 exact VV F hr hb hd hx I1 r q
end
section
variable {X:Cx}{CX:CXT}{k:Nat}{f C:Addr}{fd:FuncData}{ps ks:List Str}{sp:Sp}{E:XK}{x m:Str}{p pos apos kpos:Pos}{e o:Expr}{es:List Expr}{kws:List Keyword}{te ta:TE}{t tk:TA}{nm:Option Str}
variable {g:List Value->List Value->List Value}{gV:List V->List V->List V}
end
structure Ad (N P:List Str)(sc:Scope):Prop where
 kind:sc.kind=.function
 co:sc.isCoroutine=false
 gen:sc.isGenerator=false
 nd:N.Nodup
 pre:N.take P.length=P
 par:∀x∈P,sc.names.lookup x=some .local\/sc.names.lookup x=some .cell
 nofree:∀y∈sc.names,y.2≠.free
theorem Lh {kindOf:Str->Option NameKind}{x:Str}:∀{binds:List (Str×Value)}{m:Str->Option Value},(∀v,(x,v)∉binds)->bindL kindOf binds m x=m x
 |[],_,_=>rfl
 |(n,v)::r,m,h=>by
  unfold bindL
  rw[Lh fun w hw=>h w (qAI _ hw)]
  split
  .have:x≠n:=by rintro rfl;exact h v qA1
   simp[this]
  .rfl
theorem LF {kindOf:Str->Option NameKind}{x:Str}:∀{binds:List (Str×Value)}{m:Str->Option Value},(∀v,(x,v)∉binds)->bindC kindOf binds m x=m x
 |[],_,_=>rfl
 |(n,v)::r,m,h=>by
  unfold bindC
  rw[LF fun w hw=>h w (qAI _ hw)]
  split
  .rfl
  .have:x≠n:=by rintro rfl;exact h v qA1
   simp[this]
theorem LM {kindOf:Str->Option NameKind}{x:Str}{v:Value}:∀{P:List Str}{vs:List Value}{i:Nat}{m:Str->Option Value},P.Nodup->P[i]? = some x->vs[i]? = some v->kindOf x=some .local ->
 bindL kindOf (P.zip vs) m x=some v
 |[],_,_,_,_,h,_,_=>by simp at h
 |_::_,[],_,_,_,_,h,_=>by simp at h
 |p::P,w::vs,0,m,nd,h1,h2,hk=>by
  simp at h1 h2;subst h1;subst h2
  show bindL kindOf ((p,w)::P.zip vs) m p=_
  unfold bindL
  rw[Lh fun v hv=>(qCf.mp nd).1 (qCg hv).1,if_pos hk]
  simp
 |p::P,w::vs,i+1,m,nd,h1,h2,hk=>by
  show bindL kindOf ((p,w)::P.zip vs) m x=_
  unfold bindL
  exact LM (i:=i) (qCf.mp nd).2 (by simpa using h1) (by simpa using h2) hk
theorem K9 {kindOf:Str->Option NameKind}{x:Str}{v:Value}:∀{P:List Str}{vs:List Value}{i:Nat}{m:Str->Option Value},P.Nodup->P[i]? = some x->vs[i]? = some v->kindOf x≠some .local ->
 bindC kindOf (P.zip vs) m x=some v
 |[],_,_,_,_,h,_,_=>by simp at h
 |_::_,[],_,_,_,_,h,_=>by simp at h
 |p::P,w::vs,0,m,nd,h1,h2,hk=>by
  simp at h1 h2;subst h1;subst h2
  show bindC kindOf ((p,w)::P.zip vs) m p=_
  unfold bindC
  rw[LF fun v hv=>(qCf.mp nd).1 (qCg hv).1,if_neg hk]
  simp
 |p::P,w::vs,i+1,m,nd,h1,h2,hk=>by
  show bindC kindOf ((p,w)::P.zip vs) m x=_
  unfold bindC
  exact K9 (i:=i) (qCf.mp nd).2 (by simpa using h1) (by simpa using h2) hk
def start (N:List Str)(vs:List V):St:=vs.map some++List.replicate (N.length-vs.length) none
def LR (CX:CXT)(P:Program)(w:World)(K:W.Frag)(mg:Str->Option Value)(base:Heap)(N:List Str)(qual:Str)(scope:Scope)(f:Addr)(cd:Value)(A:Around)(outer:List Env)(s:Shared)(H:Hp)(E:XK):Cx where
 prog:=P
 w:=w
 K:=K
 mg:=mg
 base:=base
 A:=A.deeper (envOfC qual scope s.heap.objs.size f cd)
 N:=N
 s₀:=s
 H₀:=H
 env:=envOfC qual scope s.heap.objs.size f cd
 outer:=outer
 stack:=envOfC qual scope s.heap.objs.size f cd::outer
 ex:=[]
 calm:=true
 fn:=fun _=>true
 pn:=[]
 xe:=fun e s'=>wpAny (model P w) (A.deeper (envOfC qual scope s.heap.objs.size f cd)) (leaving (envOfC qual scope s.heap.objs.size f cd) e) (fun _ s''=>CX outer H s E e s'') (fun e' s''=>CX outer H s E e' s'') s'
theorem Nf {sc:Scope}{n:Nat}{x:Str}(h:sc.names.lookup x=some .cell):∃c,(cellsFrom n sc.names []).lookup x=some c:=by
 have q:=qB4 sc.names n [] (.inl h)
 exact qBa.mp q
theorem LD {CX:CXT}{P:Program}{w:World}{K:W.Frag}{mg:Str->Option Value}{base:Heap}{N ps:List Str}{qual:Str}{scope:Scope}{f:Addr}{cd:Value}{A:Around}{outer:List Env}{s s1:Shared}{H:Hp}{E:XK}{us:List Value}{vs:List V}
 (S:Ad N ps scope) (hd:A.handled=none) (e0:Tz P w K mg base A outer s H) (hl:vs.length=ps.length) (r:CK vs us)
 (x:InCallC s s.heap.objs.size (bindL (envOfC qual scope s.heap.objs.size f cd).kindOf (ps.zip us) fun _=>none) (cellsFrom (s.heap.objs.size+1) scope.names []) (bindC (envOfC qual scope s.heap.objs.size f cd).kindOf (ps.zip us) fun _=>none) s1) :
 Inv (LR CX P w K mg base N qual scope f cd A outer s H E) [] (start N vs) H s1:=by
 have hpl:ps.length<=N.length:=by have:=congrArg List.length S.pre;rw[qAQ] at this;omega
 obtain⟨h1,tk,rfl,hk⟩:=x.done
 have noA:∀b:Addr,b∉(LR CX P w K mg base N qual scope f cd A outer s H E).ex:=fun b z=>absurd (show b∈([]:List Addr) from z) (by simp)
 refine#[#[e0.mod,S.kind,rfl,rfl,qAc _,fun y z c h1 h2=>?_,fun y hy=>?_,fun y c _ h=>?_,fun _=>hd,Around.frames_deeper e0.frames,.inr #[rfl,rfl],fun b z=>absurd z (noA b),e0.bs,e0.bsz,fun b _ _=>noA b,fun b z=>absurd z (noA b),e0.funs,e0.frf,e0.tb],
  rfl,e0.bare,Un.kept hk,#[_,x.toInCall.ns,fun i y v h1 h2 h3=>?_],fun y c h=>#[_,x.cell y c h],e0.hok.fresh (qAc _),fun y c h=>?_,fun p hp=>absurd (show p∈([]:List (Addr×Obj)) from hp) (by simp),e0.hok.kept hk,?_]
 .exact name_of_addr x.apart (PySem.mem_of_lookup h1) (PySem.mem_of_lookup h2)
 .have hy:scope.names.lookup y=some .cell\/scope.names.lookup y=some .free:=hy
  rcases hy with hy|hy
  .exact Nf hy
  .exact absurd rfl (S.nofree _ (PySem.mem_of_lookup hy))
 .exact qBt (x.above y c (PySem.mem_of_lookup h))
 .have hi:i<vs.length:=by
   unfold start at h2
   by_cases hi:i<vs.length
   .exact hi
   .rw[qAz (by simpa using hi)] at h2
    rw[qB0] at h2
    split at h2<;>cases h2
  have ha:vs[i]? = some v:=by
   unfold start at h2
   rw[qAv (by simpa using hi),qAe] at h2
   cases e:vs[i]? with
   |none=>rw[e] at h2;cases h2
   |some a=>rw[e] at h2;cases h2;rfl
  obtain⟨u,hu,rv⟩:=r.get ha
  have hp:ps[i]? = some y:=by
   rw[<-S.pre,qBy ()];exact h1
  have ndP:ps.Nodup:=by rw[<-S.pre];exact S.nd.sublist (List.take_sublist _ _)
  refine#[u,rv,?_]
  rcases S.par y (qAE hp) with k|k
  .exact .inl #[k,LM ndP hp hu k]
  .obtain⟨c,e⟩:=Nf (n:=s.heap.objs.size+1) k
   refine .inr #[.inl k,c,e,?_]
   have q:=x.cell y c e
   rw[K9 ndP hp hu (by show scope.names.lookup y≠_;rw[k];decide)] at q
   exact q
 .exact e0.hok.fresh (qBt (x.above y c (PySem.mem_of_lookup h)))
 .unfold start
  show _=N.length
  rw[qAn,qAa,qCO]
  omega
theorem QE {CX:CXT}{P:Program}{w:World}{K:W.Frag}{mg:Str->Option Value}{base:Heap}{k:Nat}{f:Addr}{name qual:Str}{params:Arguments}{body:List Stmt}{scope:Scope}{dV kV doc pm cdv ct oc:Value}{an od:Option Addr}
 {osl:Array (Option Value)}{N ps:List Str}{sp:Sp}(lk:K.lookup f=some #[oc,od,.func (W.fnOf name qual params body scope dV kV doc pm an cdv ct),osl]) (hcd:W.codeIn K cdv qual=true) (S:Ad N ps scope)
 (len:∀vs H Q E,sp vs H Q E->vs.length=ps.length)
 (hbody:∀(A:Around)(outer:List Env)(s:Shared)(H:Hp)(vs:List V)(Q:VK)(E:XK),E4 k (A.deeper (envOfC qual scope s.heap.objs.size f cdv))->sp vs H Q E ->
  ∃t,PSs (LR CX P w K mg base N qual scope f cdv A outer s H E) body t/\t { nx:=fun _ H'=>Q .non H',rt:=Q } (start N vs) H) :
 Az P w K mg base CX (k+1) f (W.fnOf name qual params body scope dV kV doc pm an cdv ct) ps sp:=by
 refine#[len,fun A outer s H args us vs Q E hr e0 hb r hsp=>?_]
 have hl:=len _ _ _ _ hsp
 have KX:K.In s.heap:=e0.mod.kin.keeps fun b o e=>(e0.bs b o e).1
 have lim:s.heap.NoLimit:=e0.mod.nolimit.keeps fun b o e=>(e0.bs b o e).1
 have hkind:∀y∈ps.zip us,scope.names.lookup y.1=some .local\/(scope.names.lookup y.1=some .cell/\((cellsFrom (s.heap.objs.size+1) scope.names []).lookup y.1).isSome=true):=fun#[n,v] hy=>by
  rcases S.par n (qCg hy).1 with q|q
  .exact .inl q
  .exact .inr #[q,qB4 _ _ _ (.inl q)]
 refine codeAny_call_function hr.depth (KX _ _ lk) rfl S.co S.gen rfl (W.codeRec_of KX hcd) (hb _ _ _ _ ?_)
 refine wpAny_newFunctionEnv_cells S.kind hkind fun env he s1 x=>?_
 subst he
 refine#[lim.keeps x.toInCall.keep,codeAny_func ?_]
 obtain⟨t,ht,hq⟩:=hbody A outer s H vs Q E (hr.deeper _) hsp
 have I:Inv (LR CX P w K mg base N qual scope f cdv A outer s H E) [] (start N vs) H s1:=LD S hr.hd e0 hl r x
 refine wpAny_mono (ht [] s1 (start N vs) H _ I hq) (fun fl s' hs=>?_) fun e s' hs=>hs
 have fin:∀{σ':St}{H':Hp}{v:V}{u:Value},Inv (LR CX P w K mg base N qual scope f cdv A outer s H E) [] σ' H' s'->CA v u->Q v H'->CE outer P w H s Q u s' :=
  fun {σ' H' v u} J rv q=>#[v,H',J.os,J.bare,J.base,J.hok,rv,q]
 cases fl with
 |ret u =>
  obtain⟨v,σ',H',J,rv,q⟩:=hs
  exact fin J rv q
 |next =>
  obtain⟨σ',H',J,q⟩:=hs
  exact fin (v:=V.non) (u:=Value.none) J rfl q
 |brk =>
  obtain⟨_,_,_,q⟩:=hs
  exact False.elim q
 |cont =>
  obtain⟨_,_,_,q⟩:=hs
  exact False.elim q
section
variable {X:Cx}{x:Str}{p pos:Pos}{e:Expr}{es:List Expr}{t:TA}{id T:String}{r:List V->Hp->VK->Prop}
def tCB (r:List V->Hp->VK->Prop)(t:TA):TE:=fun σ H Q=>t σ H fun vs H1=>r vs H1 Q
theorem KU (hc:Hj X (.builtin id) r)(hg:Gl X x)(hm:X.mg x=none)(hv:bootBuiltins x=some (.builtin id))(ha:PA X (e::es) t)(hn:x≠"__name__":=by decide)(hdb:(x==("__debug__":Str))=false:=by decide)
 (he:starEach (e::es) X.env=(false,eval e X.env)::starEach es X.env:=by rfl)(hpl:(backTo pos (starEach es X.env)).any (·.1)=false:=by rfl):PE X (.Call (.Name x p) (e::es) [] pos) (tCB r t):=by
 intro pins s σ H Q I h
 refine wpAny_Call_Name_kw (G1 I hg hm hv ?_ hn hdb)
 exact PyProof.Rows.callWith_builtin1 (thn (ha pos pins s σ H _ I h) fun us s1 #[vs,H1,I1,r1,q1]=>hc pins s1 σ H1 vs us Q I1 r1 q1) he hpl
theorem Lu (hc:Hj X (.type T) r)(hg:Gl X x)(hm:X.mg x=none)(hv:bootBuiltins x=some (.type T))(ha:PA X (e::es) t)(hn:x≠"__name__":=by decide)(hdb:(x==("__debug__":Str))=false:=by decide)
 (he:starEach (e::es) X.env=(false,eval e X.env)::starEach es X.env:=by rfl)(hpl:(backTo pos (starEach es X.env)).any (·.1)=false:=by rfl):PE X (.Call (.Name x p) (e::es) [] pos) (tCB r t):=by
 intro pins s σ H Q I h
 refine wpAny_Call_Name_kw (G1 I hg hm hv ?_ hn hdb)
 exact qA0 (thn (ha pos pins s σ H _ I h) fun us s1 #[vs,H1,I1,r1,q1]=>hc pins s1 σ H1 vs us Q I1 r1 q1) he hpl
end
end L2
namespace HT
open PySem PyProof.Rows
section
open PySem.SeqAt
open PySem.AutoSeq1 (wpAny_loadPart')
open PySem.MeetsSeq PySem.MeetsSeq2 PySem.MeetsSeq3
end
section
variable {prog:Program}{w:World}{A:Around}{E:Value->Shared->Prop}{s:Shared}
theorem cat_tup {t b:Addr}{vs ws:List Value}{Q:Value->Shared->Prop}(ht:IsTup s.heap t vs.toArray) (hb:IsTup s.heap b ws.toArray) (hv:vs≠[])
 (h1:ws=[]->Q (.ref t) s) (h2:ws≠[]->Q (.ref s.heap.objs.size) { s with heap:=s.heap.push { cls:=.type "tuple",data:=.seq (vs++ws).toArray } })
 (hsz:vs.length+ws.length<=sizeLine):wpAny (model prog w) A (binaryOp .Add (.ref t) (.ref b)) Q E s:=by
 obtain⟨⟨cls,dd,data,sl⟩,ho,hc,n,hd⟩:=id ht
 obtain⟨⟨cls2,dd2,data2,sl2⟩,ho2,hc2,n2,hd2⟩:=id hb
 simp only at hc hd hc2 hd2
 subst hc hd hc2 hd2
 have e:vs.toArray++ws.toArray=(vs++ws).toArray:=by simp
 by_cases hw:ws=[]
 .exact concat_meets #[_,ho,rfl] #[_,ho2,rfl] noFill_tuple_add seq_tuple_add qCJ qCF (qCD _ _)
   (tuple_addW1 t b vs.toArray ws.toArray n n2 dd dd2 sl sl2 (by simpa using hv) (by simp[hw])) #[ho,ho2,h1 hw]
 .refine concat_meets #[_,ho,rfl] #[_,ho2,rfl] noFill_tuple_add seq_tuple_add qCJ qCF (qCD _ _)
   (tuple_addW2 t b vs.toArray ws.toArray n n2 dd dd2 sl sl2 (by simpa using hv) (by simpa using hw) (by rw[qAD,qAD];exact hsz)) #[ho,ho2,?_]
  rw[e]
  exact h2 hw
def sIx (n d:Nat):Option Int->Nat
 |none=>d
 |some v=>if v<0 then (v+(n:Int)).toNat else min v.toNat n
theorem sIx_none (n d:Nat):sIx n d none=d:=rfl
theorem sIx_nat (n d k:Nat):sIx n d (some (k:Int))=min k n:=by
 show(if (k:Int)<0 then ((k:Int)+(n:Int)).toNat else min (k:Int).toNat n)=min k n
 rw[if_neg (),qB2]
theorem V0 (n d:Nat)(hd:d<=n)(o:Option Int):sIx n d o<=n:=by
 cases o with
 |none=>exact hd
 |some v =>
  show(if v<0 then (v+(n:Int)).toNat else min v.toNat n)<=n
  by_cases hv:v<0
  .rw[if_pos hv];omega
  .rw[if_neg hv];exact Nat.min_le_right _ _
theorem O5 (v:Int)(n d:Nat):(if v<0 then max (v+(n:Int)) 0 else min v (n:Int))=((sIx n d (some v):Nat):Int):=by
 show(if v<0 then max (v+(n:Int)) 0 else min v (n:Int))=(((if v<0 then (v+(n:Int)).toNat else min v.toNat n):Nat):Int)
 by_cases hv:v<0
 .simp only[if_pos hv];omega
 .simp only[if_neg hv];omega
theorem N4 (lo hi:Option Int)(n:Nat):Builtin.Slice.sliceAdjust lo hi 1 (n:Int)=(((sIx n 0 lo:Nat):Int),((sIx n n hi:Nat):Int)):=by
 have h1:¬((1:Int)<0):=()
 unfold Builtin.Slice.sliceAdjust
 simp only[h1,if_false]
 refine Prod.ext ?_ ?_
 .cases lo with
  |none=>rfl
  |some v=>exact O5 v n 0
 .cases hi with
  |none=>rfl
  |some v=>exact O5 v n n
theorem N3 (i j:Nat):Builtin.Slice.slicePlaces (i:Int) (j:Int) 1=j-i:=by
 unfold Builtin.Slice.slicePlaces
 have h1:(1:Int)>0:=()
 simp only[h1,if_true,Int.ediv_one]
 split<;>omega
theorem JU {v:Value}{o:Option Int}{Q:Option Int->Shared->Prop}(p:IsPart v o) (h:Q o s):wpAny (model prog w) A (Builtin.Slice.slicePartIndex v) Q E s:=by
 cases p with
 |none=>exact slicePart_none h
 |int i t=>exact slicePart_int h
theorem HU {sl:Addr}{vl vu:Value}{lo hi:Option Int}{n:Nat}{Q:Int×Int×Nat->Shared->Prop}(hs:s.heap.IsSliceOf sl vl vu .none) (pl:IsPart vl lo) (pu:IsPart vu hi)
 (h:Q (((sIx n 0 lo:Nat):Int),1,sIx n n hi-sIx n 0 lo) s):wpAny (model prog w) A (Builtin.Slice.sliceApplied (.ref sl) (pure (n:Int))) Q E s:=by
 obtain⟨os,hos,hcs,hds⟩:=id hs
 unfold Builtin.Slice.sliceApplied Builtin.Slice.sliceFields
 refine wpAny_bind (wpAny_bind (wpAny_field hos hds (x:=vl) rfl (wpAny_bind (wpAny_field hos hds (x:=vu) rfl (wpAny_bind (wpAny_field hos hds (x:=.none) rfl (wpAny_pure ?_)))))))
 refine wpAny_bind (slicePart_none ?_)
 show wpAny _ _ (if ((1:Int)==0)=true then _ else _) _ _ s
 rw[if_neg ∅]
 refine wpAny_bind (JU pl (wpAny_bind (JU pu (wpAny_bind (wpAny_pure ?_)))))
 show wpAny _ _ (match Builtin.Slice.sliceAdjust lo hi 1 (n:Int) with|(lo,hi)=>pure (lo,(1:Int),Builtin.Slice.slicePlaces lo hi 1)) _ _ s
 rw[N4 lo hi n]
 show wpAny _ _ (pure (((sIx n 0 lo:Nat):Int),(1:Int),Builtin.Slice.slicePlaces ((sIx n 0 lo:Nat):Int) ((sIx n n hi:Nat):Int) 1)) _ _ s
 rw[N3]
 exact wpAny_pure h
theorem QN (xs:Array Value)(i k:Nat):((List.range k).filterMap fun(m:Nat)=>xs[((i:Int)+(m:Int)*1).toNat]?).toArray=((xs.toList.drop i).take k).toArray:=by
 have e:(fun(m:Nat)=>xs[((i:Int)+(m:Int)*1).toNat]?)=fun m=>xs[i+m]? := by
  funext m
  have:((i:Int)+(m:Int)*1).toNat=i+m:=()
  rw[this]
 rw[e]
 have:=pick_run xs i k
 rw[qCx] at this
 have e2:((fun x=>xs[x]?) ∘ fun x=>i+x)=fun m=>xs[i+m]? := rfl
 rw[e2] at this
 rw[this]
theorem getItem_tuple_cut {t sl:Addr}{items:Array Value}{vl vu:Value}{lo hi:Option Int}{Q:Value->Shared->Prop}(ht:IsTup s.heap t items) (hs:s.heap.IsSliceOf sl vl vu .none) (pl:IsPart vl lo) (pu:IsPart vu hi)
 (hw:¬(sIx items.size 0 lo=0/\sIx items.size items.size hi=items.size))
 (h:Q (.ref s.heap.objs.size) { s with heap:=s.heap.push { cls:=.type "tuple",data:=.seq ((items.toList.drop (sIx items.size 0 lo)).take (sIx items.size items.size hi-sIx items.size 0 lo)).toArray } })
 (hsz:items.size<=sizeLine):wpAny (model prog w) A (getItem (.ref t) (.ref sl)) Q E s:=by
 have htake:sizeOk (.seq ((items.toList.drop (sIx items.size 0 lo)).take (sIx items.size items.size hi-sIx items.size 0 lo)).toArray):=by
  show((items.toList.drop (sIx items.size 0 lo)).take (sIx items.size items.size hi-sIx items.size 0 lo)).toArray.size<=sizeLine
  rw[qAD,qAQ,qAZ,Array.length_toList]
  omega
 have hj:sIx items.size items.size hi<=items.size:=V0 _ _ (qAc _) hi
 obtain⟨os,hos,hcs,hds⟩:=id hs
 have hTs:s.TypeIs (.ref sl) "slice":=#[os,hos,hcs]
 unfold getItem
 try with_reducible refine wpAny_holding ?_
 first|refine wpAny_bind (wpAny_pure ?_)|skip
 refine wpAny_bind (wpAny_sequenceKey ht.typeIs ∅ ?_)
 refine wpAny_bind (wpAny_callSpecial?_slot (name:=Str.ofString "__getitem__") ht.typeIs qCe
  (wpAny_call_entry qCe ht.typeIs entry_tuple_getitem ?_ (args_tuple_getitem _ _)))
 show wpAny _ _ (Builtin.Tuple.tupleItemsOf (.ref t) >>= _) _ _ s
 refine wpAny_bind (tupleItemsOf_ ht ?_)
 refine wpAny_bind (wpAny_typeOf hTs ?_)
 rw[if_pos ∅]
 refine wpAny_bind (HU hs pl pu ?_)
 have hno:¬((((sIx items.size 0 lo:Nat):Int)==0&&(1:Int)==1&&(sIx items.size items.size hi-sIx items.size 0 lo)==items.size)=true):=by
  intro q
  rw[qAV,qAV] at q
  have q1:((sIx items.size 0 lo:Nat):Int)=0:=eq_of_beq q.1.1
  have q2:sIx items.size items.size hi-sIx items.size 0 lo=items.size:=eq_of_beq q.2
  exact hw #[(),()]
 show wpAny _ _ (if (((sIx items.size 0 lo:Nat):Int)==0&&(1:Int)==1&&(sIx items.size items.size hi-sIx items.size 0 lo)==items.size)=true then _ else _) _ _ s
 rw[if_neg hno,QN]
 first
  |exact wpAny_bind (m:=Builtin.Tuple.tupleExact _) (wpAny_newObj_type (wpAny_pure #[_,rfl,wpAny_pure h]) htake)
  |exact wpAny_bind (m:=Builtin.Tuple.tupleExact _) (wpAny_newObj_type (wpAny_bind (wpAny_pure (wpAny_pure #[_,rfl,wpAny_pure h]))) htake)
  |exact wpAny_bind (wpAny_bind (m:=Builtin.Tuple.tupleExact _) (wpAny_newObj_type (wpAny_pure (wpAny_pure #[_,rfl,wpAny_pure h])) htake))
  |exact wpAny_bind (wpAny_bind (m:=Builtin.Tuple.tupleExact _) (wpAny_newObj_type (wpAny_pure #[_,rfl,wpAny_pure h]) htake))
end
end HT
namespace L2
open PySem PySem.Spec PyProof.Rows
abbrev TO:=St->Hp->(Option Int->Hp->Prop)->Prop
def PO (X:Cx)(e:Option Expr)(t:TO):Prop :=
 ∀(pins:List (Addr×Obj))(s:Shared)(σ:St)(H:Hp)(Q:Option Int->Hp->Prop),Inv X pins σ H s->t σ H Q ->
  wpAny (model X.prog X.w) X.A (evalPart e X.env) (fun u s'=>∃o H',Inv X pins σ H' s'/\IsPart u o/\Q o H') X.xe s
def TZ:TO:=fun _ H Q=>Q none H
def Xw (t:TE):TO:=fun σ H Q=>t σ H fun x H1=>∃i,x=.int i/\Q (some i) H1
section
variable {X:Cx}{e:Expr}{te:TE}{lo hi:Option Expr}{tl th:TO}{pos p2:Pos}
theorem To:PO X none TZ:=by
 intro pins s σ H Q I h
 rw[evalPart_none]
 exact wpAny_pure #[none,H,I,.none,h]
theorem Td (h:PE X e te):PO X (some e) (Xw te):=by
 intro pins s σ H Q I hw
 rw[evalPart_some]
 refine thn (h pins s σ H _ I hw) fun u s1 hh=>?_
 obtain⟨x,H1,I1,r1,q1⟩:=hh
 obtain⟨i,rfl,q⟩:=q1
 obtain⟨t,rfl⟩:=r1
 exact#[some i,H1,I1,.int i t,q]
def SlR (X:Cx)(r:V->Option Int->Option Int->Hp->VK->Prop):Prop :=
 ∀(pins:List (Addr×Obj))(s:Shared)(σ:St)(H:Hp)(x:V)(v vl vu:Value)(lo hi:Option Int)(sl:Addr)(Q:VK),Inv X pins σ H s->CA x v->s.heap.IsSliceOf sl vl vu .none->IsPart vl lo->IsPart vu hi->r x lo hi H Q ->
  ∃T id,typeLookup (.type T) "__getitem__"=pure (some (.builtin id))/\s.TypeIs v T/\wpAny (model X.prog X.w) X.A (getItem v (.ref sl)) (EP X pins σ Q) X.xe s
theorem SlR.or {r r':V->Option Int->Option Int->Hp->VK->Prop}(h:SlR X r) (h':SlR X r'):SlR X (fun x lo hi H Q=>r x lo hi H Q\/r' x lo hi H Q):=by
 intro pins s σ H x v vl vu lo hi sl Q I rx hs pl pu q
 rcases q with q|q
 .exact h pins s σ H x v vl vu lo hi sl Q I rx hs pl pu q
 .exact h' pins s σ H x v vl vu lo hi sl Q I rx hs pl pu q
def tSl (r:V->Option Int->Option Int->Hp->VK->Prop)(te:TE)(tl th:TO):TE:=fun σ H Q=>te σ H fun x H1=>tl σ H1 fun l H2=>th σ H2 fun u H3=>r x l u H3 Q
theorem RQ {r:V->Option Int->Option Int->Hp->VK->Prop}(hr:SlR X r) (he:PE X e te) (hl:PO X lo tl) (hu:PO X hi th):PE X (.Subscript e (.Slice lo hi none p2) pos) (tSl r te tl th):=by
 intro pins s σ H Q I h
 refine Subscript_ (thn (he pins s σ H _ I h) fun v s1 hh=>?_)
 obtain⟨x,H1,I1,r1,q1⟩:=hh
 refine wpAny_Slice (thn (hl pins s1 σ H1 _ I1 q1) fun vl s2 #[l,H2,I2,pl,q2]=>thn (hu pins s2 σ H2 _ I2 q2) fun vu s3 hh=>?_)
 obtain⟨u,H3,I3,pu,q3⟩:=hh
 rw[evalPart_none]
 refine wpAny_pure ?_
 have I4:Inv X pins σ H3 { s3 with heap:=s3.heap.push { cls:=.type "slice",data:=.fields (List.toArray [vl,vu,.none]) } }:=I3.kept (t':=s3.toks) fun b ob q=>qAf _ q
 obtain⟨T,id,hT,ht,hg⟩:=hr pins { s3 with heap:=s3.heap.push { cls:=.type "slice",data:=.fields (List.toArray [vl,vu,.none]) } } σ H3 x v vl vu l u s3.heap.objs.size Q I4 r1 (Heap.IsSliceOf.new ..) pl pu q3
 show wpAny (model X.prog X.w) X.A (subscriptTail e (.Slice lo hi none p2) v (.ref s3.heap.objs.size)) (EP X pins σ Q) X.xe { s3 with heap:=s3.heap.push { cls:=.type "slice",data:=.fields (List.toArray [vl,vu,.none]) } }
 exact tail_any (ops:=[.ref s3.heap.objs.size,v]) ht hT hg (by with_unfolding_all rfl)
def Oi (xs:List V)(lo hi:Option Int):List V:=(xs.drop (HT.sIx xs.length 0 lo)).take (HT.sIx xs.length xs.length hi-HT.sIx xs.length 0 lo)
theorem Ir (xs:List V)(lo hi:Option Int):(Oi xs lo hi).length<=xs.length:=by
 unfold Oi
 rw[qAQ,qAZ]
 omega
def YE (K:W.Frag):V->Option Int->Option Int->Hp->VK->Prop:=fun x lo hi H Q=>∃a xs,x=.ref a/\SqT K H a xs /\
 ¬(HT.sIx xs.length 0 lo=0/\HT.sIx xs.length xs.length hi=xs.length)/\∀p,H p=none->Q (.ref p) (upd H p (.tup (Oi xs lo hi)))
theorem Vg:SlR X (YE X.K):=by
 intro pins s σ H x v vl vu lo hi sl Q I rx hs pl pu h
 obtain⟨a,xs,rfl,hx,hw,q⟩:=h
 cases rx
 obtain⟨its,r,ht,hz⟩:=I.tuple hx
 have hlen:its.toArray.size=xs.length:=by rw[qAD];exact r.length.symm
 refine#["tuple",_,PyProof.Rows.slot_tuple_getitem.lookup,ht.typeIs,?_]
 refine HT.getItem_tuple_cut ht hs pl pu (by rw[hlen];exact hw) ?_ (by rw[hlen];exact hz)
 rw[hlen]
 refine#[.ref s.heap.objs.size,_,I.laid (t':=s.toks) (o:=.tup (Oi xs lo hi)) (fun b ob q=>qAf _ q) (qAc _) ?_,rfl,q _ (I.hok.fresh (qAc _))]
 exact#[qAL (Ir xs lo hi) hz,_,(r.drop (HT.sIx xs.length 0 lo)).take (HT.sIx xs.length xs.length hi-HT.sIx xs.length 0 lo),IsTup.new _ _]
def WX (K:W.Frag):R2:=fun x y H Q=>∃a b xs ys,x=.ref a/\y=.ref b/\SqT K H a xs/\SqT K H b ys/\xs≠[]/\xs.length+ys.length<=sizeLine /\
 (ys=[]->Q (.ref a) H)/\(ys≠[]->∀p,H p=none->Q (.ref p) (upd H p (.tup (xs++ys))))
theorem CK.nil_iff {xs:List V}{us:List Value}(r:CK xs us):us=[] ↔ xs=[]:=by
 cases r with
 |nil=>simp
 |cons _ _=>simp
theorem SM:OpR X (binaryOp .Add) (WX X.K):=by
 intro pins s σ H x y v u Q I rx ry h
 obtain⟨a,b,xs,ys,rfl,rfl,ha,hb,hx,hz,q1,q2⟩:=h
 cases rx
 cases ry
 obtain⟨its,r1,p1,_⟩:=I.tuple ha
 obtain⟨its2,r2,p2,_⟩:=I.tuple hb
 refine HT.cat_tup p1 p2 (fun z=>hx (r1.nil_iff.mp z)) (fun z=>#[.ref a,H,I,rfl,q1 (r2.nil_iff.mp z)]) (fun z=>?_) (by rw[<-r1.length,<-r2.length];exact hz)
 refine#[.ref s.heap.objs.size,_,I.laid (t':=s.toks) (o:=.tup (xs++ys)) (fun b ob q=>qAf _ q) (qAc _) ?_,rfl,q2 (fun w=>z (r2.nil_iff.mpr w)) _ (I.hok.fresh (qAc _))]
 exact#[by rw[qAn];exact hz,_,r1.append r2,IsTup.new _ _]
end
def ixN (n:Nat)(i:Int):Option Nat:=if 0<=i then (if i<n then some i.toNat else none) else if -(n:Int)<=i then some (i+n).toNat else none
def atI {α:Type}(xs:List α) (i:Int):Option α:=(ixN xs.length i).bind fun j=>xs[j]?
theorem Th {n:Nat}{i:Int}{j:Nat}(h:ixN n i=some j):seqIndex? i n=some j/\j<n/\-(n:Int)<=i/\i<n:=by
 unfold ixN at h
 by_cases h0:0<=i
 .rw[if_pos h0] at h
  by_cases h1:i<n
  .rw[if_pos h1] at h
   have e:i.toNat=j:=qAl h
   exact#[by rw[seqIndex_of h0 h1,e],(),(),h1]
  .rw[if_neg h1] at h;cases h
 .rw[if_neg h0] at h
  by_cases h1:-(n:Int)<=i
  .rw[if_pos h1] at h
   have e:(i+n).toNat=j:=qAl h
   exact#[by rw[seqIndex_neg () h1,e],(),h1,()]
  .rw[if_neg h1] at h;cases h
theorem PF {α:Type}{xs:List α}{i:Int}{v:α}(h:atI xs i=some v):∃j,seqIndex? i xs.length=some j/\xs[j]? = some v/\j<xs.length/\-(xs.length:Int)<=i/\i<xs.length:=by
 unfold atI at h
 cases e:ixN xs.length i with
 |none=>rw[e] at h;cases h
 |some j =>
  rw[e] at h
  obtain⟨h1,h2,h3,h4⟩:=Th e
  exact#[j,h1,h,h2,h3,h4]
theorem atI_nat {α:Type}{xs:List α}{j:Nat}{v:α}(h:xs[j]? = some v):atI xs (j:Int)=some v:=by
 have hj:j<xs.length:=(qAg.mp h).1
 have e:ixN xs.length (j:Int)=some j:=by
  unfold ixN
  rw[if_pos (),if_pos ()];simp
 unfold atI;rw[e];exact h
def Ou (b:Expr):Prop:=∀o i,subscripted b false o i=operate [o,i] (getItem o i)
def IxR (X:Cx)(r:R2):Prop :=
 ∀(value slice:Expr)(pins:List (Addr×Obj))(s:Shared)(σ:St)(H:Hp)(x y:V)(v u:Value)(Q:VK),Inv X pins σ H s->CA x v->CA y u->r x y H Q ->
  subscripted slice false v u=operate [v,u] (getItem v u)->wpAny (model X.prog X.w) X.A (subscriptTail value slice v u) (EP X pins σ Q) X.xe s
def MtR (X:Cx)(id:String)(r:V->List V->Hp->VK->Prop):Prop :=
 ∀(pins:List (Addr×Obj))(s:Shared)(σ:St)(H:Hp)(x:V)(xs:List V)(v:Value)(us:List Value)(Q:VK),Inv X pins σ H s->CA x v->CK xs us->r x xs H Q ->
  wpAny (model X.prog X.w) X.A (call (.builtin id) (v::us)) (EP X pins σ Q) X.xe s
section
variable {X:Cx}{a b:Expr}{ta tb:TE}{pos:Pos}
theorem IxR.or {r r':R2}(h:IxR X r) (h':IxR X r'):IxR X (fun x y H Q=>r x y H Q\/r' x y H Q):=by
 intro value slice pins s σ H x y v u Q I rx ry q hs
 rcases q with q|q
 .exact h value slice pins s σ H x y v u Q I rx ry q hs
 .exact h' value slice pins s σ H x y v u Q I rx ry q hs
theorem Xz {r:R2}(hr:IxR X r) (ha:PE X a ta) (hb:PE X b tb) (hs:Ou b):PE X (.Subscript a b pos) (tOp r ta tb):=by
 intro pins s σ H Q I h
 exact Subscript_ (Xb ha hb I h fun v u s2 x y H2 I2 rx ry q=>hr a b pins s2 σ H2 x y v u Q I2 rx ry q (hs _ _))
def YA (K:W.Frag):R2:=fun x y H Q=>∃p xs i v,x=.ref p/\y=.int i/\SqL K H p xs/\atI xs i=some v/\Q v H
def YY (K:W.Frag):R2:=fun x y H Q=>∃p xs i v,x=.ref p/\y=.int i/\SqT K H p xs/\atI xs i=some v/\Q v H
theorem TN:IxR X (YA X.K):=by
 intro value slice pins s σ H x y v u Q I rx ry h hs
 obtain⟨p,xs,i,z,rfl,rfl,hq,he,q⟩:=h
 cases rx
 obtain⟨t,rfl⟩:=ry
 obtain⟨its,r,pl,hz⟩:=I.list hq
 obtain⟨j,h1,h2,h3,h4,h5⟩:=PF he
 obtain⟨w,ew,rw'⟩:=r.get h2
 have hl:=r.length
 have hn:=MN
 have fin:EP X pins σ Q w s:=#[z,H,I,rw',q]
 by_cases h0:0<=i
 .have hj:i.toNat=j:=by
   rw[seqIndex_of h0 h5] at h1
   exact qAl h1
  exact item_listR pl.isList h0 () (by rw[hj];simpa using ew) fin hs
 .have hj:(i+(its.toArray.size:Int)).toNat=j:=by
   rw[seqIndex_neg () h4] at h1
   rw[qAD,<-hl]
   exact qAl h1
  exact subscriptTail_builtinR (x:=w) pl.isList.typeIs slot_list_getitem.lookup
   (wpAny_getItem_list_neg (Q:=fun r s'=>r=w/\EP X pins σ Q r s') pl.isList () (by rw[qAD]<;>omega) () (by rw[hj];simpa using ew) #[rfl,fin]) hs
theorem Wa:IxR X (YY X.K):=by
 intro value slice pins s σ H x y v u Q I rx ry h hs
 obtain⟨p,xs,i,z,rfl,rfl,hq,he,q⟩:=h
 cases rx
 obtain⟨t,rfl⟩:=ry
 obtain⟨its,r,pl,hz⟩:=I.tuple hq
 obtain⟨j,h1,h2,h3,h4,h5⟩:=PF he
 obtain⟨w,ew,rw'⟩:=r.get h2
 have hl:=r.length
 have hn:=MN
 have fin:EP X pins σ Q w s:=#[z,H,I,rw',q]
 exact subscriptTail_builtinR (x:=w) pl.typeIs slot_tuple_getitem.lookup
  (getItem_tuple (j:=j) (Q:=fun r s'=>r=w/\EP X pins σ Q r s') pl () () (by rw[qAD,<-hl];exact h1) (by simpa using ew) #[rfl,fin]) hs
theorem LK (lo hi:Option Int)(n:Nat):(sliceBounds lo hi none n).1=((HT.sIx n 0 lo:Nat):Int)/\(sliceBounds lo hi none n).2.1=((HT.sIx n n hi:Nat):Int)/\(sliceBounds lo hi none n).2.2=1:=by
 refine#[?_,?_,rfl]
 .cases lo with
  |none=>simp[sliceBounds,HT.sIx]
  |some i =>
   simp only[sliceBounds,HT.sIx,Option.getD_none,show(1:Int)>0 from ∅,if_true]
   by_cases h:i<0
   .simp only[h,if_true]<;>omega
   .simp only[h,if_false]<;>omega
 .cases hi with
  |none=>simp[sliceBounds,HT.sIx]
  |some i =>
   simp only[sliceBounds,HT.sIx,Option.getD_none,show(1:Int)>0 from ∅,if_true]
   by_cases h:i<0
   .simp only[h,if_true]<;>omega
   .simp only[h,if_false]<;>omega
theorem KQ (its:List Value)(lo hi:Option Int):slicePick its.toArray lo hi none=((its.drop (HT.sIx its.length 0 lo)).take (HT.sIx its.length its.length hi-HT.sIx its.length 0 lo)).toArray:=by
 obtain⟨h1,h2,h3⟩:=LK lo hi its.toArray.size
 unfold slicePick
 rw[h1,h2,h3]
 simp only[sliceRange_one,pick_run,qAD]<;>rfl
def Yn (K:W.Frag):V->Option Int->Option Int->Hp->VK->Prop:=fun x lo hi H Q=>∃a xs,x=.ref a/\SqL K H a xs/\∀p,H p=none->Q (.ref p) (upd H p (.lst (Oi xs lo hi)))
theorem Tj:SlR X (Yn X.K):=by
 intro pins s σ H x v vl vu lo hi sl Q I rx hs pl pu h
 obtain⟨a,xs,rfl,hx,q⟩:=h
 cases rx
 obtain⟨its,r,ht,hz⟩:=I.list hx
 have hlen:=r.length
 refine#["list",_,slot_list_getitem.lookup,ht.isList.typeIs,?_]
 refine wpAny_getItem_list_slice ht.isList hs pl pu .none (by simp) ?_ (by rw[qAD]<;>omega)
 rw[KQ,<-hlen]
 refine#[.ref s.heap.objs.size,_,I.laid (t':=s.toks) (o:=.lst (Oi xs lo hi)) (fun b ob q=>qAf _ q) (qAc _) ?_,rfl,q _ (I.hok.fresh (qAc _))]
 exact#[qAL (Ir xs lo hi) hz,_,0,(r.drop (HT.sIx xs.length 0 lo)).take (HT.sIx xs.length xs.length hi-HT.sIx xs.length 0 lo),qAr _ rfl]
def flatV:V->Bool
 |.non=>true
 |.bl _=>true
 |.int _=>true
 |.str _=>true
 |_=>false
def eqV:V->V->Bool
 |.non,.non=>true
 |.bl a,.bl b=>a==b
 |.bl a,.int b=>(if a then 1 else 0)==b
 |.int a,.bl b=>a==(if b then 1 else 0)
 |.int a,.int b=>a==b
 |.str a,.str b=>a==b
 |_,_=>false
theorem Sm {A:Around}{s:Shared}{y x:V}{u v:Value}(ry:CA y u) (rx:CA x v) (fy:flatV y=true) (fx:flatV x=true):SeqAt.EqAt A s u v (eqV y x):=by
 cases y with
 |non =>
  cases ry
  cases x with
  |non=>cases rx;exact SeqAt.EqAt.same _
  |bl b=>cases rx;exact SeqAt.EqAt.none_bool b
  |int b=>obtain⟨t,rfl⟩:=rx;exact SeqAt.EqAt.none_int b t
  |str b=>obtain⟨t,rfl⟩:=rx;exact SeqAt.EqAt.none_str b t
  |_=>exact absurd (show false=true from fx) qAm
 |bl a =>
  cases ry
  cases x with
  |non=>cases rx;exact SeqAt.EqAt.bool_none a
  |bl b=>cases rx;exact SeqAt.EqAt.bool_bool a b
  |int b=>obtain⟨t,rfl⟩:=rx;exact SeqAt.EqAt.bool_int a b t
  |str b=>obtain⟨t,rfl⟩:=rx;exact SeqAt.EqAt.bool_str a b t
  |_=>exact absurd (show false=true from fx) qAm
 |int a =>
  obtain⟨t',rfl⟩:=ry
  cases x with
  |non=>cases rx;exact SeqAt.EqAt.int_none a t'
  |bl b=>cases rx;exact SeqAt.EqAt.int_bool a t' b
  |int b=>obtain⟨t,rfl⟩:=rx;exact SeqAt.EqAt.int_int a t' b t
  |str b=>obtain⟨t,rfl⟩:=rx;exact SeqAt.EqAt.int_str a t' b t
  |_=>exact absurd (show false=true from fx) qAm
 |str a =>
  obtain⟨t',rfl⟩:=ry
  cases x with
  |non=>cases rx;exact SeqAt.EqAt.str_none a t'
  |bl b=>cases rx;exact SeqAt.EqAt.str_bool a t' b
  |int b=>obtain⟨t,rfl⟩:=rx;exact SeqAt.EqAt.str_int a t' b t
  |str b=>obtain⟨t,rfl⟩:=rx;exact SeqAt.EqAt.str_str a t' b t
  |_=>exact absurd (show false=true from fx) qAm
 |_=>exact absurd (show false=true from fy) qAm
theorem Lc:Hj X (.builtin "len") (fun xs H Q=>∃p ys,xs=[.ref p]/\(SqL X.K H p ys\/SqT X.K H p ys)/\Q (.int ys.length) H):=by
 intro pins s σ H xs us Q I r h
 obtain⟨p,ys,rfl,hq,q⟩:=h
 obtain⟨u,rfl,rx⟩:=Rm r
 cases rx
 have hn:=MN
 rcases hq with hq|hq
 .obtain⟨its,r',pl,hz⟩:=I.list hq
  have hlen:=r'.length
  exact Calls.call_len_list pl.isList (by simp only[qAD]<;>omega) #[.int ys.length,H,I.tok _,#[s.toks+1,by rw[qAD,hlen]],q]
 .obtain⟨its,r',pl,hz⟩:=I.tuple hq
  have hlen:=r'.length
  exact len_tuple pl (by simp only[qAD]<;>omega) #[.int ys.length,H,I.tok _,#[s.toks+1,by rw[qAD,hlen]],q]
theorem Lw:Hj X (.type "list") (fun xs H Q=>∃p ys,xs=[.ref p]/\(SqL X.K H p ys\/SqT X.K H p ys)/\∀l,H l=none->Q (.ref l) (upd H l (.lst ys))):=by
 intro pins s σ H xs us Q I r h
 obtain⟨p,ys,rfl,hq,q⟩:=h
 obtain⟨u,rfl,rx⟩:=Rm r
 cases rx
 have fin:∀(its:List Value),CK ys its->ys.length<=sizeLine->∀(h':Heap)(c':Nat),(∀b o',s.heap.get? b=some o'->h'.get? b=some o') ->
  h'.get? s.heap.objs.size=some { cls:=.type "list",dict:=none,data:=.seq its.toArray c',slots:=(List.toArray []) }->EP X pins σ Q (.ref s.heap.objs.size) { s with heap:=h' }:=fun its r' hz h' c' kp e =>
  #[.ref s.heap.objs.size,_,I.laid (t':=s.toks) kp (qAc _) (show DC X.prog X.w _ h' _ (.lst ys) from #[hz,its,c',r',e]),rfl,q _ (I.hok.fresh (qAc _))]
 rcases hq with hq|hq
 .obtain⟨its,r',pl,hz⟩:=I.list hq
  have hlen:=r'.length
  obtain⟨o,ho,hc,n,hd⟩:=pl.isList
  exact call_list_seq p (.inl rfl) ho hc hd (fun h' c' kp e=>fin its r' hz h' c' kp e) (by simp only[qAD]<;>omega)
 .obtain⟨its,r',pl,hz⟩:=I.tuple hq
  have hlen:=r'.length
  obtain⟨o,ho,hc,n,hd⟩:=pl
  exact call_list_seq p (.inr rfl) ho hc hd (fun h' c' kp e=>fin its r' hz h' c' kp e) (by simp only[qAD]<;>omega)
theorem Ke:Hj X (.type "tuple") (fun xs H Q=>∃p ys,xs=[.ref p]/\((SqL X.K H p ys/\∀l,H l=none->Q (.ref l) (upd H l (.tup ys)))\/(SqT X.K H p ys/\Q (.ref p) H))):=by
 intro pins s σ H xs us Q I r h
 obtain⟨p,ys,rfl,h⟩:=h
 obtain⟨u,rfl,rx⟩:=Rm r
 cases rx
 rcases h with⟨hq,q⟩|⟨hq,q⟩
 .obtain⟨its,r',pl,hz⟩:=I.list hq
  have hlen:=r'.length
  refine call_tuple_list pl.isList (fun h' kp=>?_) (by simp only[qAD]<;>omega)
  have I1:Inv X pins σ H { s with heap:=h' }:=I.kept (t':=s.toks) kp
  have I2:Inv X pins σ (upd H h'.objs.size (.tup ys)) { s with heap:=h'.push { cls:=.type "tuple",data:=.seq its.toArray } } :=
   I1.laid (t':=s.toks) (fun b o e=>qAf _ e) (qAc _) (show DC X.prog X.w _ _ _ (.tup ys) from #[hz,its,r',IsTup.new _ _])
  exact#[.ref h'.objs.size,_,I2,rfl,q _ (I1.hok.fresh (qAc _))]
 .obtain⟨its,r',pl,hz⟩:=I.tuple hq
  exact call_tuple_same pl #[.ref p,H,I,rfl,q]
def tyV (K:W.Frag)(T:String)(x:V)(H:Hp):Prop:=match x with
 |.str _=>T="str"
 |.int _=>T="int"
 |.ref p=>(T="list"/\∃xs,SqL K H p xs)\/(T="tuple"/\∃o,K.lookup p=some o/\o.cls=.type "tuple"/\o.dict=none) \/
  (T="dict"/\((∃kvs,H p=some (.dK kvs))\/∃kvs,H p=some (.dT kvs)))\/(T="set"/\∃S n,H p=some (.set S n))
 |_=>False
theorem Wd {pins:List (Addr×Obj)}{σ:St}{H:Hp}{s:Shared}{T:String}{x:V}{v:Value}(I:Inv X pins σ H s) (r:CA x v) (ty:tyV X.K T x H) :
 s.TypeIs v T/\∀a,v=.ref a->∃ob,s.heap.get? a=some ob/\ob.dict=none:=by
 cases x with
 |str z =>
  obtain⟨t,rfl⟩:=r
  cases (show T="str" from ty)
  exact#[typeIs_str s z t,fun _ e=>nomatch e]
 |int i =>
  obtain⟨t,rfl⟩:=r
  cases (show T="int" from ty)
  exact#[typeIs_int s i t,fun _ e=>nomatch e]
 |ref p =>
  cases r
  rcases ty with⟨rfl,xs,hq⟩|⟨rfl,o,hk,hc,hd⟩|⟨rfl,hk⟩|⟨rfl,S,n,hk⟩
  .obtain⟨its,_,pl,_⟩:=I.list hq
   refine#[pl.isList.typeIs,fun a e=>?_]
   cases e
   obtain⟨o,n,e,c,hd,_⟩:=pl
   exact#[o,e,hd]
  .refine#[#[o,I.kIn p o hk,hc],fun a e=>?_]
   cases e
   exact#[o,I.kIn _ o hk,hd]
  .have z:∃o,s.heap.get? p=some o/\o.ExactDict:=by
    rcases hk with⟨kvs,hk⟩|⟨kvs,hk⟩
    .obtain⟨_,_,_,_,o,_,_,e,ex,_⟩:=I.hok p _ hk
     exact#[o,e,ex]
    .obtain⟨_,_,_,_,o,_,_,e,ex,_⟩:=I.hok p _ hk
     exact#[o,e,ex]
   obtain⟨o,e,ex⟩:=z
   refine#[#[o,e,ex.1],fun a e2=>?_]
   cases e2
   exact#[o,e,ex.2.1]
  .obtain⟨o,_,_,_,e,ex,_⟩:=I.hok p _ hk
   refine#[#[o,e,ex.1],fun a e2=>?_]
   cases e2
   exact#[o,e,ex.2.1]
 |_=>exact False.elim ty
def tBM (K:W.Frag)(T:String)(r:V->List V->Hp->VK->Prop)(to:TE)(t:TA):TE:=fun σ H Q=>to σ H fun x H1=>tyV K T x H1/\t σ H1 fun xs H2=>r x xs H2 Q
variable {o e:Expr}{es:List Expr}{to:TE}{t:TA}{name:Str}{apos cpos:Pos}{T id:String}{r:V->List V->Hp->VK->Prop}
theorem DR (pa:PlainAttrs T)(slot:Slot T name id)(hty:typeOf (.builtin id)=pure (.type "method_descriptor"))(hm:MtR X id r)(ho:PE X o to)(ha:PA X (e::es) t)
 (hbase:attributeBase o name X.env (eval o X.env)=eval o X.env:=by rfl)
 (hfew:((backTo cpos (starEach (e::es) X.env)).all (fun x=>!x.1)&&(backToKw cpos (keywordEach [] X.env)).all (fun x=>x.1.isSome)
  && decide ((e::es).length+([]:List Keyword).length+(if ([]:List Keyword).isEmpty then 0 else 1)<30))=true:=by rfl)
 (hline:(apos.endLine==cpos.line)=true:=by rfl) (hs:starEach (e::es) X.env=(false,eval e X.env)::starEach es X.env:=by rfl) (hplain:(backTo cpos (starEach es X.env)).any (·.1)=false:=by rfl) :
 PE X (.Call (.Attribute o name apos) (e::es) [] cpos) (tBM X.K T r to t):=by
 intro pins s σ H Q I h
 refine wpAny_Call_method_late hbase hfew hline rfl (thn (ho pins s σ H _ I h) fun v s1 hh=>?_)
 obtain⟨x,H1,I1,r1,ty,q1⟩:=hh
 obtain⟨h1,h2⟩:=Wd I1 r1 ty
 refine#[T,id,pa,slot,hty,h1,h2,?_]
 have hA:=ha cpos pins s1 σ H1 _ I1 q1
 rw[hs] at hA ⊢
 refine Calls.callWith_builtin (by show(false||(backTo cpos (starEach es X.env)).any (·.1))=false;rw[hplain]<;>rfl) (Calls.evalArgs_plain ?_)
 exact thn hA fun us s2 #[vs,H2,I2,r2,q2]=>hm pins s2 σ H2 x vs v us Q I2 r1 r2 q2
end
def MtM (X:Cx)(id:String)(r:V->List V->Hp->VK->Prop):Prop :=
 ∀(pins:List (Addr×Obj))(s:Shared)(σ:St)(H:Hp)(x:V)(xs:List V)(v:Value)(us:List Value)(Q:VK),Inv X pins σ H s->CA x v->CK xs us->r x xs H Q ->
  wpAny (model X.prog X.w) X.A (call (.builtin id) (v::us)) (EP X pins σ Q) X.xe s
theorem CK.one:∀{x:V}{us:List Value},CK [x] us->∃u,us=[u]/\CA x u
 |_,_,.cons r .nil=>#[_,rfl,r]
section
variable {X:Cx}{pins:List (Addr×Obj)}{σ:St}{H:Hp}{s:Shared}{l b:Addr}{xs ys zs:List V}
theorem Inv.lset {its its':List Value}{n:Nat}{f:Array Value->Array Value}{t':Nat}(I:Inv X pins σ H s) (hH:H l=some (.lst xs))
 (e:s.heap.get? l=some { cls:=.type "list",data:=.seq its.toArray n }) (hf:f its.toArray=its'.toArray) (hv:CK ys its') (hz:ys.length<=sizeLine) :
 Inv X pins σ (upd H l (.lst ys)) { s with heap:=s.heap.update l (Obj.mapSeq f),toks:=t' }:=by
 have q:=PySem.IsL.update e f
 rw[hf] at q
 refine I.write (x:=l) (e:=l) (by rw[hH];exact trivial) (.inl rfl) (fun b' u hb hu=>(Heap.get?_update_other s.heap (Obj.mapSeq f) (Ne.symm hb)).trans hu) #[_,q] ?_
 exact#[hz,its',_,hv,q]
theorem Inv.lnew {its:List Value}{t':Nat}(I:Inv X pins σ H s) (hv:CK ys its) (hz:ys.length<=sizeLine) :
 Inv X pins σ (upd H s.heap.objs.size (.lst ys)) { s with heap:=s.heap.push { cls:=.type "list",data:=.seq its.toArray },toks:=t' } :=
 I.laid (fun _ _ q=>qAf _ q) (qAc _) #[hz,its,0,hv,qAr _ rfl]
theorem Inv.fresh (I:Inv X pins σ H s):H s.heap.objs.size=none:=I.hok.fresh (qAc _)
theorem Inv.lstM (I:Inv X pins σ H s)(hH:H l=some (.lst xs)):xs.length<=sizeLine/\∃(its:List Value)(n:Nat),CK xs its/\xs.length=its.length/\s.heap.get? l=some { cls:=.type "list",data:=.seq its.toArray n }:=by
 obtain⟨z,its,n,r,e⟩:=I.hok l _ hH
 exact#[z,its,n,r,r.length,e]
end
section
variable {X:Cx}
def OF:V->List V->Hp->VK->Prop:=fun x vs H Q=>∃l xs y,x=.ref l/\vs=[y]/\H l=some (.lst xs)/\xs.length<sizeLine/\Q .non (upd H l (.lst (xs++[y])))
theorem AF:MtM X "list.append" OF:=by
 intro pins s σ H x vs v us Q I rx rv h
 obtain⟨l,xs,y,rfl,rfl,hH,hz,q⟩:=h
 cases rx
 obtain⟨u,rfl,ru⟩:=rv.one
 obtain⟨z,its,n,r,hl,e⟩:=I.lstM hH
 refine call_meets F.slot_list_append #[_,e,rfl] F.entry_list_append (F.args_list_append_2 _ _) (PySem.list_append l its.toArray n u (by rw[qAD];omega)) #[e,?_]
 refine#[.non,_,I.lset (its':=its++[u]) hH e (by simp) (r.append (.cons ru .nil)) ?_,rfl,q]
 rw[qAn,List.length_singleton]
 omega
def Yp:R2:=fun x y H Q=>∃l b xs zs,x=.ref l/\y=.ref b/\H l=some (.lst xs)/\H b=some (.lst zs)/\xs.length+zs.length<=sizeLine/\∀p,H p=none->Q (.ref p) (upd H p (.lst (xs++zs)))
theorem Wo:OpR X (binaryOp .Add) Yp:=by
 intro pins s σ H x y v u Q I rx ry h
 obtain⟨l,b,xs,zs,rfl,rfl,hH,hB,hz,q⟩:=h
 cases rx
 cases ry
 obtain⟨z,its,n,r,hl,e⟩:=I.lstM hH
 obtain⟨z2,its2,n2,r2,hl2,e2⟩:=I.lstM hB
 refine PySem.P.add_list e e2 ?_ (by rw[qAD,qAD];omega)
 have ea:its.toArray++its2.toArray=(its++its2).toArray:=by simp
 rw[ea]
 exact#[.ref _,_,I.lnew (t':=s.toks) (r.append r2) (by rw[qAn];omega),rfl,q _ I.fresh]
end
section
variable {prog:Program}{w:World}{A:Around}{E:Value->Shared->Prop}{s:Shared}
end
section
variable {X:Cx}
end
end L2
namespace Att
open PySem PySem.W PySem.Calls PyProof.Rows
theorem IK {P:Params}{h:Heap}:∀(ns:List Int)(vs:List Value),WellAll P h vs (ns.map WData.int)->IntsAre vs ns:=by
 intro ns
 induction ns with
 |nil =>
  intro vs w
  rw[qBS] at w
  cases w
  exact .nil
 |cons n ns ih =>
  intro vs w
  rw[qBp] at w
  cases w with
  |cons a b =>
   cases a
   exact .cons _ _ (ih _ b)
theorem P8 {l:OpenLaw}{n:Nat}(hn:l.most=some n){P:Params}{h:Heap}{args:List WData}{vals:List Value}
 (hpre:l.row.toRowW.claim.pre args=true) (hwl:WellAll P h vals args) :
 ∃a vs ns,vals=[Value.ref a]/\args=[WData.list (ns.map WData.int)]/\h.get? a=some { cls:=.type "list",data:=.seq vs.toArray }/\IntsAre vs ns/\ns.length<=n:=by
 have hsh:WShape.hasAll [] args [.list .int]=true:=(pre_splitW hpre).1
 have hc:l.pre.holds [] { args:=args }=true:=(pre_splitW hpre).2
 obtain⟨d,r,rfl,h1,h2⟩:=hasAllW_cons hsh
 obtain rfl:=hasAllW_nil h2
 obtain⟨xs,rfl,h3⟩:=hasW_list h1
 obtain⟨ns,rfl⟩:=items_int h3
 have hlen:ns.length<=n:=by
  unfold OpenLaw.pre at hc
  have h4:(WTm.not (.lt (.lit (.int (n:Int))) (.len (.arg 0)))).holds [] { args:=[.list (ns.map .int)] }=true:=by
   have h4:=(holds_andW hc).1
   rw[hn] at h4
   exact h4
  have h5:=condW_of h4 (w_not (w_lt w_lit (w_len_list (w_arg rfl))))
  rw[qAa] at h5
  refine qBz fun q=>?_
  have q':(n:Int)<((ns.length:Nat):Int):=()
  first
   |(rw[decide_eq_true q'] at h5;exact absurd h5 ∅)
   |(simp at h5;omega)
 cases hwl with
 |cons w1 w2 =>
  cases w2
  cases w1 with
  |list ho hall=>exact#[_,_,ns,rfl,rfl,ho,IK ns _ hall,hlen]
theorem OW (l:OpenLaw)(args:List WData):l.row.toRowW.claim.post args (.bool true) args=true :=
 postW_of (r:=l.row.toRowW) (X:=(true==true))
  (show WShape.has [] (.bool true) .bool=true by first|rfl|decide|simp[WShape.has,WShape.arms,WShape.armsAll])
  (show(WTm.eq .res (.lit (.bool true))).value [] { args:=args,res:=some (.bool true),after:=args }=some (.bool (true==true)) from w_eq_bool (w_res rfl) w_lit) rfl
theorem attach_call {l:OpenLaw}{n:Nat}{q:Program}{loose:List Str}{XP:(Str->Option Value)->Heap->Prop}{YP:World->Heap->Prop}{d:DefRec}
 (hn:l.most=some n) (hdf:d.params.defaults=[])
 (call:∀(w:World)(s₀ s₁:Shared)(mg mb:Str->Option Value)(fa:Addr)(o:Obj)(pm cd doc:Value)(a:Addr)(vs:List Value)(ns:List Int),
  Ground q loose [] XP w s₀ mg mb s₁.heap->YP w s₁.heap ->
  s₁.heap.get? fa=some o->o.data=.func (docDef d.name d.params d.body d.scope pm cd doc)->s₁.heap.CodeRec cd d.name->mg d.name=some (.ref fa) ->
  s₁.heap.get? a=some { cls:=.type "list",data:=.seq vs.toArray }->IntsAre vs ns->ns.length<=n->s₁.gens=(List.toArray []) ->
  codeAny (model l.prog w) callerA (.call (.ref fa) #[[.ref a],[]]) (fun r s'=>r=.ok (.ret (.bool true))/\OldK s₁.heap s'.heap/\s'.os=s₁.os/\AllBare s'.gens) s₁) :
 WalkO q loose XP YP l.row.toRowW d [] (fun f vs=>PySem.call f vs):=by
 intro w s₀ s₁ mg mb G Y fa o pm cd doc dV kV ho hd hcd hD hmg hg args vals as hpre hlay hrd hwl hlo
 obtain rfl:dV=.none:=Dflts.none hD hdf
 obtain rfl:kV=.none:=Dflts.noKw hD
 obtain⟨a,vs,ns,rfl,rfl,hobj,hints,hlen⟩:=P8 hn hpre hwl
 refine enter_call (codeAny_mono (call w s₀ s₁ mg mb fa o pm cd doc a vs ns G Y ho (fd_plain hd) hcd hmg hobj hints hlen hg) fun r s' hq=>?_)
 obtain⟨rfl,h2,h3,h4⟩:=hq
 exact#[.inl #[.bool true,.bool true,[],rfl,fun _=>rfl,.bool true,OW l _,fun _=>#[List.Pairwise.nil,fun _ hm=>(nomatch hm)]],h2,h3,h4]
section
variable {prog:Program}{w:World}{A:Around}{E:Value->Shared->Prop}{s:Shared}{K:Frag}
end
end Att
namespace L2
open PySem PySem.Spec PyProof.Rows
theorem La:∀{vs:List Value}{ns:List Int},IntsAre vs ns->CK (ns.map V.int) vs
 |_,_,.nil=>.nil
 |_,_,.cons n t h=>.cons #[t,rfl] (La h)
abbrev CX0:CXT:=fun _ _ _ _ _ _=>False
abbrev E0:XK:=fun _ _ _=>False
theorem Xj {X:Cx}:Pb CX0 X E0:=fun _ _ _ _ _ _ _ h=>h.elim
structure Fun (K:W.Frag)(x qual:Str)(st:Stmt)(f:Addr)(fd:FuncData):Prop where
 ex:∃(oc:Value)(od:Option Addr)(kV doc pm:Value)(an:Option Addr)(cdv ct:Value)(osl:Array (Option Value)),
  fd=W.fnOf x qual (Gg st) (Cp st) (Ab st) .none kV doc pm an cdv ct/\K.lookup f=some #[oc,od,.func fd,osl]/\W.codeIn K cdv qual=true
 kp:W.keepIn K (.ref f)=true
section
variable {P:Program}{w:World}{K:W.Frag}{mg:Str->Option Value}{base:Heap}
theorem Fun.ok {x qual:Str}{st:Stmt}{f:Addr}{fd:FuncData}{N ps:List Str}{k:Nat}{sp:Sp}(F:Fun K x qual st f fd) (S:Ad N ps (Ab st)) (len:∀vs H Q E,sp vs H Q E->vs.length=ps.length)
 (hbody:∀(cdv:Value)(A:Around)(outer:List Env)(s:Shared)(H:Hp)(vs:List V)(Q:VK)(E:XK),E4 k (A.deeper (envOfC qual (Ab st) s.heap.objs.size f cdv))->sp vs H Q E ->
  ∃t,PSs (LR CX0 P w K mg base N qual (Ab st) f cdv A outer s H E).nox (Cp st) t/\t { nx:=fun _ H'=>Q .non H',rt:=Q } (start N vs) H):Az P w K mg base CX0 (k+1) f fd ps sp:=by
 obtain⟨oc,od,kV,doc,pm,an,cdv,ct,osl,rfl,lk,hcd⟩:=F.ex
 refine QE lk hcd S len fun A outer s H vs Q E hr hsp=>?_
 obtain⟨t,h,q⟩:=hbody cdv A outer s H vs Q E hr hsp
 exact#[t,h.nox,q]
theorem Fun.binds {x qual:Str}{st:Stmt}{f:Addr}{fd:FuncData}{ps:List Str}(F:Fun K x qual st f fd)
 (h:∀(kV doc pm:Value)(an:Option Addr)(cdv ct:Value)(us:List Value),us.length=ps.length->bindArgs (W.fnOf x qual (Gg st) (Cp st) (Ab st) .none kV doc pm an cdv ct) #[us,[]]=pure (ps.zip us)):Binds K fd ps []:=by
 obtain⟨oc,od,kV,doc,pm,an,cdv,ct,osl,rfl,lk,hcd⟩:=F.ex
 exact .all (h kV doc pm an cdv ct)
theorem MH {x qual:Str}{st:Stmt}{f:Addr}{oc:Value}{od an:Option Addr}{osl:Array (Option Value)}{kV doc pm cdv ct:Value}(l:K.lookup f=some #[oc,od,.func (W.fnOf x qual (Gg st) (Cp st) (Ab st) .none kV doc pm an cdv ct),osl])
 (c:W.codeIn K cdv qual=true) (k:W.keepIn K (.ref f)=true):Fun K x qual st f (W.fnOf x qual (Gg st) (Cp st) (Ab st) .none kV doc pm an cdv ct):=#[#[oc,od,kV,doc,pm,an,cdv,ct,osl,rfl,l,c],k]
end
theorem PN {n:Nat}(h:n<=1000):n<sizeLine:=Nat.lt_of_le_of_lt h ∅
section
variable {X:Cx}
theorem pv (i:Nat){x:Str}{pos:Pos}(hN:X.N[i]? = some x:=by rfl) (hv:Vis X.env.scope x:=by first|exact Or.inl rfl|exact Or.inr (Or.inl rfl)|exact Or.inr (Or.inr rfl)) (hd:(x==("__debug__":Str))=false:=by decide)
 (hcd:(x==("__classdict__":Str))=false:=by decide):PE X (.Name x pos) (Ny i):=UW hN hv hd hcd
end
def BD (H H':Hp):Prop:=∀b o,H b=some o->H' b=some o
theorem BD.refl (H:Hp):BD H H:=fun _ _ h=>h
theorem BD.trans {H H1 H2:Hp}(a:BD H H1) (b:BD H1 H2):BD H H2:=fun c o h=>b c o (a c o h)
theorem BD.free {H H':Hp}(e:BD H H'){l:Addr}(h:H' l=Option.none):H l=Option.none:=by
 cases q:H l with
 |none=>rfl
 |some o =>
  rw[e l o q] at h
  cases h
theorem BD.seq {K:W.Frag}{H H':Hp}{a:Addr}{xs:List V}(e:BD H H') (h:SqL K H a xs):SqL K H' a xs:=by
 rcases h with (h|⟨o,h⟩)|h
 .exact .inl (.inl (e _ _ h))
 .exact .inl (.inr #[o,e _ _ h])
 .exact .inr h
end L2
set_option maxHeartbeats 4000000
namespace CH
def g (a b:Int):Int:=(Int.gcd a b:Int)
theorem U9 {a b:Int}(h:b≠0):0<g a b:=by
 have:=Int.gcd_pos_of_ne_zero_right a h
 unfold g;omega
theorem Sf {x y:Int}(hy:0<y):g y (x%y)=g x y:=by
 unfold g
 have e:x%y=x-y*(x/y):=Int.emod_def x y
 rw[e,Int.gcd_sub_mul_left_right,Int.gcd_comm]
theorem Va {x:Int}(hx:0<=x):g x 0=x:=by
 unfold g;rw[Int.gcd_zero];omega
theorem Vv (a b:Int):g (if a<0 then -a else a) (if b<0 then -b else b)=g a b:=by
 unfold g
 split<;>split<;>simp
theorem OS (a b:Int):g a b ∣ a:=Int.gcd_dvd_left a b
theorem OU (a b:Int):g a b ∣ b:=Int.gcd_dvd_right a b
def cm (a b:Int):Int:=if b<0 then -(g a b) else g a b
theorem JS {a c:Int}(h:c ∣ a) (hc:c≠0):Int.fdiv a c*c=a:=by
 obtain⟨k,rfl⟩:=h
 rw[Int.mul_comm c k,qCp _ hc]
theorem IA {a b:Int}(hb:b≠0):Int.fdiv a (cm a b)=(Rat.divInt a b).num/\Int.fdiv b (cm a b)=((Rat.divInt a b).den:Int):=by
 have hg:=U9 (a:=a) hb
 have d1:=OS a b
 have d2:=OU a b
 rw[Rat.num_divInt,Rat.den_divInt,if_neg hb]
 have eg:((b.gcd a:Nat):Int)=g a b:=by unfold g;rw[Int.gcd_comm]
 rw[Int.natCast_ediv,eg]
 unfold cm
 split
 .rename_i h
  rw[qBN h]
  have e1:(-1*a)/g a b=Int.fdiv a (-(g a b)):=by
   obtain⟨k,hk⟩:=d1
   have:-1*a=(-k)*g a b:=⋯
   rw[this,Int.mul_ediv_cancel _ ()]
   have:a=(-k)*(-(g a b)):=⋯
   have q:=qCp (-k) (show -(g a b)≠0 from ())
   rw[<-this] at q
   exact q.symm
  have e2:((b.natAbs:Nat):Int)/g a b=Int.fdiv b (-(g a b)):=by
   obtain⟨k,hk⟩:=d2
   have hn:((b.natAbs:Nat):Int)=-b:=()
   rw[hn]
   have:-b=(-k)*g a b:=⋯
   rw[this,Int.mul_ediv_cancel _ ()]
   have:b=(-k)*(-(g a b)):=⋯
   have q:=qCp (-k) (show -(g a b)≠0 from ())
   rw[<-this] at q
   exact q.symm
  exact#[e1.symm,e2.symm]
 .rename_i h
  have hp:0<b:=()
  rw[qB5 hp,Int.one_mul]
  have hn:((b.natAbs:Nat):Int)=b:=()
  rw[hn,qBO _ (),qBO _ ()]
  exact#[rfl,rfl]
theorem NO {a b:Int}(hb:b≠0):cm a b≠0:=by
 have:=U9 (a:=a) hb
 unfold cm;split<;>omega
theorem den_pos (q:Rat):1<=(q.den:Int):=by have:=q.den_pos;omega
theorem Fb (q:Rat):(q.num:Rat)=q*q.den:=by
 have h:=qBT q
 rw[qAx] at h
 have hd:((q.den:Int):Rat)≠0:=by
  have:=q.den_nz
  simp[this]
 have e:((q.den:Int):Rat)=(q.den:Rat):=rfl
 rw[e] at h hd
 grind
theorem den_ne (q:Rat):(q.den:Rat)≠0:=by have:=q.den_nz;simp[this]
theorem lt_iff (p q:Rat):p.num*(q.den:Int)<q.num*(p.den:Int) ↔ p<q:=(Rat.lt_iff p q).symm
theorem Qa (p q:Rat):Rat.divInt (p.num*q.den+q.num*p.den) ((p.den:Int)*q.den)=p+q:=by
 rw[qAx,qBD,qAk,qAk,qAk,Fb p,Fb q]
 have h1:=den_ne p
 have h2:=den_ne q
 have e1:((p.den:Int):Rat)=(p.den:Rat):=rfl
 have e2:((q.den:Int):Rat)=(q.den:Rat):=rfl
 rw[e1,e2]
 grind
theorem Nn (p q:Rat):Rat.divInt (p.num*q.den-q.num*p.den) ((p.den:Int)*q.den)=p-q:=by
 rw[qAx,qAR,qAk,qAk,qAk,Fb p,Fb q]
 have h1:=den_ne p
 have h2:=den_ne q
 have e1:((p.den:Int):Rat)=(p.den:Rat):=rfl
 have e2:((q.den:Int):Rat)=(q.den:Rat):=rfl
 rw[e1,e2]
 grind
theorem M4 (p q:Rat):Rat.divInt (p.num*q.num) ((p.den:Int)*q.den)=p*q:=by
 rw[qAx,qAk,qAk,Fb p,Fb q]
 have h1:=den_ne p
 have h2:=den_ne q
 have e1:((p.den:Int):Rat)=(p.den:Rat):=rfl
 have e2:((q.den:Int):Rat)=(q.den:Rat):=rfl
 rw[e1,e2]
 grind
theorem OM (p q:Rat)(hq:q≠0):Rat.divInt (p.num*q.den) ((p.den:Int)*q.num)=p/q:=by
 rw[qAx,qAk,qAk,Fb p,Fb q]
 have h1:=den_ne p
 have h2:=den_ne q
 have e1:((p.den:Int):Rat)=(p.den:Rat):=rfl
 have e2:((q.den:Int):Rat)=(q.den:Rat):=rfl
 rw[e1,e2]
 grind
def Sz (k:Nat)(q:Rat):Prop:=q.num.natAbs<2^k/\q.den<2^k
theorem Oz {k m:Nat}(h:k<=m):2^k<=2^m:=Nat.pow_le_pow_right ∅ h
theorem Sz.mono {k m:Nat}{q:Rat}(h:Sz k q) (hk:k<=m):Sz m q:=#[qAq h.1 (Oz hk),qAq h.2 (Oz hk)]
theorem GH {a c x:Int}(h:x*c=a) (hc:c≠0):x.natAbs<=a.natAbs:=by
 rw[<-h,Int.natAbs_mul]
 exact Nat.le_mul_of_pos_right _ ()
theorem Es {a b:Int}{k:Nat}(hb:b≠0) (h1:a.natAbs<2^k) (h2:b.natAbs<2^k):Sz k (Rat.divInt a b):=by
 have p:=IA (a:=a) hb
 have d1:cm a b ∣ a:=by
  unfold cm;split
  .exact Int.neg_dvd.mpr (OS a b)
  .exact OS a b
 have d2:cm a b ∣ b:=by
  unfold cm;split
  .exact Int.neg_dvd.mpr (OU a b)
  .exact OU a b
 have e1:=GH (JS d1 (NO hb)) (NO hb)
 have e2:=GH (JS d2 (NO hb)) (NO hb)
 rw[p.1] at e1
 rw[p.2] at e2
 have e3:(((Rat.divInt a b).den:Int)).natAbs=(Rat.divInt a b).den:=Int.natAbs_natCast _
 rw[e3] at e2
 exact#[(),()]
theorem Aj {a b:Int}{k m:Nat}(h1:a.natAbs<2^k) (h2:b.natAbs<2^m):(a*b).natAbs<2^(k+m):=by
 rw[Int.natAbs_mul,Nat.pow_add]
 exact Nat.mul_lt_mul'' h1 h2
theorem GS {a b:Int}{k:Nat}(h1:a.natAbs<2^k) (h2:b.natAbs<2^k):(a+b).natAbs<2^(k+1):=by
 rw[Nat.pow_succ]
 generalize 2^k=p at *
 omega
theorem DL {a b:Int}{k:Nat}(h1:a.natAbs<2^k) (h2:b.natAbs<2^k):(a-b).natAbs<2^(k+1):=by
 rw[Nat.pow_succ]
 generalize 2^k=p at *
 omega
theorem AB {k:Nat}{q:Rat}(h:Sz k q):((q.den:Int)).natAbs<2^k:=by rw[Int.natAbs_natCast];exact h.2
theorem Ju (p q:Rat):(p.den:Int)*(q.den:Int)≠0:=by
 have h1:=den_pos p
 have h2:=den_pos q
 exact Int.mul_ne_zero () ()
theorem Ar {k m:Nat}{x:Nat}(h:x<2^k) (e:k<=m):x<2^m:=qAq h (Oz e)
theorem Sz.add {k m:Nat}{p q:Rat}(hp:Sz k p) (hq:Sz m q):Sz (k+m+1) (p+q):=by
 rw[<-Qa]
 have a1:=Aj hp.1 (AB hq)
 have a2:=Aj hq.1 (AB hp)
 have a3:=Aj (AB hp) (AB hq)
 rw[qBU m k] at a2
 exact Es (Ju p q) (GS a1 a2) (Ar a3 (qCv _))
theorem Sz.sub {k m:Nat}{p q:Rat}(hp:Sz k p) (hq:Sz m q):Sz (k+m+1) (p-q):=by
 rw[<-Nn]
 have a1:=Aj hp.1 (AB hq)
 have a2:=Aj hq.1 (AB hp)
 have a3:=Aj (AB hp) (AB hq)
 rw[qBU m k] at a2
 exact Es (Ju p q) (DL a1 a2) (Ar a3 (qCv _))
theorem Sz.mul {k m:Nat}{p q:Rat}(hp:Sz k p) (hq:Sz m q):Sz (k+m) (p*q):=by
 rw[<-M4]
 exact Es (Ju p q) (Aj hp.1 hq.1) (Aj (AB hp) (AB hq))
theorem Sz.zero:Sz 1 0:=#[∅,∅]
theorem Sz.den_ne {k:Nat}{p q:Rat}(hq:q≠0):(p.den:Int)*q.num≠0:=by
 have h1:=den_pos p
 have h2:q.num≠0:=fun z=>hq (Rat.num_eq_zero.mp z)
 exact Int.mul_ne_zero () h2
theorem Sz.div {k m:Nat}{p q:Rat}(hp:Sz k p) (hq:Sz m q) (h0:q≠0):Sz (k+m) (p/q):=by
 rw[<-OM p q h0]
 exact Es (Sz.den_ne (k:=0) h0) (Aj hp.1 (AB hq)) (Aj (AB hp) hq.1)
end CH
namespace L3
open PySem PySem.Spec PyProof.Rows L2
abbrev St:=L2.St
def M9:Expr->Bool
 |.Starred .. => true
 |_=>false
theorem CM {e:Expr}{es:List Expr}{env:Env}(h:M9 e=false):starEach (e::es) env=(false,eval e env)::starEach es env:=by
 cases e<;>first|rfl|cases h
theorem D5 {pos:Pos}{env:Env}:∀{es:List Expr},es.all (fun e=>!M9 e)=true->(backTo pos (starEach es env)).any (·.1)=false
 |[],_=>rfl
 |e::es,h=>by
  rw[List.all_cons,qAV] at h
  have h1:M9 e=false:=by
   cases q:M9 e with
   |false=>rfl
   |true=>rw[q] at h;exact absurd h.1 ∅
  rw[CM h1]
  show(false||(backTo pos (starEach es env)).any (·.1))=false
  rw[D5 h.2]
  rfl
inductive D where
 |non|bl (b:Bool)|int (i:Int)|str (x:Str)|ty (n:String)|tup (xs:List D)|lst (xs:List D)|ref (a:Addr)
inductive S where
 |d (x:D)|l (xs:List D)|r (xs:List D)
def S.isL:S->Bool
 |.d _=>false
 |_=>true
def S.share:S->S
 |.l xs=>.r xs
 |s=>s
def S.own:S->Bool
 |.l _=>true
 |_=>false
inductive Is (K:W.Frag)(H:Hp):V->D->Prop where
 |non:Is K H .non .non
 |bl (b:Bool):Is K H (.bl b) (.bl b)
 |int (i:Int):Is K H (.int i) (.int i)
 |str (x:Str):Is K H (.str x) (.str x)
 |ty (n:String):Is K H (.ty n) (.ty n)
 |ref (a:Addr):Is K H (.ref a) (.ref a)
 |tup {a:Addr}{vs:List V}{xs:List D}(h:SqT K H a vs) (hl:vs.length=xs.length) (r:∀(i:Nat)(v:V)(x:D),vs[i]? = some v->xs[i]? = some x->Is K H v x):Is K H (.ref a) (.tup xs)
 |lst {a:Addr}{vs:List V}{xs:List D}(h:H a=some (.lst vs)) (hl:vs.length=xs.length) (r:∀(i:Nat)(v:V)(x:D),vs[i]? = some v->xs[i]? = some x->Is K H v x):Is K H (.ref a) (.lst xs)
def Iss (K:W.Frag)(H:Hp)(vs:List V)(xs:List D):Prop :=
 vs.length=xs.length/\∀(i:Nat)(v:V)(x:D),vs[i]? = some v->xs[i]? = some x->Is K H v x
structure HZ where
 h:Hp
 z:Hp
structure Ext (p q:HZ):Prop where
 hh:BD p.h q.h
 zz:BD p.z q.z
 sub:BD q.z q.h
 new:∀a o,q.z a=some o->p.z a=some o\/p.h a=none
theorem Ext.refl {p:HZ}(h:BD p.z p.h):Ext p p:=#[BD.refl _,BD.refl _,h,fun _ _ e=>.inl e]
theorem Ext.trans {p q r:HZ}(a:Ext p q) (b:Ext q r):Ext p r:=#[a.hh.trans b.hh,a.zz.trans b.zz,b.sub,fun c o e=>by
 rcases b.new c o e with e|e
 .exact a.new c o e
 .exact .inr (a.hh.free e)]
theorem Ext.grow {H H' z:Hp}(h:BD z H) (e:BD H H'):Ext #[H,z] #[H',z]:=#[e,BD.refl _,h.trans e,fun _ _ e=>.inl e]
theorem B7 {H:Hp}{p:Addr}(h:H p=none) (o:HO):BD H (upd H p o):=fun b u q=>by rw[Al (Ap q h)];exact q
theorem Ext.freeze {p q:HZ}{a:Addr}{o:HO}(e:Ext p q) (n:p.h a=none) (nz:q.z a=none) (h:q.h a=some o):Ext p #[q.h,upd q.z a o]:=by
 refine#[e.hh,e.zz.trans (B7 nz o),fun b u hb=>?_,fun b u hb=>?_]
 .by_cases z:b=a
  .subst z
   have hb':upd q.z b o b=some u:=hb
   rw[Au] at hb'
   cases hb'
   exact h
  .have hb':upd q.z a o b=some u:=hb
   rw[Al z] at hb'
   exact e.sub b u hb'
 .by_cases z:b=a
  .subst z;exact .inr n
  .have hb':upd q.z a o b=some u:=hb
   rw[Al z] at hb'
   exact e.new b u hb'
theorem Ext.own {H z:Hp}{a:Addr}(h:BD z H) (n:H a=none) (o:HO):Ext #[H,z] #[upd H a o,z]:=Ext.grow h (B7 n o)
theorem Ext.lay {H z:Hp}{a:Addr}(h:BD z H) (n:H a=none) (o:HO):Ext #[H,z] #[upd H a o,upd z a o] :=
 (Ext.own h n o).freeze n (h.free n) Au
def IsS (K:W.Frag)(p:HZ)(v:V):S->Prop
 |.d x=>Is K p.z v x
 |.l xs=>∃a vs,v=.ref a/\p.h a=some (.lst vs)/\Iss K p.z vs xs
 |.r xs=>∃a vs,v=.ref a/\SqL K p.h a vs/\Iss K p.z vs xs
section
variable {K:W.Frag}{H H':Hp}{p q:HZ}{a:Addr}{v:V}{x:D}{vs:List V}{xs:List D}
theorem SqT.same (e:BD H H')(h:SqT K H a vs):SqT K H' a vs:=by
 rcases h with (h|⟨o,h⟩)|h
 .exact .inl (.inl (e _ _ h))
 .exact .inl (.inr #[o,e _ _ h])
 .exact .inr h
theorem Is.mono (e:BD H H')(h:Is K H v x):Is K H' v x:=by
 induction h with
 |non=>exact .non
 |bl b=>exact .bl b
 |int i=>exact .int i
 |str y=>exact .str y
 |ty n=>exact .ty n
 |ref a=>exact .ref a
 |tup h hl r ih=>exact .tup (SqT.same e h) hl ih
 |lst h hl r ih=>exact .lst (e _ _ h) hl ih
theorem Iss.mono (e:BD H H')(h:Iss K H vs xs):Iss K H' vs xs:=#[h.1,fun i v x h1 h2=>(h.2 i v x h1 h2).mono e]
theorem Iss.nil:Iss K H [] []:=#[rfl,fun i v x h=>by simp at h]
theorem Iss.snoc (t:Iss K H vs xs)(h:Is K H v x):Iss K H (vs++[v]) (xs++[x]):=by
 refine#[by simp[t.1],fun i w y h1 h2=>?_]
 by_cases hi:i<vs.length
 .rw[qAv hi] at h1
  rw[qAv (by have:=t.1;omega)] at h2
  exact t.2 i w y h1 h2
 .rw[qAz ()] at h1
  rw[qAz (by have:=t.1;omega)] at h2
  have e:i-vs.length=0:=by
   have:=(qAg.mp h1).1
   simp at this
   omega
  have e2:i-xs.length=0:=by have:=t.1;omega
  rw[e] at h1
  rw[e2] at h2
  simp at h1 h2
  subst h1;subst h2
  exact h
theorem IsS.mono {s:S}(e:Ext p q) (h:IsS K p v s):IsS K q v s:=by
 cases s with
 |d x=>exact Is.mono e.zz h
 |l xs =>
  obtain⟨a,vs,e1,h1,h2⟩:=h
  exact#[a,vs,e1,e.hh _ _ h1,h2.mono e.zz]
 |r xs =>
  obtain⟨a,vs,e1,h1,h2⟩:=h
  exact#[a,vs,e1,e.hh.seq h1,h2.mono e.zz]
theorem IsS.share {s:S}(h:IsS K p v s):IsS K p v s.share:=by
 cases s with
 |d x=>exact h
 |l xs =>
  obtain⟨a,vs,e1,h1,h2⟩:=h
  exact#[a,vs,e1,SqL.of h1,h2]
 |r xs=>exact h
theorem Is.tup_inv {xs:List D}(h:Is K H v (.tup xs)):∃a vs,v=.ref a/\SqT K H a vs/\Iss K H vs xs:=by
 cases h with
 |tup h hl r=>exact#[_,_,rfl,h,hl,r]
theorem Is.lst_inv {xs:List D}(h:Is K H v (.lst xs)):∃a vs,v=.ref a/\SqL K H a vs/\Iss K H vs xs:=by
 cases h with
 |lst h hl r=>exact#[_,_,rfl,SqL.of h,hl,r]
theorem Is.lst_own {xs:List D}(h:Is K H v (.lst xs)):∃a vs,v=.ref a/\H a=some (.lst vs)/\Iss K H vs xs:=by
 cases h with
 |lst h hl r=>exact#[_,_,rfl,h,hl,r]
theorem Is.int_inv {i:Int}(h:Is K H v (.int i)):v=.int i:=by cases h;rfl
theorem Is.bl_inv {i:Bool}(h:Is K H v (.bl i)):v=.bl i:=by cases h;rfl
theorem Is.non_inv (h:Is K H v .non):v=.non:=by cases h;rfl
theorem Is.str_inv {i:Str}(h:Is K H v (.str i)):v=.str i:=by cases h;rfl
end
abbrev Tau:=List (Option S)
def Fr3 (K:W.Frag)(p q:HZ)(v:V)(s:S):Prop:=∀xs a,s=.l xs->v=.ref a->p.h a=none/\K.lookup a=none/\q.z a=none
structure Rep (X:Cx)(b:HZ)(τ:Tau)(σ:St)(p:HZ):Prop where
 len:σ.length=τ.length
 ext:Ext b p
 val:∀(i:Nat)(s:S),τ[i]? = some (some s)->∃v,σ[i]? = some (some v)/\IsS X.K p v s
 own:∀(i:Nat)(xs:List D)(a:Addr),τ[i]? = some (some (.l xs))->σ[i]? = some (some (.ref a))->b.h a=none/\X.K.lookup a=none/\p.z a=none
 sep:∀(i j:Nat)(xs:List D)(s:S)(a:Addr),i≠j->τ[i]? = some (some (.l xs))->τ[j]? = some (some s)->s.isL=true->σ[i]? = some (some (.ref a))->σ[j]?≠some (some (.ref a))
 top:X.lent=none->BD X.H₀ b.h
 pin:∀i a,X.lent=some (i,a)->σ[i]? = some (some (.ref a))
def Di (X:Cx)(i:Nat):Prop:=∀k a,X.lent=some (k,a)->k≠i
theorem Cv {X:Cx}{i:Nat}(h:X.lent=none):Di X i:=fun k a e=>by rw[h] at e;cases e
theorem Cr {X:Cx}{i k:Nat}{a:Addr}(h:X.lent=some (k,a)) (n:k≠i):Di X i:=fun k' a' e=>by rw[h] at e;cases e;exact n
section
variable {X:Cx}{b b' p q:HZ}{τ τ':Tau}{σ:St}{v:V}{s:S}
theorem Rep.all (r:Rep X b τ σ p)(hl:X.lent=none):BD X.H₀ p.h:=(r.top hl).trans r.ext.hh
theorem Rep.own_list {i:Nat}{xs:List D}{a:Addr}(r:Rep X b τ σ p) (h1:τ[i]? = some (some (.l xs))) (h2:σ[i]? = some (some (.ref a))):∃vs,p.h a=some (.lst vs)/\Iss X.K p.z vs xs:=by
 obtain⟨v,e,c,vs,e1,h3,h4⟩:=r.val i _ h1
 rw[h2] at e
 cases e
 cases e1
 exact#[vs,h3,h4]
theorem Rep.mono (r:Rep X b τ σ p)(e:Ext p q):Rep X b τ σ q :=
 #[r.len,r.ext.trans e,fun i s h=>let #[v,h1,h2]:=r.val i s h;#[v,h1,h2.mono e],(fun i xs a h1 h2=>by
  obtain⟨o1,o2,o3⟩:=r.own i xs a h1 h2
  obtain⟨vs,hv,_⟩:=r.own_list h1 h2
  refine#[o1,o2,?_]
  cases z:q.z a with
  |none=>rfl
  |some o =>
   rcases e.new a o z with x|x
   .rw[o3] at x;cases x
   .rw[hv] at x;cases x),r.sep,r.top,r.pin]
theorem N6 {K:W.Frag}(e:Ext b p) (f:Fr3 K p q v s):Fr3 K b q v s:=fun xs a h1 h2=>#[e.hh.free (f xs a h1 h2).1,(f xs a h1 h2).2]
theorem AN {α:Type}{l:List (Option α)}{i j:Nat}{x y:α}(h:(l.set i (some x))[j]? = some (some y)):(j=i/\y=x)\/(j≠i/\l[j]? = some (some y)):=by
 rw[List.getElem?_set] at h
 by_cases hij:i=j
 .rw[if_pos hij] at h
  split at h
  .cases h
   exact .inl #[hij.symm,rfl]
  .cases h
 .rw[if_neg hij] at h
  exact .inr #[fun z=>hij z.symm,h]
theorem Rep.set {i:Nat}(r:Rep X b τ σ p) (e:Ext p q) (h:IsS X.K q v s) (f:Fr3 X.K p q v s) (hr:s.isL=s.own) (hp:Di X i):Rep X b (τ.set i (some s)) (σ.set i (some v)) q:=by
 have r':=r.mono e
 refine#[by simp[r.len],r'.ext,fun j s' hj=>?_,fun j xs a hj ha=>?_,fun j k xs s' a hjk hj hk hs ha=>?_,r.top,fun k a hk=>by rw[qBK (fun z=>hp k a hk z.symm)];exact r.pin k a hk]
 .rcases AN hj with⟨rfl,rfl⟩|⟨hn,hj⟩
  .have hl:j<σ.length:=by
    rw[r.len]
    have:=(qAg.mp hj).1
    simpa using this
   exact#[v,by rw[qBs hl],h]
  .obtain⟨w,h1,h2⟩:=r'.val j s' hj
   exact#[w,by rw[qBK (fun z=>hn z.symm)];exact h1,h2]
 .rcases AN hj with⟨rfl,e1⟩|⟨hn,hj⟩
  .rcases AN ha with⟨_,e2⟩|⟨hn,_⟩
   .exact(N6 r.ext f) xs a e1.symm e2.symm
   .exact absurd rfl hn
  .rcases AN ha with⟨e2,_⟩|⟨_,ha⟩
   .exact absurd e2 hn
   .exact r'.own j xs a hj ha
 .
  have fresh:∀(m:Nat)(t:S),τ[m]? = some (some t)->t.isL=true->s.own=true->v=.ref a->σ[m]?≠some (some (.ref a)):=by
   intro m t hm ht ho hv hσ
   obtain⟨w,h1,h2⟩:=r.val m t hm
   rw[hσ] at h1
   cases h1
   cases s with
   |d _=>cases ho
   |r _=>cases ho
   |l ys =>
    obtain⟨f1,f2,_⟩:=f ys a rfl hv
    cases t with
    |d _=>cases ht
    |l zs =>
     obtain⟨c,vs,e1,h3,_⟩:=h2
     cases e1
     rw[f1] at h3
     cases h3
    |r zs =>
     obtain⟨c,vs,e1,h3,_⟩:=h2
     cases e1
     rcases h3 with (h3|⟨o,h3⟩)|⟨o,its,n,h3,_⟩
     .rw[f1] at h3;cases h3
     .rw[f1] at h3;cases h3
     .rw[f2] at h3;cases h3
  intro hσk
  rcases AN hj with⟨rfl,e1⟩|⟨hn,hj'⟩
  .rcases AN ha with⟨_,e2⟩|⟨hn,_⟩
   .rcases AN hk with⟨e3,_⟩|⟨_,hk⟩
    .exact hjk e3.symm
    .rcases AN hσk with⟨e4,_⟩|⟨_,hσk⟩
     .exact hjk e4.symm
     .exact fresh k s' hk hs (by rw[<-e1];rfl) e2.symm hσk
   .exact absurd rfl hn
  .rcases AN ha with⟨e2,_⟩|⟨_,ha'⟩
   .exact absurd e2 hn
   .rcases AN hk with⟨e3,e4⟩|⟨hkn,hk'⟩
    .rcases AN hσk with⟨_,e5⟩|⟨hx,_⟩
     .subst e4
      exact fresh j (.l xs) hj' rfl (by rw[<-hr];exact hs) e5.symm ha'
     .exact absurd e3 hx
    .rcases AN hσk with⟨e5,_⟩|⟨_,hσk'⟩
     .exact absurd e5 hkn
     .exact r.sep j k xs s' a hjk hj' hk' hs ha' hσk'
theorem Rep.freeze {i:Nat}{xs:List D}(r:Rep X b τ σ p) (h:τ[i]? = some (some s)) (e:s.share=.r xs):Rep X b (τ.set i (some (.r xs))) σ p:=by
 have hs:s.isL=true:=by
  cases s with
  |d _=>cases e
  |l _=>rfl
  |r _=>rfl
 refine#[by simp[r.len],r.ext,fun j s' hj=>?_,fun j ys a hj ha=>?_,fun j k ys s' a hjk hj hk hs' ha=>?_,r.top,r.pin]
 .rcases AN hj with⟨rfl,rfl⟩|⟨hn,hj⟩
  .obtain⟨v,h1,h2⟩:=r.val j s h
   exact#[v,h1,by rw[<-e];exact h2.share]
  .exact r.val j s' hj
 .rcases AN hj with⟨rfl,e1⟩|⟨hn,hj⟩
  .cases e1
  .exact r.own j ys a hj ha
 .rcases AN hj with⟨rfl,e1⟩|⟨hn,hj'⟩
  .cases e1
  .rcases AN hk with⟨rfl,e4⟩|⟨hkn,hk'⟩
   .exact r.sep j k ys s a hjk hj' h hs ha
   .exact r.sep j k ys s' a hjk hj' hk' hs' ha
theorem Rep.data {i:Nat}{xs:List D}{h z:Hp}(r:Rep X b τ σ #[h,z]) (hi:τ[i]? = some (some (.l xs))):∃z',Rep X b (τ.set i (some (.d (.lst xs)))) σ #[h,z']:=by
 obtain⟨v,h1,a,vs,rfl,h2,h3⟩:=r.val i _ hi
 obtain⟨o1,o2,o3⟩:=r.own i xs a hi h1
 have zz:BD z (upd z a (.lst vs)):=B7 o3 _
 refine#[upd z a (.lst vs),by simp[r.len],r.ext.freeze o1 o3 h2,fun j s' hj=>?_,fun j ys c hj hc=>?_,fun j k ys s' c hjk hj hk hs' hc=>?_,r.top,r.pin]
 .rcases AN hj with⟨rfl,rfl⟩|⟨hn,hj⟩
  .have h3':=h3.mono zz
   exact#[.ref a,h1,Is.lst Au h3'.1 h3'.2]
  .obtain⟨w,w1,w2⟩:=r.val j s' hj
   refine#[w,w1,?_]
   cases s' with
   |d x=>exact Is.mono zz w2
   |l zs=>obtain⟨c,us,e1,q1,q2⟩:=w2;exact#[c,us,e1,q1,q2.mono zz]
   |r zs=>obtain⟨c,us,e1,q1,q2⟩:=w2;exact#[c,us,e1,q1,q2.mono zz]
 .rcases AN hj with⟨rfl,e1⟩|⟨hn,hj'⟩
  .cases e1
  .obtain⟨q1,q2,q3⟩:=r.own j ys c hj' hc
   refine#[q1,q2,?_]
   show upd z a (.lst vs) c=none
   have hca:c≠a:=by
    rintro rfl
    exact r.sep j i ys (.l xs) c hn hj' hi rfl hc h1
   rw[Al hca]
   exact q3
 .rcases AN hj with⟨rfl,e1⟩|⟨hn,hj'⟩
  .cases e1
  .rcases AN hk with⟨rfl,e4⟩|⟨hkn,hk'⟩
   .subst e4;cases hs'
   .exact r.sep j k ys s' c hjk hj' hk' hs' hc
open Classical in
noncomputable def JM (τ:Tau)(σ:St)(H:Hp):Hp:=fun b=>if ∃(i:Nat)(xs:List D),τ[i]? = some (some (S.l xs))/\σ[i]? = some (some (V.ref b)) then none else H b
theorem T3 {H:Hp}:BD (JM τ σ H) H:=fun b o h=>by
 unfold JM at h
 split at h
 .cases h
 .exact h
theorem FJ {H:Hp}{c:Addr}(h:∀(i:Nat)(xs:List D),τ[i]? = some (some (S.l xs))->σ[i]?≠some (some (V.ref c))):JM τ σ H c=H c:=by
 unfold JM
 rw[if_neg]
 rintro⟨i,xs,h1,h2⟩
 exact h i xs h1 h2
theorem Rep.baseB (r:Rep X b τ σ p):BD b.h (JM τ σ p.h):=fun c o h=>by
 rw[FJ]
 .exact r.ext.hh c o h
 .intro i xs h1 h2
  have:=(r.own i xs c h1 h2).1
  rw[h] at this
  cases this
theorem Rep.inB (r:Rep X b τ σ p):Rep X #[JM τ σ p.h,p.z] τ σ p :=
 #[r.len,#[T3,BD.refl _,r.ext.sub,fun _ _ e=>.inl e],r.val,fun i xs a h1 h2=>#[by show JM τ σ p.h a=none;unfold JM;rw[if_pos #[i,xs,h1,h2]],(r.own i xs a h1 h2).2],r.sep,fun h=>(r.top h).trans r.baseB,r.pin]
structure LeB (X:Cx)(b b':HZ):Prop where
 hh:BD b.h b'.h
 zz:BD b.z b'.z
 new:∀a o,b'.z a=some o->b.z a=some o\/b.h a=none
 top:X.lent=none->BD X.H₀ b.h
theorem LeB.ext (e:LeB X b b')(f:Ext b' p):Ext b p:=#[e.hh.trans f.hh,e.zz.trans f.zz,f.sub,fun a o h=>by
 rcases f.new a o h with x|x
 .exact e.new a o x
 .exact .inr (e.hh.free x)]
theorem Rep.outB (e:LeB X b b')(r:Rep X b' τ σ p):Rep X b τ σ p :=
 #[r.len,e.ext r.ext,r.val,fun i xs a h1 h2=>#[e.hh.free (r.own i xs a h1 h2).1,(r.own i xs a h1 h2).2],r.sep,e.top,r.pin]
theorem Rep.leB (r:Rep X b τ σ p):LeB X b #[JM τ σ p.h,p.z]:=#[r.baseB,r.ext.zz,r.ext.new,r.top]
theorem Rep.leR (r:Rep X b τ σ p):LeB X b b:=#[BD.refl _,BD.refl _,fun _ _ e=>.inl e,r.top]
end
abbrev TE3:=Tau->(S->Prop)->Prop
abbrev TT3:=Tau->(Bool->Prop)->Prop
abbrev TA3:=Tau->(List S->Prop)->Prop
structure JB where
 nx:Tau->Prop
 rt:S->Prop
 bk:Tau->Prop:=fun _=>False
 ct:Tau->Prop:=fun _=>False
abbrev TS3:=JB->Tau->Prop
def Args (K:W.Frag)(p:HZ)(vs:List V)(ss:List S):Prop :=
 vs.length=ss.length/\∀(i:Nat)(v:V)(s:S),vs[i]? = some v->ss[i]? = some s->IsS K p v s/\s.own=false
def FE (X:Cx)(t:TE3):TE:=fun σ H Q=>∃B z τ R,Rep X B τ σ #[H,z]/\t τ R/\∀s v q,Ext #[H,z] q->IsS X.K q v s->Fr3 X.K #[H,z] q v s->R s->Q v q.h
def FT (X:Cx)(t:TT3):TT:=fun σ H Q=>∃B z τ R,Rep X B τ σ #[H,z]/\t τ R/\∀c q,Ext #[H,z] q->R c->Q c q.h
def FA (X:Cx)(t:TA3):TA:=fun σ H Q=>∃B z τ R,Rep X B τ σ #[H,z]/\t τ R/\∀ss vs q,Ext #[H,z] q->Args X.K q vs ss->R ss->Q vs q.h
structure UR (X:Cx)(B:HZ)(D3:JB)(D2:Nc):Prop where
 nx:∀τ σ p,Rep X B τ σ p->D3.nx τ->D2.nx σ p.h
 bk:∀τ σ p,Rep X B τ σ p->D3.bk τ->D2.bk σ p.h
 ct:∀τ σ p,Rep X B τ σ p->D3.ct τ->D2.ct σ p.h
 rt:∀s v q,Ext B q->IsS X.K q v s->Fr3 X.K B q v s->D3.rt s->D2.rt v q.h
def FS (X:Cx)(t:TS3):TS:=fun D2 σ H=>∃B z τ D3,Rep X B τ σ #[H,z]/\t D3 τ/\UR X B D3 D2
structure PE3 (X:Cx)(e:Expr)(t:TE3):Prop where
 out:PE X e (FE X t)
structure PT3 (X:Cx)(e:Expr)(t:TT3):Prop where
 out:PT X e (FT X t)
structure PW3 (X:Cx)(e:Expr)(t:TT3):Prop where
 out:PW X e (FT X t)
structure PA3 (X:Cx)(es:List Expr)(t:TA3):Prop where
 out:PA X es (FA X t)
structure PS3 (X:Cx)(st:Stmt)(t:TS3):Prop where
 out:PS X st (FS X t)
structure DP (X:Cx)(st:List Stmt)(t:TS3):Prop where
 out:PSs X st (FS X t)
theorem PW3.pt {X:Cx}{e:Expr}{t:TT3}(h:PW3 X e t):PT3 X e t:=#[h.out _]
section
variable {X:Cx}{e a b:Expr}{ta tb:TE3}{pos:Pos}
theorem BO {t t':TE}(h:PE X e t) (f:∀σ H Q,t' σ H Q->t σ H Q):PE X e t':=fun pins s σ H Q I q=>h pins s σ H Q I (f σ H Q q)
theorem K4 {t t':TT}(h:PT X e t) (f:∀σ H Q,t' σ H Q->t σ H Q):PT X e t':=fun pins s σ H Q I q=>h pins s σ H Q I (f σ H Q q)
theorem R5 {t t':TT}(h:PW X e t) (f:∀σ H Q,t' σ H Q->t σ H Q):PW X e t':=fun wh pins s σ H Q I q=>h wh pins s σ H Q I (f σ H Q q)
theorem R8 {es:List Expr}{t t':TA}(h:PA X es t) (f:∀σ H Q,t' σ H Q->t σ H Q):PA X es t':=fun pos pins s σ H Q I q=>h pos pins s σ H Q I (f σ H Q q)
theorem Cm {st:Stmt}{t t':TS}(h:PS X st t) (f:∀D σ H,t' D σ H->t D σ H):PS X st t':=fun pins s σ H D I q=>h pins s σ H D I (f D σ H q)
theorem IH {st:List Stmt}{t t':TS}(h:PSs X st t) (f:∀D σ H,t' D σ H->t D σ H):PSs X st t':=fun pins s σ H D I q=>h pins s σ H D I (f D σ H q)
def Wz (i:Nat):TE3:=fun τ R=>match τ[i]? with
 |some (some s)=>R s.share
 |_=>False
def vC (d:D):TE3:=fun _ R=>R (.d d)
theorem QS {K:W.Frag}{p q:HZ}{v:V}{s:S}:Fr3 K p q v s.share:=by
 intro xs a h
 cases s<;>cases h
theorem F8 {K:W.Frag}{p q:HZ}{v:V}{d:D}:Fr3 K p q v (.d d):=by
 intro xs a h
 cases h
theorem Xq {i:Nat}{x:Str}(h:PE X (.Name x pos) (Ny i)):PE3 X (.Name x pos) (Wz i):=by
 refine#[?_]
 refine BO h fun σ H Q hh9=>?_
 obtain⟨B,z,τ,R,r,ht,q⟩:=hh9
 unfold Wz at ht
 split at ht
 .rename_i s hs
  obtain⟨v,h1,h2⟩:=r.val i s hs
  exact#[v,h1,q _ v #[H,z] (Ext.refl r.ext.sub) h2.share QS ht]
 .exact ht.elim
theorem Kr {v:V}{d:D}(h:PE X e (tC v)) (hd:∀K H,Is K H v d):PE3 X e (vC d):=#[BO h fun σ H Q hh=>by obtain⟨B,z,τ,R,r,ht,q⟩:=hh;exact q (.d d) v #[H,z] (Ext.refl r.ext.sub) (hd _ _) F8 ht]
theorem Ac {i j}:PE3 X (.Constant (.int i) j pos) (vC (.int i)):=Kr V3 fun _ _=>.int i
theorem K3 {i j}:PE3 X (.Constant (.bool i) j pos) (vC (.bl i)):=Kr WK fun _ _=>.bl i
theorem FR {j}:PE3 X (.Constant .none j pos) (vC .non):=Kr Wr fun _ _=>.non
theorem MD {x j}:PE3 X (.Constant (.str x) j pos) (vC (.str x)):=Kr Vq fun _ _=>.str x
abbrev R3:=D->D->(D->Prop)->Prop
def lft (K:W.Frag)(r3:R3):R2:=fun x y H Q=>∃z dx dy R,BD z H/\Is K z x dx/\Is K z y dy/\r3 dx dy R/\∀d v q,Ext #[H,z] q->Is K q.z v d->R d->Q v q.h
def Js (X:Cx)(f:Value->Value->Sem Value)(r3:R3):Prop:=OpR X f (lft X.K r3)
theorem Gq {f:Value->Value->Sem Value}{r r':R2}(h:OpR X f r) (i:∀x y H Q,r' x y H Q->r x y H Q):OpR X f r':=fun pins s σ H x y v u Q I rx ry q=>h pins s σ H x y v u Q I rx ry (i x y H Q q)
def oI (C:Int->Int->Prop)(g:Int->Int->Int):R3:=fun dx dy R=>match dx,dy with
 |.int i,.int j=>C i j/\R (.int (g i j))
 |_,_=>False
def oI0 (g:Int->Int->Int):R3:=fun dx dy R=>match dx,dy with
 |.int i,.int j=>R (.int (g i j))
 |_,_=>False
def oB0 (g:Int->Int->Bool):R3:=fun dx dy R=>match dx,dy with
 |.int i,.int j=>R (.bl (g i j))
 |_,_=>False
theorem QX {f:Value->Value->Sem Value}{C:Int->Int->Prop}{g:Int->Int->Int}(h:OpR X f (rI C fun i j=>.int (g i j))):Js X f (oI C g) :=
 Gq h fun x y H Q hh=>by
  obtain⟨z,dx,dy,R,hz,hx,hy,h3,q⟩:=hh
  unfold oI at h3
  split at h3
  .rename_i i j
   exact#[i,j,hx.int_inv,hy.int_inv,h3.1,q _ _ #[H,z] (Ext.refl hz) (.int _) h3.2]
  .exact h3.elim
theorem SE {f:Value->Value->Sem Value}{g:Int->Int->Int}(h:OpR X f (rI0 fun i j=>.int (g i j))):Js X f (oI0 g) :=
 Gq h fun x y H Q hh=>by
  obtain⟨z,dx,dy,R,hz,hx,hy,h3,q⟩:=hh
  unfold oI0 at h3
  split at h3
  .rename_i i j
   exact#[i,j,hx.int_inv,hy.int_inv,q _ _ #[H,z] (Ext.refl hz) (.int _) h3]
  .exact h3.elim
theorem Vy {f:Value->Value->Sem Value}{g:Int->Int->Bool}(h:OpR X f (rI0 fun i j=>.bl (g i j))):Js X f (oB0 g) :=
 Gq h fun x y H Q hh=>by
  obtain⟨z,dx,dy,R,hz,hx,hy,h3,q⟩:=hh
  unfold oB0 at h3
  split at h3
  .rename_i i j
   exact#[i,j,hx.int_inv,hy.int_inv,q _ _ #[H,z] (Ext.refl hz) (.bl _) h3]
  .exact h3.elim
theorem Tp:OpR X (binaryOp .Mult) (rI IntMulOk fun i j=>.int (i*j)):=opI fun _ _ _ _ _ _ _ hc q=>mul_int q hc
def CDv (i j:Int):Prop:=j≠0/\Builtin.divisionGoesByPylong i j=false
theorem QG:OpR X (binaryOp .FloorDiv) (rI CDv fun i j=>.int (i.fdiv j)):=opI fun _ _ _ _ _ _ _ hc q=>floordiv_int hc.1 q (.inl hc.2)
def YJ:R3:=fun dx dy R=>match dx,dy with
 |.int i,.int j=>R (.int (i+j))
 |_,_=>False
theorem AU:Js X (binaryOp .Add) YJ:=SE Sd
def YQ:R3:=fun dx dy R=>match dx,dy with
 |.int i,.int j=>R (.int (i-j))
 |_,_=>False
theorem DN:Js X (binaryOp .Sub) YQ:=SE VR
def YL:R3:=fun dx dy R=>match dx,dy with
 |.int i,.int j=>IntMulOk i j/\R (.int (i*j))
 |_,_=>False
theorem Av:Js X (binaryOp .Mult) YL:=QX Tp
def W4:R3:=fun dx dy R=>match dx,dy with
 |.int i,.int j=>CDv i j/\R (.int (i.fdiv j))
 |_,_=>False
theorem A8:Js X (binaryOp .FloorDiv) W4:=QX QG
def YI:R3:=fun dx dy R=>match dx,dy with
 |.int i,.int j=>j≠0/\R (.int (i.fmod j))
 |_,_=>False
theorem A7:Js X (binaryOp .Mod) YI:=QX S9
def Yr:R3:=fun dx dy R=>match dx,dy with
 |.int i,.int j=>Yh i j/\R (.int (i^j.toNat))
 |_,_=>False
theorem KZ:Js X (binaryOp .Pow) Yr:=QX VX
def oLt:R3:=fun dx dy R=>match dx,dy with
 |.int i,.int j=>R (.bl (decide (i<j)))
 |_,_=>False
theorem HB:Js X (compareOp .Lt) oLt:=Vy XN
def oGt:R3:=fun dx dy R=>match dx,dy with
 |.int i,.int j=>R (.bl (decide (j<i)))
 |_,_=>False
theorem Wy:Js X (compareOp .Gt) oGt:=Vy W5
def oEq:R3:=fun dx dy R=>match dx,dy with
 |.int i,.int j=>R (.bl (decide (i=j)))
 |.bl i,.bl j=>R (.bl (decide (i=j)))
 |.str i,.str j=>R (.bl (decide (i=j)))
 |_,_=>False
def oNe:R3:=fun dx dy R=>match dx,dy with
 |.int i,.int j=>R (.bl (!decide (i=j)))
 |.bl i,.bl j=>R (.bl (!decide (i=j)))
 |.str i,.str j=>R (.bl (!decide (i=j)))
 |_,_=>False
theorem NY {α β:Type}{i j:α}{f:α->β} [DecidableEq α] [DecidableEq β] (h:∀a b,f a=f b->a=b):decide (f i=f j)=decide (i=j):=by
 by_cases e:i=j
 .rw[decide_eq_true e,decide_eq_true (by rw[e])]
 .rw[decide_eq_false e,decide_eq_false fun z=>e (h _ _ z)]
theorem Kv:Js X (compareOp .Eq) oEq :=
 Gq Xo fun x y H Q hh=>by
  obtain⟨z,dx,dy,R,hz,hx,hy,h3,q⟩:=hh
  unfold oEq at h3
  split at h3
  .rename_i i j
   cases hx.int_inv
   cases hy.int_inv
   exact#[rfl,by rw[NY (f:=V.int) (fun _ _ z=>by cases z;rfl)];exact q _ _ #[H,z] (Ext.refl hz) (.bl _) h3]
  .rename_i i j
   cases hx.bl_inv
   cases hy.bl_inv
   exact#[rfl,by rw[NY (f:=V.bl) (fun _ _ z=>by cases z;rfl)];exact q _ _ #[H,z] (Ext.refl hz) (.bl _) h3]
  .rename_i i j
   cases hx.str_inv
   cases hy.str_inv
   exact#[rfl,by rw[NY (f:=V.str) (fun _ _ z=>by cases z;rfl)];exact q _ _ #[H,z] (Ext.refl hz) (.bl _) h3]
  .exact h3.elim
theorem Qu:Js X (compareOp .NotEq) oNe :=
 Gq W9 fun x y H Q hh=>by
  obtain⟨z,dx,dy,R,hz,hx,hy,h3,q⟩:=hh
  unfold oNe at h3
  split at h3
  .rename_i i j
   cases hx.int_inv
   cases hy.int_inv
   exact#[rfl,by rw[NY (f:=V.int) (fun _ _ z=>by cases z;rfl)];exact q _ _ #[H,z] (Ext.refl hz) (.bl _) h3]
  .rename_i i j
   cases hx.bl_inv
   cases hy.bl_inv
   exact#[rfl,by rw[NY (f:=V.bl) (fun _ _ z=>by cases z;rfl)];exact q _ _ #[H,z] (Ext.refl hz) (.bl _) h3]
  .rename_i i j
   cases hx.str_inv
   cases hy.str_inv
   exact#[rfl,by rw[NY (f:=V.str) (fun _ _ z=>by cases z;rfl)];exact q _ _ #[H,z] (Ext.refl hz) (.bl _) h3]
  .exact h3.elim
def dd (x:S)(k:D->Prop):Prop:=match x with
 |.d d=>k d
 |_=>False
def vOp (r3:R3)(ta tb:TE3):TE3:=fun τ R=>ta τ fun x=>tb τ fun y=>dd x fun dx=>dd y fun dy=>r3 dx dy fun d=>R (.d d)
theorem FY {x:S}{k:D->Prop}(h:dd x k):∃d,x=.d d/\k d:=by
 cases x with
 |d d=>exact#[d,rfl,h]
 |l _=>exact h.elim
 |r _=>exact h.elim
theorem two {r3:R3}{σ:St}{H:Hp}{Q:VK}(h:FE X (vOp r3 ta tb) σ H Q):tOp (lft X.K r3) (FE X ta) (FE X tb) σ H Q:=by
 obtain⟨B,z,τ,R,r,ht,q⟩:=h
 refine#[B,_,τ,_,r,ht,fun x v H1 e1 i1 f1 h1=>?_]
 refine#[B,_,τ,_,r.mono e1,h1,fun y u H2 e2 i2 f2 h2=>?_]
 obtain⟨dx,rfl,h4⟩:=FY h2
 obtain⟨dy,rfl,h5⟩:=FY h4
 exact#[H2.z,dx,dy,_,e2.sub,Is.mono e2.zz i1,i2,h5,fun d w H3 e3 i3 h3=>q (.d d) w H3 (e1.trans (e2.trans e3)) i3 F8 h3]
theorem Ai {op:Operator}{r3:R3}(ho:Js X (binaryOp op) r3) (ha:PE3 X a ta) (hb:PE3 X b tb):PE3 X (.BinOp a op b pos) (vOp r3 ta tb):=#[BO (Uy ho ha.out hb.out) fun _ _ _ h=>two h]
theorem Me {op:CmpOp}{r3:R3}(ho:Js X (compareOp op) r3) (ha:PE3 X a ta) (hb:PE3 X b tb) (hm:behindInMarks op b=false):PE3 X (.Compare a [op] [b] pos) (vOp r3 ta tb):=#[BO (Tl ho ha.out hb.out hm) fun _ _ _ h=>two h]
def bb (x:S)(k:Bool->Prop):Prop:=match x with
 |.d (.bl c)=>k c
 |_=>False
theorem MI {x:S}{k:Bool->Prop}(h:bb x k):∃c,x=.d (.bl c)/\k c:=by
 unfold bb at h
 split at h
 .exact#[_,rfl,h]
 .exact h.elim
def Uh (t:TE3):TT3:=fun τ R=>t τ fun x=>bb x R
theorem Xs {op:CmpOp}{r3:R3}(ho:Js X (compareOp op) r3) (ha:PE3 X a ta) (hb:PE3 X b tb) (hm:behindInMarks op b=false):PT3 X (.Compare a [op] [b] pos) (Uh (vOp r3 ta tb)):=#[K4 (SH ho ha.out hb.out hm) fun σ H Q hh=>by obtain⟨B,z,τ,R,r,ht,q⟩:=hh;exact two #[B,_,τ,_,r,ht,fun s v H' e i f h=>by
 obtain⟨c,rfl,h⟩:=MI h
 cases Is.bl_inv i
 exact#[c,rfl,q c H' e h]]]
theorem Bc {t:TE3}(h:PE3 X e t) (he:∀whole,isTrue e X.env whole=(do let v <-whole;standAt e.pos;holding [v] (truthy v)):=by intro _;rfl):PT3 X e (Uh t):=#[K4 (Vm h.out he) fun σ H Q hh=>by obtain⟨B,z,τ,R,r,ht,q⟩:=hh;exact#[B,_,τ,_,r,ht,fun s v H' e i f hz=>by
 obtain⟨c,rfl,hz⟩:=MI hz
 cases Is.bl_inv i
 exact#[c,rfl,q c H' e hz]]]
def Ys (ta:TE3):TE3:=fun τ R=>ta τ fun x=>match x with
 |.d (.int i)=>R (.d (.int (-i)))
 |_=>False
theorem Kt (ha:PE3 X a ta):PE3 X (.UnaryOp .USub a pos) (Ys ta):=#[BO (XE Vc ha.out) fun σ H Q hh=>by obtain⟨B,z,τ,R,r,ht,q⟩:=hh;exact#[B,_,τ,_,r,ht,fun s v H' e i f h=>by
 split at h
 .rename_i i'
  exact#[i',Is.int_inv i,q (.d _) _ H' e (Is.int _) F8 h]
 .exact h.elim]]
variable {tA tB':TT3}{rest:List Expr}
def Yj (t u:TT3):TT3:=fun τ R=>t τ fun c=>if c=true then u τ R else R false
def wOr (t u:TT3):TT3:=fun τ R=>t τ fun c=>if c=true then R true else u τ R
def Y3 (t:TT3):TT3:=fun τ R=>t τ fun c=>R (!c)
theorem Fi (ha:PT3 X a tA):PW3 X (.BoolOp .And [a] pos) tA:=#[UK ha.out]
theorem EL (ha:PT3 X a tA):PW3 X (.BoolOp .Or [a] pos) tA:=#[Vl ha.out]
theorem IX (ha:PT3 X a tA)(hb:PW3 X (.BoolOp .And (b::rest) pos) tB'):PW3 X (.BoolOp .And (a::b::rest) pos) (Yj tA tB'):=#[R5 (Vo ha.out hb.out) fun σ H Q hh=>by obtain⟨B,z,τ,R,r,ht,q⟩:=hh;exact#[B,_,τ,_,r,ht,fun c H1 e h=>by
 cases c with
 |true=>rw[if_pos rfl] at h ⊢;exact#[B,_,τ,R,r.mono e,h,fun d H2 e2 h2=>q d H2 (e.trans e2) h2]
 |false=>rw[if_neg qAm] at h ⊢;exact q _ _ e h]]
theorem HM (ha:PT3 X a tA)(hb:PW3 X (.BoolOp .Or (b::rest) pos) tB'):PW3 X (.BoolOp .Or (a::b::rest) pos) (wOr tA tB'):=#[R5 (WQ ha.out hb.out) fun σ H Q hh=>by obtain⟨B,z,τ,R,r,ht,q⟩:=hh;exact#[B,_,τ,_,r,ht,fun c H1 e h=>by
 cases c with
 |false=>rw[if_neg qAm] at h ⊢;exact#[B,_,τ,R,r.mono e,h,fun d H2 e2 h2=>q d H2 (e.trans e2) h2]
 |true=>rw[if_pos rfl] at h ⊢;exact q _ _ e h]]
theorem w_not (ha:PT3 X a tA):PT3 X (.UnaryOp .Not a pos) (Y3 tA):=#[K4 (Vb ha.out) fun σ H Q hh=>by obtain⟨B,z,τ,R,r,ht,q⟩:=hh;exact#[B,_,τ,_,r,ht,fun c H1 e h=>q _ _ e h]]
def Y4 (ta tb:TE3):TE3:=fun τ R=>ta τ fun x=>bb x fun c=>if c=true then tb τ R else R (.d (.bl false))
def Y0 (ta:TE3):TE3:=fun τ R=>ta τ fun x=>bb x fun c=>R (.d (.bl (!c)))
theorem Us {op}{t:TE3}(h:PE3 X a t):PE3 X (.BoolOp op [a] pos) t:=#[V4 h.out]
theorem UB (ha:PE3 X a ta)(hb:PE3 X (.BoolOp .And (b::rest) pos) tb):PE3 X (.BoolOp .And (a::b::rest) pos) (Y4 ta tb):=#[BO (Wu ha.out hb.out) fun σ H Q hh=>by obtain⟨B,z,τ,R,r,ht,q⟩:=hh;exact#[B,_,τ,_,r,ht,fun s v H1 e i f h=>by
 obtain⟨c,rfl,h'⟩:=MI h
 cases Is.bl_inv i
 refine#[c,rfl,?_]
 cases c with
 |true=>rw[if_pos rfl] at h' ⊢;exact#[B,_,τ,R,r.mono e,h',fun s2 v2 H2 e2 i2 f2 h2=>q _ _ _ (e.trans e2) i2 (N6 e f2) h2]
 |false=>rw[if_neg qAm] at h' ⊢;exact q (.d _) _ _ e (Is.bl _) F8 h']]
theorem UJ (ha:PE3 X a ta):PE3 X (.UnaryOp .Not a pos) (Y0 ta):=#[BO (VJ ha.out) fun σ H Q hh=>by obtain⟨B,z,τ,R,r,ht,q⟩:=hh;exact#[B,_,τ,_,r,ht,fun s v H1 e i f h=>by
 obtain⟨c,rfl,h'⟩:=MI h
 cases Is.bl_inv i
 exact#[c,rfl,q (.d _) _ _ e (Is.bl _) F8 h']]]
def items:S->Option (List D)
 |.d (.tup xs)=>some xs
 |.d (.lst xs)=>some xs
 |.l xs=>some xs
 |.r xs=>some xs
 |_=>none
def vIx (ta tb:TE3):TE3:=fun τ R=>ta τ fun x=>tb τ fun y=>match items x,y with
 |some xs,.d (.int i)=>match atI xs i with
  |some d=>R (.d d)
  |none=>False
 |_,_=>False
theorem Kf {K:W.Frag}{H:Hp}{vs:List V}{xs:List D}{i:Int}{d:D}(h:Iss K H vs xs) (e:atI xs i=some d):∃v,atI vs i=some v/\Is K H v d:=by
 unfold atI at e ⊢
 rw[h.1]
 cases q:ixN xs.length i with
 |none=>rw[q] at e;cases e
 |some j =>
  rw[q] at e
  have e':xs[j]? = some d:=e
  have hj:=(qAg.mp e').1
  have hl:j<vs.length:=by rw[h.1];exact hj
  have hv:vs[j]? = some vs[j]:=qAb hl
  exact#[vs[j],hv,h.2 j _ _ hv e']
theorem AW (ha:PE3 X a ta)(hb:PE3 X b tb)(hs:Ou b:=by exact fun _ _=>rfl):PE3 X (.Subscript a b pos) (vIx ta tb):=#[BO (Xz (TN.or Wa) ha.out hb.out hs) fun σ H Q hh=>by
 obtain⟨B,z,τ,R,r,ht,q⟩:=hh
 refine#[B,_,τ,_,r,ht,fun x v H1 e1 i1 f1 h1=>?_]
 refine#[B,_,τ,_,r.mono e1,h1,fun y u H2 e2 i2 f2 h2=>?_]
 split at h2
 .rename_i xs i hx
  split at h2
  .rename_i d hd
   cases Is.int_inv i2
   have i1':=IsS.mono e2 i1
   cases x with
   |d z =>
    cases z with
    |tup zs =>
     cases hx
     obtain⟨p,vs,rfl,h3,h4⟩:=Is.tup_inv i1'
     obtain⟨w,hw,iw⟩:=Kf h4 hd
     exact .inr #[p,vs,i,w,rfl,rfl,SqT.same e2.sub h3,hw,q (.d _) _ _ (e1.trans e2) iw F8 h2]
    |lst zs =>
     cases hx
     obtain⟨p,vs,rfl,h3,h4⟩:=Is.lst_inv i1'
     obtain⟨w,hw,iw⟩:=Kf h4 hd
     exact .inl #[p,vs,i,w,rfl,rfl,e2.sub.seq h3,hw,q (.d _) _ _ (e1.trans e2) iw F8 h2]
    |_=>cases hx
   |l zs =>
    cases hx
    obtain⟨p,vs,rfl,h3,h4⟩:=i1'
    obtain⟨w,hw,iw⟩:=Kf h4 hd
    exact .inl #[p,vs,i,w,rfl,rfl,SqL.of h3,hw,q (.d _) _ _ (e1.trans e2) iw F8 h2]
   |r zs =>
    cases hx
    obtain⟨p,vs,rfl,h3,h4⟩:=i1'
    obtain⟨w,hw,iw⟩:=Kf h4 hd
    exact .inl #[p,vs,i,w,rfl,rfl,h3,hw,q (.d _) _ _ (e1.trans e2) iw F8 h2]
  .exact h2.elim
 .exact h2.elim]
variable {es:List Expr}{tr:TA3}{te:TE3}
def WA:TA3:=fun _ R=>R []
def S.arg:S->S
 |.l xs=>.d (.lst xs)
 |s=>s
def Qp (ta:TE3)(tr:TA3):TA3:=fun τ R=>ta τ fun x=>tr τ fun xs=>R (x.arg::xs)
theorem L8:PA3 X [] WA:=#[R8 Bn fun σ H Q hh=>by obtain⟨B,z,τ,R,r,ht,q⟩:=hh;exact q [] [] #[H,z] (Ext.refl r.ext.sub) #[rfl,fun i v s h=>by simp at h] ht]
theorem Pn (s:S):s.arg.own=false:=by cases s<;>rfl
theorem Fs {K:W.Frag}{p q:HZ}{v:V}{s:S}(e:Ext p q) (i:IsS K q v s) (f:Fr3 K p q v s):∃z',Ext p #[q.h,z']/\IsS K #[q.h,z'] v s.arg:=by
 cases s with
 |d x=>exact#[q.z,e,i]
 |r xs=>exact#[q.z,e,i]
 |l xs =>
  obtain⟨a,vs,rfl,h1,h2⟩:=i
  obtain⟨f1,f2,f3⟩:=f xs a rfl rfl
  have h3:=h2.mono (B7 f3 (.lst vs))
  exact#[upd q.z a (.lst vs),e.freeze f1 f3 h1,Is.lst Au h3.1 h3.2]
theorem AV (ha:PE3 X e te)(hr:PA3 X es tr)(hs:starEach (e::es) X.env=(false,eval e X.env)::starEach es X.env:=by exact CM rfl):PA3 X (e::es) (Qp te tr) :=
 #[R8 (AL ha.out hr.out hs) fun σ H Q hh=>by
  obtain⟨B,z,τ,R,r,ht,q⟩:=hh
  refine#[B,_,τ,_,r,ht,fun x v H1 e1 i1 f1 h1=>?_]
  obtain⟨z1,e1',i1'⟩:=Fs e1 i1 f1
  refine#[B,z1,τ,_,r.mono e1',h1,fun ss vs H2 e2 i2 h2=>?_]
  refine q _ _ _ (e1'.trans e2) #[by simp[i2.1],fun i w s hw hs=>?_] h2
  cases i with
  |zero =>
   simp at hw hs
   subst hw;subst hs
   exact#[IsS.mono e2 i1',Pn x]
  |succ i=>exact i2.2 i w s (by simpa using hw) (by simpa using hs)]
def Tf:List S->Option (List D)
 |[]=>some []
 |.d x::r=>(Tf r).map (x :: ·)
 |_::_=>none
theorem HW:∀{ss:List S}{ds:List D},Tf ss=some ds->ss=ds.map S.d
 |[],ds,h=>by cases h;rfl
 |.d x::r,ds,h=>by
  unfold Tf at h
  cases q:Tf r with
  |none=>rw[q] at h;cases h
  |some ys =>
   rw[q] at h
   cases h
   rw[HW q]
   rfl
 |.l _::_,_,h=>by cases h
 |.r _::_,_,h=>by cases h
theorem JW {K:W.Frag}{p:HZ}{vs:List V}{ds:List D}(h:Args K p vs (ds.map S.d)):Iss K p.z vs ds:=by
 refine#[by simpa using h.1,fun i v x h1 h2=>?_]
 exact(h.2 i v (.d x) h1 (by rw[qAe,h2];rfl)).1
def YS (t:TA3):TE3:=fun τ R=>t τ fun ss=>match Tf ss with
 |some ds=>ds.length<=1000/\R (.d (.tup ds))
 |none=>False
theorem Sb {n:Nat}(h:n<=1000):n<=sizeLine:=qBt (PN h)
theorem Bs {x1}(h:PA3 X es tr):PE3 X (.Tuple es x1 pos) (YS tr) :=
 #[BO (Vp h.out) fun σ H Q hh=>by obtain⟨B,z,τ,R,r,ht,q⟩:=hh;exact#[B,_,τ,_,r,ht,fun ss vs H1 e1 i1 h1=>by
  try dsimp only at h1
  split at h1
  .rename_i ds hd
   rw[HW hd] at i1
   have j:=JW i1
   refine#[by rw[j.1];exact Sb h1.1,fun p hp=>?_]
   have el:=Ext.lay (o:=.tup vs) e1.sub hp
   have j':=j.mono (B7 (e1.sub.free hp) (.tup vs))
   exact q (.d _) _ _ (e1.trans el) (Is.tup (SqT.of Au) j'.1 j'.2) F8 h1.2
  .exact h1.elim]]
theorem Uc {t:TA}(h:PA X es t):PE X (.List es pos) (fun σ H Q=>t σ H fun xs H1=>xs.length<=sizeLine/\∀p,H1 p=none->X.K.lookup p=none->Q (.ref p) (upd H1 p (.lst xs))):=by
 intro pins s σ H Q I hq
 refine wpAny_List_spliced (thn (h pos pins s σ H _ I hq) fun us s1 #[xs,H1,I1,r,z,q]=>#[by rw[<-r.length];exact z,?_])
 have hf:H1 s1.heap.objs.size=none:=I1.hok.fresh (qAc _)
 have hk:X.K.lookup s1.heap.objs.size=none:=by
  cases e:X.K.lookup s1.heap.objs.size with
  |none=>rfl
  |some o=>exact absurd (qAh (I1.kIn _ _ e)) (qA4 _)
 refine#[.ref s1.heap.objs.size,upd H1 s1.heap.objs.size (.lst xs),I1.laid (t':=s1.toks) (fun b u e=>qAf _ e) (qAc _) ?_,rfl,q _ hf hk]
 exact#[z,us,0,r,qAr _ rfl]
def YF (t:TA3):TE3:=fun τ R=>t τ fun ss=>match Tf ss with
 |some ds=>ds.length<=1000/\R (.l ds)
 |none=>False
theorem F9 (h:PA3 X es tr):PE3 X (.List es pos) (YF tr) :=
 #[BO (Uc h.out) fun σ H Q hh=>by obtain⟨B,z,τ,R,r,ht,q⟩:=hh;exact#[B,_,τ,_,r,ht,fun ss vs H1 e1 i1 h1=>by
  try dsimp only at h1
  split at h1
  .rename_i ds hd
   rw[HW hd] at i1
   have j:=JW i1
   refine#[by rw[j.1];exact Sb h1.1,fun p hp hk=>q (.l ds) _ #[_,H1.z] (e1.trans (Ext.own e1.sub hp _)) #[p,vs,rfl,Au,j] (fun xs a _ h2=>?_) h1.2]
   cases h2
   exact#[e1.hh.free hp,hk,e1.sub.free hp]
  .exact h1.elim]]
def vCB (r:List S->(S->Prop)->Prop)(t:TA3):TE3:=fun τ R=>t τ fun ss=>r ss R
def Ly (X:Cx)(f:Value)(r3:List S->(S->Prop)->Prop):Prop :=
 Hj X f (fun xs H Q=>∃z ss R,BD z H/\Args X.K #[H,z] xs ss/\r3 ss R/\∀s v q,Ext #[H,z] q->IsS X.K q v s->Fr3 X.K #[H,z] q v s->R s->Q v q.h)
theorem GL {f:Value}{r r':List V->Hp->VK->Prop}(h:Hj X f r) (i:∀xs H Q,r' xs H Q->r xs H Q):Hj X f r':=fun pins s σ H xs us Q I rs q=>h pins s σ H xs us Q I rs (i xs H Q q)
theorem Hs {x:Str}{p:Pos}{id:String}{r:List S->(S->Prop)->Prop}(hc:Ly X (.builtin id) r) (hg:Gl X x) (hm:X.mg x=none) (hv:bootBuiltins x=some (.builtin id)) (ha:PA3 X (e::es) tr) (hn:x≠"__name__":=by decide)
 (hdb:(x==("__debug__":Str))=false:=by decide) (he:starEach (e::es) X.env=(false,eval e X.env)::starEach es X.env:=by exact CM rfl) (hpl:(backTo pos (starEach es X.env)).any (·.1)=false:=by exact D5 rfl) :
 PE3 X (.Call (.Name x p) (e::es) [] pos) (vCB r tr):=#[BO (KU hc hg hm hv ha.out hn hdb he hpl) fun σ H Q hh=>by obtain⟨B,z,τ,R,r,ht,q⟩:=hh;exact#[B,_,τ,_,r,ht,fun ss vs H1 e1 i1 h1=>#[H1.z,ss,R,e1.sub,i1,h1,fun s v H2 e2 i2 f2 h2=>q s v H2 (e1.trans e2) i2 (N6 e1 f2) h2]]]
theorem X2 {α:Type}{l:List α}(h:l.length=1):∃a,l=[a]:=by
 cases l with
 |nil=>cases h
 |cons a t=>exact#[a,by rw[List.length_eq_zero_iff.mp (Nat.succ.inj h)]]
theorem X4 {α:Type}{l:List α}(h:l.length=2):∃a b,l=[a,b]:=by
 cases l with
 |nil=>cases h
 |cons a t =>
  obtain⟨b,e⟩:=X2 (Nat.succ.inj h)
  exact#[a,b,by rw[e]]
theorem YG {α:Type}{l:List α}(h:l.length=3):∃a b c,l=[a,b,c]:=by
 cases l with
 |nil=>cases h
 |cons a t =>
  obtain⟨b,c,e⟩:=X4 (Nat.succ.inj h)
  exact#[a,b,c,by rw[e]]
theorem Rq {K:W.Frag}{H:HZ}{vs:List V}{s:S}(h:Args K H vs [s]):∃v,vs=[v]/\IsS K H v s:=by
 obtain⟨hl,hv⟩:=h
 obtain⟨v,rfl⟩:=X2 hl
 exact#[v,rfl,(hv 0 v s rfl rfl).1]
theorem QW {K:W.Frag}{H:HZ}{vs:List V}{s t:S}(h:Args K H vs [s,t]):∃v u,vs=[v,u]/\IsS K H v s/\IsS K H u t:=by
 obtain⟨hl,hv⟩:=h
 obtain⟨v,u,rfl⟩:=X4 hl
 exact#[v,u,rfl,(hv 0 v s rfl rfl).1,(hv 1 u t rfl rfl).1]
def XR:List S->(S->Prop)->Prop:=fun ss R=>match ss with
 |[.d (.int i)]=>R (.d (.int (if i<0 then -i else i)))
 |_=>False
def XQ:List S->(S->Prop)->Prop:=fun ss R=>match ss with
 |[.d (.int i),.d (.int j)]=>R (.d (.int (if j>i then j else i)))
 |_=>False
def Yg:List S->(S->Prop)->Prop:=fun ss R=>match ss with
 |[.d (.int i),.d (.int j)]=>R (.d (.int (if j<i then j else i)))
 |_=>False
theorem TR:Ly X (.builtin "abs") XR :=
 GL QZ fun xs H Q hh=>by
  obtain⟨z,ss,R,hz,ha,h3,q⟩:=hh
  unfold XR at h3
  split at h3
  .rename_i i
   obtain⟨v,rfl,h⟩:=Rq ha
   cases Is.int_inv h
   exact#[i,rfl,q (.d _) _ #[H,z] (Ext.refl hz) (Is.int _) F8 h3]
  .exact h3.elim
theorem XJ (hc:X.calm=true):Ly X (.builtin "max") XQ :=
 GL (OO hc) fun xs H Q hh=>by
  obtain⟨z,ss,R,hz,ha,h3,q⟩:=hh
  unfold XQ at h3
  split at h3
  .rename_i i j
   obtain⟨v,u,rfl,h,h'⟩:=QW ha
   cases Is.int_inv h
   cases Is.int_inv h'
   exact#[i,j,rfl,q (.d _) _ #[H,z] (Ext.refl hz) (Is.int _) F8 h3]
  .exact h3.elim
theorem XA (hc:X.calm=true):Ly X (.builtin "min") Yg :=
 GL (OG hc) fun xs H Q hh=>by
  obtain⟨z,ss,R,hz,ha,h3,q⟩:=hh
  unfold Yg at h3
  split at h3
  .rename_i i j
   obtain⟨v,u,rfl,h,h'⟩:=QW ha
   cases Is.int_inv h
   cases Is.int_inv h'
   exact#[i,j,rfl,q (.d _) _ #[H,z] (Ext.refl hz) (Is.int _) F8 h3]
  .exact h3.elim
def Xp:List S->(S->Prop)->Prop:=fun ss R=>match ss with
 |[s]=>match items s with
  |some xs=>R (.d (.int xs.length))
  |none=>False
 |_=>False
theorem XI:Ly X (.builtin "len") Xp :=
 GL Lc fun xs H Q hh=>by
  obtain⟨z,ss,R,hz,ha,h3,q⟩:=hh
  unfold Xp at h3
  split at h3
  .rename_i s
   split at h3
   .rename_i ys hy
    obtain⟨v,rfl,h⟩:=Rq ha
    cases s with
    |d z =>
     cases z with
     |tup zs =>
      cases hy
      obtain⟨p,vs,rfl,h1,h2⟩:=Is.tup_inv h
      exact#[p,vs,rfl,.inr (SqT.same hz h1),by rw[h2.1];exact q (.d _) _ #[H,z] (Ext.refl hz) (Is.int _) F8 h3]
     |lst zs =>
      cases hy
      obtain⟨p,vs,rfl,h1,h2⟩:=Is.lst_inv h
      exact#[p,vs,rfl,.inl (hz.seq h1),by rw[h2.1];exact q (.d _) _ #[H,z] (Ext.refl hz) (Is.int _) F8 h3]
     |_=>cases hy
    |l zs =>
     cases hy
     obtain⟨p,vs,rfl,h1,h2⟩:=h
     exact#[p,vs,rfl,.inl (SqL.of h1),by rw[h2.1];exact q (.d _) _ #[H,z] (Ext.refl hz) (Is.int _) F8 h3]
    |r zs =>
     cases hy
     obtain⟨p,vs,rfl,h1,h2⟩:=h
     exact#[p,vs,rfl,.inl h1,by rw[h2.1];exact q (.d _) _ #[H,z] (Ext.refl hz) (Is.int _) F8 h3]
   .exact h3.elim
  .exact h3.elim
inductive Ty where
 |int|bool|tuple|str|list
def UG:Ty->String
 |.int=>"int"
 |.bool=>"bool"
 |.tuple=>"tuple"
 |.str=>"str"
 |.list=>"list"
def WJ:Ty->S->Bool
 |.int,.d (.int _)=>true
 |.int,.d (.bl _)=>true
 |.bool,.d (.bl _)=>true
 |.tuple,.d (.tup _)=>true
 |.str,.d (.str _)=>true
 |.list,.l _=>true
 |.list,.r _=>true
 |.list,.d (.lst _)=>true
 |_,_=>false
def X0:S->Prop
 |.d (.ty _)=>False
 |.d (.ref _)=>False
 |_=>True
theorem Q0 (k:Ty):Hj X (.builtin "isinstance") (fun xs H Q=>∃z x s,BD z H/\xs=[x,.ty (UG k)]/\IsS X.K #[H,z] x s/\X0 s/\Q (.bl (WJ k s)) H):=by
 intro pins s σ H xs us Q I rs h
 obtain⟨zz,x,z,hz,rfl,h1,h2,q⟩:=h
 obtain⟨v',u',rfl,r1,r2⟩:=Ry rs
 cases r2
 have fin:∀tk,EP X pins σ Q (.bool (WJ k z)) { s with toks:=tk }:=fun tk=>#[.bl _,H,I.tok tk,rfl,q]
 cases z with
 |d z =>
  cases z with
  |non=>cases Is.non_inv h1;exact GR I r1 .non (by cases k<;>kernel_rfl) fin
  |bl y=>cases Is.bl_inv h1;exact GR I r1 (.bl y) (by cases k<;>kernel_rfl) fin
  |int y=>cases Is.int_inv h1;exact GR I r1 (.int y) (by cases k<;>kernel_rfl) fin
  |str y=>cases Is.str_inv h1;exact GR I r1 (.str y) (by cases k<;>kernel_rfl) fin
  |ty y=>exact h2.elim
  |ref y=>exact h2.elim
  |lst y =>
   obtain⟨p,vs,rfl,g1,g2⟩:=Is.lst_inv h1
   cases r1
   obtain⟨its,_,pl,_⟩:=I.list (hz.seq g1)
   obtain⟨o,n',e1,e2,_⟩:=pl
   exact qAP qBI I.kIn #[o,e1,e2] (by cases k<;>kernel_rfl) (fun z=>nomatch z) fin
  |tup y =>
   obtain⟨p,vs,rfl,g1,g2⟩:=Is.tup_inv h1
   cases r1
   obtain⟨its,_,pl,_⟩:=I.tuple (SqT.same hz g1)
   obtain⟨o,e1,e2,_⟩:=pl
   exact qAP W.kitx_tuple I.kIn #[o,e1,e2] (by cases k<;>kernel_rfl) (fun z=>nomatch z) fin
 |l y =>
  obtain⟨p,vs,rfl,g1,g2⟩:=h1
  cases r1
  obtain⟨its,_,pl,_⟩:=I.list (SqL.of g1)
  obtain⟨o,n',e1,e2,_⟩:=pl
  exact qAP qBI I.kIn #[o,e1,e2] (by cases k<;>kernel_rfl) (fun z=>nomatch z) fin
 |r y =>
  obtain⟨p,vs,rfl,g1,g2⟩:=h1
  cases r1
  obtain⟨its,_,pl,_⟩:=I.list g1
  obtain⟨o,n',e1,e2,_⟩:=pl
  exact qAP qBI I.kIn #[o,e1,e2] (by cases k<;>kernel_rfl) (fun z=>nomatch z) fin
def Yw (k:Ty)(te:TE3):TE3:=fun τ R=>te τ fun x=>X0 x/\R (.d (.bl (WJ k x)))
theorem KG (k:Ty){y:Str}{p p2:Pos}(ha:PE3 X e te) (hg:Gl X "isinstance") (hm:X.mg "isinstance"=none) (hg2:Gl X y) (hm2:X.mg y=none) (hv:bootBuiltins y=some (.type (UG k)))
 (hn:y≠"__name__":=by decide) (hd:(y==("__debug__":Str))=false:=by decide)
 (he:starEach [e,.Name y p2] X.env=(false,eval e X.env)::starEach [.Name y p2] X.env:=by exact CM rfl) (he2:starEach [.Name y p2] X.env=(false,eval (.Name y p2) X.env)::starEach [] X.env:=by exact CM rfl) (hpl:(backTo pos (starEach [.Name y p2] X.env)).any (·.1)=false:=by exact D5 rfl) :
 PE3 X (.Call (.Name "isinstance" p) [e,.Name y p2] [] pos) (Yw k te):=#[BO (KU (Q0 k) hg hm qCq (AL ha.out (AL (Pm (v:=.ty (UG k)) hg2 hm2 hv rfl hn hd) Bn he2) he) (he:=he) (hpl:=hpl)) fun σ H Q #[B,z,τ,R,r,ht,q] =>
 #[B,_,τ,_,r,ht,fun s v H1 e1 i1 f1 h1=>#[H1.z,v,s,e1.sub,rfl,i1,h1.1,q (.d _) _ H1 e1 (Is.bl _) F8 h1.2]]]
abbrev Sp3:=List S->(S->Prop)->(Str->Prop)->Prop
def Ah (K:W.Frag)(mg:Str->Option Value)(sp:Sp3):Sp:=fun vs H Q E=>∃z ss R U,BD z H/\Args K #[H,z] vs ss/\sp ss R U/\(∀s v q,Ext #[H,z] q->IsS K q v s->Fr3 K #[H,z] q v s->R s->Q v q.h) /\
 ∀x C H',BD H H'->mg x=some (.ref C)->U x->E (.ref C) none H'
structure Cal (P:Program)(w:World)(K:W.Frag)(mg:Str->Option Value)(base:Heap)(CX:CXT)(k:Nat)(x:Str)(ps:List Str)(sp:Sp3):Prop where
 ex:∃f fd,Az P w K mg base CX k f fd ps (Ah K mg sp)/\mg x=some (.ref f)/\W.keepIn K (.ref f)=true/\Binds K fd ps []
def NoU:Str->Prop:=fun _=>False
variable {st:Stmt}{rest':List Stmt}{t u:TS3}
def Xf:TS3:=fun D3 τ=>D3.nx τ
def YD (t u:TS3):TS3:=fun D3 τ=>t { D3 with nx:=u D3 } τ
def YV (t u:TS3):TS3:=fun D3 τ=>∃mid:Tau->Prop,t { D3 with nx:=mid } τ/\∀τ',mid τ'->u D3 τ'
theorem Am:DP X [] Xf:=#[IH Ux fun _ _ _ #[_,_,_,_,r,ht,c]=>c.nx _ _ _ r ht]
theorem Ag (h:PS3 X st t):DP X [st] t:=#[UH h.out]
theorem Aa (h1:PS3 X st t)(h2:DP X rest' u):DP X (st::rest') (YD t u):=#[IH (MJ h1.out h2.out) fun D2 σ H hh=>by obtain⟨B,z,τ,D3,r,ht,c⟩:=hh;exact#[B,_,τ,{ D3 with nx:=u D3 },r,ht,#[fun τ' σ' p' r' h'=>#[B,_,τ',D3,r',h',c],c.bk,c.ct,c.rt]]]
theorem Dk (h1:PS3 X st t)(h2:DP X rest' u):DP X (st::rest') (YV t u):=#[IH (MJ h1.out h2.out) fun D2 σ H #[B,z,τ,D3,r,#[mid,ht,hm],c]=>#[B,_,τ,{ D3 with nx:=mid },r,ht,#[fun τ' σ' p' r' h'=>#[B,_,τ',D3,r',hm τ' h',c],c.bk,c.ct,c.rt]]]
def sGd (t u:TS3):TS3:=fun D3 τ=>t { D3 with nx:=fun τ'=>τ'=τ } τ/\u D3 τ
theorem Gh (h1:PS3 X st t)(h2:DP X rest' u):DP X (st::rest') (sGd t u):=#[IH (Dk h1 h2).out fun D2 σ H #[B,z,τ,D3,r,#[ht,hu],c]=>#[B,_,τ,D3,r,#[fun τ'=>τ'=τ,ht,fun τ' e=>by subst e;exact hu],c]]
def UU:TS3:=fun _ _=>False
theorem OK:PS3 X st UU:=#[Cm RM fun _ _ _ #[_,_,_,_,_,h,_]=>h.elim]
def WT (te:TE3):TS3:=fun D3 τ=>te τ fun _=>D3.nx τ
theorem P4 (he:PE3 X e te)(hs:swapsWith e none pos.line X.env=pure false:=by rfl):PS3 X (.Expr e pos) (WT te):=#[Cm (Be he.out hs) fun D2 σ H hh=>by obtain⟨B,z,τ,D3,r,ht,c⟩:=hh;exact#[B,_,τ,_,r,ht,fun s v H' e i f h=>c.nx _ _ _ (r.mono e) h]]
def X1 (te:TE3):TS3:=fun D3 τ=>te τ D3.rt
theorem W2 (he:PE3 X e te):PS3 X (.Return (some e) pos) (X1 te):=#[Cm (R9 he.out) fun D2 σ H hh=>by obtain⟨B,z,τ,D3,r,ht,c⟩:=hh;exact#[B,_,τ,_,r,ht,fun s v H' e i f h=>c.rt s v H' (r.ext.trans e) i (N6 r.ext f) h]]
def VI (i:Nat):TS3:=fun D3 τ=>match τ[i]? with
 |some (some s)=>D3.rt s
 |_=>False
theorem C6 {i:Nat}{x:Str}{pos':Pos}(h:PE X (.Name x pos') (Ny i)):PS3 X (.Return (some (.Name x pos')) pos) (VI i):=#[Cm (R9 h) fun D2 σ H hh=>by
 obtain⟨B,z,τ,D3,r,ht,c⟩:=hh
 unfold VI at ht
 split at ht
 .rename_i s hs
  obtain⟨v,h1,h2⟩:=r.val i s hs
  exact#[v,h1,c.rt s v #[H,z] r.ext h2 (fun xs a e1 e2=>r.own i xs a (by rw[<-e1];exact hs) (by rw[<-e2];exact h1)) ht]
 .exact ht.elim]
def sIf (c:TT3)(t u:TS3):TS3:=fun D3 τ=>c τ fun b=>if b=true then t D3 τ else u D3 τ
theorem BE {c:Expr}{as bs:List Stmt}{tc:TT3}(hc:PT3 X c tc) (ha:DP X as t) (hb:DP X bs u):PS3 X (.If c as bs pos) (sIf tc t u):=#[Cm (Xh hc.out ha.out hb.out) fun D2 σ H hh=>by obtain⟨B,z,τ,D3,r,ht,c⟩:=hh;exact#[B,_,τ,_,r,ht,fun b H1 e h=>by
 cases b with
 |true=>rw[if_pos rfl] at h ⊢;exact#[B,_,τ,D3,r.mono e,h,c]
 |false=>rw[if_neg qAm] at h ⊢;exact#[B,_,τ,D3,r.mono e,h,c]]]
def WB (i:Nat)(te:TE3):TS3:=fun D3 τ=>te τ fun s=>match s with
 |.r _=>False
 |.d x=>D3.nx (τ.set i (some (.d x)))
 |.l xs=>D3.nx (τ.set i (some (.l xs)))
theorem WL {i:Nat}{x:Str}{pos':Pos}(hN:X.N.Nodup) (hi:X.N[i]? = some x) (hx:Loc X.env.scope x) (he:PE3 X e te) (hs:swapsWith e (some (.Name x pos')) pos.line X.env=pure false:=by rfl) (hf:X.fn x=true\/X.env.scope.names.lookup x=some .local:=by first|exact .inl rfl|exact .inr rfl|assumption) (hp:Di X i:=by first|exact Cv rfl|exact Cr rfl ∅|assumption) :
 PS3 X (.Assign [.Name x pos'] e pos) (WB i te):=#[Cm (Wj hN hi hx he.out hs hf) fun D2 σ H hh=>by obtain⟨B,z,τ,D3,r,ht,c⟩:=hh;exact#[B,_,τ,_,r,ht,fun s v H' e i f h=>by
 cases s with
 |r _=>exact h.elim
 |d y=>exact c.nx _ _ _ (r.set e i f rfl hp) h
 |l ys=>exact c.nx _ _ _ (r.set e i f rfl hp) h]]
theorem Rep.push {B:HZ}{H z:Hp}{τ:Tau}{σ:St}{i:Nat}{xs:List D}{l:Addr}{vs:List V}{w:V}{d:D}(r:Rep X B τ σ #[H,z]) (hi:τ[i]? = some (some (.l xs))) (hσ:σ[i]? = some (some (.ref l)))
 (hl:H l=some (.lst vs)) (hv:Iss X.K z vs xs) (iw:Is X.K z w d):Rep X B (τ.set i (some (.l (xs++[d])))) σ #[upd H l (.lst (vs++[w])),z]:=by
 obtain⟨o1,o2,o3⟩:=r.own i xs l hi hσ
 refine#[by simp[r.len],#[fun b o h=>?_,r.ext.zz,fun b o h=>?_,r.ext.new],fun j s hj=>?_,fun j ys a hj ha=>?_,fun j k ys s a hjk hj hk hs ha=>?_,r.top,r.pin]
 .have hb:b≠l:=by
   rintro rfl
   rw[h] at o1
   cases o1
  show upd H l _ b=some o
  rw[Al hb]
  exact r.ext.hh b o h
 .have hb:b≠l:=by
   rintro rfl
   have h':z b=some o:=h
   rw[show z b=none from o3] at h'
   cases h'
  show upd H l _ b=some o
  rw[Al hb]
  exact r.ext.sub b o h
 .rcases AN hj with⟨rfl,rfl⟩|⟨hn,hj⟩
  .exact#[.ref l,hσ,l,_,rfl,Au,hv.snoc iw]
  .obtain⟨v,h1,h2⟩:=r.val j s hj
   refine#[v,h1,?_]
   cases s with
   |d x=>exact h2
   |l ys =>
    obtain⟨b,ws,rfl,h3,h4⟩:=h2
    have hb:b≠l:=by
     rintro rfl
     exact r.sep i j xs (.l ys) b (fun z=>hn z.symm) hi hj rfl hσ h1
    exact#[b,ws,rfl,by show upd H l _ b=_;rw[Al hb];exact h3,h4]
   |r ys =>
    obtain⟨b,ws,rfl,h3,h4⟩:=h2
    have hb:b≠l:=by
     rintro rfl
     exact r.sep i j xs (.r ys) b (fun z=>hn z.symm) hi hj rfl hσ h1
    refine#[b,ws,rfl,?_,h4]
    rcases h3 with (h3|⟨o,h3⟩)|h3
    .exact .inl (.inl (by show upd H l _ b=_;rw[Al hb];exact h3))
    .exact .inl (.inr #[o,by show upd H l _ b=_;rw[Al hb];exact h3])
    .exact .inr h3
 .rcases AN hj with⟨rfl,_⟩|⟨hn,hj⟩
  .exact r.own j xs a hi ha
  .exact r.own j ys a hj ha
 .rcases AN hj with⟨rfl,_⟩|⟨hn,hj'⟩
  .rcases AN hk with⟨e3,_⟩|⟨hkn,hk'⟩
   .exact absurd e3.symm hjk
   .exact r.sep j k xs s a hjk hi hk' hs ha
  .rcases AN hk with⟨rfl,rfl⟩|⟨hkn,hk'⟩
   .exact r.sep j k ys (.l xs) a hjk hj' hi rfl ha
   .exact r.sep j k ys s a hjk hj' hk' hs ha
def X7 (i:Nat)(te:TE3):TS3:=fun D3 τ=>match τ[i]? with
 |some (some (.l xs))=>te τ fun s=>dd s.arg fun d=>xs.length<1000000/\D3.nx (τ.set i (some (.l (xs++[d]))))
 |_=>False
theorem DQ {i:Nat}{o:Expr}{apos cpos:Pos}(h:PS X (.Expr (.Call (.Attribute o "append" apos) [e] [] cpos) pos) (Vi (tBM X.K "list" OF (Ny i) (Om (FE X te) Xr)))) :
 PS3 X (.Expr (.Call (.Attribute o "append" apos) [e] [] cpos) pos) (X7 i te):=#[Cm h fun D2 σ H hh=>by
 obtain⟨B,z,τ,D3,r,ht,c⟩:=hh
 unfold X7 at ht
 split at ht
 .rename_i xs hs
  obtain⟨v,h1,a,vs,rfl,h2,h3⟩:=r.val i _ hs
  refine#[.ref a,h1,.inl #[rfl,vs,SqL.of h2],B,_,τ,_,r,ht,fun s v H' e i' f h=>?_]
  obtain⟨d,hd,h4,h5⟩:=FY h
  obtain⟨z',e',i''⟩:=Fs e i' f
  rw[hd] at i''
  have sz:(1000000:Nat)<sizeLine:=∅
  exact#[a,vs,v,rfl,rfl,e.hh _ _ h2,by rw[h3.1];omega,c.nx _ _ _ ((r.mono e').push hs h1 (e.hh _ _ h2) (h3.mono e'.zz) i'') h5]
 .exact ht.elim]
def Vt (c:TT3)(tb:TS3):TS3:=fun D3 τ=>∃W:Nat->Tau->Prop,(∃m,W m τ)/\∀m τ,W m τ ->
 c τ fun b=>if b=true then tb { D3 with nx:=fun τ'=>∃m',m'<m/\W m' τ',ct:=fun τ'=>∃m',m'<m/\W m' τ',bk:=D3.nx } τ else D3.nx τ
theorem G8 {c:Expr}{body:List Stmt}{tc:TT3}{tb:TS3}(hp:PassesOwn (model X.prog X.w) X.A X.env X.xe) (hc:PT3 X c tc) (hb:DP X body tb):PS3 X (.While c body [] pos) (Vt tc tb):=#[Cm (RN hp hc.out hb.out) fun D2 σ H hh=>by
 obtain⟨B,z,τ,D3,r,⟨W,⟨m0,w0⟩,turn⟩,c⟩:=hh
 refine#[fun m σ H=>∃z τ,Rep X B τ σ #[H,z]/\W m τ,#[m0,z,τ,r,w0],?_]
 rintro m σ1 H1 ⟨z1,τ1,r1,w1⟩
 refine#[B,_,τ1,_,r1,turn m τ1 w1,fun b H2 e h=>?_]
 cases b with
 |true =>
  rw[if_pos rfl] at h ⊢
  refine#[fun σ' H'=>∃m',m'<m/\∃z τ,Rep X B τ σ' #[H',z]/\W m' τ,fun σ' H' #[m',h1,h2]=>#[m',h1,h2],B,_,τ1,_,r1.mono e,h,#[?_,c.nx,?_,c.rt]]
  .rintro τ' σ' p' r' ⟨m',h1,h2⟩
   exact#[m',h1,p'.z,τ',r',h2]
  .rintro τ' σ' p' r' ⟨m',h1,h2⟩
   exact#[m',h1,p'.z,τ',r',h2]
 |false =>
  rw[if_neg qAm] at h ⊢
  exact c.nx _ _ _ (r1.mono e) h]
def Je (i:Nat)(xs:List D)(tb:TS3)(D3:JB)(τ0:Tau):Prop:=∃I:Nat->Tau->Prop,I 0 τ0 /\
 (∀n τ x,xs[n]? = some x->I n τ->tb { D3 with nx:=I (n+1),ct:=I (n+1),bk:=D3.nx } (τ.set i (some (.d x))))/\∀τ,I xs.length τ->D3.nx τ
theorem Rep.setd {B p:HZ}{τ:Tau}{σ:St}{i:Nat}{v:V}{x:D}(r:Rep X B τ σ p) (h:Is X.K p.z v x) (hp:Di X i):Rep X B (τ.set i (some (.d x))) (σ.set i (some v)) p :=
 r.set (s:=.d x) (Ext.refl r.ext.sub) h F8 rfl hp
theorem UR.inB {B B':HZ}{D3:JB}{D2:Nc}{I:Tau->Prop}{N:St->Hp->Prop}(e:LeB X B B') (c:UR X B D3 D2) (hN:∀τ σ p,Rep X B' τ σ p->I τ->N σ p.h) :
 UR X B' { D3 with nx:=I,ct:=I,bk:=D3.nx } { D2 with nx:=N,ct:=N,bk:=D2.nx } :=
 #[hN,fun τ σ H r h=>c.nx τ σ H (r.outB e) h,hN,fun s v q h1 h2 h3 h4=>c.rt s v q (e.ext h1) h2 (fun xs a x1 x2=>#[e.hh.free (h3 xs a x1 x2).1,(h3 xs a x1 x2).2]) h4]
theorem BU {K:W.Frag}{H:Hp}{vs:List V}{xs:List D}{n:Nat}{v:V}(h:Iss K H vs xs) (e:vs[n]? = some v):∃x,xs[n]? = some x/\Is K H v x:=by
 have hn:=(qAg.mp e).1
 have hx:xs[n]? = some (xs[n]'(by rw[<-h.1];exact hn)):=qAb (by rw[<-h.1];exact hn)
 exact#[_,hx,h.2 n v _ e hx]
theorem KN {B:HZ}{τ:Tau}{σ:St}{H z:Hp}{D2:Nc}{D3:JB}{a:Addr}{vs:List V}{xs:List D}{i:Nat}{tb:TS3}(r:Rep X B τ σ #[H,z]) (c:UR X B D3 D2) (hs:SqL X.K H a vs) (hv:Iss X.K z vs xs)
 (hno:∀(j:Nat)(ys:List D),τ[j]? = some (some (S.l ys))->σ[j]?≠some (some (V.ref a))) (h:Je i xs tb D3 τ) (hp:Di X i) :
 ∃W:Nat->Nat->St->Hp->Prop,(∃m,W 0 m σ H)/\∀n m σ H,W n m σ H ->
  ((Itl X.K a).stop n H/\D2.nx σ H)\/((Itl X.K a).go n H/\∃N:St->Hp->Prop,(∀σ' H',N σ' H'->∃m',m'<m/\W (n+1) m' σ' H')/\∀x H',(Itl X.K a).yld n H x H'->Dc i x σ H' fun σ2 H2=>FS X tb { D2 with nx:=N,ct:=N,bk:=D2.nx } σ2 H2):=by
 obtain⟨I,i0,turn,out⟩:=h
 have hB:SqL X.K (JM τ σ H) a vs:=by
  rcases hs with (hs|⟨o,hs⟩)|hs
  .exact .inl (.inl (by rw[FJ hno];exact hs))
  .exact .inl (.inr #[o,by rw[FJ hno];exact hs])
  .exact .inr hs
 refine MO (K:=X.K) (a:=a) (xs:=vs) (g:=Dc i) (tb:=FS X tb) (D:=D2) (fun n σ1 H1=>∃z1 τ1,Rep X #[JM τ σ H,z] τ1 σ1 #[H1,z1]/\I n τ1) #[z,τ,r.inB,i0] (fun n σ1 H1 _ #[z1,τ1,r1,_]=>r1.ext.hh.seq hB) ?_ ?_
 .rintro n v σ1 H1 hn ⟨z1,τ1,r1,i1⟩
  obtain⟨x,hx,ix⟩:=BU hv hn
  exact#[_,_,_,_,r1.setd (ix.mono r1.ext.zz) hp,turn n τ1 x hx i1,c.inB r.leB fun τ' σ' p' r' h'=>#[p'.z,τ',r',h']]
 .rintro σ1 H1 ⟨z1,τ1,r1,i1⟩
  exact c.nx _ _ _ (r1.outB r.leB) (out τ1 (by rw[<-hv.1];exact i1))
theorem So {B:HZ}{τ:Tau}{σ:St}{H z:Hp}{D2:Nc}{D3:JB}{a:Addr}{vs:List V}{xs:List D}{i:Nat}{tb:TS3}(r:Rep X B τ σ #[H,z]) (c:UR X B D3 D2) (hs:SqT X.K z a vs) (hv:Iss X.K z vs xs)
 (h:Je i xs tb D3 τ) (hp:Di X i) :
 ∃W:Nat->Nat->St->Hp->Prop,(∃m,W 0 m σ H)/\∀n m σ H,W n m σ H ->
  ((Itt X.K a).stop n H/\D2.nx σ H)\/((Itt X.K a).go n H/\∃N:St->Hp->Prop,(∀σ' H',N σ' H'->∃m',m'<m/\W (n+1) m' σ' H')/\∀x H',(Itt X.K a).yld n H x H'->Dc i x σ H' fun σ2 H2=>FS X tb { D2 with nx:=N,ct:=N,bk:=D2.nx } σ2 H2):=by
 obtain⟨I,i0,turn,out⟩:=h
 refine T7 (K:=X.K) (a:=a) (xs:=vs) (g:=Dc i) (tb:=FS X tb) (D:=D2) (fun n σ1 H1=>∃z1 τ1,Rep X #[JM τ σ H,z] τ1 σ1 #[H1,z1]/\I n τ1) #[z,τ,r.inB,i0] (fun n σ1 H1 _ #[z1,τ1,r1,_]=>SqT.same (r1.ext.zz.trans r1.ext.sub) hs) ?_ ?_
 .rintro n v σ1 H1 hn ⟨z1,τ1,r1,i1⟩
  obtain⟨x,hx,ix⟩:=BU hv hn
  exact#[_,_,_,_,r1.setd (ix.mono r1.ext.zz) hp,turn n τ1 x hx i1,c.inB r.leB fun τ' σ' p' r' h'=>#[p'.z,τ',r',h']]
 .rintro σ1 H1 ⟨z1,τ1,r1,i1⟩
  exact c.nx _ _ _ (r1.outB r.leB) (out τ1 (by rw[<-hv.1];exact i1))
def US (K:W.Frag)(tl:TE):TI:=fun σ H R=>tl σ H fun x H1=>∃a,x=.ref a/\(((∃xs,SqL K H1 a xs)/\R (Itl K a) H1)\/((∃xs,SqT K H1 a xs)/\R (Itt K a) H1))
theorem BL {tg l:Expr}{tl:TE}(hl:PE X l tl):PI X tg l (US X.K tl):=by
 intro pins s σ H R I h
 refine thn (hl pins s σ H _ I h) fun v s1 hh9=>?_
 obtain⟨x,H1,I1,r1,q1⟩:=hh9
 obtain⟨a,e,⟨⟨xs,hq⟩,q⟩|⟨⟨xs,hq⟩,q⟩⟩:=q1
 .subst e
  cases r1
  obtain⟨its,rv,p,hz⟩:=I1.list hq
  refine wpAny_pyIter_list p.isList ?_
  refine#[s1.heap.objs.size,[s1.heap.objs.size],_,_,H1,rfl,I1.kept (t':=s1.toks) fun b o e=>qAf _ e,OQ a _,#[_,qAr _ rfl,rfl,rfl],fun b hb=>?_,q]
  have e:b=s1.heap.objs.size:=by simpa using hb
  subst e
  exact I1.fpOk (qAc _) (I1.hok.fresh (qAc _))
 .subst e
  cases r1
  obtain⟨its,rv,p,hz⟩:=I1.tuple hq
  refine wpAny_pyIter_tuple (show s1.heap.IsTuple a its.toArray from p) ?_
  refine#[s1.heap.objs.size,[s1.heap.objs.size],_,_,H1,rfl,I1.kept (t':=s1.toks) fun b o e=>qAf _ e,N7 a _,#[_,qAr _ rfl,rfl,rfl],fun b hb=>?_,q]
  have e:b=s1.heap.objs.size:=by simpa using hb
  subst e
  exact I1.fpOk (qAc _) (I1.hok.fresh (qAc _))
theorem Rep.notown {B:HZ}{τ:Tau}{σ:St}{p:HZ}{a:Addr}{o:HO}(r:Rep X B τ σ p) (h:p.z a=some o):∀(j:Nat)(ys:List D),τ[j]? = some (some (S.l ys))->σ[j]?≠some (some (V.ref a)):=fun j ys h1 h2=>by
 have:=(r.own j ys a h1 h2).2.2
 rw[h] at this
 cases this
theorem JG {B:HZ}{τ:Tau}{σ:St}{p:HZ}{a:Addr}{vs:List V}(r:Rep X B τ σ p) (h:SqL X.K p.z a vs):∀(j:Nat)(ys:List D),τ[j]? = some (some (S.l ys))->σ[j]?≠some (some (V.ref a)):=by
 rcases h with (h|⟨o,h⟩)|⟨o,its,n,h,_⟩
 .exact r.notown h
 .exact r.notown h
 .intro j ys h1 h2
  have:=(r.own j ys a h1 h2).2.1
  rw[h] at this
  cases this
def Wc (j i:Nat)(tb:TS3):TS3:=fun D3 τ=>match τ[j]? with
 |some (some (.d (.tup xs)))=>Je i xs tb D3 τ
 |some (some (.d (.lst xs)))=>Je i xs tb D3 τ
 |some (some (.l xs))=>Je i xs tb D3 (τ.set j (some (.r xs)))
 |some (some (.r xs))=>Je i xs tb D3 (τ.set j (some (.r xs)))
 |_=>False
theorem OR {j i:Nat}{x y:Str}{px py:Pos}{body:List Stmt}{tb:TS3}(h:PS X (.For (.Name x px) (.Name y py) body [] pos) (Qx (US X.K (Ny j)) (Dc i) (FS X tb))) (hp:Di X i:=by first|exact Cv rfl|exact Cr rfl ∅|assumption):PS3 X (.For (.Name x px) (.Name y py) body [] pos) (Wc j i tb):=#[Cm h fun D2 σ H hh=>by
 obtain⟨B,z,τ,D3,r,ht,c⟩:=hh
 have lists:∀(s:S)(xs:List D),τ[j]? = some (some s)->s.share=.r xs->Je i xs tb D3 (τ.set j (some (.r xs)))->Qx (US X.K (Ny j)) (Dc i) (FS X tb) D2 σ H:=fun s xs hs hx ht=>by
  obtain⟨v,h1,h2⟩:=r.val j s hs
  have h2':=h2.share
  rw[hx] at h2'
  obtain⟨a,vs,rfl,h3,h4⟩:=h2'
  have r':=r.freeze hs hx
  refine#[.ref a,h1,a,rfl,.inl #[#[vs,h3],KN r' c h3 h4 (fun m ys hm hσ=>?_) ht hp]]
  rcases AN hm with⟨rfl,z⟩|⟨hn,hm'⟩
  .cases z
  .have hl:j<τ.length:=(qAg.mp hs).1
   exact r'.sep m j ys (.r xs) a hn hm (by rw[qBs hl]) rfl hσ h1
 unfold Wc at ht
 split at ht
 .rename_i xs hs
  obtain⟨v,h1,h2⟩:=r.val j _ hs
  obtain⟨a,vs,rfl,h3,h4⟩:=Is.tup_inv h2
  exact#[.ref a,h1,a,rfl,.inr #[#[vs,SqT.same r.ext.sub h3],So r c h3 h4 ht hp]]
 .rename_i xs hs
  obtain⟨v,h1,h2⟩:=r.val j _ hs
  obtain⟨a,vs,rfl,h3,h4⟩:=Is.lst_inv h2
  exact#[.ref a,h1,a,rfl,.inl #[#[vs,r.ext.sub.seq h3],KN r c (r.ext.sub.seq h3) h4 (JG r h3) ht hp]]
 .rename_i xs hs
  exact lists _ xs hs rfl ht
 .rename_i xs hs
  exact lists _ xs hs rfl ht
 .exact ht.elim]
def Xl (i:Nat)(te:TE3)(tb:TS3):TS3:=fun D3 τ=>te τ fun s=>match s with
 |.l xs=>Je i xs tb D3 τ
 |.d (.tup xs)=>Je i xs tb D3 τ
 |.d (.lst xs)=>Je i xs tb D3 τ
 |_=>False
theorem GQ {i:Nat}{x:Str}{px:Pos}{body:List Stmt}{tb:TS3}(h:PS X (.For (.Name x px) e body [] pos) (Qx (US X.K (FE X te)) (Dc i) (FS X tb))) (hp:Di X i:=by first|exact Cv rfl|exact Cr rfl ∅|assumption):PS3 X (.For (.Name x px) e body [] pos) (Xl i te tb):=#[Cm h fun D2 σ H hh=>by
 obtain⟨B,z,τ,D3,r,ht,c⟩:=hh
 refine#[B,_,τ,_,r,ht,fun s v H1 e1 i1 f1 h1=>?_]
 split at h1
 .rename_i xs
  obtain⟨a,vs,rfl,h3,h4⟩:=i1
  refine#[a,rfl,.inl #[#[vs,SqL.of h3],KN (r.mono e1) c (SqL.of h3) h4 (fun m ys hm hσ=>?_) h1 hp]]
  obtain⟨ws,hw,_⟩:=r.own_list hm hσ
  have:=(f1 xs a rfl rfl).1
  rw[hw] at this
  cases this
 .rename_i xs
  obtain⟨a,vs,rfl,h3,h4⟩:=Is.tup_inv i1
  exact#[a,rfl,.inr #[#[vs,SqT.same e1.sub h3],So (r.mono e1) c h3 h4 h1 hp]]
 .rename_i xs
  obtain⟨a,vs,rfl,h3,h4⟩:=Is.lst_inv i1
  exact#[a,rfl,.inl #[#[vs,e1.sub.seq h3],KN (r.mono e1) c (e1.sub.seq h3) h4 (JG (r.mono e1) h3) h1 hp]]
 .exact h1.elim]
def XV (i:Nat)(t:TS3):TS3:=fun D3 τ=>match τ[i]? with
 |some (some (.l xs))=>t D3 (τ.set i (some (.d (.lst xs))))
 |_=>False
theorem M7 {sts:List Stmt}(i:Nat) (h:DP X sts t):DP X sts (XV i t):=#[IH h.out fun D2 σ H hh=>by
 obtain⟨B,z,τ,D3,r,ht,c⟩:=hh
 unfold XV at ht
 split at ht
 .rename_i xs hs
  obtain⟨z',r'⟩:=r.data hs
  exact#[B,z',_,D3,r',ht,c]
 .exact ht.elim]
def WZ (i:Nat)(lo st:Int)(cnt:Nat)(tb:TS3)(D3:JB)(τ0:Tau):Prop:=∃I:Nat->Tau->Prop,I 0 τ0 /\
 (∀(n:Nat) τ,n<cnt->I n τ->tb { D3 with nx:=I (n+1),ct:=I (n+1),bk:=D3.nx } (τ.set i (some (.d (.int (lo+n*st))))))/\∀τ,I cnt τ->D3.nx τ
def Xa (i:Nat)(ta:TA3)(tb:TS3):TS3:=fun D3 τ=>ta τ fun ss=>match ss with
 |[.d (.int j)]=>(-(2^62)<=j/\j<2^62)/\WZ i 0 1 j.toNat tb D3 τ
 |_=>False
theorem Qs {i:Nat}{x:Str}{px:Pos}{body:List Stmt}{tb:TS3}{ta:TA3}(h:PS X (.For (.Name x px) e body [] pos) (Qx (TF (FA X ta)) (Dc i) (FS X tb))) (hp:Di X i:=by first|exact Cv rfl|exact Cr rfl ∅|assumption):PS3 X (.For (.Name x px) e body [] pos) (Xa i ta tb):=#[Cm h fun D2 σ H hh=>by
 obtain⟨B,z,τ,D3,r,ht,c⟩:=hh
 refine#[B,_,τ,_,r,ht,fun ss vs H1 e1 i1 h1=>?_]
 split at h1
 .rename_i j
  obtain⟨v,rfl,hv⟩:=Rq i1
  cases Is.int_inv hv
  obtain⟨⟨q1,q2⟩,I,i0,turn,out⟩:=h1
  refine#[j,rfl,q1,q2,LY (lo:=0) (n:=j.toNat) (g:=Dc i) (tb:=FS X tb) (D:=D2) (fun n σ1 H1=>∃z1 τ1,Rep X B τ1 σ1 #[H1,z1]/\I n τ1) #[_,τ,r.mono e1,i0] ?_ ?_]
  .rintro n σ1 H1 hn ⟨z1,τ1,r1,i1⟩
   have tt:=turn n τ1 hn i1
   rw[qCu] at tt
   exact#[B,_,_,_,r1.setd (.int _) hp,tt,c.inB r.leR fun τ' σ' p' r' h'=>#[p'.z,τ',r',h']]
  .rintro σ1 H1 ⟨z1,τ1,r1,i1⟩
   exact c.nx _ _ _ r1 (out τ1 i1)
 .exact h1.elim]
def Xn (i:Nat)(ta:TA3)(tb:TS3):TS3:=fun D3 τ=>ta τ fun ss=>match ss with
 |[.d (.int a),.d (.int j)]=>(-(2^62)<=a/\a<2^62/\-(2^62)<=j/\j<2^62)/\WZ i a 1 (j-a).toNat tb D3 τ
 |_=>False
theorem Qt {i:Nat}{x:Str}{px:Pos}{body:List Stmt}{tb:TS3}{ta:TA3}(h:PS X (.For (.Name x px) e body [] pos) (Qx (Tq (FA X ta)) (Dc i) (FS X tb))) (hp:Di X i:=by first|exact Cv rfl|exact Cr rfl ∅|assumption):PS3 X (.For (.Name x px) e body [] pos) (Xn i ta tb):=#[Cm h fun D2 σ H hh=>by
 obtain⟨B,z,τ,D3,r,ht,c⟩:=hh
 refine#[B,_,τ,_,r,ht,fun ss vs H1 e1 i1 h1=>?_]
 split at h1
 .rename_i a j
  obtain⟨v,u,rfl,hv,hu⟩:=QW i1
  cases Is.int_inv hv
  cases Is.int_inv hu
  obtain⟨q1,I,i0,turn,out⟩:=h1
  refine#[a,j,rfl,q1,LY (lo:=a) (n:=(j-a).toNat) (g:=Dc i) (tb:=FS X tb) (D:=D2) (fun n σ1 H1=>∃z1 τ1,Rep X B τ1 σ1 #[H1,z1]/\I n τ1) #[_,τ,r.mono e1,i0] ?_ ?_]
  .rintro n σ1 H1 hn ⟨z1,τ1,r1,i1⟩
   have tt:=turn n τ1 hn i1
   rw[qCu] at tt
   exact#[B,_,_,_,r1.setd (.int _) hp,tt,c.inB r.leR fun τ' σ' p' r' h'=>#[p'.z,τ',r',h']]
  .rintro σ1 H1 ⟨z1,τ1,r1,i1⟩
   exact c.nx _ _ _ r1 (out τ1 i1)
 .exact h1.elim]
end
def CD (N:List Str)(ss:List S):Tau:=ss.map some++List.replicate (N.length-ss.length) none
theorem Jp {α:Type}{ss:List α}{m i:Nat}{s:α}(h:(ss.map some++List.replicate m (none:Option α))[i]? = some (some s)):ss[i]? = some s:=by
 by_cases hi:i<ss.length
 .rw[qAv (by simpa using hi),qAe] at h
  cases e:ss[i]? with
  |none=>rw[e] at h;cases h
  |some a=>rw[e] at h;cases h;rfl
 .rw[qAz (by simpa using hi),qB0] at h
  split at h<;>cases h
theorem Fl {X:Cx}{p:HZ}{N:List Str}{vs:List V}{ss:List S}(h:Args X.K p vs ss) (hz:BD p.z p.h) (ht:BD X.H₀ p.h) (hl:X.lent=none:=by rfl):Rep X p (CD N ss) (L2.start N vs) p:=by
 have no:∀(i:Nat)(xs:List D),¬(CD N ss)[i]? = some (some (.l xs)):=fun i xs z=>by
  have z':=Jp z
  have hi:=(qAg.mp z').1
  have hv:vs[i]? = some (vs[i]'(by rw[h.1];exact hi)):=qAb (by rw[h.1];exact hi)
  have:=(h.2 i _ _ hv z').2
  cases this
 refine#[by unfold L2.start CD;simp[h.1],Ext.refl hz,fun i s hs=>?_,fun i xs a z _=>absurd z (no i xs),fun i j xs s a _ z _ _ _=>absurd z (no i xs),fun _=>ht,fun k a hk=>by rw[hl] at hk;cases hk]
 have z':=Jp hs
 have hi:=(qAg.mp z').1
 have hl:i<vs.length:=by rw[h.1];exact hi
 have hv:vs[i]? = some vs[i]:=qAb hl
 refine#[vs[i],?_,(h.2 i _ _ hv z').1]
 unfold L2.start
 rw[qAv (by simpa using hl),qAe,hv]
 rfl
section
variable {P:Program}{w:World}{K:W.Frag}{mg:Str->Option Value}{base:Heap}
theorem fn3 {x qual:Str}{st:Stmt}{f:Addr}{fd:FuncData}{N ps:List Str}{k:Nat}{sp:Sp3}(F:Fun K x qual st f fd) (Sc:Ad N ps (Ab st)) (len:∀ss R U,sp ss R U->ss.length=ps.length)
 (hbody:∀(cdv:Value)(A:Around)(outer:List Env)(s:Shared)(H:Hp)(E:XK)(ss:List S)(R:S->Prop)(U:Str->Prop),E4 k (A.deeper (envOfC qual (Ab st) s.heap.objs.size f cdv))->sp ss R U ->
  ∃t,DP (LR CX0 P w K mg base N qual (Ab st) f cdv A outer s H E).nox (Cp st) t/\t { nx:=fun _=>R (.d .non),rt:=R } (CD N ss)):Az P w K mg base CX0 (k+1) f fd ps (Ah K mg sp):=by
 refine F.ok Sc (fun vs H Q E hh=>by obtain⟨z,ss,R,U,hz,ha,h3,_⟩:=hh;exact ha.1.trans (len ss R U h3)) fun cdv A outer s H vs Q E hr hh9=>?_
 obtain⟨z,ss,R,U,hz,ha,h3,q,qe⟩:=hh9
 obtain⟨t,ht,hq⟩:=hbody cdv A outer s H E ss R U hr h3
 exact#[_,ht.out,#[H,z],z,CD N ss,_,Fl ha hz (BD.refl H),hq,#[fun τ σ p r h=>q (.d .non) _ p r.ext Is.non F8 h,fun _ _ _ _ z=>z.elim,fun _ _ _ _ z=>z.elim,fun s v p e i f h=>q s v p e i f h]]
end
def Nh:Sp3:=fun ss R _=>∃ns:List Int,ss=[.r (ns.map D.int)]/\ns.length<=63/\R (.d (.bl true))
theorem RU {K:W.Frag}{H:Hp}(ns:List Int):Iss K H (ns.map V.int) (ns.map D.int):=by
 refine#[by simp,fun i v x h1 h2=>?_]
 rw[qAe] at h1 h2
 cases e:ns[i]? with
 |none=>rw[e] at h1;cases h1
 |some n =>
  rw[e] at h1 h2
  cases h1
  cases h2
  exact .int n
def Itc (lo c:Int)(n:Nat):It:=#[fun i _=>i<n,fun i H x H'=>H'=H/\x=.int (lo+i*c),fun i _=>n<=i]
theorem Mf {P:Program}{w:World}{K:W.Frag}{tg:Expr}(it:Addr) (lo c:Int) (n:Nat):Qv P w K tg (Itc lo c n) [it] it (fun i h=>IsRangeIter h it (lo+(i:Nat)*c) ((n:Int)-(i:Nat)) c) where
 mem:=by simp
 obj:=fun i h st b hb=>by
  have e:b=it:=by simpa using hb
  subst e
  exact#[_,st,fun v z=>by
   have z':Data.fields _=Data.cell v:=z
   cases z']
 keep:=fun i h h' st k=>k it (by simp) _ st
 item:=by
  intro X hP hw hK hc i pins s σ H E I hf st hg
  subst hP hw hK
  obtain⟨f0,f1,f2,f3,f4,f5⟩:=hf it (by simp)
  have W:=Walks.range (prog:=X.prog) (w:=X.w) (I.ok.hd hc) it lo c n
  refine W.item i s _ _ hg st fun v h' tk hv st' kk=>?_
  obtain⟨t,rfl⟩:=hv
  have I1:Inv X pins σ H { s with heap:=h',toks:=tk }:=I.turned (fun b o hb e=>kk b o (by simpa using hb) e) f0 f1 f3 f4 f5
  exact#[_,rfl,Ro (s:={ s with heap:=h',toks:=tk }) (n:="range_iterator") st' rfl rfl ∅ #[.int (lo+i*c),H,I1,#[t,rfl],#[rfl,rfl],st',fun b hb=>(hf b hb).1]]
 done:=by
  intro X hP hw hK hc i pins s σ H E I hf st hg
  subst hP hw hK
  obtain⟨f0,f1,f2,f3,f4,f5⟩:=hf it (by simp)
  exact wpAny_pyNext_range_end (I.ok.hd hc) st (by have:n<=i:=hg;omega) fun h' eb=>#[rfl,I.turned (t':=s.toks) (fun b o hb e=>eb b o hb e) f0 f1 f3 f4 f5]
 self:=fun _ _ _ _ _ st h=>wpAny_pyIter_rangeiter st h
section
variable {X:Cx}{tg:Expr}
def Vr (ta:TA):TI:=fun σ H R=>ta σ H fun vs H1=>∃i j c:Int,vs=[.int i,.int j,.int c]/\(c≠0/\c.natAbs<1073741824/\Builtin.Range.small i j c=true/\0<=Builtin.Range.rangeSize i j c)/\R (Itc i c (Builtin.Range.rangeSize i j c).toNat) H1
theorem Oq {a b d:Expr}{ta:TA}{p pos:Pos}(hg:Gl X "range") (hm:X.mg "range"=none) (ha:PA X [a,b,d] ta) (hs:starEach [a,b,d] X.env=[(false,eval a X.env),(false,eval b X.env),(false,eval d X.env)]:=by rfl) (hs2:starEach [b,d] X.env=[(false,eval b X.env),(false,eval d X.env)]:=by rfl) :
 PI X tg (.Call (.Name "range" p) [a,b,d] [] pos) (Vr ta):=by
 intro pins s σ H R I h
 refine Call_ (G1 I hg hm boot_range (qA0 (thn (ha pos pins s σ H _ I h) fun us s1 #[vs,H1,I1,r1,q1]=>?_) (by rw[hs,hs2]) (by rw[hs2];rfl)))
 obtain⟨i,j,c,e,⟨q1,q2,q3,q4⟩,q⟩:=q1
 subst e
 cases r1 with
 |cons r rr =>
  cases rr with
  |cons r' rr =>
   cases rr with
   |cons r'' rr =>
    cases rr
    obtain⟨t,rfl⟩:=r
    obtain⟨t',rfl⟩:=r'
    obtain⟨t'',rfl⟩:=r''
    refine call_range_3 q1 ?_ (.inl (PyProof.noPylong_small q2))
    refine wpAny_pyIter_range (IsRange.new ..) q3 ?_
    have I2:Inv X pins σ H1 { s1 with heap:=s1.heap.push { cls:=.type "range",data:=.fields (List.toArray [.int i t,.int j t',.int c t'']) },toks:=s1.toks }:=I1.kept fun b o e=>qAf _ e
    refine#[_,[(s1.heap.push { cls:=.type "range",data:=.fields (List.toArray [.int i t,.int j t',.int c t'']) }).objs.size],_,_,H1,rfl,I2.kept (t':=s1.toks) fun b o e=>qAf _ e,Mf _ i c (Builtin.Range.rangeSize i j c).toNat,?_,fun b hb=>?_,q]
    .have e1:i+((0:Nat):Int)*c=i:=by simp
     have e2:(((Builtin.Range.rangeSize i j c).toNat:Nat):Int)-((0:Nat):Int)=Builtin.Range.rangeSize i j c:=()
     show IsRangeIter _ _ (i+((0:Nat):Int)*c) ((((Builtin.Range.rangeSize i j c).toNat:Nat):Int)-((0:Nat):Int)) c
     rw[e1,e2]
     exact qAr _ rfl
    .have e:b=(s1.heap.push { cls:=.type "range",data:=.fields (List.toArray [.int i t,.int j t',.int c t'']) }).objs.size:=by simpa using hb
     subst e
     exact I2.fpOk (qAc _) (I2.hok.fresh (qAc _))
theorem NP {lo c:Int}{n:Nat}{g:TG}{tb:TS}{D:Nc}{σ:St}{H:Hp}(Pv:Nat->St->Hp->Prop) (h0:Pv 0 σ H)
 (hs:∀i σ H,i<n->Pv i σ H->g (.int (lo+i*c)) σ H fun σ2 H2=>tb { D with nx:=Pv (i+1),ct:=Pv (i+1),bk:=D.nx } σ2 H2) (hd:∀σ H,Pv n σ H->D.nx σ H) :
 ∃W:Nat->Nat->St->Hp->Prop,(∃m,W 0 m σ H)/\∀i m σ H,W i m σ H ->
  ((Itc lo c n).stop i H/\D.nx σ H)\/((Itc lo c n).go i H/\∃N:St->Hp->Prop,(∀σ' H',N σ' H'->∃m',m'<m/\W (i+1) m' σ' H')/\∀x H',(Itc lo c n).yld i H x H'->g x σ H' fun σ2 H2=>tb { D with nx:=N,ct:=N,bk:=D.nx } σ2 H2):=by
 refine#[fun i m σ H=>m=n-i/\i<=n/\Pv i σ H,#[n,by simp,qA3 _,h0],?_]
 rintro i m σ H ⟨rfl,hi,p⟩
 by_cases hlt:i<n
 .refine .inr #[hlt,Pv (i+1),fun σ' H' p'=>#[n-(i+1),(),rfl,hlt,p'],fun x H' y=>?_]
  obtain⟨e,y⟩:=y
  subst e y
  exact hs i σ _ hlt p
 .have e:i=n:=()
  subst e
  exact .inl #[qAc _,hd σ H p]
theorem W6 {K:W.Frag}{H:HZ}{vs:List V}{s t r:S}(h:Args K H vs [s,t,r]):∃v u w,vs=[v,u,w]/\IsS K H v s/\IsS K H u t/\IsS K H w r:=by
 obtain⟨hl,hv⟩:=h
 obtain⟨v,u,w,rfl⟩:=YG hl
 exact#[v,u,w,rfl,(hv 0 v s rfl rfl).1,(hv 1 u t rfl rfl).1,(hv 2 w r rfl rfl).1]
variable {e:Expr}{pos:Pos}
def Xx (i:Nat)(ta:TA3)(tb:TS3):TS3:=fun D3 τ=>ta τ fun ss=>match ss with
 |[.d (.int a),.d (.int b),.d (.int c)]=>(c≠0/\c.natAbs<1073741824/\Builtin.Range.small a b c=true/\0<=Builtin.Range.rangeSize a b c)/\WZ i a c (Builtin.Range.rangeSize a b c).toNat tb D3 τ
 |_=>False
theorem UT {i:Nat}{x:Str}{px:Pos}{body:List Stmt}{tb:TS3}{ta:TA3}(h:PS X (.For (.Name x px) e body [] pos) (Qx (Vr (FA X ta)) (Dc i) (FS X tb))) (hp:Di X i:=by first|exact Cv rfl|exact Cr rfl ∅|assumption):PS3 X (.For (.Name x px) e body [] pos) (Xx i ta tb):=#[Cm h fun D2 σ H hh=>by
 obtain⟨B,z,τ,D3,r,ht,c⟩:=hh
 refine#[B,_,τ,_,r,ht,fun ss vs H1 e1 i1 h1=>?_]
 split at h1
 .rename_i a b st
  obtain⟨v,u,w,rfl,hv,hu,hw⟩:=W6 i1
  cases Is.int_inv hv
  cases Is.int_inv hu
  cases Is.int_inv hw
  obtain⟨hq,I,i0,turn,out⟩:=h1
  refine#[a,b,st,rfl,hq,NP (lo:=a) (c:=st) (n:=(Builtin.Range.rangeSize a b st).toNat) (g:=Dc i) (tb:=FS X tb) (D:=D2) (fun n σ1 H1=>∃z1 τ1,Rep X B τ1 σ1 #[H1,z1]/\I n τ1) #[_,τ,r.mono e1,i0] ?_ ?_]
  .rintro n σ1 H1 hn ⟨z1,τ1,r1,i1⟩
   exact#[B,_,_,_,r1.setd (.int _) hp,turn n τ1 hn i1,c.inB r.leR fun τ' σ' p' r' h'=>#[p'.z,τ',r',h']]
  .rintro σ1 H1 ⟨z1,τ1,r1,i1⟩
   exact c.nx _ _ _ r1 (out τ1 i1)
 .exact h1.elim]
end
def Mm:D->Bool
 |.non=>true
 |.bl _=>true
 |.int _=>true
 |.str _=>true
 |_=>false
def EC:Nat->D->Bool
 |0,x=>Mm x
 |n+1,.tup xs=>xs.all (EC n)
 |_+1,x=>Mm x
def eqF:D->D->Bool
 |.non,.non=>true
 |.bl a,.bl b=>a==b
 |.bl a,.int b=>(if a then 1 else 0)==b
 |.int a,.bl b=>a==(if b then 1 else 0)
 |.int a,.int b=>a==b
 |.str a,.str b=>a==b
 |_,_=>false
def eqN:Nat->D->D->Bool
 |0,x,y=>eqF x y
 |n+1,.tup xs,.tup ys=>(xs.zip ys).all (fun p=>eqN n p.1 p.2)&&xs.length==ys.length
 |_+1,.tup _,_=>false
 |_+1,_,.tup _=>false
 |_+1,x,y=>eqF x y
theorem HX:∀(n:Nat)(x:D),EC n x=true->eqN n x x=true
 |0,x,h=>by cases x<;>first|rfl|(exact beq_self_eq_true _)|cases h
 |n+1,x,h=>by
  cases x with
  |tup xs =>
   have h':xs.all (EC n)=true:=h
   show((xs.zip xs).all (fun p=>eqN n p.1 p.2)&&xs.length==xs.length)=true
   rw[beq_self_eq_true,qCA,qAG]
   rintro⟨a,b⟩ hp
   obtain⟨i,hi⟩:=qCh hp
   rw[qBl] at hi
   obtain⟨h1,h2⟩:=hi
   have e:a=b:=qAl (h1.symm.trans h2)
   subst e
   exact HX n a (qAG.mp h' a (qAE h1))
  |_=>first|rfl|(exact beq_self_eq_true _)|cases h
theorem Is.flatV {K:W.Frag}{H:Hp}{v:V}{x:D}(h:Is K H v x) (f:Mm x=true):flatV v=true:=by
 cases h<;>first|rfl|cases f
theorem VN {K:W.Frag}{H:Hp}{v u:V}{x y:D}(h:Is K H v x) (h':Is K H u y) (f:Mm x=true) (f':Mm y=true):eqV v u=eqF x y:=by
 cases h<;>first|(cases f;done)|(cases h'<;>first|(cases f';done)|rfl)
theorem FK {its:List Value}{j:Nat}(h:j<its.toArray.size){u:Value}(e:its[j]? = some u):its.toArray[j]=u:=by
 have hj:j<its.length:=by simpa using h
 rw[qAb hj] at e
 have e':=qAl e
 rw[<-e']
 simp
section
variable {X:Cx}{pins:List (Addr×Obj)}{σ:St}{H:Hp}{s:Shared}
theorem R6 (I:Inv X pins σ H s):∀(n:Nat){v:V}{x y:D},EC n x=true->EC n y=true->Is X.K H v x->Is X.K H v y->x=y
 |0,v,x,y,fx,fy,hx,hy=>by
  cases hx<;>first|(cases fx;done)|(cases hy<;>first|rfl|(cases fy;done))
 |n+1,v,x,y,fx,fy,hx,hy=>by
  cases hx with
  |@tup a vs xs h hl r =>
   cases hy with
   |@tup _ ws ys h2 hl2 r2 =>
    have e:=I.tuple_inj h h2
    subst e
    congr 1
    apply List.ext_getElem?
    intro i
    cases hv:vs[i]? with
    |none =>
     have hi:=qAO.mp hv
     rw[qAO.mpr (),qAO.mpr ()]
    |some v =>
     have hi:=(qAg.mp hv).1
     have hx:xs[i]? = some (xs[i]' ()):=qAb ()
     have hy:ys[i]? = some (ys[i]' ()):=qAb ()
     rw[hx,hy]
     congr 1
     exact R6 I n (qAG.mp (show xs.all (EC n)=true from fx) _ (qAE hx)) (qAG.mp (show ys.all (EC n)=true from fy) _ (qAE hy)) (r i v _ hv hx) (r2 i v _ hv hy)
   |lst=>cases fy
   |ref=>cases fy
  |lst=>cases fx
  |ref=>cases fx
  |ty=>cases fx
  |_=>cases hy<;>first|rfl|(cases fy;done)
theorem LJ (I:Inv X pins σ H s){n:Nat}{A:Around}{a b:Addr}{vs ws:List V}{xs ys:List D}(ha:SqT X.K H a vs) (hb:SqT X.K H b ws) (hx:Iss X.K H vs xs) (hy:Iss X.K H ws ys) (hu:A.units<cLine)
 (ih:∀(x y:D)(v u:V)(v' u':Value),x∈xs->y∈ys->Is X.K H v x->Is X.K H u y->CA v v'->CA u u'->SeqAt.EqAt A.in1 s v' u' (eqN n x y)):SeqAt.RcAt A s (.ref a) (.ref b) (eqN (n+1) (.tup xs) (.tup ys)):=by
 obtain⟨its,r1,p1,_⟩:=I.tuple ha
 obtain⟨its2,r2,p2,_⟩:=I.tuple hb
 have l1:=r1.length
 have l2:=r2.length
 have k1:=hx.1
 have k2:=hy.1
 have key:=SeqAt.RcAt.tuples (A:=A) (s:=s) (l:=a) (b:=b) (items:=its.toArray) (items2:=its2.toArray) (e:=fun j=>match xs[j]?,ys[j]? with|some x,some y=>eqN n x y|_,_=>true) p1 p2 hu (fun j h1 h2=>by
  have h1':j<its.length:=by simpa using h1
  have h2':j<its2.length:=by simpa using h2
  have gx:xs[j]? = some (xs[j]' ()):=qAb ()
  have gy:ys[j]? = some (ys[j]' ()):=qAb ()
  have gv:vs[j]? = some (vs[j]' ()):=qAb ()
  have gw:ws[j]? = some (ws[j]' ()):=qAb ()
  obtain⟨u1,e1,q1⟩:=r1.get gv
  obtain⟨u2,e2,q2⟩:=r2.get gw
  rw[FK h1 e1,FK h2 e2]
  rw[gx,gy]
  exact ih _ _ _ _ _ _ (qAE gx) (qAE gy) (hx.2 j _ _ gv gx) (hy.2 j _ _ gw gy) q1 q2)
 have e:eqN (n+1) (.tup xs) (.tup ys)=((List.range (min its.toArray.size its2.toArray.size)).all (fun j=>match xs[j]?,ys[j]? with|some x,some y=>eqN n x y|_,_=>true)&&its.toArray.size==its2.toArray.size):=by
  show((xs.zip ys).all (fun p=>eqN n p.1 p.2)&&xs.length==ys.length)=_
  have s1:its.toArray.size=xs.length:=by simp;omega
  have s2:its2.toArray.size=ys.length:=by simp;omega
  rw[s1,s2]
  congr 1
  rw[qBC,qAG,qAG]
  constructor
  .intro h j hj
   rw[qAW] at hj
   have gx:xs[j]? = some (xs[j]' ()):=qAb ()
   have gy:ys[j]? = some (ys[j]' ()):=qAb ()
   rw[gx,gy]
   exact h (_,_) (qAE (qBl.mpr #[gx,gy]))
  .rintro h ⟨x,y⟩ hp
   obtain⟨j,hj⟩:=qCh hp
   obtain⟨gx,gy⟩:=qBl.mp hj
   have h1:=(qAg.mp gx).1
   have h2:=(qAg.mp gy).1
   have:=h j (by rw[qAW];omega)
   simp only[] at gx gy
   rw[gx,gy] at this
   exact this
 rw[e]
 exact key
theorem Qj (I:Inv X pins σ H s):∀(n:Nat)(A:Around)(x y:D)(v u:V)(v' u':Value),A.units+n<cLine->EC n x=true->EC n y=true->Is X.K H v x->Is X.K H u y->CA v v'->CA u u'->SeqAt.EqAt A s v' u' (eqN n x y)
 |0,A,x,y,v,u,v',u',_,fx,fy,hx,hy,rv,ru=>by
  show SeqAt.EqAt A s v' u' (eqF x y)
  rw[<-VN hx hy fx fy]
  exact Sm rv ru (hx.flatV fx) (hy.flatV fy)
 |n+1,A,x,y,v,u,v',u',hu,fx,fy,hx,hy,rv,ru=>by
  have flat:Mm x=true->Mm y=true->eqN (n+1) x y=eqF x y->SeqAt.EqAt A s v' u' (eqN (n+1) x y):=fun f1 f2 e=>by
   rw[e,<-VN hx hy f1 f2]
   exact Sm rv ru (hx.flatV f1) (hy.flatV f2)
  have hu0:A.units<cLine:=()
  cases hx with
  |@tup a vs xs ha hl r =>
   cases rv
   obtain⟨its,r1,p1,_⟩:=I.tuple ha
   have t1:s.heap.IsTuple a its.toArray:=p1
   cases hy with
   |@tup b ws ys hb hl2 r2 =>
    cases ru
    by_cases hab:a=b
    .subst hab
     have e:=R6 I (n+1) fx fy (.tup ha hl r) (.tup hb hl2 r2)
     rw[e,HX (n+1) _ fy]
     exact SeqAt.EqAt.same _
    .refine SeqAt.EqAt.of_refs hab (LJ I ha hb #[hl,r] #[hl2,r2] hu0 fun x y v u v' u' mx my ix iy rv ru=>?_)
     exact Qj I n A.in1 x y v u v' u' (by show A.units+1+n<cLine;omega) (qAG.mp (show xs.all (EC n)=true from fx) x mx) (qAG.mp (show ys.all (EC n)=true from fy) y my) ix iy rv ru
   |non=>cases ru;exact SeqAt.EqAt.tuple_none t1 hu0
   |bl c=>cases ru;exact SeqAt.EqAt.tuple_bool c t1 hu0
   |int c=>obtain⟨t,rfl⟩:=ru;exact SeqAt.EqAt.tuple_int c t t1 hu0
   |str c=>obtain⟨t,rfl⟩:=ru;exact SeqAt.EqAt.tuple_str c t t1 hu0
   |ty c=>cases fy
   |lst=>cases fy
   |ref=>cases fy
  |non =>
   cases hy with
   |@tup b ws ys hb hl2 r2 =>
    cases ru;cases rv
    obtain⟨its,r1,p1,_⟩:=I.tuple hb
    exact SeqAt.EqAt.none_tuple (show s.heap.IsTuple b its.toArray from p1) hu0
   |ty c=>cases fy
   |lst=>cases fy
   |ref=>cases fy
   |_=>exact flat rfl rfl rfl
  |bl c =>
   cases hy with
   |@tup b ws ys hb hl2 r2 =>
    cases ru;cases rv
    obtain⟨its,r1,p1,_⟩:=I.tuple hb
    exact SeqAt.EqAt.bool_tuple c (show s.heap.IsTuple b its.toArray from p1) hu0
   |ty c=>cases fy
   |lst=>cases fy
   |ref=>cases fy
   |_=>exact flat rfl rfl rfl
  |int c =>
   cases hy with
   |@tup b ws ys hb hl2 r2 =>
    obtain⟨t,rfl⟩:=rv;cases ru
    obtain⟨its,r1,p1,_⟩:=I.tuple hb
    exact SeqAt.EqAt.int_tuple c t (show s.heap.IsTuple b its.toArray from p1) hu0
   |ty c=>cases fy
   |lst=>cases fy
   |ref=>cases fy
   |_=>exact flat rfl rfl rfl
  |str c =>
   cases hy with
   |@tup b ws ys hb hl2 r2 =>
    obtain⟨t,rfl⟩:=rv;cases ru
    obtain⟨its,r1,p1,_⟩:=I.tuple hb
    exact SeqAt.EqAt.str_tuple c t (show s.heap.IsTuple b its.toArray from p1) hu0
   |ty c=>cases fy
   |lst=>cases fy
   |ref=>cases fy
   |_=>exact flat rfl rfl rfl
  |ty c=>cases fx
  |lst=>cases fx
  |ref=>cases fx
def XZ (n:Nat):R3:=fun dx dy R=>match dx,dy with
 |.tup xs,.tup ys=>EC n (.tup xs)=true/\EC n (.tup ys)=true/\R (.bl (eqN n (.tup xs) (.tup ys)))
 |_,_=>False
theorem SI (n:Nat)(hu:X.A.units+n<cLine):Js X (compareOp .Eq) (XZ n):=by
 intro pins s σ H x y v u Q I rx ry h
 obtain⟨z,dx,dy,R,hz,hx,hy,h3,q⟩:=h
 replace hx:=hx.mono hz
 replace hy:=hy.mono hz
 unfold XZ at h3
 split at h3
 .rename_i xs ys
  obtain⟨fx,fy,h3⟩:=h3
  cases n with
  |zero=>cases fx
  |succ n =>
   obtain⟨a,vs,rfl,ha,ia⟩:=Is.tup_inv hx
   obtain⟨b,ws,rfl,hb,ib⟩:=Is.tup_inv hy
   cases rx
   cases ry
   refine LJ (A:=X.A) (n:=n) I ha hb ia ib () (fun x y v u v' u' mx my ix iy rv ru=>?_) X.prog X.w X.xe _ #[.bl _,H,I,rfl,q _ _ #[H,z] (Ext.refl hz) (.bl _) h3]
   exact Qj I n X.A.in1 x y v u v' u' (by show X.A.units+1+n<cLine;omega) (qAG.mp (show xs.all (EC n)=true from fx) x mx) (qAG.mp (show ys.all (EC n)=true from fy) y my) ix iy rv ru
 .exact h3.elim
end
theorem DC.there {P:Program}{w:World}{H:Hp}{h:Heap}{a:Addr}{o:HO}(x:DC P w H h a o):∃u,h.get? a=some u:=by
 cases o with
 |lst xs=>obtain⟨_,_,_,_,e⟩:=x;exact#[_,e]
 |tup xs=>obtain⟨_,_,_,_,e,_⟩:=x;exact#[_,e]
 |dK kvs=>obtain⟨_,_,_,_,o,_,_,e,_⟩:=x;exact#[_,e]
 |dT kvs=>obtain⟨_,_,_,_,o,_,_,e,_⟩:=x;exact#[_,e]
 |set S n=>obtain⟨o,_,_,_,e,_⟩:=x;exact#[_,e]
 |ins C dx fs=>obtain⟨_,_,_,e,_⟩:=x;exact#[_,e]
 |own y=>obtain⟨_,e⟩:=x;exact#[_,e]
 |xd fs=>obtain⟨_,⟨_,_,_,e,_⟩,_⟩:=x;exact#[_,e]
 |rng lo hi=>obtain⟨_,_,_,e⟩:=x;exact#[_,e]
 |frz ob u=>obtain⟨e,_⟩:=x;exact#[_,e]
 |tbl ps=>obtain⟨_,e,_⟩:=x;exact#[_,e]
 |met f y=>exact#[_,show h.get? a=some _ from x]
 |ext φ=>obtain⟨_,⟨_,e⟩,_⟩:=x;exact#[_,e]
structure Fly (P:Program)(w:World)(l:List Env)(H H':Hp)(h h':Heap)(ea C:Addr)(a0:Value)(B:Heap):Prop where
 fl:Heap.FlyingW B l ea (.ref C) a0 h'
 un:Un (frs l) [] H H' h h'
 hok:HOk P w H' h'
 kb:∀b o,h.get? b=some o->H b=none->b∉frs l->B.get? b=some o
 tr:∀b o,H' b=some o->∃ob,B.get? b=some ob
 old:∀b o,h.get? b=some o->b∉frs l->∃ob,B.get? b=some ob
section
variable {P:Program}{w:World}{l:List Env}{H H':Hp}{h h' h'':Heap}{ea C:Addr}{a0:Value}{B:Heap}
theorem Ik {l:List Env}{b:Addr}{B h:Heap}(F:h.FunFrames B l) (hb:b∈frs l):∃o,h.get? b=some o/\∀vs,o.data≠.fields vs:=(F.mem hb).2
theorem Ue {H':Hp}{h' h'':Heap}{B:Heap}(ok:HOk P w H' h') (tr:∀b o,H' b=some o->∃ob,B.get? b=some ob) (s1:B.StaysIn h') (s2:B.StaysIn h''):HOk P w H' h'':=fun a o e=>by
 refine(ok a o e).stay (fun b u hb q=>?_) (fun _ q=>q) fun _ _ q=>q
 have hB:∃ob,B.get? b=some ob:=by
  rcases hb with rfl|hb
  .exact tr _ _ e
  .exact tr _ _ hb
 obtain⟨ob,eb⟩:=hB
 have:=s1 b ob eb
 rw[q] at this
 cases this
 exact s2 b _ eb
theorem Fly.to (f:Fly P w l H H' h h' ea C a0 B)(fl:Heap.FlyingW B l ea (.ref C) a0 h'')(u:h'.UpToSlots h''):Fly P w l H H' h h'' ea C a0 B where
 fl:=fl
 un:=by
  refine#[fun b o e n hb _=>fl.1 b o (f.kb b o e n hb),fun b o e n hb hx=>?_,f.un.free,fun b o e hx=>?_,f.un.tups,f.un.frzs,f.un.tbls]
  .obtain⟨sl,e1⟩:=f.un.slot b o e n hb hx
   obtain⟨o2,e2,d⟩:=Ik f.fl.2.2.1 hb
   rw[e1] at e2
   cases e2
   obtain⟨sl2,e3⟩:=u b _ e1 d
   exact#[sl2,e3]
  .by_cases hb:b∈frs l
   .obtain⟨o2,e2,d⟩:=Ik f.fl.2.2.1 hb
    obtain⟨sl2,e3⟩:=u b _ e2 d
    exact#[_,e3]
   .obtain⟨ob,eb⟩:=f.old b o e hb
    exact#[ob,fl.1 b ob eb]
 hok:=Ue f.hok f.tr f.fl.1 fl.1
 kb:=f.kb
 tr:=f.tr
 old:=f.old
end
def CXU (P:Program)(w:World):CXT:=fun outer H s E e s'=>∃(ea C:Addr)(a0:Value)(B:Heap)(H':Hp),e=.ref ea/\s'.os=s.os/\AllBare s'.gens/\Fly P w outer H H' s.heap s'.heap ea C a0 B/\E (.ref C) none H'
theorem EN {env:Env}{l:List Env}{L:Addr}(h:env.frame=some L):frs (env::l)=L::frs l:=by
 unfold frs
 rw[qBP,h]
section
variable {X:Cx}{pins:List (Addr×Obj)}{σ:St}{H H':Hp}{s s':Shared}{ea C:Addr}{a0:Value}{B:Heap}{h1:Heap}{vs:List Value}
theorem T4 (I:Inv X pins σ H s)(hst:X.stack=X.env::X.outer)(hf:X.env.frame=some X.env.locals)(hex:X.ex=[])(hx:Heap.MadeExcOf s.heap h1 ea (.ref C) vs){Q:Unit->Shared->Prop}{E:Value->Shared->Prop}
 (hQ:∀(h':Heap)(t:Addr)(B:Heap),Fly X.prog X.w X.outer X.H₀ H X.s₀.heap h' ea C (.ref t) B->Q Unit.unit { s with heap:=h' }) :
 wpAny (model X.prog X.w) X.A (leaving X.env (.ref ea)) Q E { s with heap:=h1 }:=by
 have hfr:X.A.frames=some (X.env::X.outer):=by rw[<-hst];exact I.ok.frames
 have hstk:=I.stack
 rw[hst] at hstk
 have hin:∀env∈(X.env::X.outer),∀b,env.frame=some b->b∈frs (X.env::X.outer):=fun env he b hb=>qBR.mpr #[env,he,hb]
 have hB:∀b o,s.heap.get? b=some o->b∉frs (X.env::X.outer)->(W.hideAll s.heap (frs (X.env::X.outer))).get? b=some o:=fun b o e hb=>W.hideAll_get _ e hb
 have ho:∀b o,(W.hideAll s.heap (frs (X.env::X.outer))).get? b=some o->s.heap.get? b=some o:=fun b o e=>W.of_hideAll _ e
 refine wpAny_leaves_madeW (base:=W.hideAll s.heap (frs (X.env::X.outer))) (h:=s.heap) (s:={ s with heap:=h1 }) hfr hf ho (W.funFrames_hide hstk hin) hx fun h' t fl _ _ up=>?_
 refine hQ h' t (W.hideAll s.heap (frs (X.env::X.outer))) ?_
 have up0:s.heap.UpToSlots h':=(Heap.UpToSlots.of_keeps hx.keeps).trans up
 have old:∀b o,X.s₀.heap.get? b=some o->b∉frs X.outer->b∉frs (X.env::X.outer):=fun b o e hb hm=>by
  rw[EN hf] at hm
  rcases qAo.mp hm with rfl|hm
  .exact absurd (qAq (qAh e) I.ok.above) (qA4 _)
  .exact hb hm
 have nex:∀b:Addr,b∉X.ex:=fun b z=>by rw[hex] at z;cases z
 have tfr:∀b o,H b=some o->b∉frs (X.env::X.outer):=fun b o e hm=>by
  have:=I.stkFree b (by rw[hst];exact hm)
  rw[e] at this
  cases this
 have tr:∀b o,H b=some o->∃ob,(W.hideAll s.heap (frs (X.env::X.outer))).get? b=some ob:=fun b o e=>by
  obtain⟨u,eu⟩:=DC.there (I.hok b o e)
  exact#[u,hB b u eu (tfr b o e)]
 refine#[fl,#[fun b o e n hb _=>?_,fun b o e n hb _=>?_,fun b o e n _=>I.base.free b o e n (nex b),fun b o e _=>?_,I.base.tups,I.base.frzs,I.base.tbls],Ue I.hok tr ho fl.1,fun b o e n hb=>?_,tr,fun b o e hb=>?_]
 .exact fl.1 b o (hB b o (I.base.keep b o e n hb (nex b)) (old b o e hb))
 .obtain⟨sl,e1⟩:=I.base.slot b o e n hb (nex b)
  obtain⟨o2,e2,d⟩:=Ik hstk (by rw[EN hf];exact qAI _ hb)
  rw[e1] at e2
  cases e2
  obtain⟨sl2,e3⟩:=up0 b _ e1 d
  exact#[sl2,e3]
 .obtain⟨o1,e1⟩:=I.base.there b o e (nex b)
  by_cases hb:b∈frs X.outer
  .obtain⟨o2,e2,d⟩:=Ik hstk (by rw[EN hf];exact qAI _ hb)
   obtain⟨sl2,e3⟩:=up0 b _ e2 d
   exact#[_,e3]
  .exact#[o1,fl.1 b o1 (hB b o1 e1 (old b o e hb))]
 .exact hB b o (I.base.keep b o e n hb (nex b)) (old b o e hb)
 .obtain⟨o1,e1⟩:=I.base.there b o e (nex b)
  exact#[o1,hB b o1 e1 (old b o e hb)]
theorem V6 (I:Inv X pins σ H s)(hst:X.stack=X.env::X.outer)(hf:X.env.frame=some X.env.locals)(hex:X.ex=[])(f:Fly X.prog X.w X.stack H H' s.heap s'.heap ea C a0 B){Q:Unit->Shared->Prop}{E:Value->Shared->Prop}
 (hQ:∀h':Heap,Fly X.prog X.w X.outer X.H₀ H' X.s₀.heap h' ea C a0 B->Q Unit.unit { s' with heap:=h' }):wpAny (model X.prog X.w) X.A (leaving X.env (.ref ea)) Q E s':=by
 have hfr:X.A.frames=some (X.env::X.outer):=by rw[<-hst];exact I.ok.frames
 rw[hst] at f
 refine wpAny_leaves_onW hfr hf f.fl fun h' fl up=>hQ h' ?_
 have old:∀b o,X.s₀.heap.get? b=some o->b∉frs X.outer->b∉frs (X.env::X.outer):=fun b o e hb hm=>by
  rw[EN hf] at hm
  rcases qAo.mp hm with rfl|hm
  .exact absurd (qAq (qAh e) I.ok.above) (qA4 _)
  .exact hb hm
 have nex:∀b:Addr,b∉X.ex:=fun b z=>by rw[hex] at z;cases z
 have up_:∀b,b∈frs X.outer->b∈frs (X.env::X.outer):=fun b hb=>by rw[EN hf];exact qAI _ hb
 have kb:∀b o,X.s₀.heap.get? b=some o->X.H₀ b=none->b∉frs X.outer->B.get? b=some o:=fun b o e n hb =>
  f.kb b o (I.base.keep b o e n hb (nex b)) (I.base.free b o e n (nex b)) (old b o e hb)
 have ol:∀b o,X.s₀.heap.get? b=some o->b∉frs X.outer->∃ob,B.get? b=some ob:=fun b o e hb=>by
  obtain⟨o1,e1⟩:=I.base.there b o e (nex b)
  exact f.old b o1 e1 (old b o e hb)
 refine#[fl,#[fun b o e n hb _=>fl.1 b o (kb b o e n hb),fun b o e n hb _=>?_,fun b o e n _=>?_,fun b o e _=>?_,fun b xs e=>f.un.tups b xs (I.base.tups b xs e),fun b o u e=>f.un.frzs b o u (I.base.frzs b o u e),fun b ps e=>?_],Ue f.hok f.tr f.fl.1 fl.1,kb,f.tr,ol]
 .obtain⟨sl,e1⟩:=I.base.slot b o e n hb (nex b)
  obtain⟨sl1,e2⟩:=f.un.slot b _ e1 (I.base.free b o e n (nex b)) (up_ b hb) (by simp)
  obtain⟨o3,e3,d⟩:=Ik f.fl.2.2.1 (up_ b hb)
  rw[e2] at e3
  cases e3
  obtain⟨sl2,e4⟩:=up b _ e2 d
  exact#[sl2,e4]
 .obtain⟨o1,e1⟩:=I.base.there b o e (nex b)
  exact f.un.free b o1 e1 (I.base.free b o e n (nex b)) (by simp)
 .by_cases hb:b∈frs X.outer
  .obtain⟨o3,e3,d⟩:=Ik f.fl.2.2.1 (up_ b hb)
   obtain⟨sl2,e4⟩:=up b _ e3 d
   exact#[_,e4]
  .obtain⟨ob,eb⟩:=ol b o e hb
   exact#[ob,fl.1 b ob eb]
 .obtain⟨m1,e1⟩:=I.base.tbls b ps e
  obtain⟨m2,e2⟩:=f.un.tbls b _ e1
  exact#[m1++m2,by rw[e2,Array.append_assoc]]
theorem Fly.inv (I:Inv X pins σ H s)(f:Fly X.prog X.w X.stack H H' s.heap s'.heap ea C a0 B)(ho:s'.os=s.os)(hg:AllBare s'.gens):Inv X pins σ H' s' :=
 I.call' (ch:=[]) ho f.un f.hok hg (fun b z=>absurd z (by simp))
end
structure ExC (K:W.Frag)(x:Str)(C:Addr):Prop where
 ns:W.nsIn K mainGlobals x=some (some (.ref C))
 ex:W.excIn K C [.type "ValueError",.type "Exception",.type "BaseException",.type "object"] "ValueError.__new__"=true
theorem QO {K:W.Frag}{mg:Str->Option Value}{base:Heap}(M:Mod K mg base) (p:Program):∃loose mb,W.TopRead p loose mg mb base:=by
 obtain⟨o,es,ep,ho,hd,hk,hm⟩:=M.glob
 obtain⟨mb,h1,h2⟩:=M.blt
 refine#[es.toList.filterMap fun e=>match e.key with|.str x _=>some x|_=>none,mb,M.glob,h1,M.nolimit,h2,fun x _ hx _ _ _=>?_]
 rw[<-hm x]
 unfold nsFind findBy
 cases q:es.find? (fun e=>e.key.isStr x) with
 |none=>rfl
 |some e =>
  exfalso
  have h3:=Array.find?_some q
  have h4:=Array.mem_of_find?_eq_some q
  apply hx
  rw[qBR]
  refine#[e,by simpa using h4,?_]
  obtain⟨kh,key,val⟩:=e
  cases key with
  |str y t =>
   have h5:(Value.str y t).isStr x=true:=h3
   have h6:y=x:=by simpa [Value.isStr] using h5
   show some y=some x
   rw[h6]
  |_=>cases h3
structure TY (X:Cx)(U:Str->Prop):Prop where
 raise:∀(pins:List (Addr×Obj))(σ:St)(H:Hp)(s:Shared)(h1:Heap)(ea C:Addr)(x:Str)(vs:List Value),Inv X pins σ H s->BD X.H₀ H->X.mg x=some (.ref C)->U x->Heap.MadeExcOf s.heap h1 ea (.ref C) vs->X.xe (.ref ea) { s with heap:=h1 }
 pass:∀(pins:List (Addr×Obj))(σ:St)(H:Hp)(s:Shared)(e:Value)(s':Shared),Inv X pins σ H s->CXU X.prog X.w X.stack H s (fun cls _ H'=>∃x,X.mg x=some cls/\U x/\BD X.H₀ H') e s'->X.xe e s'
theorem PC {P:Program}{w:World}{K:W.Frag}{mg:Str->Option Value}{base:Heap}{N:List Str}{qual:Str}{scope:Scope}{f:Addr}{cd:Value}{A:Around}{outer:List Env}{s:Shared}{H:Hp}{E:XK}{U:Str->Prop}
 (hE:∀x C H',BD H H'->mg x=some (.ref C)->U x->E (.ref C) none H'):TY (LR (CXU P w) P w K mg base N qual scope f cd A outer s H E) U where
 raise:=fun pins σ H1 s1 h1 ea C x vs I hs hm hu hx=>T4 I rfl rfl rfl hx fun h' t B fl=>#[ea,C,.ref t,B,H1,rfl,I.os,I.bare,fl,hE x C H1 hs hm hu]
 pass:=fun pins σ H1 s1 e s' I h=>by
  obtain⟨ea,C,a0,B,H',rfl,ho,hg,fl,x,hm,hu,hs⟩:=h
  exact V6 I rfl rfl rfl fl fun h' fl'=>#[ea,C,a0,B,H',rfl,ho.trans I.os,hg,fl',hE x C H' hs hm hu]
section
variable {X:Cx}{U:Str->Prop}{e:Expr}{es:List Expr}{te:TE3}{tr:TA3}{pos:Pos}
def Wn (U:Str->Prop)(x:Str)(te:TE3):TS3:=fun _ τ=>te τ fun _=>U x
theorem Ge {x:Str}{C:Addr}{np cpos:Pos}(xo:TY X U) (hc:X.calm=true) (he:PE3 X e te) (hg:Gl X x) (ec:ExC X.K x C) (hm:X.mg x=some (.ref C))
 (hs:starEach [e] X.env=(false,eval e X.env)::starEach [] X.env:=by exact CM rfl) (hplain:(backTo cpos (starEach [e] X.env)).any (·.1)=false:=by exact D5 rfl) (hd:(x==("__debug__":Str))=false:=by decide) (hl:X.lent=none:=by rfl) :
 PS3 X (.Raise (some (.Call (.Name x np) [e] [] cpos)) none pos) (Wn U x te):=by
 refine#[?_]
 intro pins s σ H D2 I h
 obtain⟨B,z,τ,D3,r,ht,c⟩:=h
 obtain⟨loose,mb,T⟩:=QO I.mod X.prog
 obtain⟨tl,N,nm,q,bs,hdct,sn,sub,ab,col,dd,k0,k1,k2,k3,k5,mN,hC,hN,hni,TL⟩:=(W.own_of_in I.mod.kin T ec.ns ec.ex).obj
 refine wpAny_Raise_call_subT (C:=C) (nm:=nm) (q:=q) (N:=N) (bs:=bs) (bm:=tl) (hdct:=hdct) (sn:=sn) (sub:=sub) (ab:=ab) (col:=col) (dd:=dd) (k0:=k0) (k1:=k1) (k2:=k2) (k3:=k3) (k5:=k5)
  PySem.F.excBase_ValueError (mN:=mN) (TL.hasType PySem.F.excBase_ValueError.hasBase) (I.ok.hd hc) hplain hni (Hk I hg hm #[rfl,?_] hd)
 have pa:=(AL he.out Bn hs) cpos pins s σ H (fun vs H1=>vs.length=1/\BD X.H₀ H1/\U x) I #[B,_,τ,_,r,ht,fun s' v H' e' i' f' h'=>#[rfl,(r.all hl).trans e'.hh,h']]
 rw[hs] at pa ⊢
 refine Calls.evalArgs_plain (thn pa fun us s2 #[vs,H2,I2,rv,hl,hsame,hu]=>#[rfl,?_,I2.bk _ _ hC,hN.keeps I2.bk,TL.keeps I2.bk,fun h' ea hx=>?_])
 .have:=rv.length
  show us.length<=sizeLine
  have z:us.length=1:=()
  rw[z]
  decide
 .exact xo.raise pins σ H2 s2 h' ea C x us I2 hsame hm hu hx
def Qd (U:Str->Prop)(sp:Sp3)(t:TA3):TE3:=fun τ R=>t τ fun ss=>sp ss R U
theorem PV {k:Nat}{x:Str}{ps:List Str}{sp:Sp3}{p:Pos}(xo:TY X U) (c:Cal X.prog X.w X.K X.mg X.base (CXU X.prog X.w) k x ps sp) (hr:E4 k X.A) (hg:Gl X x) (ha:PA3 X (e::es) tr)
 (hdb:(x==("__debug__":Str))=false:=by decide) (he:starEach (e::es) X.env=(false,eval e X.env)::starEach es X.env:=by exact CM rfl) (hpl:(backTo pos (starEach es X.env)).any (·.1)=false:=by exact D5 rfl) (hl:X.lent=none\/∀y,¬U y:=by first|exact .inl rfl|exact .inr (fun _ z=>z)) :
 PE3 X (.Call (.Name x p) (e::es) [] pos) (Qd U sp tr):=by
 refine#[?_]
 obtain⟨f,fd,F,hm,hk,hb⟩:=c.ex
 refine BO (Pt (E:=fun cls _ H'=>∃y,X.mg y=some cls/\U y/\BD X.H₀ H') F hr hg hm hk hb .nil (fun pins σ H s e s' I h=>xo.pass pins σ H s e s' I h) ha.out hdb he hpl) fun σ H Q #[B,z,τ,R,r,ht,q]=>#[B,_,τ,_,r,ht,fun ss vs H1 e1 i1 h1=>?_]
 show Ah X.K X.mg sp (vs++[]) H1.h Q _
 rw[qBe]
 exact#[H1.z,ss,R,U,e1.sub,i1,h1,fun s v H2 e2 i2 f2 h2=>q s v H2 (e1.trans e2) i2 (N6 e1 f2) h2,fun y C H2 e2 hy hu=>#[y,hy,hu,hl.elim (fun hl=>(r.all hl).trans (e1.hh.trans e2)) (fun hn=>(hn y hu).elim)]]
end
section
variable {P:Program}{w:World}{K:W.Frag}{mg:Str->Option Value}{base:Heap}
theorem fnU {x qual:Str}{st:Stmt}{f:Addr}{fd:FuncData}{N ps:List Str}{k:Nat}{sp:Sp3}(F:Fun K x qual st f fd) (Sc:Ad N ps (Ab st)) (len:∀ss R U,sp ss R U->ss.length=ps.length)
 (hbody:∀(cdv:Value)(A:Around)(outer:List Env)(s:Shared)(H:Hp)(E:XK)(ss:List S)(R:S->Prop)(U:Str->Prop),E4 k (A.deeper (envOfC qual (Ab st) s.heap.objs.size f cdv))->sp ss R U ->
  TY (LR (CXU P w) P w K mg base N qual (Ab st) f cdv A outer s H E) U ->
  ∃t,DP (LR (CXU P w) P w K mg base N qual (Ab st) f cdv A outer s H E) (Cp st) t/\t { nx:=fun _=>R (.d .non),rt:=R } (CD N ss)):Az P w K mg base (CXU P w) (k+1) f fd ps (Ah K mg sp):=by
 obtain⟨oc,od,kV,doc,pm,an,cdv,ct,osl,rfl,lk,hcd⟩:=F.ex
 refine QE lk hcd Sc (fun vs H Q E hh=>by obtain⟨z,ss,R,U,hz,ha,h3,_⟩:=hh;exact ha.1.trans (len ss R U h3)) fun A outer s H vs Q E hr hh9=>?_
 obtain⟨z,ss,R,U,hz,ha,h3,q,qe⟩:=hh9
 obtain⟨t,ht,hq⟩:=hbody cdv A outer s H E ss R U hr h3 (PC qe)
 exact#[_,ht.out,#[H,z],z,CD N ss,_,Fl ha hz (BD.refl H),hq,#[fun τ σ p r h=>q (.d .non) _ p r.ext Is.non F8 h,fun _ _ _ _ z=>z.elim,fun _ _ _ _ z=>z.elim,fun s v p e i f h=>q s v p e i f h]]
theorem Az.anyCX {CX:CXT}{k:Nat}{f:Addr}{fd:FuncData}{ps:List Str}{sp:Sp}(F:Az P w K mg base CX0 k f fd ps sp):Az P w K mg base CX k f fd ps sp :=
 #[F.len,fun A outer s H args us vs Q E hr h0 hb hv hs=>codeAny_mono (F.run A outer s H args us vs Q E hr h0 hb hv hs) fun r s' h=>by
  cases r with
  |error e=>exact(show False from h).elim
  |ok fl=>cases fl<;>exact h]
end
section
variable {K:W.Frag}{M:Model}{A:Around}{E:Value->Shared->Prop}{s:Shared}
structure HnC (K:W.Frag)(C:Addr):Prop where
 nt:W.instIn K (.ref C) (.type "tuple")=some false
 ty:(W.clsIn K C).isSome=true
 sb:W.mroIn K C (.type "BaseException")=some true
theorem HE {h:Heap}{C:Addr}(X:K.In h) (hc:(W.clsIn K C).isSome=true):W.Looks M h (isType (.ref C)) true:=by
 obtain⟨cd,e⟩:=qBa.mp hc
 unfold W.clsIn at e
 split at e
 .rename_i c' d' cd' sl' ho
  intro A' Q' E' s' k q
  unfold isType loadHead
  exact wpAny_bind (wpAny_loadPart (k _ _ (X _ _ ho)) (wpAny_pure q))
 .cases e
theorem P9 {ea C Cx:Addr}{oe:Obj}{b:Bool}{Q:Bool->Shared->Prop}(X:K.In s.heap) (hn:HnC K Cx) (he:s.heap.get? ea=some oe) (hcls:oe.cls=.ref C) (hb:W.mroIn K C (.ref Cx)=some b) (q:Q b s) :
 wpAny M A (excMatches (.ref ea) (.ref Cx)) Q E s:=by
 have L1:=W.looks_instIn (M:=M) X hn.nt
 have L2:=HE (M:=M) X hn.ty
 have L3:=qBQ (M:=M) X hn.sb
 have L4:=qBQ (M:=M) X hb
 have L5:W.Looks M s.heap (typeOf (.ref ea)) (.ref C):=hcls ▸ (W.Looks.ld he).andThen .now
 unfold excMatches isExcClass
 refine wpAny_bind (L1.at ?_)
 simp only[qBE,if_false,pure_bind,qBv,qBY,bind_assoc]
 refine wpAny_bind (L2.at ?_)
 simp only[if_true]
 refine wpAny_bind (L3.at ?_)
 simp only[Bool.not_true,qBE,if_false,pure_bind]
 refine wpAny_bind (L5.at ?_)
 refine wpAny_bind (L4.at ?_)
 cases b with
 |true=>simp only[if_true,pure_bind];exact wpAny_pure q
 |false=>simp only[qBE,if_false,pure_bind];exact wpAny_pure q
end
def hnd (X:Cx)(ea:Addr):Cx:={ X with A:=X.A.mark (some (.ref ea)),calm:=false }
section
variable {X:Cx}{pins:List (Addr×Obj)}{σ:St}{H H':Hp}{s s':Shared}{ea C:Addr}{a0:Value}{B:Heap}
theorem UD (I:Inv X pins σ H s)(ea:Addr):Inv (hnd X ea) pins σ H s :=
 #[#[I.ok.mod,I.ok.kind,I.ok.glob,I.ok.blt,I.ok.above,I.ok.inj,I.ok.has,I.ok.cab,(fun z=>by cases z),I.ok.frames,I.ok.stk,I.ok.exf,I.ok.bs,I.ok.bsz,I.ok.noex,I.ok.exfs,I.ok.funs,I.ok.frf,I.ok.tb],I.os,I.bare,I.base,I.loc,I.cell,I.free,I.freeC,I.pin,I.hok,I.len]
theorem TX {CX:CXT}{k:Nat}{f:Addr}{fd:FuncData}{ps:List Str}{sp:Sp}{Ex:XK}{EE:Value->Shared->Prop}{x:Str}{p pos:Pos}{e:Expr}{es:List Expr}{t:TA}{Q:VK}(F:Az X.prog X.w X.K X.mg X.base CX k f fd ps sp) (hr:E4 k X.A) (hg:Gl X x) (hm:X.mg x=some (.ref f))
 (hk:W.keepIn X.K (.ref f)=true) (hb:L2.Binds X.K fd ps []) (ha:PA X (e::es) t) (hno:∀e s,X.xe e s->EE e s) (I:Inv X pins σ H s)
 (hx:∀(H1:Hp)(s1:Shared)(e:Value)(s':Shared),Inv X pins σ H1 s1->CX X.stack H1 s1 Ex e s'->EE e s') (h:t σ H fun vs H1=>sp vs H1 Q Ex)
 (hdb:(x==("__debug__":Str))=false) (he:starEach (e::es) X.env=(false,eval e X.env)::starEach es X.env) (hpl:(backTo pos (starEach es X.env)).any (·.1)=false) :
 wpAny (model X.prog X.w) X.A (eval (.Call (.Name x p) (e::es) [] pos) X.env) (EP X pins σ Q) EE s:=by
 refine wpAny_Call_Name_kw (Hk I hg hm ?_ hdb)
 refine qCw (h₀:=X.base) I.ok.mod.kin hk (wpAny_mono (ha pos pins s σ H _ I h) (fun us s1 #[vs,H1,I1,r,q]=>#[I1.kIn,?_]) hno) he hpl
 have hl:(us++([]:List Value)).length=ps.length:=by rw[qBe,<-r.length];exact F.len _ _ _ _ q
 have bb:=hb s1 us I1.kIn hl
 rw[qBe] at bb
 refine wpAny_call (codeAny_mono (F.run X.A X.stack s1 H1 #[us,[]] us vs Q Ex hr I1.env0 bb r q) fun r s' hq=>?_)
 cases r with
 |error e=>exact hx H1 s1 e s' I1 hq
 |ok fl =>
  cases fl with
  |ret u=>exact I1.after hq
  |next=>exact False.elim hq
  |brk=>exact False.elim hq
  |cont=>exact False.elim hq
end
section
variable {X:Cx}{e:Expr}{es:List Expr}{tr:TA3}{th:TS3}
end
theorem T9 {X:Cx}:TY X NoU where
 raise:=fun _ _ _ _ _ _ _ _ _ _ _ _ hu=>hu.elim
 pass:=fun _ _ _ _ _ _ _ h=>by
  obtain⟨_,_,_,_,_,_,_,_,_,_,_,hu,_⟩:=h
  exact hu.elim
section
variable {prog:Program}{w:World}{A:Around}{E:Value->Shared->Prop}{s:Shared}{K:W.Frag}{x D:Addr}
structure ExI (K:W.Frag)(D:Addr):Prop where
 ga:W.findIn K (.ref D) "__getattribute__"=some (some (.builtin "BaseException.__getattribute__"))
 gt:W.findIn K (.ref D) "__getattr__"=some none
 cl:(W.clsIn K D).isSome=true
 fc:W.findIn K (.ref D) "__class__"=some (some (.builtin "object.__class__"))
 sp:W.specialIn K (.builtin "object.__class__") "__get__"=some (some (.builtin "getset_descriptor.__get__"))
 tk:W.takesIn K (.builtin "object.__class__")=some true
 mo:W.mroIn K D (.type "object")=some true
 mb:W.mroIn K D (.type "BaseException")=some true
def At (h:Heap)(x C:Addr):Prop:=∃ox,h.get? x=some ox/\ox.cls=.ref C
theorem At.type {M:Model}{h:Heap}(I:At h x D):W.Looks M h (typeOf (.ref x)) (.ref D):=by
 obtain⟨ox,h1,h2⟩:=I
 exact h2 ▸ (W.Looks.ld h1).andThen .now
open PySem.W Builtin Builtin.ObjectAttr Builtin.Getset_descriptor in
theorem NT {tp:Value}{R:Result->Shared->Prop}(X:K.In s.heap) (I:At s.heap x D) (hm:W.mroIn K D (.type "object")=some true)
 (h:R (.ok (.ret (.ref D))) s):codeAny (model prog w) A (.call (.builtin "getset_descriptor.__get__") #[[.builtin "object.__class__",.ref x,tp],[]]) R s:=by
 obtain⟨hh,g,dr,t,os⟩:=s
 have L0:=I.type (M:=model prog w)
 have L1:=qBQ (M:=model prog w) X hm
 refine codeAny_call_builtin KF.slot_gs.plain KF.entry_gs (KF.slot_gs.check _ _ _ _ _ _ _ _ KF.type_class (KF.args_gs _ _ _) ?_)
 unfold Builtin.«getset_descriptor.__get__» descrGet
 rw[dga_obj]
 refine wpAny_bind (wpAny_pure ?_)
 unfold descrGetter descrCheckInstance descrNameAndClass isInstance
 simp only[KF.owner_class]
 repeat lk
 refine#[Code.quiet_builtin _ (by decide +kernel),codeAny_builtin KF.entry_class ?_]
 unfold Builtin.«object.__class__» shownTypeOf
 repeat lk
 exact h
open PySem.W in
theorem Ot {tk:Tok}{Q:Fin->Shared->Prop}(i:ExI K D) (X:K.In s.heap) (I:At s.heap x D) (hq:Q (.done (.ret (.ref D))) s) :
 wpAny (model prog w) A (Builtin.«object.__getattribute__» #[[.ref x,.str "__class__" tk],[]]) Q E s:=by
 obtain⟨hh,g,d,t,os⟩:=s
 have L0:=I.type (M:=model prog w)
 have M1:=qCi (M:=model prog w) X i.fc
 have M2:W.Looks (model prog w) hh (Builtin.ObjectAttr.getOf (some (.builtin "object.__class__"))) (some (.builtin "getset_descriptor.__get__")):=W.looks_specialIn X i.sp
 have M3:=W.looks_takesIn (M:=model prog w) X i.tk
 have L1:W.Looks (model prog w) hh (Builtin.ObjectAttr.find (.ref x) (.ref D) "__class__") (.bind (.builtin "getset_descriptor.__get__") (.builtin "object.__class__")) :=
  M1.andThen (M2.andThen ((show W.Looks (model prog w) hh (Builtin.ObjectAttr.dataDescriptor? (some (.builtin "object.__class__")) (some (.builtin "getset_descriptor.__get__"))) (some (_,_)) from M3.andThen .now).andThen (W.Looks.tag .now)))
 refine wpAny_bind (wpAny_pure (wpAny_bind (wpAny_pure (wpAny_bind (L0.at (wpAny_bind (L1.at ?_)))))))
 show wpAny _ _ (holding [.builtin "object.__class__"] (call (.builtin "getset_descriptor.__get__") [.builtin "object.__class__",.ref x,.ref D]) >>= ret) _ _ _
 refine wpAny_bind (wpAny_holding (wpAny_call (NT X I i.mo ?_)))
 exact wpAny_pure hq
theorem UE (v:Value):bindSpecial (.builtin "BaseException.__getattribute__") v=pure (.builtin "BaseException.__getattribute__",[v]):=PySem.F.excAttr_ValueError.ga.bind v
theorem Pp {Q:Option Value->Shared->Prop}(i:ExI K D) (X:K.In s.heap) (I:At s.heap x D) (h:Q (some (.ref D)) { s with toks:=s.toks+1 }):wpAny (model prog w) A (getAttr? (.ref x) "__class__") Q E s:=by
 obtain⟨hh,g,d,t,os⟩:=s
 have L0:=I.type (M:=model prog w)
 have L1:=qCi (M:=model prog w) X i.ga
 have L2:=qCi (M:=model prog w) X i.gt
 have L3:=qBQ (M:=model prog w) X i.mb
 have hx2:(Value.builtin "BaseException.__getattribute__" == Value.builtin "object.__getattribute__")=false:=by decide +kernel
 unfold getAttr? getAttrBy? getAttrBy
 refine wpAny_bind (wpAny_mkText (wpAny_bind (wpAny_attempt (wpAny_holding (wpAny_bind (L0.at (wpAny_bind (L1.at ?_))))))))
 dsimp only
 rw[hx2,Bool.and_false,if_neg qAm]
 unfold getAttrByItsOwn hookBefore
 refine wpAny_bind ?_
 rw[if_pos (by rfl)]
 refine L2.at ?_
 refine wpAny_bind (wpAny_attempt (wpAny_holding ?_))
 unfold callGetattribute
 rw[Bool.false_and,if_neg qAm]
 unfold boundAndCalled
 rw[UE]
 refine wpAny_bind (wpAny_pure ?_)
 dsimp only
 refine wpAny_call (codeAny_call_builtin PySem.F.excAttr_ValueError.ga.plain PySem.F.entry_bexc_ga ?_)
 have hk:builtinKind "BaseException.__getattribute__"=some .slot:=by decide +kernel
 have hsplit:splitId "BaseException.__getattribute__"=some ("BaseException","__getattribute__"):=by decide +kernel
 have ha:=F.args_bexc_ga (.ref x) (.str "__class__" t)
 simp only[checkBuiltinCall,hk,hsplit]
 refine wpAny_bind ((L0.andThen L3).at ?_)
 unfold argsOk at ha
 simp only[Bool.not_true,qBE,if_false,List.cons_append,List.nil_append]
 first|rw[ha]|skip
 refine wpAny_pure ?_
 refine Ot i X I ?_
 exact wpAny_pure (wpAny_pure h)
theorem QJ (i:ExI K D):W.KitX K (.ref x) (.ref D) (fun h=>At h x D) where
 ty:=fun _ _ _ I=>I.type
 it:=fun _ _ X _=>HE X i.cl
 ne:=fun h tp dd its n sl X htp=>by
  obtain⟨cd,hc⟩:=qBa.mp i.cl
  refine Bool.eq_false_iff.mpr fun q=>?_
  have e:D=tp:=Value.ref.inj (beq_iff_eq.mp q)
  subst e
  unfold W.clsIn at hc
  split at hc
  .rename_i c' d' cd' sl' ho
   have z:=(X _ _ ho).symm.trans htp
   cases z
  .cases hc
 ca:=fun X I k=>Pp i X I k
end
def K1 (X:Cx)(ea:Addr)(oe:Obj):Cx:={ X with A:=X.A.mark (some (.ref ea)),calm:=false,pn:=(ea,oe)::X.pn }
section
variable {X:Cx}{pins:List (Addr×Obj)}{σ:St}{H H':Hp}{s s':Shared}{ea C:Addr}{oe:Obj}{a0:Value}{B:Heap}
theorem RV (I:Inv X pins σ H s)(hp:s.heap.get? ea=some oe/\H ea=none/\ea≠X.env.locals/\ea∉X.fs/\∀v,oe.data≠.cell v):Inv (K1 X ea oe) pins σ H s :=
 #[#[I.ok.mod,I.ok.kind,I.ok.glob,I.ok.blt,I.ok.above,I.ok.inj,I.ok.has,I.ok.cab,(fun z=>by cases z),I.ok.frames,I.ok.stk,I.ok.exf,I.ok.bs,I.ok.bsz,I.ok.noex,I.ok.exfs,I.ok.funs,I.ok.frf,I.ok.tb],I.os,I.bare,I.base,I.loc,I.cell,I.free,I.freeC,fun p hq=>by
  rcases qAo.mp (show p∈(ea,oe)::(X.pn++pins) from hq) with rfl|hq
  .exact hp
  .exact I.pin p hq,I.hok,I.len]
theorem N5 (hd:X.calm=true->X.A.handled=none)(hfm:X.A.frames=some X.stack)(I:Inv (K1 X ea oe) pins σ H s):Inv X pins σ H s :=
 #[#[I.ok.mod,I.ok.kind,I.ok.glob,I.ok.blt,I.ok.above,I.ok.inj,I.ok.has,I.ok.cab,hd,hfm,I.ok.stk,I.ok.exf,I.ok.bs,I.ok.bsz,I.ok.noex,I.ok.exfs,I.ok.funs,I.ok.frf,I.ok.tb],I.os,I.bare,I.base,I.loc,I.cell,I.free,I.freeC,fun p hq=>I.pin p (qAI _ hq),I.hok,I.len]
theorem QT {B p:HZ}{τ:Tau}(r:Rep X B τ σ p):Rep (K1 X ea oe) B τ σ p:=#[r.len,r.ext,r.val,r.own,r.sep,r.top,r.pin]
theorem Oy {A:Around}{E:Value->Shared->Prop}{n:Str}{pos:Pos}{Q:Unit->Shared->Prop}(I:Inv X pins σ H s) (hl:X.env.kindOf n=some .local) (h:∀s',Inv X pins (List.replicate σ.length none) H s'->Q Unit.unit s') :
 wpAny (model X.prog X.w) A (do bindName X.env n .none;unbindBehindTheSuite X.env n pos) Q E s:=by
 obtain⟨m,hn,hv⟩:=id I.loc
 have hcls:(X.env.scope.kind == .class||(X.env.scope.kind == .module&&X.env.locals != X.env.globals))=false:=by rw[I.ok.kind];rfl
 have cne:=I.cne
 obtain⟨oL,_,_,hoL,_⟩:=id hn
 refine wpAny_nameGoes hl hn hcls fun h' m' hn' hs=>h _ ?_
 have tracked:HOk X.prog X.w H h':=fun b ob e=>by
  refine(I.hok b ob e).stay (fun c w' hc q=>(hs.2 c ?_).trans q) (fun _ q=>q) fun _ _ q=>q
  rintro rfl
  rcases hc with rfl|hc
  .rw[I.free] at e;cases e
  .rw[I.free] at hc;cases hc
 refine#[I.ok,I.os,I.bare,#[fun b o e n hb hx=>?_,fun b o e n hb hx=>?_,I.base.free,fun b o e hx=>?_,I.base.tups,I.base.frzs,I.base.tbls],#[_,hn',fun j y v' e1 e2 e3=>?_],fun y c e=>?_,I.free,I.freeC,fun p hp=>?_,tracked,by rw[qCO];exact I.len]
 .exact(hs.2 b (qAw (qAq (qAh e) I.ok.above))).trans (I.base.keep b o e n hb hx)
 .obtain⟨sl,e1⟩:=I.base.slot b o e n hb hx
  exact#[sl,(hs.2 b (qAw (qAq (qAh e) I.ok.above))).trans e1]
 .obtain⟨o',e1⟩:=I.base.there b o e hx
  exact#[o',(hs.2 b (qAw (qAq (qAh e) I.ok.above))).trans e1]
 .rw[qB0] at e2
  split at e2<;>cases e2
 .obtain⟨w',z⟩:=I.cell y c e
  exact#[w',z.sameBut hs (cne y c e)]
 .obtain⟨e,n,ne,nf,d⟩:=I.pin p hp
  exact#[(hs.2 p.1 ne).trans e,n,ne,nf,d]
structure ExO (oe:Obj)(C:Addr):Prop where
 cls:oe.cls=.ref C
theorem RW {E:Value->Shared->Prop}{Q:Flow->Shared->Prop}{x n:Str}{i:Nat}{Cx:Addr}{np hp:Pos}{b0:Stmt}{suite:List Stmt}{rest:List ExceptHandler}(I:Inv X pins σ H s) (hst:X.stack=X.env::X.outer) (hf:X.env.frame=some X.env.locals)
 (fl:Fly X.prog X.w X.stack H H' s.heap s'.heap ea C a0 B) (ho:s'.os=s.os) (hg:AllBare s'.gens) (hgx:Gl X x) (hm:X.mg x=some (.ref Cx)) (hn:HnC X.K Cx) (hb:W.mroIn X.K C (.ref Cx)=some true) (hd:(x==("__debug__":Str))=false)
 (hN:X.N.Nodup) (hi:X.N[i]? = some n) (hx:Loc X.env.scope n) (hfn:X.fn n=true\/X.env.scope.names.lookup n=some .local)
 (go:∀(s2:Shared)(oe:Obj),ExO oe C->Inv (K1 X ea oe) pins (σ.set i (some (.ref ea))) H' s2->wpAny (model X.prog X.w) (X.A.mark (some (.ref ea))) (execs (b0::suite) X.env) (fun f s4=>wpAny (model X.prog X.w) X.A (do bindName X.env n .none;unbindBehindTheSuite X.env n hp) (fun _ s5=>Q f s5) E s4) (fun _ _=>False) s2) :
 wpAny (model X.prog X.w) X.A (noteFrame (.ref ea) X.env) (fun _ s₂=>wpAny (model X.prog X.w) X.A (setFlight (.ref ea) none) (fun _ s₃ =>
  wpAny (model X.prog X.w) X.A (handleBy (.ref ea) X.env (.ExceptHandler (some (.Name x np)) (some n) (b0::suite) hp::rest)) Q E s₃) E s₂) E s':=by
 have hfr:X.A.frames=some (X.env::X.outer):=by rw[<-hst];exact I.ok.frames
 have fl0:=fl.fl
 rw[hst] at fl0
 refine wpAny_looks_onW hfr hf fl0 fun h4 held up4=>?_
 refine wpAny_landsW held fun h5 fl5 up5=>?_
 rw[<-hst] at fl5
 have f5:=fl.to fl5 (up4.trans up5)
 have I5:Inv X pins σ H' { s' with heap:=h5 }:=Fly.inv (s':={ s' with heap:=h5 }) I f5 ho hg
 refine wpAny_handleBy_cons (codeAny_handlers_test (Hk (X:=hnd X ea) (UD I5 ea) hgx hm ?_ hd)) (by intro q;cases q)
 obtain⟨oe,he,hc⟩:=f5.fl.there
 refine P9 (s:={ s' with heap:=h5 }) I5.kIn hn he hc hb ?_
 refine codeAny_handlers_suite_as ?_
 refine lands_againW (s:={ s' with heap:=h5 }) f5.fl fun h6 fl6 up6=>?_
 have f6:=f5.to fl6 up6
 have I6:Inv X pins σ H' { s' with heap:=h6 }:=Fly.inv (s':={ s' with heap:=h6 }) I f6 ho hg
 obtain⟨oe6,vs6,he6,hc6,hd6,_⟩:=f6.fl.first
 have noF:∀b,b∈frs X.stack->ea≠b:=fun b hbm z=>by
  obtain⟨o,h1,h2⟩:=Ik f6.fl.2.2.1 hbm
  rw[<-z,he6] at h1
  cases h1
  exact h2 _ hd6
 have hnone:H' ea=none:=by
  cases e:H' ea with
  |none=>rfl
  |some o =>
   obtain⟨ob,eb⟩:=f6.tr _ _ e
   have:=f6.fl.2.1
   rw[eb] at this
   cases this
 have IE:Inv (K1 X ea oe6) pins σ H' { s' with heap:=h6 }:=RV I6 #[he6,hnone,noF _ (by rw[hst,EN hf];exact qA1),fun z=>noF _ (by rw[hst,EN hf];exact qAI _ z) rfl,fun v z=>by rw[hd6] at z;cases z]
 refine GY (X:=K1 X ea oe6) (v:=.ref ea) IE hN hi hx rfl (fun s7 I7=>?_) hfn
 exact wpAny_mono (go s7 oe6 #[hc6] I7) (fun f s4 h=>h) fun _ _ z=>z.elim
theorem QM {c:Value}{cv:V}{b:Bool}(hO:ExO oe C) (i:ExI X.K C) (rc:CA cv c) (hc:∀u,CA cv u->u=c) (hk:W.kitOne X.K (.ref C) c=some b):Hj (K1 X ea oe) (.builtin "isinstance") (fun xs H Q=>xs=[.ref ea,cv]/\Q (.bl b) H):=by
 intro pins s σ H xs us Q I rs h
 obtain⟨rfl,q⟩:=h
 obtain⟨v',u',rfl,r1,r2⟩:=Ry rs
 cases r1
 cases hc _ r2
 have hp:=I.pin (ea,oe) (qAJ _ qA1)
 exact qAP (QJ i) I.kIn #[oe,hp.1,hO.cls] hk (fun z=>nomatch z) fun tk=>#[.bl b,H,I.tok tk,rfl,q]
end
section
variable {X:Cx}{ea C:Addr}{oe:Obj}
def Xg (i:Nat)(ea:Addr)(b:Bool):TE3:=fun τ R=>τ[i]? = some (some (.d (.ref ea)))/\R (.d (.bl b))
theorem Sh {i:Nat}{n y:Str}{p p1 p2 pos:Pos}{c:Value}{cv:V}{b:Bool}(hO:ExO oe C) (hi:ExI X.K C) (rc:CA cv c) (hc:∀u,CA cv u->u=c) (hk:W.kitOne X.K (.ref C) c=some b)
 (hv:PE (K1 X ea oe) (.Name n p1) (Ny i)) (hcl:PE (K1 X ea oe) (.Name y p2) (tC cv)) (hg:Gl X "isinstance") (hm:X.mg "isinstance"=none)
 (he:starEach [.Name n p1,.Name y p2] X.env=(false,eval (.Name n p1) X.env)::starEach [.Name y p2] X.env:=by exact CM rfl) (he2:starEach [.Name y p2] X.env=(false,eval (.Name y p2) X.env)::starEach [] X.env:=by exact CM rfl) (hpl:(backTo pos (starEach [.Name y p2] X.env)).any (·.1)=false:=by exact D5 rfl) :
 PE3 (K1 X ea oe) (.Call (.Name "isinstance" p) [.Name n p1,.Name y p2] [] pos) (Xg i ea b):=#[BO (KU (QM hO hi rc hc hk) hg hm qCq (AL hv (AL hcl Bn he2) he) (he:=he) (hpl:=hpl)) fun σ H Q #[B,z,τ,R,r,#[ht,hR],q]=>by
 obtain⟨v,h1,h2⟩:=r.val i _ ht
 cases h2
 exact#[.ref ea,h1,rfl,q (.d _) _ #[H,z] (Ext.refl r.ext.sub) (Is.bl _) F8 hR]]
theorem KT {i:Nat}{n y:Str}{p p1 p2 pos:Pos}{Cy:Addr}{b:Bool}(hO:ExO oe C) (hi:ExI X.K C) (hk:W.kitOne X.K (.ref C) (.ref Cy)=some b)
 (hv:PE (K1 X ea oe) (.Name n p1) (Ny i)) (hgy:Gl X y) (hmy:X.mg y=some (.ref Cy)) (hg:Gl X "isinstance") (hm:X.mg "isinstance"=none) (hd:(y==("__debug__":Str))=false:=by decide)
 (he:starEach [.Name n p1,.Name y p2] X.env=(false,eval (.Name n p1) X.env)::starEach [.Name y p2] X.env:=by exact CM rfl) (he2:starEach [.Name y p2] X.env=(false,eval (.Name y p2) X.env)::starEach [] X.env:=by exact CM rfl) (hpl:(backTo pos (starEach [.Name y p2] X.env)).any (·.1)=false:=by exact D5 rfl) :
 PE3 (K1 X ea oe) (.Call (.Name "isinstance" p) [.Name n p1,.Name y p2] [] pos) (Xg i ea b) :=
 Sh (cv:=.ref Cy) hO hi rfl (fun u z=>z) hk hv (PX (X:=K1 X ea oe) hgy hmy rfl hd) hg hm he he2 hpl
theorem VL {i:Nat}{n y:Str}{p p1 p2 pos:Pos}{T:String}{b:Bool}(hO:ExO oe C) (hi:ExI X.K C) (hk:W.kitOne X.K (.ref C) (.type T)=some b)
 (hv:PE (K1 X ea oe) (.Name n p1) (Ny i)) (hgy:Gl X y) (hmy:X.mg y=none) (hby:bootBuiltins y=some (.type T)) (hg:Gl X "isinstance") (hm:X.mg "isinstance"=none) (hn:y≠"__name__":=by decide) (hd:(y==("__debug__":Str))=false:=by decide)
 (he:starEach [.Name n p1,.Name y p2] X.env=(false,eval (.Name n p1) X.env)::starEach [.Name y p2] X.env:=by exact CM rfl) (he2:starEach [.Name y p2] X.env=(false,eval (.Name y p2) X.env)::starEach [] X.env:=by exact CM rfl) (hpl:(backTo pos (starEach [.Name y p2] X.env)).any (·.1)=false:=by exact D5 rfl) :
 PE3 (K1 X ea oe) (.Call (.Name "isinstance" p) [.Name n p1,.Name y p2] [] pos) (Xg i ea b) :=
 Sh (cv:=.ty T) hO hi rfl (fun u z=>z) hk hv (Pm (X:=K1 X ea oe) (v:=.ty T) hgy hmy hby rfl hn hd) hg hm he he2 hpl
variable {e:Expr}{es:List Expr}{tr:TA3}
def VC (i:Nat)(sp:Sp3)(ok:Str->Prop)(tr:TA3)(th:Addr->Str->TS3):TS3:=fun D3 τ=>tr τ fun ss=>sp ss (fun _=>D3.nx τ) (fun y=>ok y/\∀ea,th ea y { nx:=fun _=>False,rt:=D3.rt } (τ.set i (some (.d (.ref ea)))))
theorem U0 {k i:Nat}{n f cx:Str}{ps:List Str}{sp:Sp3}{Cx:Addr}{ok:Str->Prop}{th:Addr->Str->TS3}{pf pc pa np hp pt:Pos}{b0:Stmt}{suite:List Stmt}(hst:X.stack=X.env::X.outer) (hf:X.env.frame=some X.env.locals) (hno:∀e s,¬X.xe e s)
 (c:Cal X.prog X.w X.K X.mg X.base (CXU X.prog X.w) k f ps sp) (hr:E4 k X.A) (hg:Gl X f) (ha:PA3 X (e::es) tr) (hN:X.N.Nodup) (hi:X.N[i]? = some n) (hx:Loc X.env.scope n) (hkl:X.env.kindOf n=some .local)
 (hgx:Gl X cx) (hm:X.mg cx=some (.ref Cx)) (hn:HnC X.K Cx) (hok:∀y C,ok y->X.mg y=some (.ref C)->W.mroIn X.K C (.ref Cx)=some true) (hh:∀ea oe y C,ok y->X.mg y=some (.ref C)->ExO oe C->DP (K1 X ea oe) (b0::suite) (th ea y))
 (hdb:(f==("__debug__":Str))=false:=by decide) (hd:(cx==("__debug__":Str))=false:=by decide) (he:starEach (e::es) X.env=(false,eval e X.env)::starEach es X.env:=by exact CM rfl) (hpl:(backTo pc (starEach es X.env)).any (·.1)=false:=by exact D5 rfl)
 (hs:swapsWith (.Call (.Name f pf) (e::es) [] pc) none pa.line X.env=pure false:=by rfl) (hfn:X.fn n=true\/X.env.scope.names.lookup n=some .local:=by first|exact .inl rfl|exact .inr rfl|assumption) (hpn:Di X i:=by first|exact Cv rfl|exact Cr rfl ∅|assumption) :
 PS3 X (.Try [.Expr (.Call (.Name f pf) (e::es) [] pc) pa] [.ExceptHandler (some (.Name cx np)) (some n) (b0::suite) hp] [] [] pt) (VC i sp ok tr th):=by
 refine#[?_]
 obtain⟨fa,fd,F,hmf,hk,hb⟩:=c.ex
 intro pins s σ H D2 I h
 obtain⟨B,z,τ,D3,r,ht,ct⟩:=h
 refine wpAny_Try_except (wpAny_execs_cons (wpAny_Expr_any (thn (TX (Ex:=fun cls _ H'=>∃y,X.mg y=some cls/\(ok y/\∀ea,th ea y { nx:=fun _=>False,rt:=D3.rt } (τ.set i (some (.d (.ref ea)))))/\BD H H') (Q:=fun v H'=>D2.nx σ H') F hr hg hmf hk hb ha.out (fun e s z=>(hno e s z).elim) I ?hx ?h hdb he hpl) fun v s1 #[y,H1,I1,r1,q1]=>?nx) I.quiet hs))
 case hx =>
  intro H1 s1 e' s' I1 hcx
  obtain⟨ea,C,a0,B',H',rfl,ho,hbr,fl,y,hy,⟨hoky,hth⟩,hsame⟩:=hcx
  refine RW I1 hst hf fl ho hbr hgx hm hn (hok y C hoky hy) hd hN hi hx hfn fun s2 oe hO I2=>?_
  refine wpAny_mono ((hh ea oe y C hoky hy hO).out pins s2 _ H' { nx:=fun _ _=>False,rt:=D2.rt,bk:=fun _ _=>False,ct:=fun _ _=>False } I2 #[B,_,_,_,QT ((r.mono (Ext.grow r.ext.sub hsame)).setd (.ref ea) hpn),hth ea,#[fun _ _ _ _ z=>z.elim,fun _ _ _ _ z=>z.elim,fun _ _ _ _ z=>z.elim,ct.rt]]) (fun f s3 h3=>?_) fun e3 s3 z=>hno e3 s3 z
  cases f with
  |next=>obtain⟨_,_,_,z⟩:=h3;exact z.elim
  |brk=>obtain⟨_,_,_,z⟩:=h3;exact z.elim
  |cont=>obtain⟨_,_,_,z⟩:=h3;exact z.elim
  |ret u =>
   obtain⟨v,σ',H3,I3,rv,q3⟩:=h3
   exact Oy (N5 I.ok.hd I.ok.frames I3) hkl fun s5 I5=>#[v,_,H3,I5,rv,q3]
 case h =>
  refine#[B,_,τ,_,r,ht,fun ss vs H1 e1 i1 h1=>#[H1.z,ss,_,_,e1.sub,i1,h1,fun s v H2 e2 i2 f2 h2=>?_,fun y C H2 e2 hy hu=>#[y,hy,hu,e1.hh.trans e2]]]
  exact ct.nx _ _ _ (r.mono (e1.trans e2)) h2
 case nx =>
  exact wpAny_execs_nil (wpAny_execs_nil #[_,H1,I1,q1])
end
theorem Iv:PySem.bootBuiltins "ValueError"=some (.type "ValueError"):=by decide +kernel
section
variable {X:Cx}
theorem YB {K:W.Frag}{mg:Str->Option Value}{y0:Str}{C0 Cx:Addr}(hm:mg y0=some (.ref C0)) (h:W.mroIn K C0 (.ref Cx)=some true):∀y C,y=y0->mg y=some (.ref C)->W.mroIn K C (.ref Cx)=some true:=fun y C e h1=>by
 subst e;rw[hm] at h1;cases h1;exact h
variable {e:Expr}{es:List Expr}{tr:TA3}
theorem T1 {k i:Nat}{n f cx y0:Str}{ps:List Str}{sp:Sp3}{Cx C0:Addr}{th:Addr->TS3}{pf pc pa np hp pt:Pos}{b0:Stmt}{suite:List Stmt}(hst:X.stack=X.env::X.outer) (hf:X.env.frame=some X.env.locals) (hno:∀e s,¬X.xe e s)
 (c:Cal X.prog X.w X.K X.mg X.base (CXU X.prog X.w) k f ps sp) (hr:E4 k X.A) (hg:Gl X f) (ha:PA3 X (e::es) tr) (hN:X.N.Nodup) (hi:X.N[i]? = some n) (hx:Loc X.env.scope n) (hkl:X.env.kindOf n=some .local)
 (hgx:Gl X cx) (hm:X.mg cx=some (.ref Cx)) (hn:HnC X.K Cx) (hok:∀y C,y=y0->X.mg y=some (.ref C)->W.mroIn X.K C (.ref Cx)=some true) (hm0:X.mg y0=some (.ref C0)) (hh:∀ea oe,ExO oe C0->DP (K1 X ea oe) (b0::suite) (th ea))
 (hdb:(f==("__debug__":Str))=false:=by decide) (hd:(cx==("__debug__":Str))=false:=by decide) (he:starEach (e::es) X.env=(false,eval e X.env)::starEach es X.env:=by exact CM rfl) (hpl:(backTo pc (starEach es X.env)).any (·.1)=false:=by exact D5 rfl)
 (hs:swapsWith (.Call (.Name f pf) (e::es) [] pc) none pa.line X.env=pure false:=by rfl) (hfn:X.fn n=true\/X.env.scope.names.lookup n=some .local:=by first|exact .inl rfl|exact .inr rfl|assumption) (hpn:Di X i:=by first|exact Cv rfl|exact Cr rfl ∅|assumption) :
 PS3 X (.Try [.Expr (.Call (.Name f pf) (e::es) [] pc) pa] [.ExceptHandler (some (.Name cx np)) (some n) (b0::suite) hp] [] [] pt) (VC i sp (fun y=>y=y0) tr (fun ea _=>th ea)) :=
 U0 (th:=fun ea _=>th ea) hst hf hno c hr hg ha hN hi hx hkl hgx hm hn hok (fun ea oe y C e h1 hO=>by subst e;rw[hm0] at h1;cases h1;exact hh ea oe hO) hdb hd he hpl hs hfn
end
section
variable {X:Cx}{st:Stmt}{rest':List Stmt}{t u:TS3}
end
theorem hu_ {A:Around}{k n:Nat}(hr:E4 k A) (hn:n<=200):A.units+n<cLine:=by have:=hr.un;omega
section
variable {X:Cx}{pins:List (Addr×Obj)}{σ:St}{H:Hp}{s:Shared}
theorem NZ (I:Inv X pins σ H s){n:Nat}{A:Around}{a b:Addr}{vs ws:List V}{xs ys:List D}(ha:SqT X.K H a vs) (hb:SqT X.K H b ws) (hx:Iss X.K H vs xs) (hy:Iss X.K H ws ys) (hu:A.units<cLine)
 (ih:∀(x y:D)(v u:V)(v' u':Value),x∈xs->y∈ys->Is X.K H v x->Is X.K H u y->CA v v'->CA u u'->SeqAt.EqAt A.in1 s v' u' (eqN n x y)):SeqAt.RcNeAt A s (.ref a) (.ref b) (!eqN (n+1) (.tup xs) (.tup ys)):=by
 obtain⟨its,r1,p1,_⟩:=I.tuple ha
 obtain⟨its2,r2,p2,_⟩:=I.tuple hb
 have l1:=r1.length
 have l2:=r2.length
 have k1:=hx.1
 have k2:=hy.1
 have key:=SeqAt.RcNeAt.tuples (A:=A) (s:=s) (l:=a) (b:=b) (items:=its.toArray) (items2:=its2.toArray) (e:=fun j=>match xs[j]?,ys[j]? with|some x,some y=>eqN n x y|_,_=>true) p1 p2 hu (fun j h1 h2=>by
  have h1':j<its.length:=by simpa using h1
  have h2':j<its2.length:=by simpa using h2
  have gx:xs[j]? = some (xs[j]' ()):=qAb ()
  have gy:ys[j]? = some (ys[j]' ()):=qAb ()
  have gv:vs[j]? = some (vs[j]' ()):=qAb ()
  have gw:ws[j]? = some (ws[j]' ()):=qAb ()
  obtain⟨u1,e1,q1⟩:=r1.get gv
  obtain⟨u2,e2,q2⟩:=r2.get gw
  rw[FK h1 e1,FK h2 e2]
  rw[gx,gy]
  exact ih _ _ _ _ _ _ (qAE gx) (qAE gy) (hx.2 j _ _ gv gx) (hy.2 j _ _ gw gy) q1 q2)
 have e:eqN (n+1) (.tup xs) (.tup ys)=((List.range (min its.toArray.size its2.toArray.size)).all (fun j=>match xs[j]?,ys[j]? with|some x,some y=>eqN n x y|_,_=>true)&&its.toArray.size==its2.toArray.size):=by
  show((xs.zip ys).all (fun p=>eqN n p.1 p.2)&&xs.length==ys.length)=_
  have s1:its.toArray.size=xs.length:=by simp;omega
  have s2:its2.toArray.size=ys.length:=by simp;omega
  rw[s1,s2]
  congr 1
  rw[qBC,qAG,qAG]
  constructor
  .intro h j hj
   rw[qAW] at hj
   have gx:xs[j]? = some (xs[j]' ()):=qAb ()
   have gy:ys[j]? = some (ys[j]' ()):=qAb ()
   rw[gx,gy]
   exact h (_,_) (qAE (qBl.mpr #[gx,gy]))
  .rintro h ⟨x,y⟩ hp
   obtain⟨j,hj⟩:=qCh hp
   obtain⟨gx,gy⟩:=qBl.mp hj
   have h1:=(qAg.mp gx).1
   have h2:=(qAg.mp gy).1
   have:=h j (by rw[qAW];omega)
   simp only[] at gx gy
   rw[gx,gy] at this
   exact this
 rw[e]
 exact key
def XY (n:Nat):R3:=fun dx dy R=>match dx,dy with
 |.tup xs,.tup ys=>EC n (.tup xs)=true/\EC n (.tup ys)=true/\R (.bl (!eqN n (.tup xs) (.tup ys)))
 |_,_=>False
theorem N8 (n:Nat)(hu:X.A.units+n<cLine):Js X (compareOp .NotEq) (XY n):=by
 intro pins s σ H x y v u Q I rx ry h
 obtain⟨z,dx,dy,R,hz,hx,hy,h3,q⟩:=h
 replace hx:=hx.mono hz
 replace hy:=hy.mono hz
 unfold XY at h3
 split at h3
 .rename_i xs ys
  obtain⟨fx,fy,h3⟩:=h3
  cases n with
  |zero=>cases fx
  |succ n =>
   obtain⟨a,vs,rfl,ha,ia⟩:=Is.tup_inv hx
   obtain⟨b,ws,rfl,hb,ib⟩:=Is.tup_inv hy
   cases rx
   cases ry
   refine NZ (A:=X.A) (n:=n) I ha hb ia ib () (fun x y v u v' u' mx my ix iy rv ru=>?_) X.prog X.w X.xe _ #[.bl _,H,I,rfl,q _ _ #[H,z] (Ext.refl hz) (.bl _) h3]
   exact Qj I n X.A.in1 x y v u v' u' (by show X.A.units+1+n<cLine;omega) (qAG.mp (show xs.all (EC n)=true from fx) x mx) (qAG.mp (show ys.all (EC n)=true from fy) y my) ix iy rv ru
 .exact h3.elim
end
theorem G7 {env:Env}:∀(names:List (Str×NameKind))(acc:List (Str×Addr)),(∀y∈names,y.2=.free->∃c,env.cells.lookup y.1=some c) ->
 ∃cl,(forIn names acc fun(x:Str×NameKind)(r:List (Str×Addr))=>if (x.2 == .free)=true then (do let c <-cellOf env x.1;pure (ForInStep.yield ((x.1,c)::r)):Sem _) else pure (ForInStep.yield r))=pure cl /\
  (∀y c,(y,c)∈cl->(y,c)∈acc\/env.cells.lookup y=some c)/\(∀y,(y,NameKind.free)∈names->∃c,(y,c)∈cl)/\∀p∈acc,p∈cl
 |[],acc,_=>#[acc,rfl,fun y c h=>.inl h,(fun y h=>by cases h),fun p h=>h]
 |(n,k)::r,acc,h=>by
  rw[qBv]
  by_cases hk:(k==NameKind.free)=true
  .have hk':k=.free:=by simpa using hk
   obtain⟨c,hc⟩:=h (n,k) qA1 hk'
   obtain⟨cl,e,h1,h2,h3⟩:=G7 r ((n,c)::acc) fun y hy=>h y (qAI _ hy)
   refine#[cl,?_,fun y d hd=>?_,fun y hy=>?_,fun p hp=>h3 p (qAI _ hp)]
   .have hco:cellOf env n=pure c:=by unfold cellOf;rw[hc]
    simp only[hk,if_true,hco,pure_bind]
    exact e
   .rcases h1 y d hd with z|z
    .rcases qAo.mp z with z|z
     .cases z;exact .inr hc
     .exact .inl z
    .exact .inr z
   .rcases qAo.mp hy with z|z
    .cases z;exact#[c,h3 _ qA1]
    .exact h2 y z
  .obtain⟨cl,e,h1,h2,h3⟩:=G7 r acc fun y hy=>h y (qAI _ hy)
   refine#[cl,?_,h1,fun y hy=>?_,h3]
   .simp only[hk,qBE,if_false,pure_bind]
    exact e
   .rcases qAo.mp hy with z|z
    .cases z;exact absurd rfl hk
    .exact h2 y z
theorem BH {α:Type}{y:Str}{c:α}:∀{l:List (Str×α)},l.lookup y=some c->(y,c)∈l
 |[],h=>by cases h
 |(n,d)::r,h=>by
  rw[qBi] at h
  cases q:y==n with
  |true => rw[q] at h;cases h;have:y=n:=by simpa using q
           subst this;exact qA1
  |false=>rw[q] at h;exact qAI _ (BH h)
theorem JJ {α:Type}{y:Str}{c:α}:∀{l:List (Str×α)},(y,c)∈l->∃d,l.lookup y=some d
 |(n,d)::r,h=>by
  rw[qBi]
  cases q:y==n with
  |true=>exact#[d,rfl]
  |false =>
   rcases qAo.mp h with z|z
   .cases z;simp at q
   .exact JJ z
theorem Hq {scope:Scope}{env:Env}(h:∀y∈scope.names,y.2=.free->∃c,env.cells.lookup y.1=some c) :
 ∃cl,closureFor scope env=pure cl/\(∀y c,cl.lookup y=some c->env.cells.lookup y=some c)/\∀y,(y,NameKind.free)∈scope.names->∃c,cl.lookup y=some c:=by
 obtain⟨cl,e,h1,h2,_⟩:=G7 scope.names [] h
 refine#[cl,?_,fun y c hc=>?_,fun y hy=>?_]
 .unfold closureFor
  first|(simp only[bind_pure];exact e)|exact e
 .rcases h1 y c (BH hc) with z|z
  .cases z
  .exact z
 .obtain⟨c,hc⟩:=h2 y hy
  exact JJ hc
def AD (X:Cx)(N:List Str)(scope:Scope)(cl:List (Str×Addr))(C:Addr)(s₀:Shared)(H₀:Hp)(fp:List Addr):Cx :=
 { X with N:=N,s₀:=s₀,H₀:=H₀,env:=compEnvC scope cl C X.env,outer:=X.stack,ex:=fp,fn:=fun _=>false,pn:=[],xe:=fun _ _=>False,lent:=none }
theorem CV {env:Env}:∀{names:List (Str×NameKind)}{x:Str}{k:NameKind},(names.map fun(n,k)=>if (k==NameKind.free&&env.scope.kind == .function&&env.kindOf n==some .cell) then (n,NameKind.cell) else (n,k)).lookup x=some k ->
 ∃k0,(x,k0)∈names/\(k=k0\/k0=.free)
 |[],_,_,h=>by cases h
 |(n,k1)::r,x,k,h=>by
  have h':List.lookup x ((if (k1==NameKind.free&&env.scope.kind == .function&&env.kindOf n==some .cell)=true then (n,NameKind.cell) else (n,k1))::(r.map fun(n,k)=>if (k==NameKind.free&&env.scope.kind == .function&&env.kindOf n==some .cell) then (n,NameKind.cell) else (n,k)))=some k:=h
  by_cases hc:(k1==NameKind.free&&env.scope.kind == .function&&env.kindOf n==some .cell)=true
  .rw[if_pos hc,qBi] at h'
   have hk1:k1=.free:=by
    rw[qAV,qAV] at hc
    simpa using hc.1.1
   cases q:x==n with
   |true =>
    have:x=n:=by simpa using q
    subst this
    exact#[k1,qA1,.inr hk1]
   |false =>
    rw[q] at h'
    obtain⟨k0,h1,h2⟩:=CV h'
    exact#[k0,qAI _ h1,h2]
  .rw[if_neg hc,qBi] at h'
   cases q:x==n with
   |true =>
    rw[q] at h'
    have:x=n:=by simpa using q
    subst this
    exact#[k1,qA1,.inl (qAl h').symm]
   |false =>
    rw[q] at h'
    obtain⟨k0,h1,h2⟩:=CV h'
    exact#[k0,qAI _ h1,h2]
theorem Ck {env:Env}{y:Str}(hk:env.scope.kind=.function) (hy:env.kindOf y=some .cell):∀{names:List (Str×NameKind)},names.lookup y=some .free ->
 (names.map fun(n,k)=>if (k==NameKind.free&&env.scope.kind == .function&&env.kindOf n==some .cell) then (n,NameKind.cell) else (n,k)).lookup y=some .cell
 |[],h=>by cases h
 |(n,k1)::r,h=>by
  show List.lookup y ((if (k1==NameKind.free&&env.scope.kind == .function&&env.kindOf n==some .cell)=true then (n,NameKind.cell) else (n,k1))::(r.map fun(n,k)=>if (k==NameKind.free&&env.scope.kind == .function&&env.kindOf n==some .cell) then (n,NameKind.cell) else (n,k)))=some .cell
  rw[qBi] at h
  cases q:y==n with
  |true =>
   rw[q] at h
   have:y=n:=by simpa using q
   subst this
   have hk1:k1=.free:=qAl h
   subst hk1
   rw[if_pos (by rw[hk,hy];rfl),qBi,q]
  |false =>
   rw[q] at h
   have ih:=Ck hk hy h
   by_cases hc:(k1==NameKind.free&&env.scope.kind == .function&&env.kindOf n==some .cell)=true
   .rw[if_pos hc,qBi,q];exact ih
   .rw[if_neg hc,qBi,q];exact ih
structure Ba (X:Cx)(x:Str)(scope:Scope)(N:List Str)(idx:List Nat):Prop where
 kind:scope.kind=.function
 cell:∀y∈scope.names,y.2≠.cell
 names:∀y∈scope.names,y.2=.local->scope.names.lookup y.1=some .local
 own:scope.names.lookup x=some .local
 free:∀y∈scope.names,y.2=.free->X.env.kindOf y.1=some .cell
 nd:N.Nodup
 fst:N[0]? = some x
 len:N.length=idx.length+1
 cap:∀(k j:Nat),idx[k]? = some j->∃y,N[k+1]? = some y/\X.N[j]? = some y/\scope.names.lookup y=some .free
def DS {α:Type}(σ:List (Option α)) (idx:List Nat):List (Option α):=idx.map fun j=>(σ[j]?).getD none
theorem Ie {α:Type}{σ:List (Option α)}{idx:List Nat}{k:Nat}{v:α}(h:(DS σ idx)[k]? = some (some v)):∃j,idx[k]? = some j/\σ[j]? = some (some v):=by
 unfold DS at h
 rw[qAe] at h
 cases e:idx[k]? with
 |none=>rw[e] at h;cases h
 |some j =>
  rw[e] at h
  refine#[j,rfl,?_]
  have h':(σ[j]?).getD none=some v:=qAl h
  cases q:σ[j]? with
  |none=>rw[q] at h';cases h'
  |some o=>rw[q] at h';rw[show o=some v from h']
section
variable {X:Cx}{pins:List (Addr×Obj)}{σ:St}{H2:Hp}{s2:Shared}{x:Str}{px:Pos}{scope:Scope}{N:List Str}{idx:List Nat}{J:It}{fp:List Addr}{it:Addr}{tn:Nat->Heap->Prop}{cl:List (Str×Addr)}
theorem NU (O:Ba X x scope N idx)(I2:Inv X pins σ H2 s2)(T:Qv X.prog X.w X.K (.Name x px) J fp it tn)(st2:tn 0 s2.heap)(f2:∀b∈fp,NS X pins H2 b)
 (hcl:∀y c,cl.lookup y=some c->X.env.cells.lookup y=some c)(hcl2:∀y,(y,NameKind.free)∈scope.names->∃c,cl.lookup y=some c)
 {h1:Heap}{C:Addr}{m:Str->Option Value}{tk:Nat}(hC:s2.heap.objs.size<C) (hns:h1.Ns C m) (old:∀b o,s2.heap.get? b=some o->h1.get? b=some o)
 (hD:h1.get? s2.heap.objs.size=some { cls:=.type "list",data:=.seq ([]:List Value).toArray }) :
 Inv (AD X N scope cl C s2 H2 fp) [] (none::DS σ idx) (upd H2 s2.heap.objs.size (.lst [])) { s2 with heap:=h1,toks:=tk }:=by
 have inHeap:∀b∈fp,b<s2.heap.objs.size:=fun b hb=>by
  obtain⟨o,e,_⟩:=T.obj 0 _ st2 b hb
  exact qAh e
 have hDn:H2 s2.heap.objs.size=none:=I2.hok.fresh (qAc _)
 refine#[#[I2.ok.mod,O.kind,I2.ok.glob,I2.ok.blt,?_,?_,?_,(fun _ _ z=>by cases z),I2.ok.hd,I2.ok.frames,.inl rfl,?_,fun b o e=>I2.bs b o e,qAL I2.ok.bsz I2.sz,?_,?_,I2.stack,I2.stkFree,I2.tb],rfl,I2.bare,?_,#[m,hns,?_],?_,?_,?_,?_,?_,?_]
 .exact qBt hC
 .intro y z c h1 h2
  exact I2.ok.inj y z c (hcl y c h1) (hcl z c h2)
 .intro y hy
  have key:∀k,(relabel scope X.env).names.lookup y=some k->(k=.cell\/k=.free)->∃c,cl.lookup y=some c:=fun k e hk=>by
   obtain⟨k0,h1,h2⟩:=CV e
   have hf:k0=.free:=by
    rcases h2 with rfl|h2
    .rcases hk with rfl|rfl
     .exact absurd rfl (O.cell _ h1)
     .rfl
    .exact h2
   subst hf
   exact hcl2 y h1
  rcases hy with e|e
  .exact key _ e (.inl rfl)
  .exact key _ e (.inr rfl)
 .intro b hb
  have:=inHeap b hb
  exact#[qAw (qBA this hC),fun y c e=>(f2 b hb).2.2.2.2.1 y c (hcl y c e)]
 .intro b o e hb
  rcases(f2 b hb).2.2.2.1 with z|z
  .exact I2.ok.noex b o e z
  .exact absurd (qAq (qAh e) (qAL I2.ok.bsz z)) (qA4 _)
 .intro b hb hf
  rcases qAo.mp (I2.stkSub b hf) with e|e
  .exact(f2 b hb).2.1 e
  .exact(f2 b hb).2.2.1 e
 .exact Un.laid old (qAc _) hDn
 .intro i y v e1 e2 e3
  cases i with
  |zero=>cases e2
  |succ k =>
   obtain⟨j,ej,es⟩:=Ie (k:=k) e2
   obtain⟨y',n1,n2,n3⟩:=O.cap k j ej
   have ey:y'=y:=qAl (n1.symm.trans e1)
   subst ey
   have kc:=O.free _ (BH n3) rfl
   obtain⟨m0,hn0,hl0⟩:=I2.loc
   obtain⟨u,ru,lk⟩:=hl0 j y' v n2 es (.inr (.inl kc))
   refine#[u,ru,?_]
   rcases lk with⟨k1,_⟩|⟨_,c,hc,ic⟩
   .rw[kc] at k1;cases k1
   .obtain⟨c',hc'⟩:=hcl2 y' (BH n3)
    have:c'=c:=qAl ((hcl y' c' hc').symm.trans hc)
    subst this
    exact .inr #[.inl (Ck I2.ok.kind kc n3),c',hc',ic.keeps old]
 .intro y c e
  obtain⟨v,ic⟩:=I2.cell y c (hcl y c e)
  exact#[v,ic.keeps old]
 .show upd H2 _ _ C=none
  rw[Al (qBg hC)]
  exact I2.hok.fresh (qBt hC)
 .intro y c e
  obtain⟨v,ic⟩:=I2.cell y c (hcl y c e)
  rw[Al (qAw ic.lt)]
  exact I2.freeC y c (hcl y c e)
 .intro p hp;cases hp
 .exact I2.hok.laid old (qAc _) #[qA3 _,[],_,.nil,hD]
 .show(none::DS σ idx).length=N.length
  rw[O.len,qBr]
  unfold DS
  rw[qAa]
theorem Ip {σ':St}{H':Hp}{s':Shared}{pl:List (Addr×Obj)}{C:Addr}{h':Heap}(I2:Inv X pins σ H2 s2) (f2:∀b∈fp,NS X pins H2 b) (hC:s2.heap.objs.size<C) (I':Inv (AD X N scope cl C s2 H2 fp) pl σ' H' s') (hs:Heap.SameBut C s'.heap h') :
 Inv X pins σ H' { s' with heap:=h' }:=by
 have ne:∀b o,s2.heap.get? b=some o->b≠C:=fun b o e=>qAw (qBA (qAh e) hC)
 have u:=I'.base
 refine Inv.call' (s':={ s' with heap:=h' }) (ch:=fp) I2 I'.os #[fun b o e n hb hx=>(hs.2 b (ne b o e)).trans (u.keep b o e n hb hx),fun b o e n hb hx=>?_,u.free,fun b o e hx=>?_,u.tups,u.frzs,u.tbls] (fun b ob e=>?_) I'.bare (fun b hb=>#[(f2 b hb).2.2.2.1,(f2 b hb).2.1,(f2 b hb).2.2.2.2.1,(f2 b hb).2.2.2.2.2])
 .obtain⟨sl,e1⟩:=u.slot b o e n hb hx
  exact#[sl,(hs.2 b (ne b o e)).trans e1]
 .obtain⟨o',e1⟩:=u.there b o e hx
  exact#[o',(hs.2 b (ne b o e)).trans e1]
 .refine(I'.hok b ob e).stay (fun c w' hc q=>(hs.2 c ?_).trans q) (fun _ q=>q) fun _ _ q=>q
  have hf:H' C=none:=I'.free
  rintro rfl
  rcases hc with rfl|hc
  .rw[hf] at e;cases e
  .rw[hf] at hc;cases hc
def S7 (X:Cx)(ifs:List Expr)(t:TT):Prop:=∀(pins:List (Addr×Obj))(s:Shared)(σ:St)(H:Hp)(Q:Bool->Hp->Prop),Inv X pins σ H s->t σ H Q ->
 wpAny (model X.prog X.w) X.A (forIn ifs true fun c r=>if r=true then do let ok <-isTrue c X.env (eval c X.env);pure (ForInStep.yield ok) else pure (ForInStep.yield r)) (TP X pins σ Q) X.xe s
theorem RK:S7 X [] (fun _ H Q=>Q true H):=fun pins s σ H Q I h=>wpAny_pure #[H,I,h]
theorem RF {c:Expr}{t:TT}(h:PT X c t):S7 X [c] t:=fun pins s σ H Q I hq=>by
 rw[qBv]
 simp only[if_true,bind_assoc,pure_bind]
 exact wpAny_bind (thn (h pins s σ H Q I hq) fun b s1 h1=>wpAny_pure h1)
def Qg (K:W.Frag)(idx:List Nat)(wi:TI)(tt:Hp->TT)(te:Hp->TE):TE:=fun σ H Q=>wi σ H fun J H1=>∀D,H1 D=none->K.lookup D=none->∃W:Nat->Nat->List V->Hp->Prop,(∃m,W 0 m [] (upd H1 D (.lst []))) /\
 ∀i m ys H,H D=some (.lst ys)->W i m ys H->(J.stop i H/\Q (.ref D) H)\/(J.go i H/\∀x H',J.yld i H x H'->tt H1 (some x::DS σ idx) H' fun b H2 =>
  if b=true then te H1 (some x::DS σ idx) H2 (fun v H3=>H3 D=some (.lst ys)/\ys.length<sizeLine/\∃m',m'<m/\W (i+1) m' (ys++[v]) (upd H3 D (.lst (ys++[v])))) else H2 D=some (.lst ys)/\∃m',m'<m/\W (i+1) m' ys H2)
theorem Nx {elt iter:Expr}{ifs:List Expr}{wi:TI}{tt:Hp->TT}{te:Hp->TE}{pos:Pos}{s:Shared}{H:Hp}{Q:VK}{use:Option (Value->Sem Unit)}{QQ:Value->Shared->Prop}(O:Ba X x scope N idx) (hc:X.calm=true) (hi:PI X (.Name x px) iter wi)
 (hifs:∀cl C s₀ H₀ fp,S7 (AD X N scope cl C s₀ H₀ fp) ifs (tt H₀)) (helt:∀cl C s₀ H₀ fp,PE (AD X N scope cl C s₀ H₀ fp) elt (te H₀))
 (hs:∀x,foldedSetIterable iter X.env x=pure x) (I:Inv X pins σ H s) (h:Qg X.K idx wi tt te σ H Q)
 (fin:∀(s2:Shared)(H2:Hp)(fp:List Addr)(cl:List (Str×Addr))(C D:Addr)(σ':St)(H':Hp)(s':Shared),Inv X pins σ H2 s2->(∀b∈fp,NS X pins H2 b)->s2.heap.objs.size<C->Inv (AD X N scope cl C s2 H2 fp) [] σ' H' s'->Q (.ref D) H' ->
  compPost (model X.prog X.w) X.A X.xe use QQ (.ref D) C (.ok .next) s') :
 wpAny (model X.prog X.w) X.A (comprehension (.ListComp elt [#[.Name x px,iter,ifs,0]] scope pos) scope X.env (firstIterPos [#[.Name x px,iter,ifs,0]] pos) (newList []) false (eval iter X.env) use) QQ X.xe s:=by
 obtain⟨cl,ecl,hcl,hcl2⟩:=Hq (scope:=scope) (env:=X.env) fun y hy hf=>I.ok.has y.1 (.inl (O.free y hy hf))
 refine wpAny_comprehension_free (use:=use) (cl:=cl) rfl hs ecl O.kind O.names ?_
 refine thn (hi pins s σ H _ I h) fun v s1 h1=>thn h1 fun itv s2 h2=>?_
 obtain⟨it,fp,tn,J,H2,rfl,I2,T,st2,f2,hD⟩:=h2
 refine wpAny_newObj_type (wpAny_newFunctionEnv O.cell (by intro y hy;simp at hy) (fun h1 hns hsb=>?_) O.kind)
 dsimp only at hns hsb ⊢
 generalize hG:s2.heap.push { cls:=.type "list",dict:=none,data:=.seq ([]:List Value).toArray }=G at hns hsb ⊢
 have hCs:s2.heap.objs.size<G.objs.size:=by rw[<-hG,qA6];exact qBL _
 have old:∀b o,s2.heap.get? b=some o->h1.get? b=some o:=fun b o e=>hsb.extBut b o (qAw (qBA (qAh e) hCs)) (qAf _ (hG ▸ qAf _ e))
 have hDl:h1.get? s2.heap.objs.size=some { cls:=.type "list",data:=.seq ([]:List Value).toArray }:=hsb.extBut _ _ (qAw hCs) (qAf _ (hG ▸ qAr _ rfl))
 have hDn:H2 s2.heap.objs.size=none:=I2.hok.fresh (qAc _)
 have hDk:X.K.lookup s2.heap.objs.size=none:=by
  cases e:X.K.lookup s2.heap.objs.size with
  |none=>rfl
  |some o=>exact absurd (qAh (I2.kIn _ _ e)) (qA4 _)
 obtain⟨W,⟨m0,w0⟩,step⟩:=hD _ hDn hDk
 have I4:Inv (AD X N scope cl G.objs.size s2 H2 fp) [] (none::DS σ idx) (upd H2 s2.heap.objs.size (.lst [])) { s2 with heap:=h1,toks:=s2.toks+([]:List (Str×Value)).length } :=
  NU O I2 T st2 f2 hcl hcl2 hCs hns old hDl
 generalize hCC:G.objs.size=C at I4 hCs ⊢
 clear hsb hns hG hCC
 generalize hDD:s2.heap.objs.size=D at hDn hDk step w0 I4 hDl ⊢
 have st4:tn 0 h1:=T.keep 0 _ _ st2 fun b _ o e=>old b o e
 have frD:∀b∈fp,(upd H2 D (.lst [])) b=none:=fun b hb=>by
  obtain⟨o,e,_⟩:=T.obj 0 _ st2 b hb
  rw[Al (by rw[<-hDD];exact qAw (qAh e))]
  exact(f2 b hb).1
 have stat:∀{H':Hp},(∀b∈fp,H' b=none)->∀b∈fp,NS (AD X N scope cl C s2 H2 fp) [] H' b:=fun hn b hb =>
  #[hn b hb,(I4.ok.exf b hb).1,I4.ok.exfs b hb,.inl hb,(I4.ok.exf b hb).2,fun p hp=>by cases hp]
 have hloc:(AD X N scope cl C s2 H2 fp).env.scope.names.lookup x=some .local:=lookup_relabel_local O.own
 have loop:∀s3:Shared,s3={ s2 with heap:=h1,toks:=s2.toks+([]:List (Str×Value)).length } ->
  codeAny (model X.prog X.w) X.A (.compLoop (.ListComp elt [#[.Name x px,iter,ifs,0]] scope pos) 0 (.ref it) (.ref D) (compEnvC scope cl C X.env)) (compPost (model X.prog X.w) X.A X.xe use QQ (.ref D) C) s3:=by
  rintro s3 rfl
  refine codeAny_compLoop_tests (fun n s'=>∃i z H' ys,Inv (AD X N scope cl C s2 H2 fp) [] (z::DS σ idx) H' s'/\tn i s'.heap/\(∀b∈fp,H' b=none)/\H' D=some (.lst ys)/\W i n ys H') ?_ m0 #[0,none,_,[],I4,st4,frD,Au,w0]
  rintro n s5 ⟨i,z,H5,ys,I5,st5,fr5,hD5,w5⟩
  rcases step i n ys H5 hD5 w5 with⟨stop,q⟩|⟨go,next⟩
  .refine wpAny_mono (T.done (AD X N scope cl C s2 H2 fp) rfl rfl rfl hc i [] s5 _ H5 (fun _ _=>False) I5 (stat fr5) st5 stop) (fun r s6 hh=>?_) fun _ _ z=>z.elim
   obtain⟨hr,I6⟩:=hh
   subst hr
   exact fin s2 H2 fp cl C D _ H5 s6 I2 f2 hCs I6 q
  .refine wpAny_mono (T.item (AD X N scope cl C s2 H2 fp) rfl rfl rfl hc i [] s5 _ H5 (fun _ _=>False) I5 (stat fr5) st5 go) (fun r s6 hh=>?_) fun _ _ z=>z.elim
   obtain⟨u,hr,h6⟩:=hh
   subst hr
   dsimp only
   refine(show wpAny _ _ ((pure Unit.unit:Sem Unit) >>= fun _=>assign (.Name x px) (compEnvC scope cl C X.env) u) _ _ _ from wpAny_bind (wpAny_mono (show wpAny _ _ (pure Unit.unit:Sem Unit) _ _ _ from h6) (fun _ s7 h7=>?_) fun _ _ z=>z.elim))
   obtain⟨xv,H7,I7,r7,y7,st7,fr7⟩:=h7
   have I7':=I7.pinned (stat fr7) (T.obj _ _ st7)
   refine wpAny_assign_Name (GY (X:=AD X N scope cl C s2 H2 fp) I7' O.nd O.fst (.inl hloc) r7 (fun s8 I8=>?_) (.inr hloc))
   have again:∀{H9:Hp}{s9:Shared}{ys':List V}{m':Nat},Inv (AD X N scope cl C s2 H2 fp) ([]++JT fp s7.heap) (some xv::DS σ idx) H9 s9->H9 D=some (.lst ys')->m'<n->W (i+1) m' ys' H9 ->
    ∃m,m<n/\∃i z H' ys,Inv (AD X N scope cl C s2 H2 fp) [] (z::DS σ idx) H' s9/\tn i s9.heap/\(∀b∈fp,H' b=none)/\H' D=some (.lst ys)/\W i m ys H':=fun {H9 s9 ys' m'} I9 hD9 hm w9=>by
    refine#[m',hm,i+1,some xv,H9,ys',I9.unpinned,T.keep _ _ _ st7 fun b hb o e=>(I9.pin (b,o) (qAB _ (qAB _ (Dw hb e)))).1,fun b hb=>?_,hD9,w9]
    obtain⟨o,e,d⟩:=T.obj _ _ st7 b hb
    exact(I9.pin (b,o) (qAB _ (qAB _ (Dw hb e)))).2.1
   refine wpAny_mono (hifs cl C s2 H2 fp _ s8 _ H7 _ I8 (next xv H7 y7)) (fun b s9 hh=>?_) fun _ _ z=>z.elim
   obtain⟨H9,I9,q9⟩:=hh
   cases b with
   |true =>
    rw[if_pos rfl] at q9 ⊢
    refine wpAny_mono (helt cl C s2 H2 fp _ s9 _ H9 _ I9 q9) (fun y s10 hh=>?_) fun _ _ z=>z.elim
    obtain⟨v,H10,I10,r10,hD10,hl,m',hm,w'⟩:=hh
    refine wpAny_mono (AF (X:=AD X N scope cl C s2 H2 fp) _ s10 _ H10 (.ref D) [v] (.ref D) [y] (fun _ H'=>H'=upd H10 D (.lst (ys++[v]))) I10 rfl (.cons r10 .nil) #[D,ys,v,rfl,rfl,hD10,hl,rfl]) (fun _ s11 hh=>?_) fun _ _ z=>z.elim
    obtain⟨_,H11,I11,_,e11⟩:=hh
    subst e11
    exact again I11 Au hm w'
   |false =>
    rw[if_neg qAm] at q9 ⊢
    obtain⟨hD9,m',hm,w'⟩:=q9
    exact again I9 hD9 hm w'
 exact codeAny_compStart_list (loop _ rfl) (T.self X.A 0 _ _ _ st4 (loop _ rfl))
theorem ON {elt iter:Expr}{ifs:List Expr}{wi:TI}{tt:Hp->TT}{te:Hp->TE}{pos:Pos}(O:Ba X x scope N idx) (hc:X.calm=true) (hi:PI X (.Name x px) iter wi)
 (hifs:∀cl C s₀ H₀ fp,S7 (AD X N scope cl C s₀ H₀ fp) ifs (tt H₀)) (helt:∀cl C s₀ H₀ fp,PE (AD X N scope cl C s₀ H₀ fp) elt (te H₀))
 (hs:∀x,foldedSetIterable iter X.env x=pure x:=by intro _;rfl):PE X (.ListComp elt [#[.Name x px,iter,ifs,0]] scope pos) (Qg X.K idx wi tt te):=by
 intro pins s σ H Q I h
 rw[eval_ListComp]
 refine Nx (use:=none) O hc hi hifs helt hs I h fun s2 H2 fp cl C D σ' H' s' I2 f2 hC I' q=>?_
 obtain⟨m,hn,_⟩:=I'.loc
 exact#[m,hn,fun h' hs'=>#[.ref D,H',Ip I2 f2 hC I' hs',rfl,q]]
theorem Ug {C:Addr}{h':Heap}{H:Hp}{s:Shared}(I:Inv X pins σ H s) (hs:Heap.SameBut C s.heap h') (h0:X.s₀.heap.objs.size<=C) (hH:H C=none) (hL:C≠X.env.locals) (hc:∀y c,X.env.cells.lookup y=some c->c≠C) (hp:∀p∈X.pn++pins,p.1≠C) :
 Inv X pins σ H { s with heap:=h' }:=by
 obtain⟨m,hn,hl⟩:=I.loc
 have ne:∀b o,X.s₀.heap.get? b=some o->b≠C:=fun b o e=>qAw (qAq (qAh e) h0)
 refine#[I.ok,I.os,I.bare,#[fun b o e n hb hx=>(hs.2 b (ne b o e)).trans (I.base.keep b o e n hb hx),fun b o e n hb hx=>?_,I.base.free,fun b o e hx=>?_,I.base.tups,I.base.frzs,I.base.tbls],#[m,hn.sameBut hs (Ne.symm hL),fun i y v e1 e2 e3=>?_],fun y c e=>?_,I.free,I.freeC,fun p hq=>?_,fun b ob e=>?_,I.len]
 .obtain⟨sl,e1⟩:=I.base.slot b o e n hb hx
  exact#[sl,(hs.2 b (ne b o e)).trans e1]
 .obtain⟨o',e1⟩:=I.base.there b o e hx
  exact#[o',(hs.2 b (ne b o e)).trans e1]
 .obtain⟨u,ru,lk⟩:=hl i y v e1 e2 e3
  refine#[u,ru,?_]
  rcases lk with lk|⟨k,c,e,ic⟩
  .exact .inl lk
  .exact .inr #[k,c,e,ic.sameBut hs (hc y c e)]
 .obtain⟨v,ic⟩:=I.cell y c e
  exact#[v,ic.sameBut hs (hc y c e)]
 .obtain⟨e,n,ne',nf,d⟩:=I.pin p hq
  exact#[(hs.2 p.1 (hp p hq)).trans e,n,ne',nf,d]
 .refine(I.hok b ob e).stay (fun c w' hc' q=>(hs.2 c ?_).trans q) (fun _ q=>q) fun _ _ q=>q
  rintro rfl
  rcases hc' with rfl|hc'
  .rw[hH] at e;cases e
  .rw[hH] at hc';cases hc'
def WR (i:Nat)(te:TE):TS:=fun D σ H=>te σ H fun v H1=>D.nx (σ.set i (some v)) H1
theorem JN {i:Nat}{y:Str}{py spos:Pos}{elt iter:Expr}{ifs:List Expr}{wi:TI}{tt:Hp->TT}{te:Hp->TE}{pos:Pos}(O:Ba X x scope N idx) (hc:X.calm=true) (hi:PI X (.Name x px) iter wi)
 (hifs:∀cl C s₀ H₀ fp,S7 (AD X N scope cl C s₀ H₀ fp) ifs (tt H₀)) (helt:∀cl C s₀ H₀ fp,PE (AD X N scope cl C s₀ H₀ fp) elt (te H₀)) (hN:X.N.Nodup) (hy:X.N[i]? = some y) (hly:Loc X.env.scope y)
 (hsw:swapsWith (.ListComp elt [#[.Name x px,iter,ifs,0]] scope pos) (some (.Name y py)) spos.line X.env=pure true:=by rfl) (hs:∀x,foldedSetIterable iter X.env x=pure x:=by intro _;rfl)
 (hfn:X.fn y=true\/X.env.scope.names.lookup y=some .local:=by first|exact .inl rfl|exact .inr rfl|assumption) :
 PS X (.Assign [.Name y py] (.ListComp elt [#[.Name x px,iter,ifs,0]] scope pos) spos) (WR i (Qg X.K idx wi tt te)):=by
 intro pins s σ H D I h
 rw[exec_Assign_Name_used _ _ _ _ hsw]
 refine wpAny_bind (wpAny_standAt (wpAny_bind ?_))
 show wpAny _ X.A (do let _ <-comprehension (.ListComp elt [#[.Name x px,iter,ifs,0]] scope pos) scope X.env _ (newList []) false (eval iter X.env) (some (assign (.Name y py) X.env))) _ _ s
 refine wpAny_bind (wpAny_mono (Nx (use:=some (assign (.Name y py) X.env)) (QQ:=fun _ s'=>SP X pins D .next s') O hc hi hifs helt hs I h fun s2 H2 fp cl C E σ' H' s' I2 f2 hC I' q=>?_) (fun _ s' hq=>wpAny_pure (wpAny_pure hq)) fun _ _ e=>e)
 have I3:Inv X pins σ H' s':=Ip (h':=s'.heap) I2 f2 hC I' #[rfl,fun _ _=>rfl]
 obtain⟨mC,hnC,_⟩:=I'.loc
 have h0:X.s₀.heap.objs.size<=C:=qAL I2.sz (qBt hC)
 have hCL:C≠X.env.locals:=qBg (qBA I2.lt hC)
 have hCc:∀y c,X.env.cells.lookup y=some c->c≠C:=fun y c e=>by
  obtain⟨v,ic⟩:=I2.cell y c e
  exact qAw (qBA ic.lt hC)
 have hCp:∀p∈X.pn++pins,p.1≠C:=fun p hp=>qAw (qBA (qAh (I2.pin p hp).1) hC)
 show wpAny _ X.A (assign (.Name y py) X.env (.ref E)) _ _ _
 refine wpAny_assign_Name (Lx (v:=.ref E) I3 hN hy hly rfl (fun s4 I4 hb=>?_) hfn)
 obtain⟨a,hsa,ha⟩:=hb
 have hCa:C≠a:=by
  rcases ha with rfl|ha
  .exact hCL
  .exact fun z=>hCc y a ha z.symm
 exact#[mC,hnC.sameBut hsa hCa,fun h' hs'=>#[_,H',Ug I4 hs' h0 I'.free hCL hCc hCp,q]]
end
abbrev TX3:=Tau->(List D->Prop)->Prop
def Src (X:Cx)(wi:TI)(ws:TX3):Prop:=∀(B:HZ)(τ:Tau)(σ:St)(H z:Hp)(P:List D->Prop)(R:It->Hp->Prop),Rep X B τ σ #[H,z]->ws τ P ->
 (∀(J:It)(q:HZ)(xs:List D),Ext #[H,z] q->P xs->(∀H',BD q.h H'->(∀i,i<xs.length->J.go i H'/\∀x H'',J.yld i H' x H''->H''=H'/\∃d,xs[i]? = some d/\Is X.K q.z x d)/\∀i,xs.length<=i->J.stop i H')->R J q.h)->wi σ H R
def YU (te:TE3):TX3:=fun τ P=>te τ fun s=>match items s with
 |some xs=>P xs
 |none=>False
theorem Kq {X:Cx}{q:HZ}{a:Addr}{vs:List V}{xs:List D}(h:SqL X.K q.h a vs) (hi:Iss X.K q.z vs xs):∀H',BD q.h H'->(∀i,i<xs.length->(Itl X.K a).go i H'/\∀x H'',(Itl X.K a).yld i H' x H''->H''=H'/\∃d,xs[i]? = some d/\Is X.K q.z x d)/\∀i,xs.length<=i->(Itl X.K a).stop i H':=by
 intro H' e
 have h':SqL X.K H' a vs:=e.seq h
 refine#[fun i hlt=>#[#[vs,vs[i]'(by rw[hi.1];exact hlt),h',qAb (by rw[hi.1];exact hlt)],fun x H'' hy=>#[hy.1,?_]],fun i hle=>#[vs,h',by rw[hi.1];exact hle]]
 obtain⟨d,h1,h2⟩:=BU hi (hy.2 vs h')
 exact#[d,h1,h2]
theorem Tu {X:Cx}{q:HZ}{a:Addr}{vs:List V}{xs:List D}(h:SqT X.K q.h a vs) (hi:Iss X.K q.z vs xs):∀H',BD q.h H'->(∀i,i<xs.length->(Itt X.K a).go i H'/\∀x H'',(Itt X.K a).yld i H' x H''->H''=H'/\∃d,xs[i]? = some d/\Is X.K q.z x d)/\∀i,xs.length<=i->(Itt X.K a).stop i H':=by
 intro H' e
 have h':SqT X.K H' a vs:=SqT.same e h
 refine#[fun i hlt=>#[#[vs,vs[i]'(by rw[hi.1];exact hlt),h',qAb (by rw[hi.1];exact hlt)],fun x H'' hy=>#[hy.1,?_]],fun i hle=>#[vs,h',by rw[hi.1];exact hle]]
 obtain⟨d,h1,h2⟩:=BU hi (hy.2 vs h')
 exact#[d,h1,h2]
section
variable {X:Cx}{e:Expr}{te:TE3}{ta:TA3}
theorem Dz:Src X (US X.K (FE X te)) (YU te):=by
 intro B τ σ H z P R r ht k
 refine#[B,z,τ,_,r,ht,fun s v H1 e1 i1 f1 h1=>?_]
 try dsimp only at h1
 split at h1
 .rename_i xs hx
  cases s with
  |d z =>
   cases z with
   |tup zs =>
    cases hx
    obtain⟨p,vs,rfl,h3,h4⟩:=Is.tup_inv i1
    exact#[p,rfl,.inr #[#[vs,SqT.same e1.sub h3],k _ H1 _ e1 h1 (Tu (SqT.same e1.sub h3) h4)]]
   |lst zs =>
    cases hx
    obtain⟨p,vs,rfl,h3,h4⟩:=Is.lst_inv i1
    exact#[p,rfl,.inl #[#[vs,e1.sub.seq h3],k _ H1 _ e1 h1 (Kq (e1.sub.seq h3) h4)]]
   |_=>cases hx
  |l zs =>
   cases hx
   obtain⟨p,vs,rfl,h3,h4⟩:=i1
   exact#[p,rfl,.inl #[#[vs,SqL.of h3],k _ H1 _ e1 h1 (Kq (SqL.of h3) h4)]]
  |r zs =>
   cases hx
   obtain⟨p,vs,rfl,h3,h4⟩:=i1
   exact#[p,rfl,.inl #[#[vs,h3],k _ H1 _ e1 h1 (Kq h3 h4)]]
 .exact h1.elim
def UA (lo st:Int)(n:Nat):List D:=(List.range n).map fun(i:Nat)=>D.int (lo+i*st)
theorem Bp (lo st:Int)(n:Nat):(UA lo st n).length=n:=by unfold UA;rw[qAa,qAH]
theorem Kx {lo st:Int}{n i:Nat}(h:i<n):(UA lo st n)[i]? = some (.int (lo+i*st)):=by
 unfold UA
 rw[qAe,qAK h]
 rfl
def W7 (ta:TA3):TX3:=fun τ P=>ta τ fun ss=>match ss with
 |[.d (.int j)]=>(-(2^62)<=j/\j<2^62)/\P (UA 0 1 j.toNat)
 |_=>False
def WM (ta:TA3):TX3:=fun τ P=>ta τ fun ss=>match ss with
 |[.d (.int i),.d (.int j)]=>(-(2^62)<=i/\i<2^62/\-(2^62)<=j/\j<2^62)/\P (UA i 1 (j-i).toNat)
 |_=>False
theorem Nr:Src X (TF (FA X ta)) (W7 ta):=by
 intro B τ σ H z P R r ht k
 refine#[B,z,τ,_,r,ht,fun ss vs H1 e1 i1 h1=>?_]
 try dsimp only at h1
 split at h1
 .rename_i j
  obtain⟨v,rfl,hv⟩:=Rq i1
  cases Is.int_inv hv
  obtain⟨⟨q1,q2⟩,hP⟩:=h1
  refine#[j,rfl,q1,q2,k _ H1 _ e1 hP fun H' e=>#[fun i hlt=>?_,fun i hle=>?_]]
  .rw[Bp] at hlt
   refine#[hlt,fun x H'' hy=>#[hy.1,_,Kx hlt,?_]]
   rw[hy.2,qCu]
   exact .int _
  .rw[Bp] at hle;exact hle
 .exact h1.elim
theorem Ib:Src X (Tq (FA X ta)) (WM ta):=by
 intro B τ σ H z P R r ht k
 refine#[B,z,τ,_,r,ht,fun ss vs H1 e1 i1 h1=>?_]
 try dsimp only at h1
 split at h1
 .rename_i i0 j
  obtain⟨v,u,rfl,hv,hu⟩:=QW i1
  cases Is.int_inv hv
  cases Is.int_inv hu
  obtain⟨q,hP⟩:=h1
  refine#[i0,j,rfl,q,k _ H1 _ e1 hP fun H' e=>#[fun i hlt=>?_,fun i hle=>?_]]
  .rw[Bp] at hlt
   refine#[hlt,fun x H'' hy=>#[hy.1,_,Kx hlt,?_]]
   rw[hy.2,qCu]
   exact .int _
  .rw[Bp] at hle;exact hle
 .exact h1.elim
end
def OT (τ:Tau)(idx:List Nat)(x:D):Tau:=some (.d x)::(DS τ idx).map (Option.map S.share)
structure MB (X:Cx)(ifs:List Expr)(t:TT3):Prop where
 out:S7 X ifs (FT X t)
def YR:TT3:=fun _ R=>R true
theorem Cf {X:Cx}:MB X [] YR:=#[fun pins s σ H Q I #[B,z,τ,R,r,ht,q]=>RK pins s σ H Q I (q true #[H,z] (Ext.refl r.ext.sub) ht)]
theorem P5 {X:Cx}{c:Expr}{t:TT3}(h:PT3 X c t):MB X [c] t:=#[RF h.out]
abbrev cxC (X:Cx)(N:List Str)(scope:Scope)(H₀:Hp):Cx:=AD X N scope [] 0 X.s₀ H₀ []
section
variable {X:Cx}{x:Str}{px pos:Pos}{scope:Scope}{N:List Str}{idx:List Nat}{cl:List (Str×Addr)}{C:Addr}{s₀:Shared}{H₀ H H':Hp}{fp:List Addr}{σ:St}{τ:Tau}
theorem Sv {B p:HZ}(r:Rep (cxC X N scope H₀) B τ σ p):Rep (AD X N scope cl C s₀ H₀ fp) B τ σ p:=#[r.len,r.ext,r.val,r.own,r.sep,r.top,r.pin]
theorem RA {α β:Type}(a:List (Option α)) (b:List (Option β)) (idx:List Nat):(DS a idx).length=(DS b idx).length:=by unfold DS;rw[qAa,qAa]
theorem KW {B p p0 q:HZ}{d:D}{v:V}(r:Rep X B τ σ p) (e:Ext p p0) (e':Ext p0 q) (iv:Is X.K q.z v d):Rep (cxC X N scope p0.h) p0 (OT τ idx d) (some v::DS σ idx) q:=by
 have no:∀(i:Nat)(xs:List D),¬(OT τ idx d)[i]? = some (some (.l xs)):=fun i xs z=>by
  cases i with
  |zero=>cases z
  |succ k =>
   have z':((DS τ idx).map (Option.map S.share))[k]? = some (some (.l xs)):=z
   rw[qAe] at z'
   cases q:(DS τ idx)[k]? with
   |none=>rw[q] at z';cases z'
   |some o =>
    rw[q] at z'
    cases o with
    |none=>cases z'
    |some s0 =>
     have z2:s0.share=.l xs:=qAl (qAl z')
     cases s0<;>cases z2
 refine#[?_,e',fun i s hs=>?_,fun i xs a z _=>absurd z (no i xs),fun i j xs s a _ z _ _ _=>absurd z (no i xs),fun _=>BD.refl _,fun k a h=>by cases h]
 .unfold OT
  rw[qBr,qBr,qAa,RA]
 .cases i with
  |zero =>
   cases hs
   exact#[v,rfl,iv]
  |succ k =>
   have z':((DS τ idx).map (Option.map S.share))[k]? = some (some s):=hs
   rw[qAe] at z'
   cases q:(DS τ idx)[k]? with
   |none=>rw[q] at z';cases z'
   |some o =>
    rw[q] at z'
    cases o with
    |none=>cases z'
    |some s0 =>
     have z2:s0.share=s:=qAl (qAl z')
     obtain⟨j,hj,hτ⟩:=Ie q
     obtain⟨w,hw,iw⟩:=r.val j s0 hτ
     refine#[w,?_,?_]
     .show(DS σ idx)[k]? = some (some w)
      unfold DS
      rw[qAe,hj]
      show some ((σ[j]?).getD none)=_
      rw[hw]
      rfl
     .rw[<-z2]
      exact(iw.mono (e.trans e')).share
end
def Uo (idx:List Nat)(ws:TX3)(tt:TT3)(te:TE3):TE3:=fun τ R=>ws τ fun xs=>∃os:List (Option D),os.length=xs.length /\
 (∀(n:Nat)(x:D),xs[n]? = some x->tt (OT τ idx x) fun b=>if b=true then te (OT τ idx x) (fun s=>dd s.arg fun y=>os[n]? = some (some y)) else os[n]? = some none)/\xs.length<=100000/\R (.l (os.filterMap id))
section
variable {X:Cx}{x:Str}{px pos:Pos}{scope:Scope}{N:List Str}{idx:List Nat}{elt iter:Expr}{ifs:List Expr}{wi:TI}{ws:TX3}{tt:TT3}{te:TE3}
theorem MY (hsrc:Src X wi ws){σ:St}{H:Hp}{Q:VK}(h:FE X (Uo idx ws tt te) σ H Q):Qg X.K idx wi (fun H₀=>FT (cxC X N scope H₀) tt) (fun H₀=>FE (cxC X N scope H₀) te) σ H Q:=by
 obtain⟨B,z,τ,R,r,ht,q⟩:=h
 refine hsrc B τ σ H z _ _ r ht fun J p1 xs e1 hP hJ=>fun D' hD hK=>?_
 obtain⟨os,hlen,hel,hsz,hR⟩:=hP
 have sz:(100000:Nat)<sizeLine:=∅
 refine#[fun i m ys H'=>m=xs.length-i/\i<=xs.length/\∃z',Ext p1 #[H',z']/\z' D'=none/\Iss X.K z' ys ((os.take i).filterMap id),#[xs.length,rfl,qA3 _,p1.z,Ext.own e1.sub hD _,e1.sub.free hD,Iss.nil],?_]
 rintro i m ys H' hD' ⟨rfl,hi,z',hs,hzD,hiss⟩
 by_cases hlt:i<xs.length
 .obtain⟨go,yl⟩:=(hJ H' hs.hh).1 i hlt
  refine .inr #[go,fun v H'' hy=>?_]
  obtain⟨rfl,d,hx,iv⟩:=yl v H'' hy
  have rr:Rep (cxC X N scope p1.h) p1 (OT τ idx d) (some v::DS σ idx) #[H'',z']:=KW r e1 hs (iv.mono hs.zz)
  have hys:ys.length<=i:=by
   rw[hiss.1]
   refine qAL (qBB _ _) ?_
   rw[qAQ];omega
  have keep:∀q:HZ,Ext #[H'',z'] q->q.z D'=none:=fun q e=>by
   cases y:q.z D' with
   |none=>rfl
   |some o =>
    rcases e.new D' o y with y|y
    .exact nomatch (hzD.symm.trans y)
    .exact nomatch (hD'.symm.trans y)
  refine#[_,_,_,_,rr,hel i d hx,fun b q3 e3 hb=>?_]
  cases b with
  |true =>
   rw[if_pos rfl] at hb ⊢
   refine#[_,_,_,_,rr.mono e3,hb,fun s v2 q4 e4 i4 f4 h4=>?_]
   obtain⟨y,hy',h4⟩:=FY h4
   obtain⟨z5,e5,i5⟩:=Fs e4 i4 f4
   rw[hy'] at i5
   have e35:=e3.trans e5
   have hD4:q4.h D'=some (.lst ys):=e35.hh _ _ hD'
   have hz5:z5 D'=none:=keep _ e35
   refine#[hD4,(),xs.length-(i+1),(),rfl,hlt,z5,?_,hz5,?_]
   .have e15:=hs.trans e35
    refine#[fun b o hb'=>?_,e15.zz,fun b o hb'=>?_,e15.new]
    .have hne:b≠D':=by rintro rfl;rw[hD] at hb';cases hb'
     show upd q4.h D' _ b=some o
     rw[Al hne]
     exact e15.hh b o hb'
    .have hne:b≠D':=by
      rintro rfl
      have hb2:z5 b=some o:=hb'
      rw[hz5] at hb2;cases hb2
     show upd q4.h D' _ b=some o
     rw[Al hne]
     exact e15.sub b o hb'
   .rw[qBd,h4,qCP]
    exact(hiss.mono e35.zz).snoc i5
  |false =>
   rw[if_neg qAm] at hb ⊢
   refine#[e3.hh _ _ hD',xs.length-(i+1),(),rfl,hlt,q3.z,hs.trans e3,keep _ e3,?_]
   rw[qBd,hb,qCP]
   have:([none]:List (Option D)).filterMap id=[]:=rfl
   show Iss X.K q3.z ys ((os.take i).filterMap id++([none]:List (Option D)).filterMap id)
   rw[this,qBe]
   exact hiss.mono e3.zz
 .have ei:i=xs.length:=()
  subst ei
  refine .inl #[(hJ H' hs.hh).2 _ (qAc _),q (.l (os.filterMap id)) _ #[H',z'] (e1.trans hs) #[D',ys,rfl,hD',?_] (fun xs a _ h2=>?_) hR]
  .rw[<-hlen,List.take_length] at hiss
   exact hiss
  .cases h2
   exact#[e1.hh.free hD,hK,hzD]
theorem KO (hifs:∀cl C s₀ H₀ fp,MB (AD X N scope cl C s₀ H₀ fp) ifs tt):∀cl C s₀ H₀ fp,S7 (AD X N scope cl C s₀ H₀ fp) ifs (FT (cxC X N scope H₀) tt):=fun cl C s₀ H₀ fp pins s σ H Q I #[B,z,τ,R,r,ht,q] =>
 (hifs cl C s₀ H₀ fp).out pins s σ H Q I #[B,z,τ,R,Sv r,ht,q]
theorem Jl (helt:∀cl C s₀ H₀ fp,PE3 (AD X N scope cl C s₀ H₀ fp) elt te):∀cl C s₀ H₀ fp,PE (AD X N scope cl C s₀ H₀ fp) elt (FE (cxC X N scope H₀) te):=fun cl C s₀ H₀ fp pins s σ H Q I #[B,z,τ,R,r,ht,q] =>
 (helt cl C s₀ H₀ fp).out pins s σ H Q I #[B,z,τ,R,Sv r,ht,q]
theorem GU (O:Ba X x scope N idx)(hc:X.calm=true)(hi:PI X (.Name x px) iter wi)(hsrc:Src X wi ws)(hifs:∀cl C s₀ H₀ fp,MB (AD X N scope cl C s₀ H₀ fp) ifs tt)(helt:∀cl C s₀ H₀ fp,PE3 (AD X N scope cl C s₀ H₀ fp) elt te)
 (hs:∀x,foldedSetIterable iter X.env x=pure x:=by intro _;rfl):PE3 X (.ListComp elt [#[.Name x px,iter,ifs,0]] scope pos) (Uo idx ws tt te) :=
 #[BO (ON O hc hi (KO hifs) (Jl helt) hs) fun σ H Q h=>MY hsrc h]
theorem LA {i:Nat}{y:Str}{py spos:Pos}(O:Ba X x scope N idx) (hc:X.calm=true) (hi:PI X (.Name x px) iter wi) (hsrc:Src X wi ws) (hifs:∀cl C s₀ H₀ fp,MB (AD X N scope cl C s₀ H₀ fp) ifs tt) (helt:∀cl C s₀ H₀ fp,PE3 (AD X N scope cl C s₀ H₀ fp) elt te)
 (hN:X.N.Nodup) (hy:X.N[i]? = some y) (hly:Loc X.env.scope y)
 (hsw:swapsWith (.ListComp elt [#[.Name x px,iter,ifs,0]] scope pos) (some (.Name y py)) spos.line X.env=pure true:=by rfl) (hs:∀x,foldedSetIterable iter X.env x=pure x:=by intro _;rfl)
 (hfn:X.fn y=true\/X.env.scope.names.lookup y=some .local:=by first|exact .inl rfl|exact .inr rfl|assumption) (hp:Di X i:=by first|exact Cv rfl|exact Cr rfl ∅|assumption) :
 PS3 X (.Assign [.Name y py] (.ListComp elt [#[.Name x px,iter,ifs,0]] scope pos) spos) (WB i (Uo idx ws tt te)) :=
 #[Cm (JN O hc hi (KO hifs) (Jl helt) hN hy hly hsw hs hfn) fun D2 σ H hh=>by obtain⟨B,z,τ,D3,r,ht,c⟩:=hh;exact MY hsrc #[B,z,τ,_,r,ht,fun s v H' e i f h=>by
  cases s with
  |r _=>exact h.elim
  |d y=>exact c.nx _ _ _ (r.set e i f rfl hp) h
  |l ys=>exact c.nx _ _ _ (r.set e i f rfl hp) h]]
end
def NH (fN:List Str)(scope:Scope)(N:List Str):Nat->List Nat->Bool
 |_,[]=>true
 |k,j::r=>(match N[k+1]?,fN[j]? with
  |some y,some y'=>y==y'&&(scope.names.lookup y==some NameKind.free)
  |_,_=>false)&&NH fN scope N (k+1) r
def PZ (fsc:Scope)(fN:List Str)(x:Str)(scope:Scope)(N:List Str)(idx:List Nat):Bool :=
 (scope.kind == .function)&&scope.names.all (fun y=>!(y.2 == .cell))&&scope.names.all (fun y=>!(y.2 == .local)||scope.names.lookup y.1==some .local)&&(scope.names.lookup x==some NameKind.local) &&
 scope.names.all (fun y=>!(y.2 == .free)||fsc.names.lookup y.1==some .cell)&&decide N.Nodup&&(N[0]? == some x)&&(N.length==idx.length+1)&&NH fN scope N 0 idx
theorem Su {fN:List Str}{scope:Scope}{N:List Str}:∀{idx:List Nat}{k0:Nat},NH fN scope N k0 idx=true->∀(k j:Nat),idx[k]? = some j->∃y,N[k0+k+1]? = some y/\fN[j]? = some y/\scope.names.lookup y=some .free
 |[],_,_,_,_,h=>by simp at h
 |i::r,k0,h,k,j,hk=>by
  unfold NH at h
  rw[qAV] at h
  cases k with
  |zero =>
   have e:i=j:=by simpa using hk
   subst e
   obtain⟨h1,_⟩:=h
   split at h1
   .rename_i y y' e1 e2
    rw[qAV] at h1
    have ey:y=y':=by simpa using h1.1
    subst ey
    exact#[y,e1,e2,by simpa using h1.2]
   .cases h1
  |succ k =>
   obtain⟨y,a,b,c⟩:=Su h.2 k j (by simpa using hk)
   exact#[y,by rw[<-a];congr 1;omega,b,c]
theorem Ba.mk' {X:Cx}{x:Str}{scope:Scope}{N:List Str}{idx:List Nat}(fsc:Scope) (fN:List Str) (h1:X.env.scope=fsc) (h2:X.N=fN) (h:PZ fsc fN x scope N idx=true):Ba X x scope N idx:=by
 subst h1 h2
 unfold PZ at h
 simp only[qAV] at h
 obtain⟨⟨⟨⟨⟨⟨⟨⟨a1,a2⟩,a3⟩,a4⟩,a5⟩,a6⟩,a7⟩,a8⟩,a9⟩:=h
 refine#[by simpa using a1,fun y hy=>?_,fun y hy hl=>?_,by simpa using a4,fun y hy hf=>?_,by simpa using a6,by simpa using a7,by simpa using a8,fun k j hk=>?_]
 .have:=qAG.mp a2 y hy
  simpa using this
 .have:=qAG.mp a3 y hy
  rw[hl] at this
  simpa using this
 .have:=qAG.mp a5 y hy
  rw[hf] at this
  show X.env.scope.names.lookup y.1=some .cell
  simpa using this
 .have:=Su a9 k j hk
  simpa using this
section
variable {X:Cx}{e a b c:Expr}{te ta tb tc:TE3}{pos:Pos}
theorem XO {t:TE}(h:PE X e t):PE X e (fun σ H Q=>t σ H fun v H'=>(∀a o,H' a=some o->X.K.lookup a=none)->Q v H'):=fun pins s σ H Q I q =>
 thn (h pins s σ H _ I q) fun u s1 #[v,H1,I1,r1,q1]=>#[v,H1,I1,r1,q1 fun a o e=>by
  cases y:X.K.lookup a with
  |none=>rfl
  |some o' =>
   have:=(I1.bs a o' (I1.ok.mod.kin a o' y)).2
   rw[e] at this
   cases this]
def Sy:D->Bool
 |.non=>true
 |_=>false
theorem Pj {K:W.Frag}{z:Hp}{v:V}{x:D}(h:Is K z v x):decide (v=.non)=Sy x:=by cases h<;>rfl
def X3:R3:=fun dx dy R=>match dy with
 |.non=>R (.bl (Sy dx))
 |_=>False
theorem Mc:Js X (compareOp .Is) X3:=Gq Vd fun x y H Q hh=>by
 obtain⟨z,dx,dy,R,hz,hx,hy,h3,q⟩:=hh
 unfold X3 at h3
 split at h3
 .exact#[hy.non_inv,q _ _ #[H,z] (Ext.refl hz) (.bl _) (by rw[Pj hx];exact h3)]
 .exact h3.elim
def WE:R3:=fun dx dy R=>match dx,dy with
 |.tup xs,.tup ys=>xs≠[]/\xs.length+ys.length<=100000/\R (.tup (xs++ys))
 |.lst xs,.lst ys=>xs.length+ys.length<=100000/\R (.lst (xs++ys))
 |.int i,.int j=>R (.int (i+j))
 |_,_=>False
theorem Iss.append {K:W.Frag}{H:Hp}{vs ws:List V}{xs ys:List D}(h:Iss K H vs xs) (h':Iss K H ws ys):Iss K H (vs++ws) (xs++ys):=by
 refine#[by simp[h.1,h'.1],fun i v x h1 h2=>?_]
 by_cases hi:i<vs.length
 .rw[qAv hi] at h1
  rw[qAv (by have:=h.1;omega)] at h2
  exact h.2 i v x h1 h2
 .rw[qAz ()] at h1
  rw[qAz (by have:=h.1;omega)] at h2
  have:=h.1
  exact h'.2 (i-vs.length) v x h1 (by rw[this];exact h2)
theorem IF {K:W.Frag}{H:Hp}{vs:List V}{xs:List D}(h:Iss K H vs xs):vs=[] ↔ xs=[]:=by
 have:=h.1
 constructor
 .rintro rfl;exact qAT (by simpa using this.symm)
 .rintro rfl;exact qAT (by simpa using this)
theorem RC:Js X (binaryOp .Add) WE:=Gq ((SM.or Wo).or Sd) fun x y H Q hh=>by
 obtain⟨z,dx,dy,R,hz,hx,hy,h3,q⟩:=hh
 have sz:(100000:Nat)<sizeLine:=∅
 unfold WE at h3
 split at h3
 .rename_i xs ys
  obtain⟨h1,h2,h3⟩:=h3
  obtain⟨p,vs,rfl,g1,g2⟩:=Is.tup_inv hx
  obtain⟨p',ws,rfl,g1',g2'⟩:=Is.tup_inv hy
  refine .inl (.inl #[p,p',vs,ws,rfl,rfl,SqT.same hz g1,SqT.same hz g1',fun w=>h1 ((IF g2).mp w),by rw[g2.1,g2'.1];omega,fun w=>?_,fun w l hl=>?_])
  .have:ys=[]:=(IF g2').mp w
   subst this
   rw[qBe] at h3
   exact q _ _ #[H,z] (Ext.refl hz) hx h3
  .have j:=(g2.append g2').mono (B7 (hz.free hl) (.tup (vs++ws)))
   exact q _ _ _ (Ext.lay hz hl (.tup (vs++ws))) (Is.tup (SqT.of Au) j.1 j.2) h3
 .rename_i xs ys
  obtain⟨h2,h3⟩:=h3
  obtain⟨p,vs,rfl,g1,g2⟩:=Is.lst_own hx
  obtain⟨p',ws,rfl,g1',g2'⟩:=Is.lst_own hy
  refine .inl (.inr #[p,p',vs,ws,rfl,rfl,hz _ _ g1,hz _ _ g1',by rw[g2.1,g2'.1];omega,fun l hl=>?_])
  have j:=(g2.append g2').mono (B7 (hz.free hl) (.lst (vs++ws)))
  exact q _ _ _ (Ext.lay hz hl (.lst (vs++ws))) (Is.lst Au j.1 j.2) h3
 .rename_i i j
  exact .inr #[i,j,hx.int_inv,hy.int_inv,q _ _ #[H,z] (Ext.refl hz) (.int _) h3]
 .exact h3.elim
def F0 (xs:List D)(lo hi:Option Int):List D:=(xs.drop (HT.sIx xs.length 0 lo)).take (HT.sIx xs.length xs.length hi-HT.sIx xs.length 0 lo)
theorem Py {K:W.Frag}{H:Hp}{vs:List V}{xs:List D}(h:Iss K H vs xs) (lo hi:Option Int):Iss K H (Oi vs lo hi) (F0 xs lo hi):=by
 unfold Oi F0
 rw[h.1]
 refine#[by simp[h.1],fun i v x h1 h2=>?_]
 rw[List.getElem?_take] at h1 h2
 split at h1
 .rename_i hlt
  rw[if_pos hlt] at h2
  rw[qBV] at h1 h2
  exact h.2 _ v x h1 h2
 .cases h1
abbrev TO3:=Tau->(Option Int->Prop)->Prop
structure PO3 (X:Cx)(e:Option Expr)(t:TO3):Prop where
 out:PO X e (fun σ H Q=>∃B z τ R,Rep X B τ σ #[H,z]/\t τ R/\∀o q,Ext #[H,z] q->R o->Q o q.h)
def oNo:TO3:=fun _ R=>R none
def Yi (te:TE3):TO3:=fun τ R=>te τ fun s=>match s with
 |.d (.int i)=>R (some i)
 |_=>False
theorem V1:PO3 X none oNo:=#[fun pins s σ H Q I #[B,z,τ,R,r,ht,q]=>To pins s σ H Q I (q none #[H,z] (Ext.refl r.ext.sub) ht)]
theorem Il (h:PE3 X e te):PO3 X (some e) (Yi te):=#[fun pins s σ H Q I #[B,z,τ,R,r,ht,q]=>Td h.out pins s σ H Q I #[B,z,τ,_,r,ht,fun s v q1 e1 i1 f1 h1=>by
 split at h1
 .rename_i i
  exact#[i,Is.int_inv i1,q _ _ e1 h1]
 .exact h1.elim]]
def vSl (te:TE3)(lo hi:TO3):TE3:=fun τ R=>te τ fun x=>lo τ fun l=>hi τ fun u=>match x with
 |.d (.tup xs)=>¬(HT.sIx xs.length 0 l=0/\HT.sIx xs.length xs.length u=xs.length)/\R (.d (.tup (F0 xs l u)))
 |.d (.lst xs)=>R (.l (F0 xs l u))
 |.l xs=>R (.l (F0 xs l u))
 |.r xs=>R (.l (F0 xs l u))
 |_=>False
theorem RY {lo hi:Option Expr}{tl th:TO3}{p2:Pos}(he:PE3 X e te) (hl:PO3 X lo tl) (hh:PO3 X hi th):PE3 X (.Subscript e (.Slice lo hi none p2) pos) (vSl te tl th) :=
 #[BO (XO (RQ (Vg.or Tj) he.out hl.out hh.out)) fun σ H Q hh=>by
  obtain⟨B,z,τ,R,r,ht,q⟩:=hh
  refine#[B,z,τ,_,r,ht,fun x v q1 e1 i1 f1 h1=>?_]
  refine#[B,_,τ,_,r.mono e1,h1,fun l q2 e2 h2=>?_]
  refine#[B,_,τ,_,(r.mono e1).mono e2,h2,fun u q3 e3 h3=>?_]
  have e23:=e2.trans e3
  have i1':=IsS.mono e23 i1
  have lists:∀(p:Addr)(vs:List V)(xs:List D),v=.ref p->SqL X.K q3.h p vs->Iss X.K q3.z vs xs->R (.l (F0 xs l u))->∃a xs,v=.ref a/\SqL X.K q3.h a xs/\∀p,q3.h p=none->((∀a o,upd q3.h p (.lst (Oi xs l u)) a=some o->X.K.lookup a=none)->Q (.ref p) (upd q3.h p (.lst (Oi xs l u)))):=fun p vs xs hv hs hi hR =>
   #[p,vs,hv,hs,fun d hd hk=>q (.l (F0 xs l u)) _ #[_,q3.z] ((e1.trans e23).trans (Ext.own e23.sub hd _)) #[d,_,rfl,Au,Py hi l u] (fun ys a _ h2=>by
    cases h2
    exact#[(e1.trans e23).hh.free hd,hk d _ Au,e23.sub.free hd]) hR]
  split at h3
  .rename_i xs
   obtain⟨p,vs,rfl,g1,g2⟩:=Is.tup_inv i1'
   refine .inl #[p,vs,rfl,SqT.same e23.sub g1,by rw[g2.1];exact h3.1,fun d hd _=>?_]
   have j:=(Py g2 l u).mono (B7 (e23.sub.free hd) (.tup (Oi vs l u)))
   exact q (.d _) _ _ ((e1.trans e23).trans (Ext.lay e23.sub hd (.tup (Oi vs l u)))) (Is.tup (SqT.of Au) j.1 j.2) F8 h3.2
  .rename_i xs
   obtain⟨p,vs,rfl,g1,g2⟩:=Is.lst_inv i1'
   exact .inr (lists p vs xs rfl (e23.sub.seq g1) g2 h3)
  .rename_i xs
   obtain⟨p,vs,rfl,g1,g2⟩:=i1'
   exact .inr (lists p vs xs rfl (SqL.of g1) g2 h3)
  .rename_i xs
   obtain⟨p,vs,rfl,g1,g2⟩:=i1'
   exact .inr (lists p vs xs rfl g1 g2 h3)
  .exact h3.elim]
def Ts (te:TE3):TE3:=fun τ R=>te τ fun s=>match items s with
 |some xs=>R (.l xs)
 |none=>False
def V9 (te:TE3):TE3:=fun τ R=>te τ fun s=>match items s with
 |some xs=>R (.d (.tup xs))
 |none=>False
theorem Sl {K:W.Frag}{p:HZ}{v:V}{s:S}{xs:List D}(i:IsS K p v s) (hz:BD p.z p.h) (h:items s=some xs):∃a vs,v=.ref a/\Iss K p.z vs xs/\((SqL K p.h a vs)\/(SqT K p.z a vs/\s=.d (.tup xs))):=by
 cases s with
 |d z =>
  cases z with
  |tup zs=>cases h;obtain⟨a,vs,rfl,g1,g2⟩:=Is.tup_inv i;exact#[a,vs,rfl,g2,.inr #[g1,rfl]]
  |lst zs=>cases h;obtain⟨a,vs,rfl,g1,g2⟩:=Is.lst_inv i;exact#[a,vs,rfl,g2,.inl (hz.seq g1)]
  |_=>cases h
 |l zs=>cases h;obtain⟨a,vs,rfl,g1,g2⟩:=i;exact#[a,vs,rfl,g2,.inl (SqL.of g1)]
 |r zs=>cases h;obtain⟨a,vs,rfl,g1,g2⟩:=i;exact#[a,vs,rfl,g2,.inl g1]
theorem MZ {p:Pos}(he:PE3 X e te) (hg:Gl X "list") (hm:X.mg "list"=none) (hs:starEach [e] X.env=(false,eval e X.env)::starEach [] X.env:=by exact CM rfl):PE3 X (.Call (.Name "list" p) [e] [] pos) (Ts te) :=
 #[BO (XO (Lu Lw hg hm PyProof.Rows.boot_list (AL he.out Bn hs) (he:=hs))) fun σ H Q hh=>by obtain⟨B,z,τ,R,r,ht,q⟩:=hh;exact#[B,z,τ,_,r,ht,fun s v q1 e1 i1 f1 h1=>by
  split at h1
  .rename_i xs hx
   obtain⟨a,vs,rfl,g2,g1⟩:=Sl i1 e1.sub hx
   refine#[a,vs,rfl,g1.elim .inl fun g=>.inr (SqT.same e1.sub g.1),fun d hd hk=>?_]
   exact q (.l xs) _ #[_,q1.z] (e1.trans (Ext.own e1.sub hd _)) #[d,vs,rfl,Au,g2] (fun ys a _ h2=>by
    cases h2
    exact#[e1.hh.free hd,hk d _ Au,e1.sub.free hd]) h1
  .exact h1.elim]]
theorem TC {p:Pos}(he:PE3 X e te) (hg:Gl X "tuple") (hm:X.mg "tuple"=none) (hs:starEach [e] X.env=(false,eval e X.env)::starEach [] X.env:=by exact CM rfl):PE3 X (.Call (.Name "tuple" p) [e] [] pos) (V9 te) :=
 #[BO (Lu Ke hg hm qBc (AL he.out Bn hs) (he:=hs)) fun σ H Q hh=>by obtain⟨B,z,τ,R,r,ht,q⟩:=hh;exact#[B,z,τ,_,r,ht,fun s v q1 e1 i1 f1 h1=>by
  split at h1
  .rename_i xs hx
   obtain⟨a,vs,rfl,g2,g1⟩:=Sl i1 e1.sub hx
   refine#[a,vs,rfl,?_]
   rcases g1 with g1|⟨g1,rfl⟩
   .refine .inl #[g1,fun d hd=>?_]
    have j:=g2.mono (B7 (e1.sub.free hd) (.tup vs))
    exact q (.d _) _ _ (e1.trans (Ext.lay e1.sub hd (.tup vs))) (Is.tup (SqT.of Au) j.1 j.2) F8 h1
   .exact .inr #[SqT.same e1.sub g1,q (.d _) _ q1 e1 i1 F8 h1]
  .exact h1.elim]]
end
section
variable {X:Cx}{e a b c:Expr}{te ta tb tc ti:TE3}{pos:Pos}
def XG:S->Option (List D)
 |.d (.lst xs)=>some xs
 |.l xs=>some xs
 |.r xs=>some xs
 |_=>none
theorem R7 {K:W.Frag}{p:HZ}{v:V}{s:S}{xs:List D}(i:IsS K p v s) (hz:BD p.z p.h) (h:XG s=some xs):∃a vs,v=.ref a/\Iss K p.z vs xs/\SqL K p.h a vs:=by
 cases s with
 |d z =>
  cases z with
  |lst zs=>cases h;obtain⟨a,vs,rfl,g1,g2⟩:=Is.lst_inv i;exact#[a,vs,rfl,g2,hz.seq g1]
  |_=>cases h
 |l zs=>cases h;obtain⟨a,vs,rfl,g1,g2⟩:=i;exact#[a,vs,rfl,g2,SqL.of g1]
 |r zs=>cases h;obtain⟨a,vs,rfl,g1,g2⟩:=i;exact#[a,vs,rfl,g2,g1]
end
section
variable {X:Cx}{e:Expr}{es:List Expr}{tr:TA3}{th:TS3}
end
structure GC (K:W.Frag)(mg:Str->Option Value)(x:Str)(d:D):Prop where
 ex:∃u v,mg x=some u/\CA v u/\∀H,Is K H v d
theorem UP {X:Cx}{x:Str}{d:D}{pos:Pos}(hg:Gl X x) (c:GC X.K X.mg x d) (hd:(x==("__debug__":Str))=false:=by decide):PE3 X (.Name x pos) (vC d):=by
 obtain⟨u,v,hm,hr,hi⟩:=c.ex
 exact#[BO (PX hg hm hr hd) fun σ H Q hh=>by obtain⟨B,z,τ,R,r,ht,q⟩:=hh;exact q (.d d) v #[H,z] (Ext.refl r.ext.sub) (hi _) F8 ht]
def KD (K:W.Frag)(u:Value)(d:D):Prop:=∃v,CA v u/\∀H,Is K H v d
theorem KD.of {K:W.Frag}{mg:Str->Option Value}{x:Str}{u:Value}{d:D}(hm:mg x=some u) (h:KD K u d):GC K mg x d:=by
 obtain⟨v,r,i⟩:=h
 exact#[u,v,hm,r,i]
section
variable {K:W.Frag}
theorem KD.int {i:Int}{t}:KD K (Value.int i t) (.int i):=#[.int i,#[t,rfl],fun _=>.int i]
inductive KDs (K:W.Frag):List Value->List D->Prop where
 |nil:KDs K [] []
 |cons {u:Value}{us:List Value}{d:D}{ds:List D}:KD K u d->KDs K us ds->KDs K (u::us) (d::ds)
theorem KDs.out:∀{us:List Value}{ds:List D},KDs K us ds->∃vs,CK vs us/\∀H,Iss K H vs ds
 |_,_,.nil=>#[[],.nil,fun _=>#[rfl,fun i v x h=>by simp at h]]
 |_,_,.cons #[v,r,i] t=>by
  obtain⟨vs,rs,is⟩:=t.out
  refine#[v::vs,.cons r rs,fun H=>#[by simp[(is H).1],fun j w x h1 h2=>?_]]
  cases j with
  |zero=>simp at h1 h2;subst h1;subst h2;exact i H
  |succ j=>exact(is H).2 j w x (by simpa using h1) (by simpa using h2)
theorem KD.tup {a:Addr}{od:Option Addr}{its:Array Value}{n:Nat}{sl:Array (Option Value)}{ds:List D}(h:K.lookup a=some #[.type "tuple",od,.seq its n,sl]) (hz:its.size<=sizeLine) (hs:KDs K its.toList ds):KD K (.ref a) (.tup ds):=by
 obtain⟨vs,rs,is⟩:=hs.out
 exact#[.ref a,rfl,fun H=>.tup (.inr #[_,its,n,h,rfl,rfl,hz,rs]) (is H).1 (is H).2]
end
section
variable {X:Cx}{e:Expr}{es:List Expr}{tr:TA3}
end
end L3
namespace CH
open PySem L2 L3
theorem Ax {i j:Int}{m n:Nat}(hi:i.natAbs<2^m) (hj:j.natAbs<2^n) (h:m+n<=134217728):IntMulOk i j :=
 PyProof.Rows.mulOk_of_bits (qCG hi) (qCG hj) h
def dg (n:Int):Nat:=if n==0 then 0 else n.natAbs.log2/30+1
theorem Pd {i:Int}{m:Nat}(h:i.natAbs<2^m):dg i<=m/30+1:=by
 unfold dg
 by_cases h0:(i==0)=true
 .rw[if_pos h0];omega
 .rw[if_neg h0]
  have hn:i.natAbs≠0:=by
   intro z
   apply h0
   have:i=0:=()
   rw[this];rfl
  have:i.natAbs.log2<m:=(Nat.log2_lt hn).mpr h
  omega
theorem WG {i j:Int}(h:i.natAbs<2^13000):Builtin.divisionGoesByPylong i j=false:=by
 have k:=Pd h
 clear h
 show(decide (dg j>300)&&decide (dg i>dg j+150))=false
 rw[Bool.and_eq_false_iff]
 by_cases hq:dg j>300
 .exact .inr (decide_eq_false ())
 .exact .inl (decide_eq_false hq)
theorem Cn {i j:Int}(h:j.natAbs<1073741824):Builtin.divisionGoesByPylong i j=false:=PyProof.noPylong_small h
theorem nz2:(2:Int)≠0:=∅
theorem Oo (i:Int):0<=(if i<0 then -i else i):=by split<;>omega
def cell (ns:List Int)(k:Int):Int:=ns.getD k.toNat 0
theorem MV {ns:List Int}{k:Int}(h0:0<=k) (h1:k<(ns.length:Int)):atI (ns.map D.int) k=some (.int (cell ns k)):=by
 have hk:k.toNat<ns.length:=()
 have ek:k=((k.toNat:Nat):Int):=()
 have q:atI (ns.map D.int) ((k.toNat:Nat):Int)=some (.int ns[k.toNat]):=atI_nat (by rw[qAe,qAb hk]<;>rfl)
 rw[<-ek] at q
 rw[q]
 unfold cell
 rw[qAd,qAb hk]
 rfl
theorem QF {ns:List Int}{k:Int}(h0:0<=k) (h1:¬k<(ns.length:Int)):cell ns k=0:=by
 unfold cell
 rw[qAd,qAO.mpr ()]
 rfl
abbrev I (i:Int):Option S:=some (.d (.int i))
theorem Ca {c A B:Prop} [Decidable c] (h1:c->A) (h2:¬c->B):if decide c=true then A else B:=by
 by_cases h:c
 .rw[decide_eq_true h,if_pos rfl];exact h1 h
 .rw[decide_eq_false h,if_neg qAm];exact h2 h
theorem Nt {c A B:Prop} [Decidable c] (h1:¬c->A) (h2:c->B):if (!decide c)=true then A else B:=by
 by_cases h:c
 .rw[decide_eq_true h];exact h2 h
 .rw[decide_eq_false h];exact h1 h
theorem iF {b:Bool}{A B:Prop}(h:B) (hb:b=false:=by rfl):if b=true then A else B:=by subst hb;rw[if_neg qAm];exact h
end CH
namespace L3
theorem boot_max:PySem.bootBuiltins "max"=some (.builtin "max"):=by decide +kernel
theorem boot_min:PySem.bootBuiltins "min"=some (.builtin "min"):=by decide +kernel
open PySem PySem.Spec PyProof.Rows L2
section
variable {prog:Program}{w:World}{A:Around}{R:Result->Shared->Prop}{s:Shared}
theorem UN {fa:Addr}{ag:PySem.Args}{ob:Obj}{f:FuncData}{bd:Expr}{nm:Str}(hroom:A.depth<recursionLimit) (hob:s.heap.get? fa=some ob) (hdt:ob.data=.func f)
 (hc1:f.scope.isCoroutine=false) (hc2:f.scope.isGenerator=false) (hbd:f.body=.expr bd) (hcd:s.heap.CodeRec f.code nm)
 (k:wpAny (model prog w) A.in1 (bindArgs f ag) (fun bs s1=>wpAny (model prog w) A.in1 (newFunctionEnv f.scope f.globals f.closure bs (nm ++ ".<locals>.") (some fa) f.code none f.builtins)
  (fun en s2=>s2.heap.NoLimit/\codeAny (model prog w) A (.expr bd en) R s2) (fun x s3=>R (.error x) s3) s1) (fun x s3=>R (.error x) s3) s) :
 codeAny (model prog w) A (.call (.ref fa) ag) R s:=by
 refine codeAny_of_tree ?_
 show wpAny _ A.in1 (callAny (.ref fa) ag) _ _ s
 simp only[callAny]
 refine wpAny_bind (wpAny_load hob ?_)
 obtain⟨cc,oc,fs,tq,hc,hoc,hdc,hq⟩:=hcd
 simp only[hdt,callFunction,hc1,hc2,hbd,hc]
 rw[hc] at k
 refine wpAny_bind (m:=field (.ref cc) 1) (wpAny_field hoc hdc hq (wpAny_bind (wpAny_pure ?_)))
 exact wpAny_bind (wpAny_mono k (fun bs s1 k1=>wpAny_bind (wpAny_mono k1 (fun en s2 k2=>wpAny_bind (wpAny_enterFrame k2.1 hroom (wpAny_pure (And.intro rfl k2.2)))) fun _ _ z=>z)) fun _ _ z=>z)
end
structure RB (P:Program)(w:World)(K:W.Frag)(mg:Str->Option Value)(base:Heap)(k:Nat)(s:Shared)(H:Hp)(fs:List Addr)(a:Addr)(dom:D->Prop)(p:D->Bool):Prop where
 obj:∃o u fd,H a=some (.frz o u)/\o.data=.func fd
 run:∀(A:Around)(outer:List Env)(s':Shared)(H':Hp)(v:V)(u:Value)(x:D),E4 k A->Tz P w K mg base A outer s' H' ->
  (∀b o,s.heap.get? b=some o->H b=none->b∉fs->s'.heap.get? b=some o/\H' b=none)->BD H H'->CA v u->Is K H' v x->dom x ->
  codeAny (model P w) A (.call (.ref a) #[[u],[]]) (CR CX0 outer P w H' s' (fun r H2=>r=.bl (p x)/\BD H' H2) fun _ _ _=>False) s'
def Ur (X:Cx)(N:List Str)(scope:Scope)(cl:List (Str×Addr))(nm:Str)(a:Addr)(cdv:Value)(A:Around)(outer:List Env)(s:Shared)(H:Hp):Cx :=
 { X with A:=A.deeper (W.envX nm scope s.heap.objs.size a cdv cl),N:=N,s₀:=s,H₀:=H,env:=W.envX nm scope s.heap.objs.size a cdv cl,outer:=outer,stack:=W.envX nm scope s.heap.objs.size a cdv cl::outer,ex:=[],fn:=fun _=>false,calm:=true,pn:=[],xe:=fun _ _=>False,lent:=none }
def K8 (τ:Tau)(idx:List Nat):Tau:=idx.map fun j=>match τ[j]? with
 |some (some (S.d y))=>some (S.d y)
 |_=>none
section
variable {X:Cx}{pins:List (Addr×Obj)}{σ:St}{H1 H:Hp}{s1 s:Shared}{x:Str}{scope:Scope}{N:List Str}{idx:List Nat}{cl:List (Str×Addr)}
theorem Oa (I1:Inv X pins σ H1 s1)(hfn:∀y,X.fn y=true){y:Str}{c:Addr}(e:X.env.cells.lookup y=some c):c∉frs X.stack:=fun hb=>by
 rcases qAo.mp (I1.stkSub c hb) with z|z
 .exact I1.cne y c e z
 .obtain⟨_,o,ho,_⟩:=I1.ok.funs.mem z
  exact absurd (qAq (qAh ho) (I1.ok.cab y c (hfn y) e)) (qA4 _)
theorem OJ (O:Ba X x scope N idx)(hfn:∀y,X.fn y=true)(I1:Inv X pins σ H1 s1)(hcl:∀y c,cl.lookup y=some c->X.env.cells.lookup y=some c)(hcl2:∀y,(y,NameKind.free)∈scope.names->∃c,cl.lookup y=some c)
 {A:Around}{outer:List Env}{s':Shared}{H':Hp}(e0:Tz X.prog X.w X.K X.mg X.base A outer s' H') (hd:A.handled=none)
 (st:∀b o,s1.heap.get? b=some o->H1 b=none->b∉frs X.stack->s'.heap.get? b=some o/\H' b=none){v:V}{u:Value}(r:CA v u)
 {h1:Heap}(hns:h1.Ns s'.heap.objs.size (fun y=>[(x,u)].reverse.lookup y)) (old:∀b o,s'.heap.get? b=some o->h1.get? b=some o){tk:Nat}{nm:Str}{a:Addr}{cdv:Value} :
 Inv (Ur X N scope cl nm a cdv A outer s' H') [] (some v::DS σ idx) H' { s' with heap:=h1,toks:=tk }:=by
 have kept:∀y c,X.env.cells.lookup y=some c->∀z,s1.heap.IsCell c z->h1.IsCell c z/\H' c=none:=fun y c e z hh=>by
  obtain⟨o,ho,hd⟩:=hh
  obtain⟨g1,g2⟩:=st c o ho (I1.freeC y c e) (Oa I1 hfn e)
  exact#[#[o,old _ _ g1,hd],g2]
 refine#[#[e0.mod,O.kind,rfl,rfl,qAc _,fun y z c h1 h2=>I1.ok.inj y z c (hcl y c h1) (hcl z c h2),fun y hy=>?_,(fun _ _ z=>by cases z),fun _=>hd,Around.frames_deeper e0.frames,.inr #[rfl,rfl],(fun b z=>by cases z),e0.bs,e0.bsz,(fun _ _ _ z=>by cases z),(fun b z=>by cases z),e0.funs,e0.frf,e0.tb],
  rfl,e0.bare,Un.kept old,#[_,hns,fun i y v' e1 e2 e3=>?_],fun y c e=>?_,e0.hok.fresh (qAc _),fun y c e=>?_,(fun p hp=>by cases hp),e0.hok.kept old,?_]
 .have hy':scope.names.lookup y=some .cell\/scope.names.lookup y=some .free:=hy
  rcases hy' with z|z
  .exact absurd rfl (O.cell _ (BH z))
  .exact hcl2 y (BH z)
 .cases i with
  |zero =>
   have e1':y=x:=qAl (e1.symm.trans O.fst)
   subst e1'
   cases e2
   exact#[u,r,.inl #[O.own,by simp]]
  |succ k =>
   obtain⟨j,ej,es⟩:=Ie (k:=k) e2
   obtain⟨y',n1,n2,n3⟩:=O.cap k j ej
   have ey:y'=y:=qAl (n1.symm.trans e1)
   subst ey
   have kc:=O.free _ (BH n3) rfl
   obtain⟨m0,hn0,hl0⟩:=I1.loc
   obtain⟨u',ru,lk⟩:=hl0 j y' v' n2 es (.inr (.inl kc))
   refine#[u',ru,?_]
   rcases lk with⟨k1,_⟩|⟨_,c,hc,ic⟩
   .rw[kc] at k1;cases k1
   .obtain⟨c',hc'⟩:=hcl2 y' (BH n3)
    have:c'=c:=qAl ((hcl y' c' hc').symm.trans hc)
    subst this
    exact .inr #[.inr n3,c',hc',(kept y' c' hc _ ic).1]
 .obtain⟨z,ic⟩:=I1.cell y c (hcl y c e)
  exact#[z,(kept y c (hcl y c e) z ic).1]
 .obtain⟨z,ic⟩:=I1.cell y c (hcl y c e)
  exact(kept y c (hcl y c e) z ic).2
 .show(some v::DS σ idx).length=N.length
  rw[O.len,qBr]
  unfold DS
  rw[qAa]
theorem Li {τ:Tau}{idx:List Nat}{k:Nat}{y:S}(h:(K8 τ idx)[k]? = some (some y)):∃j d,idx[k]? = some j/\y=.d d/\τ[j]? = some (some (.d d)):=by
 unfold K8 at h
 rw[qAe] at h
 cases e:idx[k]? with
 |none=>rw[e] at h;cases h
 |some j =>
  rw[e] at h
  have h':=qAl h
  dsimp only at h'
  split at h'
  .rename_i d hd
   exact#[j,d,rfl,(qAl h').symm,hd]
  .cases h'
theorem Vs (O:Ba X x scope N idx)(hfn:∀y,X.fn y=true)(I1:Inv X pins σ H1 s1)(hcl:∀y c,cl.lookup y=some c->X.env.cells.lookup y=some c)(hcl2:∀y,(y,NameKind.free)∈scope.names->∃c,cl.lookup y=some c)
 {a c':Addr}{fo oc:Obj}{fs:Array Value}{nm qual:Str}{tq kb:Nat}{u1 u2:HO}{params:Arguments}{body:Expr}{pm ctv:Value}{tb:TE3}{dom:D->Prop}{p:D->Bool}{B:HZ}{z:Hp}{τ:Tau}
 (ha:H1 a=some (.frz fo u1)) (hfo:fo.data=.func (qCr "<lambda>" qual params body scope cl pm (.ref c') ctv)) (hc:H1 c'=some (.frz oc u2)) (hoc:oc.data=.fields fs) (hfs:fs[1]? = some (.str nm tq))
 (hco:scope.isCoroutine=false) (hgen:scope.isGenerator=false) (hbind:∀(q:Str)(cl:List (Str×Addr))(pm cv ct u:Value),bindArgs (qCr "<lambda>" q params body scope cl pm cv ct) #[[u],[]]=pure [(x,u)])
 (hb:∀cl nm a cdv A outer s H,E4 kb (A.deeper (W.envX nm scope s.heap.objs.size a cdv cl))->PE3 (Ur X N scope cl nm a cdv A outer s H) body tb)
 (rep:Rep X B τ σ #[H1,z]) (hdom:∀x,dom x->tb (some (.d x)::K8 τ idx) fun s=>s=.d (.bl (p x))):RB X.prog X.w X.K X.mg X.base (kb+1) s1 H1 (frs X.stack) a dom p:=by
 refine#[#[fo,u1,_,ha,hfo],fun A outer s' H' v u d hr e0 st sm rv is dm=>?_]
 have ga:s'.heap.get? a=some fo:=(e0.hok a _ (sm _ _ ha)).1
 have gc:s'.heap.get? c'=some oc:=(e0.hok c' _ (sm _ _ hc)).1
 have lim:s'.heap.NoLimit:=e0.mod.nolimit.keeps fun b o e=>(e0.bs b o e).1
 refine UN (nm:=nm) hr.depth ga hfo hco hgen rfl #[c',oc,fs,tq,rfl,gc,hoc,hfs] ?_
 rw[hbind]
 refine wpAny_pure (wpAny_newFunctionEnv O.cell (fun y hy=>?_) (fun h1 hns hsb=>?_) O.kind)
 .have:y=(x,u):=by simpa using hy
  subst this
  exact O.own
 have old:∀b o,s'.heap.get? b=some o->h1.get? b=some o:=fun b o e=>hsb.extBut b o (qAw (qAh e)) (qAf _ e)
 refine#[lim.keeps old,?_]
 show codeAny _ _ (.expr body (W.envX nm scope s'.heap.objs.size a (.ref c') cl)) _ _
 have J:=OJ (nm:=nm) (a:=a) (cdv:=.ref c') (tk:=s'.toks + [(x,u)].length) O hfn I1 hcl hcl2 e0 hr.hd st rv hns old
 refine W.kla_codeExpr (wpAny_mono ((hb cl nm a (.ref c') A outer s' H' (hr.deeper _)).out [] _ _ H' (fun r H2=>r=.bl (p d)/\BD H' H2) J #[#[H',H'],H',some (.d d)::K8 τ idx,fun s=>s=.d (.bl (p d)),?_,hdom d dm,fun s2 v2 q2 e2 i2 f2 h2=>?_])
  (fun r s2 #[v2,H2,J2,r2,hq]=>#[v2,H2,J2.os,J2.bare,J2.base,J2.hok,r2,hq]) fun _ _ z=>z.elim)
 .have noL:∀(i:Nat)(xs:List D),¬(some (S.d d)::K8 τ idx)[i]? = some (some (.l xs)):=fun i xs z=>by
   cases i with
   |zero=>cases z
   |succ k=>obtain⟨_,_,_,e,_⟩:=Li (k:=k) z;cases e
  refine#[by simp[DS,K8],Ext.refl (BD.refl _),fun i y hy=>?_,fun i xs _ z _=>absurd z (noL i xs),fun i _ xs _ _ _ z _ _ _=>absurd z (noL i xs),fun _=>BD.refl _,fun k a h=>by cases h]
  cases i with
  |zero=>cases hy;exact#[v,rfl,is]
  |succ k =>
   obtain⟨j,y',ej,ey,et⟩:=Li (k:=k) hy
   subst ey
   obtain⟨v',e1,e2⟩:=rep.val j _ et
   refine#[v',?_,(Is.mono rep.ext.sub e2).mono sm]
   show(DS σ idx)[k]? = _
   unfold DS
   rw[qAe,ej]
   show some ((σ[j]?).getD none)=_
   rw[e1]
   rfl
 .subst h2
  exact#[Is.bl_inv i2,e2.hh]
end
section
variable {X:Cx}{pins:List (Addr×Obj)}{σ:St}{H:Hp}{s:Shared}
theorem J4 {pos pos':Pos}{c cv:Value}:∀(l:List Value),TriplesOk l->codeAmong pos' (l++[rawInt pos.line,rawInt pos.col,c])=some cv->codeAmong pos' l=some cv\/cv=c:=by
 intro l h
 fun_induction TriplesOk l with
 |case1 =>
  intro e
  simp only[List.nil_append,codeAmong,rawInt] at e
  split at e
  .exact .inr (qAl e).symm
  .cases e
 |case2 a t b u x rest ih =>
  intro e
  simp only[List.cons_append,codeAmong] at e ⊢
  split at e
  .rename_i hc;rw[if_pos hc];exact .inl e
  .rename_i hc;rw[if_neg hc];exact ih h e
 |case3 l h1 h2=>exact h.elim
theorem Q7 {x:Str}{c T:Addr}{params:Arguments}{body:Expr}{scope:Scope}{pos:Pos}{cl:List (Str×Addr)}{E:Value->Shared->Prop}{QQ:Value->Shared->Prop}(I:Inv X pins σ H s) (ht:W.tabIn X.K x=some (c,T)) (hp:(recsOf X.prog).any (fun d=>d.name==x)=true)
 (hcode:X.env.code=.ref c) (hdef:defaultsOf params X.env=([],[])) (hcl:closureFor scope X.env=pure cl)
 (h:∀(a c':Addr)(H':Hp)(s':Shared)(fo oc:Obj)(fs:Array Value)(nm qual:Str)(tq:Nat)(pm ctv:Value),Inv X pins σ H' s'->BD H H'->H' a=some (.frz fo (.own T))->fo.data=.func (qCr "<lambda>" qual params body scope cl pm (.ref c') ctv) ->
  H' c'=some (.frz oc (.own T))->oc.data=.fields fs->fs[1]? = some (.str nm tq)->QQ (.ref a) s') :
 wpAny (model X.prog X.w) X.A (eval (.Lambda params body scope pos) X.env) QQ E s:=by
 obtain⟨hd,ps,hT⟩:=I.tb.tab x c T ht hp
 obtain⟨bm,ob,b1,b2,b3,b4,b5,b6⟩:=I.tb.bm
 obtain⟨tab,e1,tr,cod⟩:=(show Md H s.heap T from I.hok T _ hT)
 have tabNe:∀{b:Addr}{o:Obj},X.base.get? b=some o->b≠T:=fun {b o} e z=>by
  have:=(I.bs b o e).2
  rw[z,hT] at this
  cases this
 have hgs:s.heap.Ns mainGlobals X.mg:=I.mod.glob.keeps I.bk
 have hgT:mainGlobals≠T:=by
  obtain⟨o,_,_,e,_⟩:=I.mod.glob
  exact tabNe e
 have hbG:bm≠mainGlobals:=fun z=>by
  obtain⟨o,es,ep,e,d,_⟩:=I.mod.glob
  rw[z,e] at b3;cases b3;rw[d] at b6;cases b6
 have hB:s.heap.BuiltinsAt X.mg T:=#[bm,ob,b1,b2,hbG,tabNe b3,I.bk _ _ b3,b4,b5,b6]
 refine W.kla_eval hdef ?_
 cases hf:codeAmong pos tab.toList with
 |some cv =>
  obtain⟨c',oc,fs,nm,tq,rfl,hc',hoc,hfs⟩:=cod pos cv hf
  refine W.kla_makeFunctionHit (mg:=X.mg) hcl I.ok.glob hgs hcode (hd.keeps I.bk) e1 tr hf hB fun ctv h' tk old sz=>?_
  refine h h'.objs.size c' (upd H h'.objs.size (.frz _ (.own T))) _ _ oc fs nm _ tq _ ctv (I.laid (fun b o e=>qAf _ (old b o e)) sz #[qAr _ rfl,_,qAr _ rfl]) (B7 (I.hok.fresh sz) _) Au rfl ?_ hoc hfs
  rw[Al (qAw (qAq (I.hok.lt hc') sz))]
  exact hc'
 |none =>
  refine W.kla_makeFunction (mg:=X.mg) hcl I.ok.glob hgs hcode (hd.keeps I.bk) e1 tr hf hgT hB fun c' ctv h' tk hx hge hlt hrec htb=>?_
  obtain⟨c2,oc,fs,tq,ec,hoc,hdt,hfs⟩:=hrec
  cases ec
  have nT:∀{b:Addr}{o:Obj},s.heap.get? b=some o->b≠T->h'.get? b=some o:=fun {b o} e z=>hx b o z e
  have fresh1:H c'=none:=I.hok.fresh hge
  have cT:T≠c':=qAw (qAq (qAh e1) hge)
  have s1:BD H (upd H c' (.frz oc (.own T))):=B7 fresh1 _
  have ok1:HOk X.prog X.w (upd H c' (.frz oc (.own T))) h':=fun b u e=>by
   by_cases hb:b=c'
   .subst hb
    rw[Au] at e
    cases e
    exact#[hoc,oc,hoc]
   .rw[Al hb] at e
    by_cases hb2:b=T
    .subst hb2
     rw[hT] at e
     cases e
     refine#[_,htb,by rw[Array.toList_append];exact TriplesOk_snoc _ _ _ _ tr,fun pos' cv z=>?_]
     rw[Array.toList_append] at z
     rcases J4 _ tr z with z|z
     .obtain⟨c3,o3,f3,n3,t3,q1,q2,q3⟩:=cod pos' cv z
      exact#[c3,o3,f3,n3,t3,q1,s1 _ _ q2,q3]
     .exact#[c',oc,fs,_,tq,z,Au,hdt,hfs]
    .refine(I.hok b u e).stay (hf:=fun d w1 w2 q=>s1 _ _ q) (fun d o hdd q=>nT q ?_) (fun d q=>s1 _ _ q) fun d xs q=>s1 _ _ q
     rcases hdd with rfl|hdd
     .exact hb2
     .rintro rfl
      rw[hT] at hdd
      cases hdd
  have un1:Un X.fs [] H (upd H c' (.frz oc (.own T))) s.heap h':=by
   refine#[fun b o e n _ _=>nT e (fun z=>by rw[z,hT] at n;cases n),fun b o e n _ _=>#[o.slots,nT e (fun z=>by rw[z,hT] at n;cases n)],fun b o e n _=>?_,fun b o e _=>?_,fun b xs q=>s1 _ _ q,fun b o u q=>s1 _ _ q,fun b ps q=>#[(List.toArray []),by rw[s1 _ _ q];simp]]
   .rw[Al (qAw (qAq (qAh e) hge))];exact n
   .by_cases z:b=T
    .subst z;exact#[_,htb]
    .exact#[o,nT e z]
  have I1:Inv X pins σ (upd H c' (.frz oc (.own T))) { s with heap:=h',toks:=tk }:=I.un un1 ok1
  have I2:=I1.laid (a:=h'.objs.size) (o:=.frz (W.kla_obj "<lambda>" (X.env.qual ++ "<lambda>") params body scope cl ((X.mg "__name__").getD .none) c' ctv) (.own T)) (t':=tk) (h':=h'.push (W.kla_obj "<lambda>" (X.env.qual ++ "<lambda>") params body scope cl ((X.mg "__name__").getD .none) c' ctv))
   (fun b o e=>qAf _ e) (qAc _) #[qAr _ rfl,_,qAr _ rfl]
  refine h h'.objs.size c' _ _ _ oc fs _ _ tq _ ctv I2 (s1.trans (B7 (I1.hok.fresh (qAc _)) _)) Au rfl ?_ hdt hfs
  rw[Al (qAw hlt)]
  exact Au
end
abbrev SpL:=Addr->(D->Prop)->(D->Bool)->Sp3
structure Ob (P:Program)(w:World)(K:W.Frag)(mg:Str->Option Value)(base:Heap)(k kl:Nat)(f:Addr)(fd:FuncData)(ps:List Str)(sp:SpL):Prop where
 len:∀a dom p ss R U,sp a dom p ss R U->ss.length=ps.length
 run:∀(A:Around)(outer:List Env)(s:Shared)(H:Hp)(args:PySem.Args)(us:List Value)(vs:List V)(Q:VK)(E:XK)(a:Addr)(dom:D->Prop)(p:D->Bool),E4 k A->Tz P w K mg base A outer s H->BindsTo s fd args (ps.zip us)->CK vs us ->
  RB P w K mg base kl s H (frs outer) a dom p->Ah K mg (sp a dom p) vs H Q E->codeAny (model P w) A (.call (.ref f) args) (CR CX0 outer P w H s Q E) s
structure Xv (P:Program)(w:World)(K:W.Frag)(mg:Str->Option Value)(base:Heap)(k kl:Nat)(x:Str)(ps:List Str)(sp:SpL):Prop where
 ex:∃f fd,Ob P w K mg base k kl f fd ps sp/\mg x=some (.ref f)/\W.keepIn K (.ref f)=true/\Binds K fd ps []
section
variable {P:Program}{w:World}{K:W.Frag}{mg:Str->Option Value}{base:Heap}
theorem fnL {x qual:Str}{st:Stmt}{f:Addr}{fd:FuncData}{N ps:List Str}{k kl:Nat}{sp:SpL}(F:Fun K x qual st f fd) (Sc:Ad N ps (Ab st)) (len:∀a dom p ss R U,sp a dom p ss R U->ss.length=ps.length)
 (hbody:∀(cdv:Value)(A:Around)(outer:List Env)(s:Shared)(H:Hp)(E:XK)(a:Addr)(dom:D->Prop)(p:D->Bool)(ss:List S)(R:S->Prop)(U:Str->Prop),E4 k (A.deeper (envOfC qual (Ab st) s.heap.objs.size f cdv))->RB P w K mg base kl s H (frs outer) a dom p->sp a dom p ss R U ->
  ∃t,DP (LR CX0 P w K mg base N qual (Ab st) f cdv A outer s H E).nox (Cp st) t/\t { nx:=fun _=>R (.d .non),rt:=R } (CD N ss)):Ob P w K mg base (k+1) kl f fd ps sp:=by
 obtain⟨oc,od,kV,doc,pm,an,cdv,ct,osl,rfl,lk,hcd⟩:=F.ex
 refine#[len,fun A outer s H args us vs Q E a dom p hr e0 hb rv hL hh=>?_]
 obtain⟨z,ss,R,U,hz,ha,h3,q,qe⟩:=hh
 have hl:vs.length=ps.length:=ha.1.trans (len _ _ _ _ _ _ h3)
 have KX:K.In s.heap:=e0.mod.kin.keeps fun b o e=>(e0.bs b o e).1
 have lim:s.heap.NoLimit:=e0.mod.nolimit.keeps fun b o e=>(e0.bs b o e).1
 refine codeAny_call_function hr.depth (KX _ _ lk) rfl Sc.co Sc.gen rfl (W.codeRec_of KX hcd) (hb _ _ _ _ ?_)
 refine wpAny_newFunctionEnv_cells Sc.kind (fun y hy=>?_) fun env he s1 xx=>?_
 .obtain⟨n,v⟩:=y
  rcases Sc.par n (qCg hy).1 with g|g
  .exact .inl g
  .exact .inr #[g,qB4 _ _ _ (.inl g)]
 subst he
 refine#[lim.keeps xx.toInCall.keep,codeAny_func ?_]
 obtain⟨t,ht,hq⟩:=hbody cdv A outer s H E a dom p ss R U (hr.deeper _) hL h3
 have I:Inv (LR CX0 P w K mg base N qual (Ab st) f cdv A outer s H E) [] (start N vs) H s1:=LD Sc hr.hd e0 hl rv xx
 refine wpAny_mono (ht.out.nox [] s1 (start N vs) H { nx:=fun _ H'=>Q .non H',rt:=Q } I #[#[H,z],z,CD N ss,_,Fl ha hz (BD.refl H),hq,#[fun τ σ p r h=>q (.d .non) _ p r.ext Is.non F8 h,fun _ _ _ _ z=>z.elim,fun _ _ _ _ z=>z.elim,fun s v p e i f h=>q s v p e i f h]]) (fun fl s' hs=>?_) fun e s' hs=>hs
 have fin:∀{σ':St}{H':Hp}{v:V}{u:Value},Inv (LR CX0 P w K mg base N qual (Ab st) f cdv A outer s H E) [] σ' H' s'->CA v u->Q v H'->CE outer P w H s Q u s' :=
  fun {σ' H' v u} J rv q=>#[v,H',J.os,J.bare,J.base,J.hok,rv,q]
 cases fl with
 |ret u =>
  obtain⟨v,σ',H',J,rv,q⟩:=hs
  exact fin J rv q
 |next =>
  obtain⟨σ',H',J,q⟩:=hs
  exact fin (v:=V.non) (u:=Value.none) J rfl q
 |brk=>obtain⟨_,_,_,g⟩:=hs;exact False.elim g
 |cont=>obtain⟨_,_,_,g⟩:=hs;exact False.elim g
end
section
variable {X:Cx}{pos:Pos}{e:Expr}{te tb:TE3}
theorem Wt {outer:List Env}{P:Program}{w:World}{H:Hp}{s s':Shared}{Q Q':VK}{u:Value}(h:CE outer P w H s Q u s') (f:∀v H',Q v H'->Q' v H'):CE outer P w H s Q' u s' :=
 let #[v,H',a,b,c,d,r,q]:=h;#[v,H',a,b,c,d,r,f _ _ q]
def Vu (i:Nat)(a:Addr)(dom:D->Prop)(p:D->Bool)(te:TE3):TE3:=fun τ R=>τ[i]? = some (some (.d (.ref a)))/\te τ fun s=>dd s fun x=>dom x/\R (.d (.bl (p x)))
theorem Uv {i k:Nat}{x:Str}{np:Pos}{a:Addr}{dom:D->Prop}{p:D->Bool}(hL:RB X.prog X.w X.K X.mg X.base k X.s₀ X.H₀ X.fs a dom p) (hr:E4 k X.A) (hv:PE X (.Name x np) (Ny i)) (he:PE3 X e te) (hex:X.ex=[]:=by rfl) (hl:X.lent=none:=by rfl)
 (hs:starEach [e] X.env=(false,eval e X.env)::starEach [] X.env:=by exact CM rfl):PE3 X (.Call (.Name x np) [e] [] pos) (Vu i a dom p te):=by
 refine#[fun pins s σ H Q I hh=>?_]
 obtain⟨B,z,τ,R,r,⟨hi,ht⟩,q⟩:=hh
 obtain⟨v,h1,h2⟩:=r.val i _ hi
 have ev:v=.ref a:=by
  have h2':Is X.K z v (.ref a):=h2
  cases h2';rfl
 subst ev
 obtain⟨o,uu,fd,ho,hfd⟩:=hL.obj
 refine wpAny_Call_Name_kw (thn (hv pins s σ H (fun v' H'=>v'=.ref a/\H'=H) I #[_,h1,rfl,rfl]) fun f s1 hh=>?_)
 obtain⟨v',H',I1,rv,e1,e2⟩:=hh
 subst e1;subst e2
 obtain rfl:f=Value.ref a:=rv
 have pa:wpAny (model X.prog X.w) X.A (spliced (backTo pos (starEach [e] X.env))) _ X.xe s1:=(AL he.out Bn hs) pos pins s1 σ H' (fun vs H1=>∃y z1 x,vs=[y]/\Ext #[H',z] #[H1,z1]/\Is X.K z1 y x/\dom x/\R (.d (.bl (p x)))) I1 #[B,z,τ,_,r,ht,fun s2 v2 q2 e2 i2 f2 h2=>by
  obtain⟨x,rfl,hx⟩:=FY h2
  exact#[v2,q2.z,x,rfl,e2,i2,hx]]
 rw[hs] at pa ⊢
 refine W.callWith_of (P:=fun h=>∃ob,h.get? a=some ob/\ob.data=.func fd) rfl (fun h #[ob,g1,g2]=>#[.frame,.inl rfl,?_]) (Calls.evalArgs_plain (thn pa fun us s2 #[vs,H2,I2,rv2,y,z1,x,evs,e2,i2,dm,hR]=>?_))
 .obtain⟨oc,od,od2,osl⟩:=ob
  cases g2
  exact(W.Looks.ld (part:=none) g1).andThen .now
 subst evs
 have sm:BD X.H₀ H2:=(r.all hl).trans e2.hh
 obtain⟨u,rfl,ru⟩:∃u,us=[u]/\CA y u:=by
  cases rv2 with
  |cons a b=>cases b;exact#[_,rfl,a]
 refine#[#[o,(I2.hok a _ (sm _ _ ho)).1,hfd],wpAny_call (codeAny_mono (hL.run X.A X.stack s2 H2 y u x hr I2.env0 (fun b ob g1 g2 g3=>#[I2.base.keep b ob g1 g2 g3 (by rw[hex];simp),I2.base.free b ob g1 g2 (by rw[hex];simp)]) sm ru (Is.mono e2.sub i2) dm) fun r2 s3 hq=>?_)]
 cases r2 with
 |error e=>exact hq.elim
 |ok fl =>
  cases fl with
  |ret u2 =>
   refine I2.after (Wt hq fun v3 H3 h3=>?_)
   obtain⟨rfl,sm3⟩:=h3
   exact q (.d (.bl (p x))) _ #[H3,z1] (e2.trans (Ext.grow e2.sub sm3)) (.bl _) F8 hR
  |next=>exact False.elim hq
  |brk=>exact False.elim hq
  |cont=>exact False.elim hq
end
theorem MQ {K:W.Frag}{x:Str}{c T f:Addr}{oc:Value}{od:Option Addr}{fd:FuncData}{osl:Array (Option Value)}(ht:W.tabIn K x=some (c,T)) (hn:W.nsIn K mainGlobals x=some (some (.ref f))) (lk:K.lookup f=some #[oc,od,.func fd,osl]):fd.code=.ref c:=by
 unfold W.tabIn at ht
 rw[hn] at ht
 dsimp only at ht
 rw[lk] at ht
 dsimp only at ht
 split at ht
 .rename_i c2 hc
  split at ht
  .split at ht
   .cases ht;exact hc
   .cases ht
  .cases ht
 .cases ht
section
variable {P:Program}{w:World}{K:W.Frag}{mg:Str->Option Value}{base:Heap}
theorem Yx {x qual:Str}{st:Stmt}{f c T:Addr}{fd:FuncData}{N ps:List Str}{k:Nat}{sp:Sp3}(ht:W.tabIn K x=some (c,T)) (hn:W.nsIn K mainGlobals x=some (some (.ref f))) (F:Fun K x qual st f fd) (Sc:Ad N ps (Ab st)) (len:∀ss R U,sp ss R U->ss.length=ps.length)
 (hbody:∀(cdv:Value)(A:Around)(outer:List Env)(s:Shared)(H:Hp)(E:XK)(ss:List S)(R:S->Prop)(U:Str->Prop),cdv=.ref c->E4 k (A.deeper (envOfC qual (Ab st) s.heap.objs.size f cdv))->sp ss R U ->
  TY (LR (CXU P w) P w K mg base N qual (Ab st) f cdv A outer s H E) U ->
  ∃t,DP (LR (CXU P w) P w K mg base N qual (Ab st) f cdv A outer s H E) (Cp st) t/\t { nx:=fun _=>R (.d .non),rt:=R } (CD N ss)):Az P w K mg base (CXU P w) (k+1) f fd ps (Ah K mg sp):=by
 obtain⟨oc,od,kV,doc,pm,an,cdv,ct,osl,rfl,lk,hcd⟩:=F.ex
 have ec:cdv=.ref c:=MQ ht hn lk
 refine QE lk hcd Sc (fun vs H Q E hh=>by obtain⟨z,ss,R,U,hz,ha,h3,_⟩:=hh;exact ha.1.trans (len ss R U h3)) fun A outer s H vs Q E hr hh9=>?_
 obtain⟨z,ss,R,U,hz,ha,h3,q,qe⟩:=hh9
 obtain⟨t,ht,hq⟩:=hbody cdv A outer s H E ss R U ec hr h3 (PC qe)
 exact#[_,ht.out,#[H,z],z,CD N ss,_,Fl ha hz (BD.refl H),hq,#[fun τ σ p r h=>q (.d .non) _ p r.ext Is.non F8 h,fun _ _ _ _ z=>z.elim,fun _ _ _ _ z=>z.elim,fun s v p e i f h=>q s v p e i f h]]
theorem X5 {x qual:Str}{st:Stmt}{f c T:Addr}{fd:FuncData}{N ps:List Str}{k:Nat}{sp:Sp3}(ht:W.tabIn K x=some (c,T)) (hn:W.nsIn K mainGlobals x=some (some (.ref f))) (F:Fun K x qual st f fd) (Sc:Ad N ps (Ab st)) (len:∀ss R U,sp ss R U->ss.length=ps.length)
 (hbody:∀(cdv:Value)(A:Around)(outer:List Env)(s:Shared)(H:Hp)(E:XK)(ss:List S)(R:S->Prop)(U:Str->Prop),cdv=.ref c->E4 k (A.deeper (envOfC qual (Ab st) s.heap.objs.size f cdv))->sp ss R U ->
  ∃t,DP (LR CX0 P w K mg base N qual (Ab st) f cdv A outer s H E).nox (Cp st) t/\t { nx:=fun _=>R (.d .non),rt:=R } (CD N ss)):Az P w K mg base CX0 (k+1) f fd ps (Ah K mg sp):=by
 obtain⟨oc,od,kV,doc,pm,an,cdv,ct,osl,rfl,lk,hcd⟩:=F.ex
 have ec:cdv=.ref c:=MQ ht hn lk
 refine QE lk hcd Sc (fun vs H Q E hh=>by obtain⟨z,ss,R,U,hz,ha,h3,_⟩:=hh;exact ha.1.trans (len ss R U h3)) fun A outer s H vs Q E hr hh9=>?_
 obtain⟨z,ss,R,U,hz,ha,h3,q,qe⟩:=hh9
 obtain⟨t,ht,hq⟩:=hbody cdv A outer s H E ss R U ec hr h3
 exact#[_,ht.out.nox,#[H,z],z,CD N ss,_,Fl ha hz (BD.refl H),hq,#[fun τ σ p r h=>q (.d .non) _ p r.ext Is.non F8 h,fun _ _ _ _ z=>z.elim,fun _ _ _ _ z=>z.elim,fun s v p e i f h=>q s v p e i f h]]
end
theorem Jw {us:List Value}{n:Nat}(h:us.length=n+1):∃x r,us=x::r/\r.length=n:=by
 cases us with
 |nil=>cases h
 |cons x r=>exact#[x,r,rfl,Nat.succ.inj h]
theorem SX {us:List Value}(h:us.length=1):∃x0,us=[x0]:=by
 obtain⟨x0,r0,e0,h0⟩:=Jw h
 have e:=qAT h0
 exact#[x0,by rw[e0,e]]
theorem Te {us:List Value}(h:us.length=2):∃x0 x1,us=[x0,x1]:=by
 obtain⟨x0,r0,e0,h0⟩:=Jw h
 obtain⟨x1,r1,e1,h1⟩:=Jw h0
 have e:=qAT h1
 exact#[x0,x1,by rw[e0,e1,e]]
theorem SK {us:List Value}(h:us.length=3):∃x0 x1 x2,us=[x0,x1,x2]:=by
 obtain⟨x0,r0,e0,h0⟩:=Jw h
 obtain⟨x1,r1,e1,h1⟩:=Jw h0
 obtain⟨x2,r2,e2,h2⟩:=Jw h1
 have e:=qAT h2
 exact#[x0,x1,x2,by rw[e0,e1,e2,e]]
theorem TM {us:List Value}(h:us.length=4):∃x0 x1 x2 x3,us=[x0,x1,x2,x3]:=by
 obtain⟨x0,r0,e0,h0⟩:=Jw h
 obtain⟨x1,r1,e1,h1⟩:=Jw h0
 obtain⟨x2,r2,e2,h2⟩:=Jw h1
 obtain⟨x3,r3,e3,h3⟩:=Jw h2
 have e:=qAT h3
 exact#[x0,x1,x2,x3,by rw[e0,e1,e2,e3,e]]
open Classical in
theorem PJ {P q:Program}{loose:List Str}{mean:ExcName->Option Value}{w:World}{K:W.Frag}{mg mb:Str->Option Value}{k:Nat}{fa a:Addr}{fd:FuncData}{x:Str}{s₁:Shared}{vs:List Value}{ns:List Int}
 (T:Top q loose mean mg mb s₁.heap) (hq:∀y:Str,(recsOf P).any (fun d=>d.name==y)=true->(recsOf q).any (fun d=>d.name==y)=true) (hnt:W.noTabs K=true) (KX:K.In s₁.heap) (hg:s₁.gens=(List.toArray []))
 (ha:s₁.heap.get? a=some { cls:=.type "list",data:=.seq vs.toArray }) (hi:IntsAre vs ns) (hl:ns.length<=63) (hr:E4 k callerA)
 (F:∀base:Heap,K.In base->base.Ns mainGlobals mg->∃mg',Az P w K mg base CX0 k fa fd [x] (Ah K mg' Nh)) (hbind:∀(s:Shared)(u:Value),BindsTo s fd #[[u],[]] [(x,u)]) :
 codeAny (model P w) callerA (.call (.ref fa) #[[.ref a],[]]) (fun r s'=>r=.ok (.ret (.bool true))/\OldK s₁.heap s'.heap/\s'.os=s₁.os/\AllBare s'.gens) s₁:=by
 have rv:=La hi
 have lenV:=hi.length
 have sz:(63:Nat)<=sizeLine:=∅
 let IsT:Addr->Prop:=fun b=>∃y c,W.tabIn K y=some (c,b)/\(recsOf P).any (fun d=>d.name==y)=true
 have tabs:∀{y:Str}{c b:Addr},W.tabIn K y=some (c,b)->(recsOf P).any (fun d=>d.name==y)=true->W.CodeHd s₁.heap c b/\s₁.heap.get? b=some (W.tabObj (List.toArray [])):=fun {y c b} h1 h2=>by
  have h3:=hq y h2
  cases e:(recsOf q).find? (fun d=>d.name==y) with
  |some d=>exact W.tab_of T KX e h1
  |none =>
   obtain⟨d,hd,hn⟩:=List.any_eq_true.mp h3
   exact absurd hn (List.find?_eq_none.mp e d hd)
 have tabG:∀{b:Addr},IsT b->s₁.heap.get? b=some (W.tabObj (List.toArray [])):=fun#[_,_,h1,h2]=>(tabs h1 h2).2
 let H:Hp:=fun b=>if b=a/\K.lookup a=none then some (.frz { cls:=.type "list",data:=.seq vs.toArray } (.lst (ns.map V.int))) else if IsT b then some (.tbl (List.toArray [])) else none
 have Ha:K.lookup a=none->H a=some (.frz { cls:=.type "list",data:=.seq vs.toArray } (.lst (ns.map V.int))):=fun h=>if_pos #[rfl,h]
 have neT:∀{b:Addr},IsT b->b≠a:=fun t z=>by
  have:=tabG t
  rw[z,ha] at this
  cases this
 have Ht:∀{b:Addr},IsT b->H b=some (.tbl (List.toArray [])):=fun {b} t=>(if_neg (fun z=>neT t z.1)).trans (if_pos t)
 have Hn:∀{b:Addr},¬(b=a/\K.lookup a=none)->¬IsT b->H b=none:=fun {b} h1 h2=>(if_neg h1).trans (if_neg h2)
 have three:∀b,H b=none\/(b=a/\K.lookup a=none)\/IsT b:=fun b=>by
  by_cases h1:b=a/\K.lookup a=none
  .exact .inr (.inl h1)
  .by_cases h2:IsT b
   .exact .inr (.inr h2)
   .exact .inl (Hn h1 h2)
 have free_of:∀{b:Addr}{o:Obj},s₁.heap.get? b=some o->(∀xs n,o.data≠.seq xs n)->o≠W.tabObj (List.toArray [])->H b=none:=fun {b o} e h1 h2=>by
  refine Hn (fun z=>?_) (fun z=>?_)
  .rw[z.1,ha] at e
   cases e
   exact h1 _ _ rfl
  .have:=tabG z
   rw[e] at this
   exact h2 (qAl this)
 have hok:HOk P w H s₁.heap:=fun b u e=>by
  rcases three b with z|z|z
  .rw[z] at e;cases e
  .obtain⟨rfl,z⟩:=z
   rw[Ha z] at e
   cases e
   exact#[ha,by rw[qAa];exact qAL hl sz,vs,_,rv,ha]
  .rw[Ht z] at e
   cases e
   exact#[(List.toArray []),tabG z,trivial,fun pos cv z=>by cases z]
 have base_of:∀{b:Addr}{o:Obj},s₁.heap.get? b=some o->H b=none->(Qz s₁.heap H).get? b=some o:=fun e n=>QY e n
 have nsK:∀{b:Addr}{m:Str->Option Value},s₁.heap.Ns b m->(Qz s₁.heap H).Ns b m:=fun {b m} #[o,es,ep,e,d,r]=>#[o,es,ep,base_of e (free_of e (fun xs n z=>by rw[d] at z;cases z) (fun z=>by rw[z] at d;cases d)),d,r]
 have hKb:K.In (Qz s₁.heap H):=fun b o e=>base_of (KX b o e) (Hn (fun z=>by rw[z.1,z.2] at e;cases e) (fun z=>by
  have h1:=tabG z
  rw[KX b o e] at h1
  have h2:=qAG.mp hnt (b,o) (W.mem_of_lookupK e)
  rw[qAl h1] at h2
  exact absurd (show false=true from h2) qAm))
 have hM:Mod K mg (Qz s₁.heap H):=#[hKb,nsK T.g,#[mb,nsK T.b,T.builtins],let #[mc,h1,h2]:=T.nolimit;#[mc,nsK h1,h2]]
 have hTB:TB P K mg (Qz s₁.heap H) H:=by
  refine#[?_,fun y c b h1 h2=>#[?_,(List.toArray []),Ht #[y,c,h1,h2]]]
  .obtain⟨bm,ob,b1,b2,b3,b4,b5,b6⟩:=T.bmain
   exact#[bm,ob,b1,b2,base_of b3 (free_of b3 (fun xs n z=>by rw[b6] at z;cases z) (fun z=>by rw[z] at b4;cases b4)),b4,b5,b6]
  .obtain⟨o,fs,file,tf,flags,tg,inF,text,tt,g1,g2,g3,g4⟩:=(tabs h1 h2).1
   exact#[o,fs,file,tf,flags,tg,inF,text,tt,base_of g1 (free_of g1 (fun xs n z=>by rw[g3] at z;cases z) (fun z=>by rw[z] at g2;cases g2)),g2,g3,g4]
 have e0:Tz P w K mg (Qz s₁.heap H) callerA [] s₁ H:=#[rfl,hM,fun b o e=>TU e,Nat.le_of_eq (O6 _ _),trivial,fun b hb=>absurd (show b∈([]:List Addr) from hb) (by simp),hok,.of_eq hg,hTB]
 have hS:SqL K H a (ns.map V.int):=by
  cases hk:K.lookup a with
  |some o =>
   have e:=KX a o hk
   rw[ha] at e
   cases e
   exact .inr #[_,vs.toArray,_,hk,rfl,rfl,rfl,by rw[qAD,lenV];exact qAL hl sz,by simpa using rv]
  |none=>exact .inl (.inr #[_,Ha hk])
 obtain⟨mg',FF⟩:=F _ hKb (nsK T.g)
 refine codeAny_mono (FF.run callerA [] s₁ H #[[.ref a],[]] [.ref a] [.ref a] (fun v _=>v=.bl true) (fun _ _ _=>False) hr e0 (hbind s₁ (.ref a)) (.cons rfl .nil) #[H,[.r (ns.map D.int)],fun s=>s=.d (.bl true),NoU,BD.refl H,#[rfl,fun i v s h1 h2=>?_],#[ns,rfl,hl,rfl],fun s v q _ i _ e=>?_,fun _ _ _ _ _ z=>z.elim]) fun r s' h=>?_
 .cases i with
  |zero =>
   cases h1
   cases h2
   exact#[#[a,_,rfl,hS,RU ns],rfl]
  |succ i=>cases h1
 .subst e
  exact Is.bl_inv i
 cases r with
 |error e=>exact(show False from h).elim
 |ok fl =>
  cases fl with
  |next=>exact False.elim h
  |brk=>exact False.elim h
  |cont=>exact False.elim h
  |ret u =>
   obtain⟨v,H',os,bare,un,hok',r',g⟩:=h
   have g':v=.bl true:=g
   subst g'
   obtain rfl:u=Value.bool true:=r'
   refine#[rfl,#[fun b o e=>?_,fun b o e=>un.there b o e (by simp)],os,bare]
   rcases three b with z|z|z
   .exact .inl (un.keep b o e z (by intro z;exact absurd (show b∈([]:List Addr) from z) (by simp)) (by simp))
   .obtain⟨rfl,z⟩:=z
    obtain⟨e2,_⟩:=hok' b _ (un.frzs b _ _ (Ha z))
    rw[ha] at e
    cases e
    exact .inl e2
   .have e1:=tabG z
    obtain⟨y,c,h1,h2⟩:=id z
    rw[e] at e1
    cases e1
    obtain⟨more,e3⟩:=un.tbls b _ (Ht z)
    obtain⟨tab,e4,_⟩:=(show Md H' s'.heap b from hok' b _ e3)
    exact .inr (.inl #[((tabs h1 h2).1.tab (tabs h1 h2).2).isCodeTable,rfl,(List.toArray []),tab,rfl,by rw[e4];simp])
theorem walk3 {l:W.OpenLaw}{k:Nat}{q:Program}{loose:List Str}{XP:(Str->Option Value)->Heap->Prop}{YP:World->Heap->Prop}{d:DefRec}{K:Params->W.Frag}{x:Str}(hn:l.most=some 63) (hdf:d.params.defaults=[]) (hr:E4 k callerA)
 (hq:∀y:Str,(recsOf l.prog).any (fun d=>d.name==y)=true->(recsOf q).any (fun d=>d.name==y)=true)
 (hY:∀(w:World)(h:Heap),YP w h->(K w.params).In h) (hnt:∀w:World,W.noTabs (K w.params)=true)
 (F:∀(w:World)(mg:Str->Option Value)(fa:Addr)(h:Heap),(K w.params).In h->h.Ns mainGlobals mg->mg d.name=some (.ref fa) ->
  ∃fd:FuncData,(∀(s:Shared)(u:Value),BindsTo s fd #[[u],[]] [(x,u)])/\∀base:Heap,(K w.params).In base->base.Ns mainGlobals mg->∃mg',Az l.prog w (K w.params) mg base CX0 k fa fd [x] (Ah (K w.params) mg' Nh)) :
 W.WalkO q loose XP YP l.row.toRowW d [] (fun f vs=>PySem.call f vs):=by
 refine Att.attach_call hn hdf fun w s₀ s₁ mg mb fa o pm cd doc a vs ns G Y ho hd hcd hmg hobj hints hlen hg=>?_
 have KX:=hY w _ Y
 obtain⟨fd,hb,hF⟩:=F w mg fa _ KX G.T.g hmg
 exact PJ G.T hq (hnt w) KX hg hobj hints hlen hr hF hb
open PySem L2
def S.wk:S->S
 |.d (.lst xs)=>.r xs
 |s=>s
def S.nl:S->Bool
 |.d (.lst _)=>false
 |_=>true
theorem VQ:∀s:S,s.wk.own=s.own
 |.d (.lst _)=>rfl
 |.d .non|.d (.bl _)|.d (.int _)|.d (.str _)|.d (.ty _)|.d (.ref _)|.d (.tup _)|.l _|.r _=>rfl
theorem U8:∀s:S,s.wk.nl=true
 |.d (.lst _)=>rfl
 |.d .non|.d (.bl _)|.d (.int _)|.d (.str _)|.d (.ty _)|.d (.ref _)|.d (.tup _)|.l _|.r _=>rfl
theorem KH {y:S}{l:List D}(h:y=.r l\/y=.d (.lst l)) (n:y.nl=true):y=.r l:=by
 rcases h with rfl|rfl
 .rfl
 .cases n
theorem XD {K:W.Frag}{p:HZ}{v:V}(hz:BD p.z p.h):∀s:S,IsS K p v s->IsS K p v s.wk
 |.d (.lst _),h=>by
  have h:Is K p.z v (.lst _):=h
  cases h with
  |lst e hl r=>exact#[_,_,rfl,.inl (.inl (hz _ _ e)),hl,r]
 |.d .non,h|.d (.bl _),h|.d (.int _),h|.d (.str _),h|.d (.ty _),h|.d (.ref _),h|.d (.tup _),h|.l _,h|.r _,h=>h
def NL (sp:Sp3):Sp3:=fun ss R U=>sp ss R U/\∀s∈ss,s.nl=true
theorem O9 {K:W.Frag}{mg:Str->Option Value}{sp:Sp3}(hs:∀ss R U,sp ss R U->sp (ss.map S.wk) R U){vs:List V}{H:Hp}{Q:VK}{E:XK}(h:Ah K mg sp vs H Q E):Ah K mg (NL sp) vs H Q E:=by
 obtain⟨z,ss,R,U,hz,⟨hl,ha⟩,h3,q⟩:=h
 refine#[z,ss.map S.wk,R,U,hz,#[by rw[qAa];exact hl,fun i v s hv h=>?_],#[hs _ _ _ h3,fun s h=>?_],q]
 .rw[qAe] at h
  obtain⟨t,e,rfl⟩:=Option.map_eq_some_iff.mp h
  have:=ha i v t hv e
  exact#[XD hz _ this.1,(VQ t).trans this.2]
 .obtain⟨t,_,rfl⟩:=qA5.mp h
  exact U8 t
section
variable {P:Program}{w:World}{K:W.Frag}{mg:Str->Option Value}{base:Heap}{f:Addr}{fd:FuncData}{ps:List Str}{k:Nat}
theorem fnW {CX:CXT}{sp:Sp3}(hs:∀ss R U,sp ss R U->sp (ss.map S.wk) R U) (F:Az P w K mg base CX k f fd ps (Ah K mg (NL sp))):Az P w K mg base CX k f fd ps (Ah K mg sp):=F.imp fun _ _ _ _=>O9 hs
theorem Y1 {kl:Nat}{sp:SpL}(hs:∀a d p ss R U,sp a d p ss R U->sp a d p (ss.map S.wk) R U) (F:Ob P w K mg base k kl f fd ps (fun a d p=>NL (sp a d p))):Ob P w K mg base k kl f fd ps sp :=
 #[fun a d p ss R U h=>by have:=F.len a d p _ R U #[hs _ _ _ _ _ _ h,fun s h=>by obtain⟨t,_,rfl⟩:=qA5.mp h;exact U8 t];rw[qAa] at this;exact this,
  fun A outer s H args us vs Q E a d p hr e0 hb rv hL hh=>F.run A outer s H args us vs Q E a d p hr e0 hb rv hL (O9 (hs a d p) hh)]
end
section
variable {X:Cx}{e a b:Expr}{es:List Expr}{te ta tb:TE3}{tr:TA3}{pos:Pos}
theorem vN (i:Nat){x:Str}(hN:X.N[i]? = some x:=by rfl) (hv:Vis X.env.scope x:=by first|exact Or.inl rfl|exact Or.inr (Or.inl rfl)|exact Or.inr (Or.inr rfl)) (hd:(x==("__debug__":Str))=false:=by decide) (hcd:(x==("__classdict__":Str))=false:=by decide):PE3 X (.Name x pos) (Wz i):=Xq (pv i hN hv hd hcd)
theorem vK (i:Nat){x:Str}{n:Int}{j:Nat}{p q:Pos}(hN:X.N[i]? = some x:=by rfl) (hv:Vis X.env.scope x:=by first|exact Or.inl rfl|exact Or.inr (Or.inl rfl)|exact Or.inr (Or.inr rfl)) (hd:(x==("__debug__":Str))=false:=by decide) (hcd:(x==("__classdict__":Str))=false:=by decide):PE3 X (.Subscript (.Name x p) (.Constant (.int n) j q) pos) (vIx (Wz i) (vC (.int n))):=AW (vN i hN hv hd hcd) Ac
theorem a1 (ha:PE3 X e te)(hs:starEach [e] X.env=(false,eval e X.env)::starEach [] X.env:=by exact CM rfl):PA3 X [e] (Qp te WA):=AV ha L8 hs
theorem a2 (ha:PE3 X a ta)(hb:PE3 X b tb)(h1:starEach [a,b] X.env=(false,eval a X.env)::starEach [b] X.env:=by exact CM rfl)(h2:starEach [b] X.env=(false,eval b X.env)::starEach [] X.env:=by exact CM rfl):PA3 X [a,b] (Qp ta (Qp tb WA)):=AV ha (AV hb L8 h2) h1
theorem Iz {k k':Nat}{x:Str}{ps:List Str}{sp:Sp3}{p:Pos}{U:Str->Prop}(xo:TY X U) (hr:E4 k' X.A) (c:Cal X.prog X.w X.K X.mg X.base (CXU X.prog X.w) k x ps sp) (ha:PA3 X (e::es) tr) (hk:k<=k':=by decide) (hg:Gl X x:=by exact rfl)
 (hdb:(x==("__debug__":Str))=false:=by decide) (he:starEach (e::es) X.env=(false,eval e X.env)::starEach es X.env:=by exact CM rfl) (hpl:(backTo pos (starEach es X.env)).any (·.1)=false:=by exact D5 rfl) (hl:X.lent=none\/∀y,¬U y:=by first|exact .inl rfl|exact .inr (fun _ z=>z)) :
 PE3 X (.Call (.Name x p) (e::es) [] pos) (Qd U sp tr):=PV xo c (hr.mono hk) hg ha hdb he hpl hl
theorem Aq {k k':Nat}{x:Str}{ps:List Str}{sp:Sp3}{p:Pos}(hr:E4 k' X.A) (c:Cal X.prog X.w X.K X.mg X.base (CXU X.prog X.w) k x ps sp) (ha:PA3 X (e::es) tr) (hk:k<=k':=by decide) (hg:Gl X x:=by exact rfl)
 (hdb:(x==("__debug__":Str))=false:=by decide) (he:starEach (e::es) X.env=(false,eval e X.env)::starEach es X.env:=by exact CM rfl) (hpl:(backTo pos (starEach es X.env)).any (·.1)=false:=by exact D5 rfl) :
 PE3 X (.Call (.Name x p) (e::es) [] pos) (Qd NoU sp tr):=PV T9 c (hr.mono hk) hg ha hdb he hpl (.inr fun _ z=>z)
theorem Co {p:Pos}(hm:X.mg "len"=none) (ha:PE3 X e te) (hg:Gl X "len":=by exact rfl) (he:starEach [e] X.env=(false,eval e X.env)::starEach [] X.env:=by exact CM rfl) (hpl:(backTo pos (starEach [] X.env)).any (·.1)=false:=by exact D5 rfl) :
 PE3 X (.Call (.Name "len" p) [e] [] pos) (vCB Xp (Qp te WA)):=Hs XI hg hm PySem.boot_len (AV ha L8 he) ∅ ∅ he hpl
theorem AH (i:Nat){x:Str}{pos':Pos}{ps:List Str}{sc:Scope}(O:Ad X.N ps sc) (he:PE3 X e te) (hi:X.N[i]? = some x:=by rfl) (hx:Loc X.env.scope x:=by first|exact Or.inl rfl|exact Or.inr rfl) (hs:swapsWith e (some (.Name x pos')) pos.line X.env=pure false:=by rfl) (hf:X.fn x=true\/X.env.scope.names.lookup x=some .local:=by first|exact .inl rfl|exact .inr rfl|assumption) (hp:Di X i:=by first|exact Cv rfl|exact Cr rfl ∅|assumption) :
 PS3 X (.Assign [.Name x pos'] e pos) (WB i te):=WL O.nd hi hx he hs hf hp
theorem Bf (he:PE3 X e te):DP X [.Return (some e) pos] (X1 te):=Ag (W2 he)
theorem BV {op:CmpOp}{r3:R3}(ho:Js X (compareOp op) r3) (ha:PE3 X a ta) (hb:PE3 X b tb) (hm:behindInMarks op b=false:=by exact HF _):PT3 X (.Compare a [op] [b] pos) (Uh (vOp r3 ta tb)):=Xs ho ha hb hm
end
theorem scN {N P:List Str}{sc:Scope}(h1:(sc.kind=.function/\sc.isCoroutine=false/\sc.isGenerator=false):=by exact#[rfl,rfl,rfl]) (h2:N.take P.length=P:=by rfl) (h3:N.Nodup/\(∀x∈P,sc.names.lookup x=some .local\/sc.names.lookup x=some .cell)/\∀y∈sc.names,y.2≠.free:=by decide +kernel):Ad N P sc:=#[h1.1,h1.2.1,h1.2.2,h3.1,h2,h3.2.1,h3.2.2]
def Bnd (st:Stmt)(n:Str)(ps:List Str):Prop:=∀(kV doc pm:Value)(an:Option Addr)(cdv ct:Value)(us:List Value),us.length=ps.length->bindArgs (W.fnOf n n (Gg st) (Cp st) (Ab st) .none kV doc pm an cdv ct) #[us,[]]=pure (ps.zip us)
section
variable {P:Program}{w:World}{K:W.Frag}{mg:Str->Option Value}{base h:Heap}
theorem mkC (X:K.In h)(G:h.Ns mainGlobals mg){n:Str}{st:Stmt}(r:Rw K n st){k:Nat}{ps:List Str}{sp:Sp3}(ok:∀{f:Addr}{fd:FuncData},Fun K n n st f fd->rA K n f->Az P w K mg base (CXU P w) k f fd ps (Ah K mg sp))
 (hb:Bnd st n ps:=by(intro _ _ _ _ _ _ us hl;first|(obtain⟨x0,rfl⟩:=SX hl;rfl)|(obtain⟨x0,x1,rfl⟩:=Te hl;rfl)|(obtain⟨x0,x1,x2,rfl⟩:=SK hl;rfl)|(obtain⟨x0,x1,x2,x3,rfl⟩:=TM hl;rfl))):Cal P w K mg base (CXU P w) k n ps sp:=by
 obtain⟨a,l,c,k⟩:=r
 have F:=MH (st:=st) l c k
 exact#[#[_,_,ok F a,qAX X G a,k,F.binds hb]]
theorem mkL (X:K.In h)(G:h.Ns mainGlobals mg){n:Str}{st:Stmt}(r:Rw K n st){k kl:Nat}{ps:List Str}{sp:SpL}(ok:∀{f:Addr}{fd:FuncData},Fun K n n st f fd->rA K n f->Ob P w K mg base k kl f fd ps sp)
 (hb:Bnd st n ps:=by(intro _ _ _ _ _ _ us hl;first|(obtain⟨x0,rfl⟩:=SX hl;rfl)|(obtain⟨x0,x1,rfl⟩:=Te hl;rfl)|(obtain⟨x0,x1,x2,rfl⟩:=SK hl;rfl)|(obtain⟨x0,x1,x2,x3,rfl⟩:=TM hl;rfl))):Xv P w K mg base k kl n ps sp:=by
 obtain⟨a,l,c,k⟩:=r
 have F:=MH (st:=st) l c k
 exact#[#[_,_,ok F a,qAX X G a,k,F.binds hb]]
end
section
variable {X:Cx}{e a b:Expr}{te ta tb:TE3}{pos:Pos}
def Yd (i:Nat)(te:TE3):TS3:=fun D3 τ=>match τ[i]? with
 |some (some (S.d (D.int n)))=>te τ fun s=>dd s fun d=>match d with
  |.int j=>D3.nx (τ.set i (some (.d (.int (n+j)))))
  |_=>False
 |_=>False
theorem Lp {i:Nat}{x:Str}{px:Pos}(hN:X.N.Nodup) (hi:X.N[i]? = some x) (hx:Loc X.env.scope x) (he:PE3 X e te) (hf:X.fn x=true\/X.env.scope.names.lookup x=some .local:=by first|exact .inl rfl|exact .inr rfl|assumption) (hp:Di X i:=by first|exact Cv rfl|exact Cr rfl ∅|assumption) :
 PS3 X (.AugAssign (.Name x px) .Add e pos) (Yd i te):=#[Cm (Vj hN hi hx he.out VT hf) fun D2 σ H hh=>by
 obtain⟨B,z,τ,D3,r,ht,c⟩:=hh
 unfold Yd at ht
 split at ht
 .rename_i n hs
  obtain⟨v,h1,h2⟩:=r.val i _ hs
  have ev:v=.int n:=Is.int_inv h2
  subst ev
  refine#[.int n,h1,B,_,τ,_,r,ht,fun s v q1 e1 i1 f1 h3=>?_]
  obtain⟨d,rfl,h4⟩:=FY h3
  split at h4
  .rename_i j
   have ev:v=.int j:=Is.int_inv i1
   subst ev
   refine#[n,j,rfl,rfl,?_]
   exact c.nx _ _ _ ((r.mono e1).setd (.int (n+j)) hp) h4
  .exact h4.elim
 .exact ht.elim]
def YK (r3:R3)(ta tb:TE3):TE3:=fun τ R=>ta τ fun x=>tb τ fun y=>dd x.arg fun dx=>dd y.arg fun dy=>r3 dx dy fun d=>R (.d d)
theorem RJ {op:Operator}{r3:R3}(ho:Js X (binaryOp op) r3) (ha:PE3 X a ta) (hb:PE3 X b tb):PE3 X (.BinOp a op b pos) (YK r3 ta tb):=#[BO (Uy ho ha.out hb.out) fun σ H Q hh=>by
 obtain⟨B,z,τ,R,r,ht,q⟩:=hh
 refine#[B,z,τ,_,r,ht,fun s v q1 e1 i1 f1 h1=>?_]
 obtain⟨z1,e1',i1'⟩:=Fs e1 i1 f1
 refine#[B,z1,τ,_,r.mono e1',h1,fun s2 v2 q2 e2 i2 f2 h2=>?_]
 obtain⟨z2,e2',i2'⟩:=Fs e2 i2 f2
 obtain⟨dx,ex,h2⟩:=FY h2
 obtain⟨dy,ey,h2⟩:=FY h2
 rw[ex] at i1'
 rw[ey] at i2'
 refine#[z2,dx,dy,_,e2'.sub,(show Is X.K z1 v dx from i1').mono e2'.zz,i2',h2,fun d w q3 e3 i3 h3=>?_]
 exact q (.d d) w q3 (e1'.trans (e2'.trans e3)) i3 F8 h3]
end
def Ite (K:W.Frag)(a:Addr):It :=
 #[fun i H=>∃xs x,SqL K H a xs/\xs[i]? = some x,fun i H x H'=>∃p y,H p=none/\x=.ref p/\(∀xs,SqL K H a xs->xs[i]? = some y)/\H'=upd H p (.tup [.int i,y]),fun i H=>∃xs,SqL K H a xs/\xs.length<=i]
theorem OA {P:Program}{w:World}{K:W.Frag}{elts:List Expr}{x1:Nat}{tpos:Pos}(a e it:Addr) (hne:e≠it):Qv P w K (.Tuple elts x1 tpos) (Ite K a) [e,it] e (fun i h=>(∃old,IsEnum h e it ((i:Nat):Int) old)/\h.IsListIter it a i) where
 mem:=by simp
 obj:=fun i h st b hb=>by
  obtain⟨⟨old,he⟩,hi⟩:=st
  rcases qAo.mp hb with rfl|hb
  .exact#[_,he,fun v z=>by cases z]
  .have:b=it:=by simpa using hb
   subst this
   obtain⟨o,e1,c,d⟩:=hi
   exact#[o,e1,fun v z=>by rw[d] at z;cases z]
 keep:=fun i h h' st k=>#[let #[old,he]:=st.1;#[old,k e (by simp) _ he],st.2.at fun o e1=>k it (by simp) o e1]
 item:=by
  intro X hP hw hK hc i pins s σ H E I hf st hg
  subst hP hw hK
  obtain⟨xs,x,hq,hx⟩:=hg
  obtain⟨its,rv,p,hz⟩:=I.list hq
  obtain⟨u,hu,ru⟩:=rv.get hx
  obtain⟨⟨old,he⟩,hi⟩:=st
  obtain⟨f0,f1,f2,f3,f4,f5⟩:=hf e (by simp)
  obtain⟨g0,g1,g2,g3,g4,g5⟩:=hf it (by simp)
  refine wpAny_pyNext_enum_item he hi p.isList (x:=u) (by simpa using hu) hne fun h1 heo hit1 ht1 hz1 hk1=>#[_,rfl,wpAny_letOwnedTupleGo_enum (s:={ s with heap:=h1,toks:=s.toks+1 }) heo fun h2 he2 hs2=>?_]
  have hs2':Heap.SameBut e h1 h2:=hs2
  have el:e<s.heap.objs.size:=qAh he
  have sz:s.heap.objs.size≠e:=qBg el
  have hn:H s.heap.objs.size=none:=I.hok.fresh (qAc _)
  have old2:∀b o,b≠e->b≠it->s.heap.get? b=some o->h2.get? b=some o:=fun b o n1 n2 z=>(hs2'.2 b n1).trans (hk1 b o n1 n2 z)
  have tup2:h2.get? s.heap.objs.size=some { cls:=.type "tuple",data:=.seq (List.toArray [.int i s.toks,u]) }:=(hs2'.2 _ sz).trans ht1
  have trk:∀{b:Addr}{o:HO},H b=some o->b≠e/\b≠it:=fun {b o} z=>#[(fun y=>by rw[y,f0] at z;cases z),(fun y=>by rw[y,g0] at z;cases z)]
  have hok2:HOk X.prog X.w (upd H s.heap.objs.size (.tup [.int i,x])) h2:=fun b o z=>by
   by_cases hb:b=s.heap.objs.size
   .subst hb
    rw[Au] at z
    cases z
    exact#[by show 2<=sizeLine;decide,[.int i s.toks,u],.cons #[_,rfl] (.cons ru .nil),#[_,tup2,rfl,_,rfl]]
   .rw[Al hb] at z
    refine(I.hok b o z).stay (hf:=fun c w1 w2 y=>by rw[Al (Ap y hn)];exact y) (fun c v hc' y=>?_) (fun c y=>by rw[Al (Ap y hn)];exact y) fun c ys y=>by rw[Al (Ap y hn)];exact y
    have t:c≠e/\c≠it:=by
     rcases hc' with rfl|hc'
     .exact trk z
     .exact trk hc'
    exact old2 c v t.1 t.2 y
  have I2:Inv X pins σ (upd H s.heap.objs.size (.tup [.int i,x])) { s with heap:=h2,toks:=s.toks+1 }:=by
   refine I.step (g':=s.gens) (d':=s.drawn) (ch:=[e,it]) (fun b hb=>?_) (fun b o _ _ hb z _=>old2 b o (fun y=>hb (by simp[y])) (fun y=>hb (by simp[y])) z) (fun b o _ _ hb z _=>#[o.slots,old2 b o (fun y=>hb (by simp[y])) (fun y=>hb (by simp[y])) z])
    (fun b o _ z n=>by rw[Al (qAw (qAh z))];exact n) (fun b o hb z=>#[o,old2 b o (fun y=>hb (by simp[y])) (fun y=>hb (by simp[y])) z])
    (fun b ys y=>by rw[Al (Ap y hn)];exact y) (fun b o ys y=>by rw[Al (Ap y hn)];exact y) (fun b ps y=>#[(List.toArray []),by rw[Al (Ap y hn),y];simp]) (fun m hm=>?_) hok2 I.bare
   .rcases qAo.mp hb with rfl|hb
    .exact#[f3,f1,f4,f5]
    .have:b=it:=by simpa using hb
     subst this
     exact#[g3,g1,g4,g5]
   .obtain⟨o,es,ep,ho,r⟩:=hm
    exact#[o,es,ep,old2 _ o (Ne.symm f1) (Ne.symm g1) ho,r]
  refine#[.ref s.heap.objs.size,_,I2,rfl,#[_,x,hn,rfl,fun ys hy=>by rw[I.list_inj hy hq];exact hx,rfl],#[#[u,?_],hit1.extBut hs2'.extBut (Ne.symm hne)],fun b hb=>?_]
  .have:((i+1:Nat):Int)=(i:Int)+1:=()
   rw[this]
   exact he2
  .rcases qAo.mp hb with rfl|hb
   .rw[Al (Ne.symm sz)];exact f0
   .have:b=it:=by simpa using hb
    subst this
    obtain⟨o,e1,_⟩:=hi
    rw[Al (qAw (qAh e1))]
    exact g0
 done:=by
  intro X hP hw hK hc i pins s σ H E I hf st hg
  subst hP hw hK
  obtain⟨xs,hq,hx⟩:=hg
  obtain⟨its,rv,p,hz⟩:=I.list hq
  obtain⟨⟨old,he⟩,hi⟩:=st
  obtain⟨g0,g1,g2,g3,g4,g5⟩:=hf it (by simp)
  refine wpAny_pyNext_enum_end (I.ok.hd hc) he hi p.isList (by rw[qBJ];rw[qAO,<-rv.length];exact hx) fun h' hx'=>#[rfl,?_]
  exact I.turned (t':=s.toks) (fun b o hb z=>hx' b o hb z) g0 g1 g3 g4 g5
 self:=fun A i s Q E st h=>by
  obtain⟨⟨old,he⟩,_⟩:=st
  exact wpAny_pyIter_enum he h
section
variable {X:Cx}{pos:Pos}
def U6 (K:W.Frag)(tl:TE):TI:=fun σ H R=>tl σ H fun x H1=>∃a,x=.ref a/\(∃xs,Rd H1 a (.lst xs))/\R (Ite K a) H1
theorem Pu {elts:List Expr}{x1:Nat}{tpos p:Pos}{l:Expr}{tl:TE}(hg:Gl X "enumerate") (hm:X.mg "enumerate"=none) (hl:PE X l tl) (hs:starEach [l] X.env=[(false,eval l X.env)]:=by rfl):PI X (.Tuple elts x1 tpos) (.Call (.Name "enumerate" p) [l] [] pos) (U6 X.K tl):=by
 intro pins s σ H R I h
 refine Call_ (G1 I hg hm PyProof.Rows.boot_enumerate (qA0 ?_ hs rfl))
 rw[hs]
 refine Calls.spliced_cons (thn (hl pins s σ H _ I h) fun v s1 #[x,H1,I1,r1,q1]=>Calls.spliced_nil ?_)
 obtain⟨a,e,⟨xs,hq⟩,q⟩:=q1
 subst e
 cases r1
 obtain⟨_,its,n,rv,ho⟩:=hq.ok I1.hok
 refine call_enumerate_1 (items:=its.toArray) (n:=n) ho fun h' he hit hz old=>?_
 have I2:Inv X pins σ H1 { s1 with heap:=h' }:=I1.kept (t':=s1.toks) old
 refine wpAny_pyIter_enum (s:={ s1 with heap:=h' }) he ?_
 refine#[s1.heap.objs.size+1,[s1.heap.objs.size+1,s1.heap.objs.size],_,_,H1,rfl,I2,OA a (s1.heap.objs.size+1) s1.heap.objs.size (Nat.succ_ne_self _),#[#[_,he],hit],fun b hb=>?_,q]
 rcases qAo.mp hb with rfl|hb
 .exact I1.fpOk (qCv _) (I1.hok.fresh (qCv _))
 .have:b=s1.heap.objs.size:=by simpa using hb
  subst this
  exact I1.fpOk (qAc _) (I1.hok.fresh (qAc _))
def Wg (i1 i2:Nat)(xs:List D)(tb:TS3)(D3:JB)(τ0:Tau):Prop:=∃I:Nat->Tau->Prop,I 0 τ0 /\
 (∀n τ x,xs[n]? = some x->I n τ->tb { D3 with nx:=I (n+1),ct:=I (n+1),bk:=D3.nx } ((τ.set i1 (some (.d (.int n)))).set i2 (some (.d x))))/\∀τ,I xs.length τ->D3.nx τ
def Wm (j i1 i2:Nat)(tb:TS3):TS3:=fun D3 τ=>match τ[j]? with
 |some (some (.l xs))=>Wg i1 i2 xs tb D3 (τ.set j (some (.r xs)))
 |_=>False
theorem Sn {j i1 i2:Nat}{x1 x2 y:Str}{p1 p2 pt py pn pc:Pos}{kt:Nat}{body:List Stmt}{tb:TS3}
 (h:PS X (.For (.Tuple [.Name x1 p1,.Name x2 p2] kt pt) (.Call (.Name "enumerate" pn) [.Name y py] [] pc) body [] pos) (Qx (U6 X.K (Ny j)) (UO X.K 2 (HJ (Dc i1) (HJ (Dc i2) UQ))) (FS X tb))) (hp1:Di X i1:=by first|exact Cv rfl|exact Cr rfl ∅|assumption) (hp2:Di X i2:=by first|exact Cv rfl|exact Cr rfl ∅|assumption) :
 PS3 X (.For (.Tuple [.Name x1 p1,.Name x2 p2] kt pt) (.Call (.Name "enumerate" pn) [.Name y py] [] pc) body [] pos) (Wm j i1 i2 tb):=#[Cm h fun D2 σ H hh=>by
 obtain⟨B,z,τ,D3,r,ht,c⟩:=hh
 unfold Wm at ht
 split at ht
 .rename_i xs hs
  obtain⟨v,h1,a,vs,rfl,h3,h4⟩:=r.val j _ hs
  have r':=r.freeze hs rfl
  obtain⟨I,i0,turn,out⟩:=ht
  have hno:∀(m:Nat)(ys:List D),(τ.set j (some (.r xs)))[m]? = some (some (S.l ys))->σ[m]?≠some (some (V.ref a)):=fun m ys hm hσ=>by
   rcases AN hm with⟨rfl,z⟩|⟨hn,hm'⟩
   .cases z
   .have hl:j<τ.length:=(qAg.mp hs).1
    exact r'.sep m j ys (.r xs) a hn hm (by rw[qBs hl]) rfl hσ h1
  have hB:SqL X.K (JM (τ.set j (some (.r xs))) σ H) a vs:=.inl (.inl (by rw[FJ hno];exact h3))
  refine#[.ref a,h1,a,rfl,#[vs,.inl h3],fun n m σ1 H1=>m=vs.length-n/\n<=vs.length/\∃z1 τ1,Rep X #[JM (τ.set j (some (.r xs))) σ H,z] τ1 σ1 #[H1,z1]/\I n τ1,#[vs.length,by simp,qA3 _,z,_,r'.inB,i0],?_]
  rintro n m σ1 H1 ⟨rfl,hn,z1,τ1,r1,ih1⟩
  have q:=r1.ext.hh.seq hB
  by_cases hlt:n<vs.length
  .refine .inr #[#[vs,vs[n],q,by simp[hlt]],fun σ' H'=>∃z' τ',Rep X #[JM (τ.set j (some (.r xs))) σ H,z] τ' σ' #[H',z']/\I (n+1) τ',fun σ' H' p'=>#[vs.length-(n+1),(),rfl,hlt,p'],fun x H' y=>?_]
   obtain⟨p,w,hp,rfl,hy,rfl⟩:=y
   have hw:=hy vs q
   obtain⟨d,hd,id⟩:=BU h4 hw
   have e1:Ext #[H1,z1] #[upd H1 p (.tup [.int n,w]),z1]:=Ext.own r1.ext.sub hp _
   have r2:=r1.mono e1
   refine#[p,[.int n,w],rfl,.inl (.inl Au),rfl,.int n,[w],rfl,w,[],rfl,rfl,?_]
   exact#[_,_,_,_,(r2.setd (i:=i1) (.int (n:Int)) hp1).setd (i:=i2) (id.mono r1.ext.zz) hp2,turn n τ1 d hd ih1,c.inB r'.leB fun τ' σ' p' r' h'=>#[p'.z,τ',r',h']]
  .have e:n=vs.length:=()
   subst e
   exact .inl #[#[vs,q,qAc _],c.nx _ _ _ (r1.outB r'.leB) (out τ1 (by rw[<-h4.1];exact ih1))]
 .exact ht.elim]
end
section
variable {X:Cx}
end
end L3
namespace CH
open PySem L2 L3
def qd (q:Rat):D:=.tup [.int q.num,.int (q.den:Int)]
abbrev tp (a b:Int):D:=.tup [.int a,.int b]
abbrev Cs:=List (Rat×Rat)
def cd (c:Rat×Rat):D:=.tup [qd c.1,qd c.2]
def tt (cs:Cs)(k:Nat):Rat:=(cs.getD k (0,0)).1
def vv (cs:Cs)(k:Nat):Rat:=(cs.getD k (0,0)).2
def slp (cs:Cs)(m:Rat)(k:Nat):Rat:=if k+1<cs.length then (vv cs (k+1)-vv cs k)/(tt cs (k+1)-tt cs k) else m
def Up (cs:Cs):Prop:=∀k,k+1<cs.length->tt cs k<tt cs (k+1)
def SzC (n:Nat)(cs:Cs):Prop:=∀k,k<cs.length->Sz n (tt cs k)/\Sz n (vv cs k)
theorem FD (p q:Rat):((p.num*(q.den:Int)-q.num*(p.den:Int):Int):Rat)=(p-q)*(((p.den:Int)*(q.den:Int):Int):Rat):=by
 have h1:=Fb p
 have h2:=Fb q
 rw[qAR,qAk,qAk,qAk,h1,h2]
 simp only[Rat.intCast_natCast]
 grind
theorem Qo {rn rd sn sd bn bd wn wd:Int}{r s b w:Rat}(h1:(rn:Rat)=r*rd) (h2:(sn:Rat)=s*sd) (h3:(bn:Rat)=b*bd) (h4:(wn:Rat)=w*wd) (p1:rd≠0) (p2:sd≠0) (p3:bd≠0) (p4:wd≠0) (hs:s≠0) (hw:w≠0) :
 rn*sd*bd*wn=bn*wd*rd*sn ↔ r/s=b/w:=by
 have q1:(rd:Rat)≠0:=fun z=>p1 (qAN.mp z)
 have q2:(sd:Rat)≠0:=fun z=>p2 (qAN.mp z)
 have q3:(bd:Rat)≠0:=fun z=>p3 (qAN.mp z)
 have q4:(wd:Rat)≠0:=fun z=>p4 (qAN.mp z)
 rw[<-qCj]
 simp only[qAk]
 rw[h1,h2,h3,h4]
 constructor
 .intro e
  have e2:r*w=b*s:=⋯
  grind
 .intro e
  have e2:r*w=b*s:=⋯
  grind
theorem OC {cs:Cs}{k:Nat}(h:k<cs.length):atI (cs.map cd) (k:Int)=some (.tup [qd (tt cs k),qd (vv cs k)]):=by
 refine atI_nat ?_
 rw[qAe,qAb h]
 unfold tt vv
 rw[qAd,qAb h]
 rfl
theorem atR {o:Option D}{d:D}{F:D->Prop}(e:o=some d) (h:F d):(match (generalizing:=false) o with|some d=>F d|none=>False):=by subst e;exact h
theorem BM {cs:Cs}{i:Int}(k:Nat) (hi:i=(k:Int)) (h:k<cs.length):atI (cs.map cd) i=some (.tup [qd (tt cs k),qd (vv cs k)]):=by subst hi;exact OC h
def L4 (k:Nat)(a b c d:Int):Prop:=a.natAbs<2^k/\b.natAbs<2^k/\c.natAbs<2^k/\d.natAbs<2^k
theorem l4 {k m:Nat}{p q:Rat}(hp:Sz m p) (hq:Sz m q) (h:m<=k):L4 k p.num p.den q.num q.den:=#[Ar hp.1 h,Ar (AB hp) h,Ar hq.1 h,Ar (AB hq) h]
def Lb (k:Nat)(a:Int):Prop:=a.natAbs<2^k
theorem l4m {p q:Rat}(h:L4 k p.num p.den q.num q.den):Lb (k+k+1) (p.num*(q.den:Int)-q.num*(p.den:Int))/\Lb (k+k+1) ((p.den:Int)*(q.den:Int)) :=
 #[DL (Aj h.1 h.2.2.2) (Aj h.2.2.1 h.2.1),Ar (Aj h.2.1 h.2.2.2) ()]
theorem BX {cs:Cs}{m:Rat}{k:Nat}(h:k+1<cs.length):slp cs m k=(vv cs (k+1)-vv cs k)/(tt cs (k+1)-tt cs k):=if_pos h
theorem Bb {cs:Cs}{m:Rat}{k:Nat}(h:¬k+1<cs.length):slp cs m k=m:=if_neg h
theorem PK (q:Rat):((q.num:Int):Rat)=q*(((q.den:Nat):Int):Rat):=by rw[Rat.intCast_natCast];exact Fb q
theorem dne (q:Rat):(q.den:Int)≠0:=by have:=q.den_pos;omega
theorem NC (q:Rat):q=q/1:=⋯
theorem E6 {a b:Rat}(h:a<b):b-a≠0:=⋯
theorem MK {k:Nat}(h:k≠0):(1:Int).natAbs<2^k:=Nat.one_lt_two_pow h
theorem VE:((1:Int):Rat)=1*((1:Int):Rat):=by simp
def crv (cs:Cs)(m:Rat):D:=.tup [.tup (cs.map cd),qd m]
structure Crv (cs:Cs)(m:Rat):Prop where
 ne:0<cs.length
 t0:tt cs 0=0
 v0:0<=vv cs 0
 m0:0<=m
 up:Up cs
 vu:∀k,k+1<cs.length->vv cs k<=vv cs (k+1)
 bend:∀k,k+1<cs.length->slp cs m k≠slp cs m (k+1)
structure SzK (n:Nat)(cs:Cs)(m:Rat):Prop where
 len:cs.length<=100000
 cs:SzC n cs
 m:Sz n m
theorem LC {q:Rat}(h:0<=q):¬q.num<0:=by have:=Rat.num_nonneg.mpr h;omega
theorem V8 {p q:Rat}(h:p<q):p.num*(q.den:Int)<q.num*(p.den:Int):=(lt_iff p q).mpr h
theorem Oe {p q:Rat}(h:p<=q):¬q.num*(p.den:Int)<p.num*(q.den:Int):=fun z=>absurd ((lt_iff q p).mp z) (qAM.mpr h)
theorem Jc {cs:Cs}{n:Nat}{x:D}(h:(cs.map cd)[n]? = some x):n<cs.length/\x=.tup [qd (tt cs n),qd (vv cs n)]:=by
 have hl:n<cs.length:=by
  have:=(qAg.mp h).1
  rwa [qAa] at this
 have a:=OC hl
 rw[show atI (cs.map cd) (n:Int)=(cs.map cd)[n]? from ?_,h] at a
 .exact#[hl,qAl a]
 .rw[h]
  exact atI_nat h
def kp (cs:Cs)(m:Rat):Nat->Cs
 |0=>[(tt cs 0,vv cs 0)]
 |n+1=>if slp cs m n=slp cs m (n+1) then kp cs m n else kp cs m n++[(tt cs (n+1),vv cs (n+1))]
theorem NQ {cs:Cs}{m:Rat}{n:Nat}(h:¬slp cs m n=slp cs m (n+1)):kp cs m (n+1)=kp cs m n++[(tt cs (n+1),vv cs (n+1))]:=if_neg h
theorem Hd {cs:Cs}{m:Rat}{n:Nat}(h:slp cs m n=slp cs m (n+1)):kp cs m (n+1)=kp cs m n:=if_pos h
theorem Jq (cs:Cs)(m:Rat):∀n,(kp cs m n).length<=n+1
 |0=>qAc _
 |n+1=>by
  have:=Jq cs m n
  by_cases h:slp cs m n=slp cs m (n+1)
  .rw[Hd h];omega
  .rw[NQ h,qAn];simp;omega
theorem Oj {L M:Cs}{k:Nat}(h:k<L.length):tt (L++M) k=tt L k:=by
 unfold tt;rw[qAd,qAd,qAv h]
theorem Qy {L M:Cs}{k:Nat}(h:k<L.length):vv (L++M) k=vv L k:=by
 unfold vv;rw[qAd,qAd,qAv h]
theorem SQ {L:Cs}{c:Rat×Rat}:tt (L++[c]) L.length=c.1:=by
 unfold tt;rw[qAd,qAz (qAc _)];simp
theorem Wi {L:Cs}{c:Rat×Rat}:vv (L++[c]) L.length=c.2:=by
 unfold vv;rw[qAd,qAz (qAc _)];simp
theorem CW {L:Cs}{c:Rat×Rat}:(L++[c]).length=L.length+1:=by simp
theorem G4 {L:Cs}{c:Rat×Rat}{M M':Rat}{i:Nat}(hi:i<L.length) (h:(c.2-vv L (L.length-1))/(c.1-tt L (L.length-1))=M):slp (L++[c]) M' i=slp L M i:=by
 rw[BX (by rw[CW];omega)]
 by_cases e:i+1<L.length
 .rw[BX e,Oj e,Oj hi,Qy e,Qy hi]
 .rw[Bb e,Oj hi,Qy hi]
  have e':i+1=L.length:=()
  rw[e',SQ,Wi,show i=L.length-1 from ()]
  exact h
theorem Kw {L:Cs}{c:Rat×Rat}{M':Rat}:slp (L++[c]) M' L.length=M':=Bb (by rw[CW];omega)
structure Ord (cs:Cs):Prop where
 ne:0<cs.length
 t0:tt cs 0=0
 v0:0<=vv cs 0
 up:Up cs
 vu:∀k,k+1<cs.length->vv cs k<=vv cs (k+1)
theorem Ord.snoc {L:Cs}{c:Rat×Rat}(h:Ord L) (ht:tt L (L.length-1)<c.1) (hv:vv L (L.length-1)<=c.2):Ord (L++[c]):=by
 have n:=h.ne
 refine#[by rw[CW];omega,by rw[Oj n];exact h.t0,by rw[Qy n];exact h.v0,fun k hk=>?_,fun k hk=>?_]
 all_goals
  rw[CW] at hk
  by_cases e:k+1<L.length
 .rw[Oj e,Oj ()];exact h.up k e
 .have e':k+1=L.length:=()
  rw[e',SQ,Oj (),show k=L.length-1 from ()];exact ht
 .rw[Qy e,Qy ()];exact h.vu k e
 .have e':k+1=L.length:=()
  rw[e',Wi,Qy (),show k=L.length-1 from ()];exact hv
theorem Ord.one {v:Rat}(h:0<=v):Ord [(0,v)]:=#[qCK,rfl,h,fun k hk=>by simp at hk,fun k hk=>by simp at hk]
structure YZ (cs:Cs)(m:Rat)(n:Nat)(L:Cs):Prop where
 ord:Ord L
 bend:∀k,k+1<L.length->slp L (slp cs m n) k≠slp L (slp cs m n) (k+1)
 at_:∃j,j<=n/\tt L (L.length-1)=tt cs j/\vv L (L.length-1)=vv cs j/\vv cs n-vv cs j=slp cs m n*(tt cs n-tt cs j)/\tt cs j<=tt cs n/\vv cs j<=vv cs n
theorem seg {a b x y z v w s:Rat}(h1:w-v=s*(b-a)) (h2:(x-w)/(y-b)=s) (h3:b<y):x-v=s*(y-a):=by
 have h4:y-b≠0:=E6 h3
 have h5:x-w=s*(y-b):=⋯
 grind
theorem Nq {x y s:Rat}(h:x=s*y) (hy:y≠0):x/y=s:=⋯
theorem KL {cs:Cs}{m:Rat}(o:Ord cs):∀n,n<cs.length->YZ cs m n (kp cs m n)
 |0,h=>#[by
  have e:kp cs m 0=[(0,vv cs 0)]:=by show [(tt cs 0,vv cs 0)]=_;rw[o.t0]
  rw[e];exact Ord.one o.v0,fun k hk=>by simp[kp] at hk,0,qAc _,rfl,rfl,⋯,qAi,qAi]
 |n+1,h=>by
  obtain⟨ko,kb,j,hj,ht,hv,hs,tn,vn⟩:=KL o n ()
  have u:=o.up n h
  have w:=o.vu n h
  have sn:=BX (m:=m) h
  have g:vv cs (n+1)-vv cs j=slp cs m n*(tt cs (n+1)-tt cs j):=seg (z:=0) hs sn.symm u
  by_cases e:slp cs m n=slp cs m (n+1)
  .rw[Hd e]
   exact#[ko,e ▸ kb,j,(),ht,hv,e ▸ g,⋯,⋯]
  .rw[NQ e]
   have lt:tt cs j<tt cs (n+1):=⋯
   have sl:(vv cs (n+1)-vv (kp cs m n) ((kp cs m n).length-1))/(tt cs (n+1)-tt (kp cs m n) ((kp cs m n).length-1))=slp cs m n:=by
    rw[ht,hv];exact Nq g (E6 lt)
   have nl:=ko.ne
   refine#[ko.snoc (by rw[ht];exact lt) (by rw[hv];grind),fun k hk=>?_,n+1,qAc _,?_,?_,⋯,qAi,qAi]
   .rw[CW] at hk
    by_cases e1:k+1<(kp cs m n).length
    .rw[G4 (c:=(tt cs (n+1),vv cs (n+1))) () sl,G4 (c:=(tt cs (n+1),vv cs (n+1))) e1 sl]
     exact kb k e1
    .have e2:k+1=(kp cs m n).length:=()
     rw[G4 (c:=(tt cs (n+1),vv cs (n+1))) () sl,Bb e1,e2,Kw]
     exact e
   .rw[CW,qBu,SQ]
   .rw[CW,qBu,Wi]
theorem GD {cs:Cs}{m:Rat}(o:Ord cs) (hm:0<=m):Crv (kp cs m (cs.length-1)) m:=by
 have n:=o.ne
 have k:=KL (m:=m) o (cs.length-1) ()
 have e:slp cs m (cs.length-1)=m:=Bb ()
 exact#[k.ord.ne,k.ord.t0,k.ord.v0,hm,k.ord.up,k.ord.vu,by have b:=k.bend;rw[e] at b;exact b]
theorem Tc (b c L:Nat):min c L-min b L<=c-b:=by
 rcases Nat.le_total b L with h|h
 .rw[qBF h];exact Nat.sub_le_sub_right (Nat.min_le_left _ _) _
 .rw[qCE h,Nat.sub_eq_zero_of_le (Nat.min_le_right _ _)];exact qA3 _
theorem VD {b c:Int}{m:Nat}(hb:0<=b) (hc:b<=c) (h:m<=c.toNat-b.toNat):(m:Int)<=c-b:=()
theorem Vn {lo hi:Int}(c:lo<hi):lo<=(lo+hi)/2/\(lo+hi)/2<hi:=()
theorem Yl {a b c:Int}(h:b<c) (h2:a<=b):(b-a).toNat<(c-a).toNat:=()
theorem Yz {m lo:Int}{L:Nat}(h1:0<=lo) (h2:lo<=m){hi:Int}(h3:m<hi) (h4:hi<=L):m.toNat<L:=()
theorem XS (j:Nat):0+(j:Int)*1=(j:Int):=()
theorem QV (ns:List Int){b c:Int}(hb:0<=b) (hc:b<=c):∃ms:List Int,F0 (ns.map D.int) (some b) (some c)=ms.map D.int/\(ms.length:Int)<=c-b:=by
 refine#[(ns.drop (HT.sIx ns.length 0 (some b))).take (HT.sIx ns.length ns.length (some c)-HT.sIx ns.length 0 (some b)),?_,?_]
 .unfold F0
  rw[qAa,qCU,qB8]
 .have e1:HT.sIx ns.length 0 (some b)=min b.toNat ns.length:=if_neg ()
  have e2:HT.sIx ns.length ns.length (some c)=min c.toNat ns.length:=if_neg ()
  rw[e1,e2,qAQ]
  exact VD hb hc (qAL (Nat.min_le_left _ _) (Tc _ _ _))
theorem Em {lo st:Int}{n i:Nat}{x:D}(h:(UA lo st n)[i]? = some x):i<n/\x=.int (lo+i*st):=by
 have hl:i<n:=by
  have:=(qAg.mp h).1
  rwa [Bp] at this
 rw[Kx hl] at h
 exact#[hl,(qAl h).symm]
theorem fm {a m:Int}(h:0<m):0<=a.fmod m/\a.fmod m<m:=#[qB6 a h,qCy a h]
theorem Jb {a b c:Int}(hc:0<c) (h:a<b):Rat.divInt a c<Rat.divInt b c:=by
 have hc':(0:Rat)<(c:Rat):=qAY.mpr hc
 rw[qAx,qAx,Rat.div_lt_iff hc',qBk (fun z=>absurd (z ▸ hc') qBq)]
 exact qBH.mpr h
theorem Pe {a b c:Int}(hc:0<c) (h:a<=b):Rat.divInt a c<=Rat.divInt b c:=by
 by_cases e:a=b
 .rw[e];exact qAi
 .exact qAp (Jb hc ())
theorem GB {a c:Int}(hc:0<c) (h:0<=a):0<=Rat.divInt a c:=(Rat.divInt_nonneg_iff_of_pos_right hc).mpr h
theorem SzC.snoc {n:Nat}{L:Cs}{c:Rat×Rat}(h:SzC n L) (h1:Sz n c.1) (h2:Sz n c.2):SzC n (L++[c]):=fun k hk=>by
 rw[CW] at hk
 by_cases e:k<L.length
 .rw[Oj e,Qy e];exact h k e
 .rw[show k=L.length from (),SQ,Wi];exact#[h1,h2]
theorem SzC.mono {n m:Nat}{L:Cs}(h:SzC n L) (hk:n<=m):SzC m L:=fun k hl=>#[(h k hl).1.mono hk,(h k hl).2.mono hk]
theorem FC {ms:List Int}{i:Int}(k:Nat) (hi:i=(k:Int)) (h:k<ms.length):atI (ms.map D.int) i=some (.int (cell ms k)):=by
 subst hi
 exact MV () ()
theorem Jd {a b:Int}{k:Nat}(hb:0<b) (h1:a.natAbs<2^k) (h2:b.natAbs<2^k):Sz k (Rat.divInt a b):=Es () h1 h2
theorem rs2 (M:Int):Builtin.Range.rangeSize 0 M 2=if 0<M then (M-0-1)/2+1 else 0:=rfl
theorem U1 {M:Int}(h0:-1000<=M) (h1:M<=1000):((2:Int)≠0/\(2:Int).natAbs<1073741824/\Builtin.Range.small 0 M 2=true/\0<=Builtin.Range.rangeSize 0 M 2)/\∀n:Nat,n<(Builtin.Range.rangeSize 0 M 2).toNat->(n:Int)*2<M:=by
 have hS:=rs2 M
 refine#[#[nz2,∅,?_,by rw[hS];split<;>omega],fun n hn=>?_]
 .unfold Builtin.Range.small
  rw[hS]
  simp only[Builtin.Range.rangeFitsLong,qAV,Bool.or_eq_true,decide_eq_true_eq,beq_iff_eq,show(2:Int)>0 from ∅,if_true]
  split<;>omega
 .rw[hS] at hn
  split at hn<;>omega
theorem Ti {cs:Cs}{m:Rat}{n:Nat}(h:SzC n cs):∀k,k<cs.length->SzC n (kp cs m k)
 |0,hk=>fun i hi=>by
  have:i=0:=by simp[kp] at hi;omega
  subst this
  exact h 0 hk
 |k+1,hk=>by
  have ih:=Ti (m:=m) h k ()
  by_cases e:slp cs m k=slp cs m (k+1)
  .rw[Hd e];exact ih
  .rw[NQ e];exact ih.snoc (h (k+1) hk).1 (h (k+1) hk).2
def plc (cs:Cs)(t:Rat):Nat->Nat
 |0=>0
 |n+1=>if t<tt cs n then plc cs t n else n
theorem JQ {cs:Cs}{t:Rat}(h:0<cs.length):∀n,n<=cs.length->plc cs t n<cs.length
 |0,_=>h
 |n+1,hn=>by
  unfold plc
  split
  .exact JQ h n ()
  .omega
def val (cs:Cs)(m t:Rat):Rat:=vv cs (plc cs t cs.length)+slp cs m (plc cs t cs.length)*(t-tt cs (plc cs t cs.length))
structure Wq (k:Nat)(a b:Int)(q:Rat):Prop where
 pos:0<b
 eq:(a:Rat)=q*b
 la:Lb k a
 lb:Lb k b
theorem Wq.mono {k n:Nat}{a b:Int}{q:Rat}(h:Wq k a b q) (hk:k<=n):Wq n a b q:=#[h.pos,h.eq,Ar h.la hk,Ar h.lb hk]
theorem Wq.of {k:Nat}{q:Rat}(h:Sz k q):Wq k q.num q.den q:=#[by have:=den_pos q;omega,PK q,h.1,AB h]
theorem Wq.minus {k:Nat}{a b c d:Int}{p q:Rat}(h:Wq k a b p) (g:Wq k c d q):Wq (k+k+1) (a*d-c*b) (b*d) (p-q):=by
 refine#[qAU h.pos g.pos,?_,DL (Aj h.la g.lb) (Aj g.la h.lb),Ar (Aj h.lb g.lb) ()]
 rw[qAR,qAk,qAk,qAk,h.eq,g.eq]
 grind
theorem Wq.mul {k n:Nat}{a b c d:Int}{p q:Rat}(h:Wq k a b p) (g:Wq n c d q):Wq (k+n) (a*c) (b*d) (p*q):=by
 refine#[qAU h.pos g.pos,?_,Aj h.la g.la,Aj h.lb g.lb]
 rw[qAk,qAk,h.eq,g.eq]
 grind
theorem Wq.inv {k:Nat}{a b:Int}{q:Rat}(h:Wq k a b q) (hq:0<q):0<a/\Wq k b a (1/q):=by
 have hb:(0:Rat)<(b:Rat):=qAY.mpr h.pos
 have ha:(0:Rat)<(a:Rat):=by rw[h.eq];exact qBx hq hb
 have ha':0<a:=qAY.mp ha
 have q0:q≠0:=fun z=>absurd (z ▸ hq) qBq
 refine#[ha',ha',?_,h.lb,h.la]
 rw[h.eq]
 grind
theorem Wq.lt_iff {k n:Nat}{a b c d:Int}{p q:Rat}(h:Wq k a b p) (g:Wq n c d q):a*d<c*b ↔ p<q:=by
 have hb:(0:Rat)<(b:Rat):=qAY.mpr h.pos
 have hd:(0:Rat)<(d:Rat):=qAY.mpr g.pos
 rw[<-qBH,qAk,qAk,h.eq,g.eq]
 rw[show p*(b:Rat)*(d:Rat)=p*((b:Rat)*d) from ⋯,show q*(d:Rat)*(b:Rat)=q*((b:Rat)*d) from ⋯]
 have hp:=qBx hb hd
 constructor
 .intro e
  by_cases z:p<q
  .exact z
  .exact absurd e (qAM.mpr (Rat.mul_le_mul_of_nonneg_right (qAM.mp z) (qAp hp)))
 .intro e
  exact Rat.mul_lt_mul_of_pos_right e hp
theorem Wq.one:Wq 1 1 1 1:=#[∅,VE,MK ∅,MK ∅]
theorem Wq.plus {k n:Nat}{a b c d:Int}{p q:Rat}(h:Wq k a b p) (g:Wq n c d q):Wq (k+n+1) (a*d+c*b) (b*d) (p+q):=by
 refine#[qAU h.pos g.pos,?_,GS (Aj h.la g.lb) (Ar (Aj g.la h.lb) ()),Ar (Aj h.lb g.lb) ()]
 rw[qBD,qAk,qAk,qAk,h.eq,g.eq]
 grind
theorem Wq.cast {k:Nat}{a b:Int}{p q:Rat}(h:Wq k a b p) (e:p=q):Wq k a b q:=e ▸ h
theorem Wq.l4 {k n:Nat}{a b c d:Int}{p q:Rat}(h:Wq k a b p) (g:Wq k c d q) (hk:k<=n):L4 n a b c d:=#[Ar h.la hk,Ar h.lb hk,Ar g.la hk,Ar g.lb hk]
theorem P6 {cs:Cs}{t:Rat}{n:Nat}(h:t<tt cs n):plc cs t (n+1)=plc cs t n:=if_pos h
theorem LH {cs:Cs}{t:Rat}{n:Nat}(h:¬t<tt cs n):plc cs t (n+1)=n:=if_neg h
theorem Rx {a b:Rat}(h:a<b):0<b-a:=⋯
theorem U3 {v r s g:Rat}:v+r*g*(1/s)=v+r/s*g:=⋯
def sat (cs:Cs)(m t:Rat):Rat:=slp cs m (plc cs t cs.length)
theorem VG {L M:Cs}{t:Rat}:∀n,n<=L.length->plc (L++M) t n=plc L t n
 |0,_=>rfl
 |n+1,h=>by
  unfold plc
  rw[Oj (),VG n ()]
theorem Ng {L:Cs}{c:Rat×Rat}{t:Rat}:plc (L++[c]) t (L++[c]).length=if t<c.1 then plc L t L.length else L.length:=by
 rw[CW]
 conv=>lhs;unfold plc
 rw[SQ,VG _ (qAc _)]
theorem NF {L:Cs}{c:Rat×Rat}{M M' t:Rat}(n:0<L.length) (h:(c.2-vv L (L.length-1))/(c.1-tt L (L.length-1))=M):sat (L++[c]) M' t=if t<c.1 then sat L M t else M':=by
 unfold sat
 rw[Ng]
 split
 .exact G4 (JQ n _ (qAc _)) h
 .exact Kw
theorem Nm {L:Cs}{c:Rat×Rat}{M M' t:Rat}(n:0<L.length) (h:(c.2-vv L (L.length-1))/(c.1-tt L (L.length-1))=M):val (L++[c]) M' t=if t<c.1 then val L M t else c.2+M'*(t-c.1):=by
 unfold val
 rw[Ng]
 split
 .have p:=JQ (t:=t) n _ (qAc _)
  rw[G4 p h,Qy p,Oj p]
 .rw[Kw,Wi,SQ]
theorem Mr {L:Cs}{t:Rat}(n:0<L.length) (h:tt L (L.length-1)<=t):plc L t L.length=L.length-1:=by
 have e:L.length=L.length-1+1:=()
 rw[e,LH (qAM.mpr h),qBu]
theorem Qh {L:Cs}{M t:Rat}(n:0<L.length) (h:tt L (L.length-1)<=t):sat L M t=M:=by
 unfold sat
 rw[Mr n h,Bb ()]
theorem JZ {L:Cs}{M t:Rat}(n:0<L.length) (h:tt L (L.length-1)<=t):val L M t=vv L (L.length-1)+M*(t-tt L (L.length-1)):=by
 unfold val
 rw[Mr n h,Bb ()]
def pre (cs:Cs)(n:Nat):Cs:=cs.take (n+1)
theorem O0 {cs:Cs}{n:Nat}(h:n<cs.length):(pre cs n).length=n+1:=by unfold pre;rw[qAQ];omega
theorem Wh {cs:Cs}{n:Nat}(h:n+1<cs.length):pre cs (n+1)=pre cs n++[(tt cs (n+1),vv cs (n+1))]:=by
 unfold pre tt vv
 rw[List.take_succ,qAb h,qAd,qAb h]
 rfl
theorem We {cs:Cs}{n k:Nat}(h:n<cs.length) (hk:k<=n):tt (pre cs n) k=tt cs k/\vv (pre cs n) k=vv cs k:=by
 have e:cs=pre cs n++cs.drop (n+1):=(qCN _ _).symm
 have l:=O0 h
 constructor
 .conv=>rhs;rw[e]
  rw[Oj ()]
 .conv=>rhs;rw[e]
  rw[Qy ()]
theorem Ua {cs:Cs}(n:0<cs.length):pre cs (cs.length-1)=cs:=by
 unfold pre
 exact qBh ()
theorem PY {cs:Cs}{m:Rat}(o:Ord cs) (t:Rat):∀n,n<cs.length->val (kp cs m n) (slp cs m n) t=val (pre cs n) (slp cs m n) t/\sat (kp cs m n) (slp cs m n) t=sat (pre cs n) (slp cs m n) t
 |0,h=>by
  have e:pre cs 0=kp cs m 0:=by
   cases cs with
   |nil=>exact absurd h (by simp)
   |cons c r=>rfl
  rw[e]
  exact#[rfl,rfl]
 |n+1,h=>by
  obtain⟨iv,is⟩:=PY (m:=m) o t n ()
  have k:=KL (m:=m) o n ()
  obtain⟨j,hj,ht,hv,hs,tn,vn⟩:=k.at_
  have u:=o.up n h
  have sn:=BX (m:=m) h
  have g:vv cs (n+1)-vv cs j=slp cs m n*(tt cs (n+1)-tt cs j):=seg (z:=0) hs sn.symm u
  have lp:=O0 (cs:=cs) (n:=n) ()
  have pl:=We (cs:=cs) (n:=n) (k:=n) () (qAc _)
  have sp:(vv cs (n+1)-vv (pre cs n) ((pre cs n).length-1))/(tt cs (n+1)-tt (pre cs n) ((pre cs n).length-1))=slp cs m n:=by
   rw[lp,qBu,pl.1,pl.2,sn]
  rw[Wh h,Nm (c:=(tt cs (n+1),vv cs (n+1))) () sp,NF (c:=(tt cs (n+1),vv cs (n+1))) () sp]
  have lt:tt cs j<tt cs (n+1):=⋯
  by_cases e:slp cs m n=slp cs m (n+1)
  .rw[Hd e,<-e,iv,is]
   by_cases c:t<tt cs (n+1)
   .rw[if_pos c,if_pos c];exact#[rfl,rfl]
   .rw[if_neg c,if_neg c]
    have c':=qAM.mp c
    have en:tt (pre cs n) ((pre cs n).length-1)<=t:=by rw[lp,qBu,pl.1];grind
    rw[JZ () en,Qh () en,lp,qBu,pl.1,pl.2]
    refine#[?_,rfl]
    have q:vv cs (n+1)-vv cs n=slp cs m n*(tt cs (n+1)-tt cs n):=by
     have:=E6 u
     rw[sn];grind
    show _=vv cs (n+1)+slp cs m n*(t-tt cs (n+1))
    grind
  .have sl:(vv cs (n+1)-vv (kp cs m n) ((kp cs m n).length-1))/(tt cs (n+1)-tt (kp cs m n) ((kp cs m n).length-1))=slp cs m n:=by
    rw[ht,hv];exact Nq g (E6 lt)
   rw[NQ e,Nm (c:=(tt cs (n+1),vv cs (n+1))) k.ord.ne sl,NF (c:=(tt cs (n+1),vv cs (n+1))) k.ord.ne sl,iv,is]
   exact#[rfl,rfl]
theorem ET {cs:Cs}{m:Rat}(o:Ord cs) (t:Rat):val (kp cs m (cs.length-1)) m t=val cs m t/\sat (kp cs m (cs.length-1)) m t=sat cs m t:=by
 have n:=o.ne
 have k:=PY (m:=m) o t (cs.length-1) ()
 rw[Bb (show ¬cs.length-1+1<cs.length from ()),Ua n] at k
 exact k
theorem BI {cs:Cs}(u:Up cs){i:Nat}:∀{j:Nat},i<=j->j<cs.length->tt cs i<=tt cs j
 |0,h,_=>by have:i=0:=()
            subst this;exact qAi
 |j+1,h,hl=>by
  by_cases e:i=j+1
  .subst e;exact qAi
  .have:=BI u (i:=i) (j:=j) () ()
   have:=u j hl
   grind
theorem Mw {cs:Cs}(u:∀k,k+1<cs.length->vv cs k<=vv cs (k+1)){i:Nat}:∀{j:Nat},i<=j->j<cs.length->vv cs i<=vv cs j
 |0,h,_=>by have:i=0:=()
            subst this;exact qAi
 |j+1,h,hl=>by
  by_cases e:i=j+1
  .subst e;exact qAi
  .have:=Mw u (i:=i) (j:=j) () ()
   have:=u j hl
   grind
theorem Iu {cs:Cs}(u:Up cs){t:Rat}{k:Nat}(h1:tt cs k<=t) (h2:k+1<cs.length->t<tt cs (k+1)):∀n,k<n->n<=cs.length->plc cs t n=k
 |0,h,_=>()
 |n+1,h,hn=>by
  by_cases e:n=k
  .subst e;exact LH (qAM.mpr h1)
  .rw[P6,Iu u h1 h2 n () ()]
   have a:=h2 ()
   have b:=BI u (i:=k+1) (j:=n) () ()
   grind
structure On (cs:Cs)(k:Nat)(t:Rat):Prop where
 lt:k<cs.length
 lo:tt cs k<=t
 hi:k+1<cs.length->t<=tt cs (k+1)
theorem Hu {cs:Cs}{m:Rat}(u:Up cs){k:Nat}(h:k+1<cs.length):vv cs (k+1)=vv cs k+slp cs m k*(tt cs (k+1)-tt cs k):=by
 have:=E6 (u k h)
 rw[BX h];grind
theorem Ey {cs:Cs}{m t:Rat}(u:Up cs){k:Nat}(o:On cs k t):val cs m t=vv cs k+slp cs m k*(t-tt cs k):=by
 have hl:=o.lt
 by_cases e:k+1<cs.length/\t=tt cs (k+1)
 .obtain⟨e1,e2⟩:=e
  have p:plc cs t cs.length=k+1:=Iu u (by rw[e2];exact qAi) (fun h=>by rw[e2];exact u _ h) _ e1 (qAc _)
  unfold val
  rw[p,Hu (m:=m) u e1,e2]
  grind
 .have p:plc cs t cs.length=k:=Iu u o.lo (fun h=>by
   have a:=o.hi h
   have b:t≠tt cs (k+1):=fun z=>e #[h,z]
   grind) _ hl (qAc _)
  unfold val
  rw[p]
theorem Sx (p q:Rat):eqN 1 (qd p) (qd q)=decide (p=q):=by
 by_cases h:p=q
 .subst h
  rw[decide_eq_true rfl]
  exact HX 1 _ rfl
 .rw[decide_eq_false h]
  cases e:eqN 1 (qd p) (qd q) with
  |false=>rfl
  |true =>
   exfalso
   apply h
   have e':((p.num==q.num&&((p.den:Int)==(q.den:Int)&&true))&&true)=true:=e
   rw[qCA,qCA,qAV,beq_iff_eq,beq_iff_eq] at e'
   exact Rat.ext e'.1 (Int.ofNat.inj e'.2)
theorem neT (p q:Rat){A B:Prop}(h1:¬p=q->A) (h2:p=q->B):if (!eqN 1 (qd p) (qd q))=true then A else B:=by
 rw[Sx]
 exact Nt h1 h2
theorem eqT (p q:Rat){A B:Prop}(h1:p=q->A) (h2:¬p=q->B):if eqN 1 (qd p) (qd q)=true then A else B:=by
 rw[Sx]
 exact Ca h1 h2
def Bgn (cs:Cs):Prop:=0<cs.length/\tt cs 0=0/\0<=vv cs 0
def Ris (cs:Cs)(n:Nat):Prop:=∀k,k<n->k+1<cs.length->tt cs k<tt cs (k+1)/\vv cs k<=vv cs (k+1)
def JH (cs:Cs)(m:Rat):List Rat:=(List.range cs.length).map (slp cs m)
theorem EJ (cs:Cs)(m:Rat):(JH cs m).length=cs.length:=by unfold JH;rw[qAa,qAH]
theorem atI_nat {α:Type}{xs:List α}{k:Nat}(h:k<xs.length):atI xs (k:Int)=xs[k]? := by
 unfold atI ixN
 rw[if_pos (),if_pos ()]
 simp
theorem My {cs:Cs}{m:Rat}{i:Int}(k:Nat) (hi:i=(k:Int)) (h:k<cs.length):atI ((JH cs m).map qd) i=some (qd (slp cs m k)):=by
 subst hi
 rw[atI_nat (by rw[qAa,EJ];exact h)]
 unfold JH
 rw[qAe,qAe,qAK h]
 rfl
theorem Nv (cs:Cs)(m:Rat)(h:0<cs.length):(((List.range (cs.length-1)).map fun i=>some (qd (slp cs m i))).filterMap id)++[qd m]=(JH cs m).map qd:=by
 have e:((List.range (cs.length-1)).map fun i=>some (qd (slp cs m i))).filterMap id=(List.range (cs.length-1)).map fun i=>qd (slp cs m i):=by
  rw[qCx]
  exact congrFun (qCQ (f:=fun i=>qd (slp cs m i))) _
 rw[e]
 unfold JH
 rw[qBW]
 have e2:cs.length=cs.length-1+1:=()
 conv=>rhs;rw[e2,List.range_succ,qAC]
 show _++[qd m]=_++[qd (slp cs m (cs.length-1))]
 rw[Bb (cs:=cs) (m:=m) (k:=cs.length-1) ()]
 rfl
theorem Vh {n:Nat}{cs:Cs}{m:Rat}(up:Up cs) (hz:SzK n cs m){k:Nat}(hk:k<cs.length):Sz (4*n+2) (slp cs m k):=by
 by_cases c:k+1<cs.length
 .rw[BX c]
  have z0:=hz.cs k hk
  have z1:=hz.cs (k+1) c
  exact((z1.2.sub z0.2).div (z1.1.sub z0.1) (E6 (up k c))).mono ()
 .rw[Bb c]
  exact hz.m.mono ()
def tOf:D->Rat
 |.tup (.tup [.int a,.int b]::_)=>Rat.divInt a b
 |_=>0
theorem Sg (a b:Rat):tOf (.tup [qd a,qd b])=a:=qBT a
theorem D0 {cs:Cs}{t:Rat}(h0:tt cs 0<=t):∀n,0<n->tt cs (plc cs t n)<=t/\plc cs t n<n/\∀i,plc cs t n<i->i<n->t<tt cs i
 |1,_=>by
  have e:plc cs t 1=0:=by rw[LH (n:=0) (qAM.mpr h0)]
  rw[e]
  exact#[h0,qCK,fun i h1 h2=>()]
 |n+2,_=>by
  obtain⟨h1,h2,h3⟩:=D0 h0 (n+1) (Nat.succ_pos n)
  by_cases c:t<tt cs (n+1)
  .rw[P6 c]
   refine#[h1,(),fun i i1 i2=>?_]
   by_cases e:i=n+1
   .rw[e];exact c
   .exact h3 i i1 ()
  .rw[LH c]
   exact#[qAM.mp c,(),fun i i1 i2=>()]
theorem Uw {cs:Cs}{t:Rat}(up:Up cs) (h0:tt cs 0<=t){i:Nat}(hi:i<cs.length):(!decide (t<tt cs i))=decide (i<plc cs t cs.length+1):=by
 obtain⟨h1,h2,h3⟩:=D0 h0 cs.length ()
 by_cases c:i<plc cs t cs.length+1
 .rw[decide_eq_true c,decide_eq_false (qAM.mpr (qAy (BI up (i:=i) (j:=plc cs t cs.length) () h2) h1))]
  rfl
 .rw[decide_eq_false c,decide_eq_true (h3 i () hi)]
  rfl
theorem U2 {a b:Rat}(ha:0<=a) (hb:0<b):0<=a/b:=by
 by_cases h:0<=a/b
 .exact h
 .have h':0 < -(a/b):=⋯
  have:=qBx h' hb
  have e:-(a/b)*b=-a:=⋯
  rw[e] at this
  grind
structure G9 (cs:Cs)(m:Rat):Prop where
 o:Ord cs
 m0:0<=m
theorem OY {cs:Cs}{m:Rat}(r:G9 cs m) (k:Nat):0<=slp cs m k:=by
 by_cases c:k+1<cs.length
 .rw[BX c]
  have h1:=r.o.vu k c
  have h2:=r.o.up k c
  exact U2 ⋯ ⋯
 .rw[Bb c];exact r.m0
theorem Gx {cs:Cs}(o:Ord cs){t:Rat}(ht:0<=t):On cs (plc cs t cs.length) t:=by
 have n:=o.ne
 obtain⟨h1,h2,h3⟩:=D0 (cs:=cs) (t:=t) (by rw[o.t0];exact ht) cs.length n
 exact#[h2,h1,fun c=>qAp (h3 _ () c)]
theorem Vz {cs:Cs}{m t:Rat}(r:G9 cs m){k:Nat}(hk:k<cs.length) (h:tt cs k<=t):vv cs k<=val cs m t:=by
 have t0:0<=t:=by
  have:=BI r.o.up (i:=0) (j:=k) () hk
  rw[r.o.t0] at this
  grind
 have n:=r.o.ne
 obtain⟨h1,h2,h3⟩:=D0 (cs:=cs) (t:=t) (by rw[r.o.t0];exact t0) cs.length n
 have kj:k<=plc cs t cs.length:=by
  by_cases c:k<=plc cs t cs.length
  .exact c
  .have:=h3 k () hk
   grind
 have:=Mw r.o.vu kj h2
 have s:=OY r (plc cs t cs.length)
 have p:=qAj s (show 0<=t-tt cs (plc cs t cs.length) from ⋯)
 show vv cs k<=vv cs (plc cs t cs.length)+slp cs m (plc cs t cs.length)*(t-tt cs (plc cs t cs.length))
 grind
theorem VS {cs:Cs}{m t:Rat}(r:G9 cs m){k:Nat}(hk:k<cs.length) (t0:0<=t) (h:t<=tt cs k):val cs m t<=vv cs k:=by
 have on:=Gx r.o t0
 generalize hj:plc cs t cs.length=j at on
 by_cases c:j<k
 .have c1:j+1<cs.length:=()
  have:=Mw r.o.vu (i:=j+1) (j:=k) () hk
  have e:=Hu (m:=m) r.o.up c1
  have s:=OY r j
  have p:=qAj s (show 0<=tt cs (j+1)-t by have:=on.hi c1;grind)
  rw[Ey r.o.up on]
  grind
 .have e1:=BI r.o.up (i:=k) (j:=j) () on.lt
  have e2:=on.lo
  have e:t=tt cs k:=⋯
  by_cases c2:j=k
  .subst c2
   rw[Ey r.o.up on,e]
   grind
  .have e3:=BI r.o.up (i:=k+1) (j:=j) () on.lt
   have e4:=r.o.up k (by have:=on.lt;omega)
   grind
theorem EM {cs:Cs}{m x y:Rat}(r:G9 cs m) (x0:0<=x) (h:x<=y):val cs m x<=val cs m y:=by
 have ox:=Gx r.o x0
 have oy:=Gx r.o (qAy x0 h)
 by_cases c:plc cs y cs.length<=plc cs x cs.length
 .have e1:=BI r.o.up c ox.lt
  have oy2:On cs (plc cs x cs.length) y\/plc cs y cs.length<plc cs x cs.length:=by
   by_cases e:plc cs y cs.length=plc cs x cs.length
   .rw[<-e];exact .inl oy
   .exact .inr ()
  rcases oy2 with oy2|oy2
  .rw[Ey r.o.up ox,Ey r.o.up oy2]
   have s:=OY r (plc cs x cs.length)
   have p:=qAj s (show 0<=y-x from ⋯)
   grind
  .have h3:=(D0 (cs:=cs) (t:=y) (by rw[r.o.t0];exact qAy x0 h) cs.length r.o.ne).2.2 _ oy2 ox.lt
   have:=ox.lo
   grind
 .have c':plc cs x cs.length+1<cs.length:=by have:=oy.lt;omega
  have h1:=VS (m:=m) r c' x0 (ox.hi c')
  have h2:=Vz (m:=m) (t:=y) r c' (by
   have e3:=BI r.o.up (i:=plc cs x cs.length+1) (j:=plc cs y cs.length) () oy.lt
   have:=oy.lo
   grind)
  exact qAy h1 h2
theorem CB {cs:Cs}{m:Rat}(o:Ord cs){k:Nat}(hk:k<cs.length):val cs m (tt cs k)=vv cs k:=by
 rw[Ey (k:=k) o.up #[hk,qAi,fun c=>qAp (o.up k c)]]
 grind
theorem Gw {cs:Cs}{m:Rat}(o:Ord cs):val cs m 0=vv cs 0:=by
 have:=CB (m:=m) o o.ne
 rw[o.t0] at this
 exact this
def T (ts:List Rat)(i:Nat):Rat:=ts.getD i 0
structure Tms (cs ds:Cs)(ts:List Rat):Prop where
 ne:0<ts.length
 t0:T ts 0=0
 up:∀i,i+1<ts.length->T ts i<T ts (i+1)
 a:∀k,k<cs.length->∃i,i<ts.length/\T ts i=tt cs k
 b:∀k,k<ds.length->∃i,i<ts.length/\T ts i=tt ds k
 of:∀i,i<ts.length->(∃k,k<cs.length/\T ts i=tt cs k)\/∃k,k<ds.length/\T ts i=tt ds k
theorem Gu {ts:List Rat}(u:∀i,i+1<ts.length->T ts i<T ts (i+1)){i:Nat}:∀{j:Nat},i<=j->j<ts.length->T ts i<=T ts j
 |0,h,_=>by have:i=0:=()
            subst this;exact qAi
 |j+1,h,hj=>by
  by_cases e:i=j+1
  .subst e;exact qAi
  .have h1:=Gu u (i:=i) (j:=j) () ()
   have h2:=u j hj
   grind
theorem SA {cs ds:Cs}{ts:List Rat}(t:Tms cs ds ts){i:Nat}(h:i<ts.length):0<=T ts i:=by
 have:=Gu t.up (i:=0) (j:=i) () h
 rw[t.t0] at this
 exact this
theorem Tms.swap {cs ds:Cs}{ts:List Rat}(t:Tms cs ds ts):Tms ds cs ts:=#[t.ne,t.t0,t.up,t.b,t.a,fun i h=>(t.of i h).symm]
theorem M6 {cs ds:Cs}{ts:List Rat}(o:Ord cs) (t:Tms cs ds ts){i:Nat}(hi:i<ts.length){x:Rat}(h1:T ts i<=x) (h2:i+1<ts.length->x<=T ts (i+1)):On cs (plc cs (T ts i) cs.length) x:=by
 have on:=Gx o (SA t hi)
 obtain⟨_,p2,p3⟩:=D0 (cs:=cs) (t:=T ts i) (by rw[o.t0];exact SA t hi) cs.length o.ne
 refine#[on.lt,by have:=on.lo;grind,fun c=>?_]
 have lt:=p3 _ (qBL _) c
 obtain⟨j,hj,ej⟩:=t.a _ c
 have ij:i<j:=by
  by_cases z:i<j
  .exact z
  .have:=Gu t.up (i:=j) (j:=i) () hi
   rw[ej] at this
   grind
 have:=h2 ()
 have h3:=Gu t.up (i:=i+1) (j:=j) () hj
 rw[ej] at h3
 grind
theorem Ig {cs ds:Cs}{ts:List Rat}{m:Rat}(o:Ord cs) (t:Tms cs ds ts){i:Nat}(hi:i<ts.length){x:Rat}(h1:T ts i<=x) (h2:i+1<ts.length->x<=T ts (i+1)) :
 val cs m x=val cs m (T ts i)+slp cs m (plc cs (T ts i) cs.length)*(x-T ts i):=by
 rw[Ey o.up (M6 o t hi h1 h2),Ey o.up (M6 o t hi qAi (fun c=>qAp (t.up i c)))]
 grind
theorem Ic {cs ds:Cs}{ts:List Rat}{m:Rat}(o:Ord cs) (t:Tms cs ds ts):slp cs m (plc cs (T ts (ts.length-1)) cs.length)=m:=by
 have n:=o.ne
 obtain⟨j,hj,ej⟩:=t.a (cs.length-1) ()
 have:=Gu t.up (i:=j) (j:=ts.length-1) () (by have:=t.ne;omega)
 rw[ej] at this
 rw[Mr n this]
 exact Bb ()
theorem Rb {ts:List Rat}(ne:0<ts.length) (t0:T ts 0=0){x:Rat}(x0:0<=x):∃i,i<ts.length/\T ts i<=x/\(i+1<ts.length->x<=T ts (i+1)):=by
 have all:∀n,n<ts.length->T ts n<=x\/∃i,i<ts.length/\T ts i<=x/\(i+1<ts.length->x<=T ts (i+1)):=by
  intro n
  induction n with
  |zero=>intro _;exact .inl (by rw[t0];exact x0)
  |succ n ih =>
   intro h
   rcases ih () with h1|h1
   .by_cases c:T ts (n+1)<=x
    .exact .inl c
    .exact .inr #[n,(),h1,fun _=>⋯]
   .exact .inr h1
 rcases all (ts.length-1) () with h|h
 .exact#[ts.length-1,(),h,fun c=>()]
 .exact h
def gap (cs:Cs)(m:Rat)(ds:Cs)(k:Rat)(x:Rat):Rat:=val cs m x-val ds k x
structure Mrg (cs ds:Cs)(i p:Nat)(ts:List Rat):Prop where
 inc:ts.Pairwise (· < ·)
 of:∀x∈ts,(∃a,a<i/\x=tt cs a)\/∃b,b<p/\x=tt ds b
 a:∀k,k<i->tt cs k∈ts
 b:∀k,k<p->tt ds k∈ts
 lt:∀x∈ts,∀k,p<=k->k<ds.length->x<tt ds k
 len:ts.length<=i+p
theorem JK {cs:Cs}(u:Up cs){i j:Nat}(h:i<j) (hj:j<cs.length):tt cs i<tt cs j:=by
 have h1:=u i ()
 have h2:=BI u (i:=i+1) (j:=j) () hj
 grind
theorem Mrg.nil (cs ds:Cs):Mrg cs ds 0 0 []:=#[List.Pairwise.nil,(fun x h=>by cases h),(fun k h=>()),(fun k h=>()),(fun x h=>by cases h),qA3 _]
theorem Mrg.other {cs ds:Cs}{i p:Nat}{ts:List Rat}(g:Mrg cs ds i p ts) (up:Up ds) (hp:p<ds.length) (hi:∀x∈ts,x<tt cs i) (h:tt ds p<tt cs i):Mrg cs ds i (p+1) (ts++[tt ds p])/\∀x∈ts++[tt ds p],x<tt cs i:=by
 refine#[#[?_,fun x hx=>?_,fun k hk=>qAJ _ (g.a k hk),fun k hk=>?_,fun x hx k k1 k2=>?_,by rw[qAn];have:=g.len;simp;omega],fun x hx=>?_]
 .rw[qCk]
  exact#[g.inc,qCH _ _,fun x hx y hy=>by rw[qAF.mp hy];exact g.lt x hx p (qAc _) hp]
 .rcases qAA.mp hx with hx|hx
  .rcases g.of x hx with z|⟨b,hb,e⟩
   .exact .inl z
   .exact .inr #[b,(),e]
  .exact .inr #[p,(),qAF.mp hx]
 .by_cases e:k=p
  .subst e;exact qAB _ (qAF.mpr rfl)
  .exact qAJ _ (g.b k ())
 .rcases qAA.mp hx with hx|hx
  .exact g.lt x hx k () k2
  .rw[qAF.mp hx];exact JK up () k2
 .rcases qAA.mp hx with hx|hx
  .exact hi x hx
  .rw[qAF.mp hx];exact h
theorem Mrg.one {cs ds:Cs}{i p q:Nat}{ts:List Rat}(g:Mrg cs ds i p ts) (hpq:q=p\/(q=p+1/\p<ds.length/\tt ds p=tt cs i)) (hi:∀x∈ts,x<tt cs i) (hb:∀k,q<=k->k<ds.length->tt cs i<tt ds k):Mrg cs ds (i+1) q (ts++[tt cs i]):=by
 refine#[?_,fun x hx=>?_,fun k hk=>?_,fun k hk=>?_,fun x hx k k1 k2=>?_,?_]
 .rw[qCk]
  exact#[g.inc,qCH _ _,fun x hx y hy=>by rw[qAF.mp hy];exact hi x hx]
 .rcases qAA.mp hx with hx|hx
  .rcases g.of x hx with⟨a,ha,e⟩|⟨b,hb,e⟩
   .exact .inl #[a,(),e]
   .exact .inr #[b,(),e]
  .exact .inl #[i,(),qAF.mp hx]
 .by_cases e:k=i
  .subst e;exact qAB _ (qAF.mpr rfl)
  .exact qAJ _ (g.a k ())
 .by_cases e:k<p
  .exact qAJ _ (g.b k e)
  .rcases hpq with z|⟨z,_,e2⟩
   .omega
   .have:k=p:=()
    subst this
    rw[e2]
    exact qAB _ (qAF.mpr rfl)
 .rcases qAA.mp hx with hx|hx
  .exact g.lt x hx k () k2
  .rw[qAF.mp hx];exact hb k k1 k2
 .rw[qAn]
  have:=g.len
  simp
  omega
theorem Lv {ts:List Rat}{i:Nat}(h:i<ts.length):T ts i=ts[i]:=by
 unfold T
 rw[qAd,qAb h]
 rfl
theorem Rf {ts:List Rat}{x:Rat}(h:x∈ts):∃i,i<ts.length/\T ts i=x:=by
 obtain⟨i,hi,e⟩:=qBm.mp h
 exact#[i,hi,by rw[Lv hi];exact e]
def rst (ds:Cs)(p:Nat):List Rat:=(ds.drop p).map (·.1)
theorem Gy {ds:Cs}{p j:Nat}(h:p+j<ds.length):(rst ds p)[j]? = some (tt ds (p+j)):=by
 unfold rst
 rw[qAe,qBV,qAb h]
 unfold tt
 rw[qAd,qAb h]
 rfl
theorem MP {ds:Cs}{p:Nat}{x:Rat}(h:x∈rst ds p):∃k,p<=k/\k<ds.length/\x=tt ds k:=by
 obtain⟨j,hj,e⟩:=qBm.mp h
 have hj':p+j<ds.length:=by unfold rst at hj;rw[qAa,qAZ] at hj;omega
 have:=Gy hj'
 rw[qAb hj,e] at this
 exact#[p+j,(),hj',qAl this]
theorem Rj {ds:Cs}{p k:Nat}(h:p<=k) (hk:k<ds.length):tt ds k∈rst ds p:=by
 have:=Gy (ds:=ds) (p:=p) (j:=k-p) ()
 rw[show p+(k-p)=k from ()] at this
 exact qAE this
theorem Vx {cs ds:Cs}{p:Nat}{ts:List Rat}(o:Ord cs) (q:Ord ds) (g:Mrg cs ds cs.length p ts) (hp:p<=ds.length):Tms cs ds (ts++rst ds p):=by
 have inc:(ts++rst ds p).Pairwise (· < ·):=by
  rw[qCk]
  refine#[g.inc,?_,fun x hx y hy=>?_]
  .rw[qCC]
   intro i j hi hj hij
   have lr:(rst ds p).length=ds.length-p:=by unfold rst;rw[qAa,qAZ]
   have e1:=Gy (ds:=ds) (p:=p) (j:=i) ()
   have e2:=Gy (ds:=ds) (p:=p) (j:=j) ()
   rw[qAb hi] at e1
   rw[qAb hj] at e2
   rw[qAl e1,qAl e2]
   exact JK q.up () ()
  .obtain⟨k,k1,k2,e⟩:=MP hy
   rw[e]
   exact g.lt x hx k k1 k2
 have z:tt cs 0∈ts++rst ds p:=qAJ _ (g.a 0 o.ne)
 have ne:0<(ts++rst ds p).length:=List.length_pos_of_mem z
 have of:∀x∈ts++rst ds p,(∃k,k<cs.length/\x=tt cs k)\/∃k,k<ds.length/\x=tt ds k:=fun x hx=>by
  rcases qAA.mp hx with hx|hx
  .rcases g.of x hx with h|⟨b,hb,e⟩
   .exact .inl h
   .exact .inr #[b,(),e]
  .obtain⟨k,_,k2,e⟩:=MP hx
   exact .inr #[k,k2,e]
 have up:∀i,i+1<(ts++rst ds p).length->T (ts++rst ds p) i<T (ts++rst ds p) (i+1):=fun i hi=>by
  rw[Lv (),Lv hi]
  exact qCC.mp inc i (i+1) () hi ()
 refine#[ne,?_,up,fun k hk=>Rf (qAJ _ (g.a k hk)),fun k hk=>?_,fun i hi=>?_]
 .obtain⟨i,hi,e⟩:=Rf z
  rw[o.t0] at e
  have h1:=Gu up (i:=0) (j:=i) () hi
  rw[e] at h1
  have nn:0<=T (ts++rst ds p) 0:=by
   rw[Lv ne]
   rcases of _ (qB9 ne) with⟨k,hk,ek⟩|⟨k,hk,ek⟩
   .rw[ek];have:=BI o.up (i:=0) (j:=k) () hk;rw[o.t0] at this;exact this
   .rw[ek];have:=BI q.up (i:=0) (j:=k) () hk;rw[q.t0] at this;exact this
  grind
 .by_cases c:k<p
  .exact Rf (qAJ _ (g.b k c))
  .exact Rf (qAB _ (Rj () hk))
 .rw[Lv hi]
  exact of _ (qB9 hi)
theorem KB {ds:Cs}{p:Int}(k:Nat) (hp:p=(k:Int)) (h:k<ds.length):atI ((rst ds 0).map qd) p=some (qd (tt ds k)):=by
 subst hp
 have lr:(rst ds 0).length=ds.length:=by unfold rst;rw[qAa,qAZ];omega
 rw[atI_nat (by rw[qAa,lr];exact h),qAe]
 have:=Gy (ds:=ds) (p:=0) (j:=k) ()
 rw[this,Nat.zero_add]
 rfl
theorem Ec (ds:Cs)(p:Nat):(rst ds p).length=ds.length-p:=by unfold rst;rw[qAa,qAZ]
theorem RD {ds:Cs}{p:Nat}(h:p<=ds.length):F0 ((rst ds 0).map qd) (some (p:Int)) none=(rst ds p).map qd:=by
 unfold F0
 have lr:((rst ds 0).map qd).length=ds.length:=by rw[qAa,Ec];omega
 rw[lr,HT.sIx_nat,HT.sIx_none,qBF h]
 rw[qBh (by rw[qAZ,lr];omega),<-qB8]
 congr 1
 unfold rst
 rw[<-qB8,List.drop_drop,Nat.zero_add]
def rw3 (cs:Cs)(m:Rat)(ds:Cs)(k:Rat)(t:Rat):D:=.tup [qd t,qd (val cs m t),qd (val ds k t)]
def gcs (cs:Cs)(m:Rat)(ds:Cs)(k:Rat)(ts:List Rat):Cs:=ts.map fun t=>(t,gap cs m ds k t)
theorem Ka {cs:Cs}{m:Rat}{ds:Cs}{k:Rat}{ts:List Rat}:(gcs cs m ds k ts).length=ts.length:=by unfold gcs;rw[qAa]
theorem F6 {cs:Cs}{m:Rat}{ds:Cs}{k:Rat}{ts:List Rat}{i:Nat}(h:i<ts.length):tt (gcs cs m ds k ts) i=T ts i/\vv (gcs cs m ds k ts) i=gap cs m ds k (T ts i):=by
 have e:(gcs cs m ds k ts).getD i (0,0)=(T ts i,gap cs m ds k (T ts i)):=by
  unfold gcs
  rw[qAd,qAe,qAb h,Lv h]
  rfl
 unfold tt vv
 rw[e]
 exact#[rfl,rfl]
theorem Nk {ts:List Rat}{i:Nat}{t:Rat}(h:ts[i]? = some t):i<ts.length/\T ts i=t:=by
 obtain⟨h1,h2⟩:=qAg.mp h
 exact#[h1,by rw[Lv h1];exact h2]
theorem Bq {α:Type}{f:α->D}{xs:List α}{i:Nat}{x:D}(h:(xs.map f)[i]? = some x):∃a,xs[i]? = some a/\x=f a:=by
 rw[qAe] at h
 cases e:xs[i]? with
 |none=>rw[e] at h;cases h
 |some a=>rw[e] at h;exact#[a,rfl,(qAl h).symm]
theorem DA {α:Type}(xs:List α) (f:α->D):(xs.map fun a=>some (f a)).filterMap id=xs.map f:=by
 rw[qCx]
 exact congrFun (qCQ (f:=f)) _
theorem Tms.sz {cs ds:Cs}{ts:List Rat}{n:Nat}(t:Tms cs ds ts) (h1:SzC n cs) (h2:SzC n ds){i:Nat}(hi:i<ts.length):Sz n (T ts i):=by
 rcases t.of i hi with⟨k,hk,e⟩|⟨k,hk,e⟩
 .rw[e];exact(h1 k hk).1
 .rw[e];exact(h2 k hk).1
def rcs (l:List (Int×Int))(lo hi:Int):Cs:=l.map fun p=>(Rat.divInt p.1 lo,Rat.divInt p.2 hi)
def ia (l:List (Int×Int))(k:Nat):Int:=(l.getD k (0,0)).1
def iv (l:List (Int×Int))(k:Nat):Int:=(l.getD k (0,0)).2
structure MX (B:Nat)(l:List (Int×Int)):Prop where
 ne:0<l.length
 le:l.length<=1000
 t0:ia l 0=0
 v0:0<=iv l 0
 up:∀k,k+1<l.length->ia l k<ia l (k+1)/\iv l k<=iv l (k+1)
 sz:∀k,k<l.length->(ia l k).natAbs<2^B/\(iv l k).natAbs<2^B
theorem Dd {l:List (Int×Int)}{lo hi:Int}:(rcs l lo hi).length=l.length:=qAa _
theorem CF {l:List (Int×Int)}{lo hi:Int}{k:Nat}(h:k<l.length):tt (rcs l lo hi) k=Rat.divInt (ia l k) lo/\vv (rcs l lo hi) k=Rat.divInt (iv l k) hi:=by
 unfold rcs tt vv ia iv
 rw[qAd,qAe,qAd,qAb h]
 exact#[rfl,rfl]
theorem SF {B:Nat}{l:List (Int×Int)}{lo hi:Int}(r:MX B l) (h1:0<lo) (h2:0<hi):Ord (rcs l lo hi):=by
 have n:=r.ne
 refine#[by rw[Dd];exact n,by rw[(CF n).1,r.t0,qCl],by rw[(CF n).2];exact GB h2 r.v0,fun k hk=>?_,fun k hk=>?_]
 .rw[Dd] at hk
  rw[(CF (show k<l.length from ())).1,(CF hk).1]
  exact Jb h1 (r.up k hk).1
 .rw[Dd] at hk
  rw[(CF (show k<l.length from ())).2,(CF hk).2]
  exact Pe h2 (r.up k hk).2
theorem Wx {B:Nat}{l:List (Int×Int)}{lo hi:Int}(r:MX B l) (h1:0<lo) (h2:0<hi) (b1:lo.natAbs<2^B) (b2:hi.natAbs<2^B):SzC B (rcs l lo hi):=fun k hk=>by
 rw[Dd] at hk
 rw[(CF hk).1,(CF hk).2]
 exact#[Jd h1 (r.sz k hk).1 b1,Jd h2 (r.sz k hk).2 b2]
theorem QA {l:List (Int×Int)}{p:Int×Int}{k:Nat}(h:k<l.length):ia (l++[p]) k=ia l k/\iv (l++[p]) k=iv l k:=by
 unfold ia iv
 rw[qAd,qAv h,qAd]
 exact#[rfl,rfl]
theorem Sk {l:List (Int×Int)}{p:Int×Int}:ia (l++[p]) l.length=p.1/\iv (l++[p]) l.length=p.2:=by
 unfold ia iv
 rw[qAd,qAz (qAc _),qBX]
 exact#[rfl,rfl]
theorem MX.snoc {B:Nat}{l:List (Int×Int)}{a v:Int}(r:MX B l) (hl:l.length<1000) (h1:ia l (l.length-1)<a) (h2:iv l (l.length-1)<=v) (z1:a.natAbs<2^B) (z2:v.natAbs<2^B):MX B (l++[(a,v)]):=by
 have n:=r.ne
 have ll:(l++[(a,v)]).length=l.length+1:=by simp
 refine#[(),(),by rw[(QA n).1];exact r.t0,by rw[(QA n).2];exact r.v0,fun k hk=>?_,fun k hk=>?_]
 .by_cases e:k+1<l.length
  .rw[(QA e).1,(QA e).2,(QA (show k<l.length from ())).1,(QA (show k<l.length from ())).2]
   exact r.up k e
  .have e':k+1=l.length:=()
   rw[e',Sk.1,Sk.2,(QA (show k<l.length from ())).1,(QA (show k<l.length from ())).2,show k=l.length-1 from ()]
   exact#[h1,h2]
 .by_cases e:k<l.length
  .rw[(QA e).1,(QA e).2];exact r.sz k e
  .have e':k=l.length:=()
   rw[e',Sk.1,Sk.2];exact#[z1,z2]
theorem MX.one {B:Nat}{st:Int}(h:0<=st) (z:st.natAbs<2^B):MX B [(0,st)]:=by
 refine#[qCK,by show 1<=1000;decide,rfl,h,fun k hk=>?_,fun k hk=>?_]
 .have:k+1<1:=hk
  omega
 .have:k=0:=by have:k<1:=hk;omega
  subst this
  exact#[Nat.two_pow_pos B,z]
theorem Tw {cs ds:Cs}{ts:List Rat}{m k:Rat}(o:Ord cs) (q:Ord ds) (t:Tms cs ds ts){i:Nat}(hi:i<ts.length) :
 (∀x,T ts i<=x->(i+1<ts.length->x<=T ts (i+1))->gap cs m ds k x=gap cs m ds k (T ts i)+slp (gcs cs m ds k ts) (m-k) i*(x-T ts i)) /\
  slp (gcs cs m ds k ts) (m-k) i=slp cs m (plc cs (T ts i) cs.length)-slp ds k (plc ds (T ts i) ds.length):=by
 have main:∀x,T ts i<=x->(i+1<ts.length->x<=T ts (i+1))->gap cs m ds k x=gap cs m ds k (T ts i)+(slp cs m (plc cs (T ts i) cs.length)-slp ds k (plc ds (T ts i) ds.length))*(x-T ts i):=fun x h1 h2=>by
  unfold gap
  rw[Ig (m:=m) o t hi h1 h2,Ig (m:=k) q t.swap hi h1 h2]
  grind
 have e:slp (gcs cs m ds k ts) (m-k) i=slp cs m (plc cs (T ts i) cs.length)-slp ds k (plc ds (T ts i) ds.length):=by
  by_cases c:i+1<ts.length
  .rw[BX (by rw[Ka];exact c),(F6 hi).1,(F6 hi).2,(F6 c).1,(F6 c).2]
   have u:=t.up i c
   have g:=main (T ts (i+1)) (qAp u) (fun _=>qAi)
   exact Nq ⋯ ⋯
  .rw[Bb (by rw[Ka];exact c)]
   have e:i=ts.length-1:=()
   rw[e,Ic o t,Ic q t.swap]
 exact#[fun x h1 h2=>by rw[e];exact main x h1 h2,e]
theorem FW {cs:Cs}{k:Nat}(h:k<cs.length):tt cs k=cs[k].1/\vv cs k=cs[k].2:=by
 unfold tt vv
 rw[qAd,qAb h]
 exact#[rfl,rfl]
theorem Wb {cs:Cs}{m:Rat}:∀k,k<cs.length->∀i,i<(kp cs m k).length->∃j,j<cs.length/\tt (kp cs m k) i=tt cs j
 |0,hk=>fun i hi=>by
  have:i=0:=by simp[kp] at hi;omega
  subst this
  exact#[0,hk,rfl]
 |k+1,hk=>by
  have ih:=Wb (cs:=cs) (m:=m) k ()
  by_cases e:slp cs m k=slp cs m (k+1)
  .rw[Hd e];exact ih
  .rw[NQ e]
   intro i hi
   by_cases c:i<(kp cs m k).length
   .rw[Oj c];exact ih i c
   .rw[CW] at hi
    rw[show i=(kp cs m k).length from (),SQ]
    exact#[k+1,hk,rfl]
theorem XH {α:Type}{f:α->D}{xs:List α}{h:Nat}(hh:h<=xs.length):F0 (xs.map f) none (some (h:Int))=(xs.take h).map f:=by
 unfold F0
 rw[HT.sIx_nat,qAa,qBF hh]
 show((xs.map f).drop 0).take (h-0)=_
 rw[List.drop_zero,Nat.sub_zero,qCU]
theorem SN {α:Type}{f:α->D}{xs:List α}{h:Nat}(hh:h<=xs.length):F0 (xs.map f) (some (h:Int)) none=(xs.drop h).map f:=by
 unfold F0
 rw[HT.sIx_nat,qAa,qBF hh]
 show((xs.map f).drop h).take (xs.length-h)=_
 rw[<-qB8,qBh (by rw[qAa,qAZ];exact qAc _)]
end CH
namespace L3
open PySem PySem.Spec PyProof.Rows L2
section
variable {X:Cx}
end
end L3
namespace CH
open PySem L2 L3
def mn (a b:Rat):Rat:=if b<a then b else a
structure LS (a b c:Nat)(cs:Cs)(m:Rat):Prop where
 tm:∀i,i<cs.length->Sz a (tt cs i)
 sl:∀t,0<=t->Sz b (sat cs m t)
 ic:∀t,0<=t->Sz c (val cs m t-sat cs m t*t)
theorem LS.va {a b c n:Nat}{cs:Cs}{m t:Rat}(z:LS a b c cs m) (t0:0<=t) (ht:Sz n t):Sz (b+n+c+1) (val cs m t):=by
 have h:=(z.ic t t0).add ((z.sl t t0).mul ht)
 rw[show val cs m t-sat cs m t*t+sat cs m t*t=val cs m t from ⋯] at h
 exact h.mono ()
theorem LS.m {a b c:Nat}{cs:Cs}{m:Rat}(z:LS a b c cs m) (o:Ord cs):Sz b m:=by
 have n:=o.ne
 have t0:=BI o.up (i:=0) (j:=cs.length-1) () ()
 rw[o.t0] at t0
 have:=z.sl _ t0
 rw[Qh n qAi] at this
 exact this
theorem LS.szk {a b c n:Nat}{cs:Cs}{m:Rat}(z:LS a b c cs m) (o:Ord cs) (hl:cs.length<=100000) (h:a+b+c+1<=n):SzK n cs m:=by
 refine#[hl,fun i hi=>?_,(z.m o).mono ()]
 have t0:=BI o.up (i:=0) (j:=i) () hi
 rw[o.t0] at t0
 have:=z.va t0 (z.tm i hi)
 rw[CB o hi] at this
 exact#[(z.tm i hi).mono (),this.mono ()]
theorem LS.mono {a b c a' b' c':Nat}{cs:Cs}{m:Rat}(z:LS a b c cs m) (h1:a<=a') (h2:b<=b') (h3:c<=c'):LS a' b' c' cs m :=
 #[fun i hi=>(z.tm i hi).mono h1,fun t t0=>(z.sl t t0).mono h2,fun t t0=>(z.ic t t0).mono h3]
theorem LS.kept {a b c:Nat}{cs:Cs}{m:Rat}(z:LS a b c cs m) (o:Ord cs):LS a b c (kp cs m (cs.length-1)) m:=by
 have n:=o.ne
 refine#[fun i hi=>?_,fun t t0=>by rw[(ET o t).2];exact z.sl t t0,fun t t0=>by rw[(ET o t).1,(ET o t).2];exact z.ic t t0]
 obtain⟨j,hj,e⟩:=Wb (cs:=cs) (m:=m) _ () i hi
 rw[e];exact z.tm j hj
def Til (nx:Option Rat)(x:Rat):Prop:=∀u,nx=some u->x<=u
structure Pc (cs:Cs)(m:Rat)(ds:Cs)(k:Rat)(a:Rat)(nx:Option Rat):Prop where
 f:∀x,a<=x->Til nx x->val cs m x=val cs m a+sat cs m a*(x-a)
 g:∀x,a<=x->Til nx x->val ds k x=val ds k a+sat ds k a*(x-a)
 s:(∀x,a<=x->Til nx x->val cs m x<=val ds k x)\/(∀x,a<=x->Til nx x->val ds k x<=val cs m x)
 e:nx=none->sat cs m a=m/\sat ds k a=k
def nxU (us:List Rat)(nx:Option Rat)(i:Nat):Option Rat:=if i+1<us.length then some (T us (i+1)) else nx
structure Cx (cs:Cs)(m:Rat)(ds:Cs)(k:Rat)(us:List Rat)(nx:Option Rat):Prop where
 ne:0<us.length
 t0:T us 0=0
 up:∀i,i+1<us.length->T us i<T us (i+1)
 pc:∀i,i<us.length->Pc cs m ds k (T us i) (nxU us nx i)
theorem T_l {us:List Rat}{a:Rat}{i:Nat}(h:i<us.length):T (us++[a]) i=T us i:=by
 unfold T
 rw[qAd,qAv h,qAd]
theorem T_r {us:List Rat}{a:Rat}:T (us++[a]) us.length=a:=by
 unfold T
 rw[qAd,qAz (qAc _),qBX]
 rfl
theorem Cx.one {cs ds:Cs}{m k:Rat}{nx:Option Rat}(h:Pc cs m ds k 0 nx):Cx cs m ds k [0] nx:=by
 refine#[qCK,rfl,fun i hi=>?_,fun i hi=>?_]
 .have:i+1<1:=hi
  omega
 .have:i=0:=by have:i<1:=hi;omega
  subst this
  exact h
theorem Cx.snoc {cs ds:Cs}{m k a:Rat}{us:List Rat}{nx:Option Rat}(x:Cx cs m ds k us (some a)) (hl:T us (us.length-1)<a) (h:Pc cs m ds k a nx):Cx cs m ds k (us++[a]) nx:=by
 have n:=x.ne
 have ll:(us++[a]).length=us.length+1:=by simp
 refine#[(),by rw[T_l n];exact x.t0,fun i hi=>?_,fun i hi=>?_]
 .by_cases c:i+1<us.length
  .rw[T_l c,T_l ()];exact x.up i c
  .rw[show i+1=us.length from (),T_r,T_l (),show i=us.length-1 from ()]
   exact hl
 .by_cases c:i<us.length
  .have p:=x.pc i c
   rw[T_l c]
   have e:nxU (us++[a]) nx i=nxU us (some a) i:=by
    unfold nxU
    rw[if_pos ()]
    by_cases c2:i+1<us.length
    .rw[if_pos c2,T_l c2]
    .rw[if_neg c2,show i+1=us.length from (),T_r]
   rw[e]
   exact p
  .have e:i=us.length:=()
   subst e
   rw[T_r]
   unfold nxU
   rw[if_neg ()]
   exact h
def Opp (p q:Rat):Prop:=(p<0/\0<q)\/(0<p/\q<0)
instance (p q:Rat):Decidable (Opp p q):=inferInstanceAs (Decidable ((p<0/\0<q)\/(0<p/\q<0)))
theorem SO {a u y s:Rat}(h:a<u) (n:¬Opp y (y+s*(u-a))):(∀x,a<=x->x<=u->y+s*(x-a)<=0)\/(∀x,a<=x->x<=u->0<=y+s*(x-a)):=by
 have lin:∀x,a<=x->x<=u->(y<=0->y+s*(u-a)<=0->y+s*(x-a)<=0)/\(0<=y->0<=y+s*(u-a)->0<=y+s*(x-a)):=fun x h1 h2=>by
  by_cases b0:0<=s
  .have A:=qAj b0 (show 0<=u-x from ⋯)
   have B:=qAj b0 (show 0<=x-a from ⋯)
   constructor
   .intro p q;grind
   .intro p q;grind
  .have A:=qAj (show 0<=-s from ⋯) (show 0<=u-x from ⋯)
   have B:=qAj (show 0<=-s from ⋯) (show 0<=x-a from ⋯)
   constructor
   .intro p q;grind
   .intro p q;grind
 unfold Opp at n
 by_cases c:y<=0/\y+s*(u-a)<=0
 .exact .inl fun x h1 h2=>(lin x h1 h2).1 c.1 c.2
 .exact .inr fun x h1 h2=>(lin x h1 h2).2 ⋯ ⋯
theorem Rn {a y s:Rat}(n:¬Opp y s):(∀x,a<=x->y+s*(x-a)<=0)\/(∀x,a<=x->0<=y+s*(x-a)):=by
 unfold Opp at n
 by_cases c:y<=0/\s<=0
 .refine .inl fun x h1=>?_
  have A:=qAj (show 0<=-s from ⋯) (show 0<=x-a from ⋯)
  grind
 .refine .inr fun x h1=>?_
  have A:=qAj (show 0<=s from ⋯) (show 0<=x-a from ⋯)
  grind
theorem Kb {a y s t:Rat}(h:s≠0) (e:t=a+(0-y)/s) (x:Rat):y+s*(x-a)=s*(x-t):=by
 subst e
 grind
theorem QL {a u y s:Rat}(h:a<u) (o:Opp y (y+s*(u-a))):s≠0/\a<a+(0-y)/s/\a+(0-y)/s<u:=by
 have s0:s≠0:=fun z=>by
  unfold Opp at o
  rw[z] at o
  grind
 have E:=Kb (a:=a) (y:=y) (t:=a+(0-y)/s) s0 rfl
 generalize a+(0-y)/s=t at E
 have e1:=E a
 have e2:=E u
 have e3:y=s*(a-t):=by rw[<-e1];grind
 rw[e2] at o
 rw[e3] at o
 clear E e1 e2 e3
 unfold Opp at o
 refine#[s0,?_,?_]
 .refine qA8.mp fun z=>?_
  rcases o with⟨p,q⟩|⟨p,q⟩
  .by_cases b0:0<=s
   .have A:=qAj b0 (show 0<=a-t from ⋯)
    grind
   .have A:=qAj (show 0<=-s from ⋯) (show 0<=u-t from ⋯)
    grind
  .by_cases b0:0<=s
   .have A:=qAj b0 (show 0<=u-t from ⋯)
    grind
   .have A:=qAj (show 0<=-s from ⋯) (show 0<=a-t from ⋯)
    grind
 .refine qA8.mp fun z=>?_
  rcases o with⟨p,q⟩|⟨p,q⟩
  .by_cases b0:0<=s
   .have A:=qAj b0 (show 0<=t-u from ⋯)
    grind
   .have A:=qAj (show 0<=-s from ⋯) (show 0<=t-a from ⋯)
    grind
  .by_cases b0:0<=s
   .have A:=qAj b0 (show 0<=t-a from ⋯)
    grind
   .have A:=qAj (show 0<=-s from ⋯) (show 0<=t-u from ⋯)
    grind
theorem OP {a y s:Rat}(o:Opp y s):s≠0/\a<a+(0-y)/s:=by
 have s0:s≠0:=fun z=>by
  unfold Opp at o
  rw[z] at o
  grind
 have E:=Kb (a:=a) (y:=y) (t:=a+(0-y)/s) s0 rfl
 generalize a+(0-y)/s=t at E
 have e1:=E a
 have e3:y=s*(a-t):=by rw[<-e1];grind
 rw[e3] at o
 clear E e1 e3
 unfold Opp at o
 refine#[s0,qA8.mp fun z=>?_]
 rcases o with⟨p,q⟩|⟨p,q⟩
 .have A:=qAj (show 0<=s from ⋯) (show 0<=a-t from ⋯)
  grind
 .have A:=qAj (show 0<=-s from ⋯) (show 0<=a-t from ⋯)
  grind
theorem Ni {cs ds:Cs}{ts:List Rat}{m:Rat}(o:Ord cs) (t:Tms cs ds ts){i:Nat}(hi:i<ts.length){x:Rat}(h1:T ts i<=x) (h2:i+1<ts.length->x<T ts (i+1)):sat cs m x=sat cs m (T ts i):=by
 have on:=Gx o (SA t hi)
 obtain⟨_,p2,p3⟩:=D0 (cs:=cs) (t:=T ts i) (by rw[o.t0];exact SA t hi) cs.length o.ne
 unfold sat
 rw[Iu o.up (k:=plc cs (T ts i) cs.length) (qAy on.lo h1) (fun c=>?_) _ on.lt (qAc _)]
 have lt:=p3 _ (qBL _) c
 obtain⟨j,hj,ej⟩:=t.a _ c
 have ij:i<j:=by
  by_cases z:i<j
  .exact z
  .have:=Gu t.up (i:=j) (j:=i) () hi
   rw[ej] at this
   grind
 have:=h2 ()
 have h3:=Gu t.up (i:=i+1) (j:=j) () hj
 rw[ej] at h3
 grind
def nxT (ts:List Rat)(i:Nat):Option Rat:=if i+1<ts.length then some (T ts (i+1)) else none
theorem KJ {ts:List Rat}{i:Nat}{x:Rat}(h:Til (nxT ts i) x):i+1<ts.length->x<=T ts (i+1):=fun c=>h _ (by unfold nxT;rw[if_pos c])
def Hb (cs:Cs)(m:Rat)(ds:Cs)(k:Rat)(ts:List Rat)(i:Nat):Rat:=if i+1<ts.length then gap cs m ds k (T ts (i+1)) else m-k
theorem RX {cs ds:Cs}{ts:List Rat}{m k:Rat}(o:Ord cs) (q:Ord ds) (t:Tms cs ds ts){i:Nat}(hi:i<ts.length) :
 (∀x,T ts i<=x->Til (nxT ts i) x->val cs m x=val cs m (T ts i)+sat cs m (T ts i)*(x-T ts i)) /\
 (∀x,T ts i<=x->Til (nxT ts i) x->val ds k x=val ds k (T ts i)+sat ds k (T ts i)*(x-T ts i)) /\
 (nxT ts i=none->sat cs m (T ts i)=m/\sat ds k (T ts i)=k):=by
 refine#[fun x h1 h2=>Ig o t hi h1 (KJ h2),fun x h1 h2=>Ig q t.swap hi h1 (KJ h2),fun h=>?_]
 have c:¬i+1<ts.length:=fun c=>by unfold nxT at h;rw[if_pos c] at h;cases h
 have e:i=ts.length-1:=()
 subst e
 exact#[Ic o t,Ic q t.swap]
theorem Ui {cs ds:Cs}{ts:List Rat}{m k:Rat}(o:Ord cs) (q:Ord ds) (t:Tms cs ds ts){i:Nat}(hi:i<ts.length) (n:¬Opp (gap cs m ds k (T ts i)) (Hb cs m ds k ts i)):Pc cs m ds k (T ts i) (nxT ts i):=by
 obtain⟨F,G,E⟩:=RX (m:=m) (k:=k) o q t hi
 refine#[F,G,?_,E]
 have g:∀x,T ts i<=x->Til (nxT ts i) x->val cs m x-val ds k x=gap cs m ds k (T ts i)+(sat cs m (T ts i)-sat ds k (T ts i))*(x-T ts i):=fun x h1 h2=>by
  rw[F x h1 h2,G x h1 h2]
  unfold gap
  grind
 by_cases c:i+1<ts.length
 .have u:=t.up i c
  have e:=g (T ts (i+1)) (qAp u) (fun v hv=>by unfold nxT at hv;rw[if_pos c] at hv;cases hv;exact qAi)
  unfold Hb at n
  rw[if_pos c] at n
  have e2:gap cs m ds k (T ts (i+1))=gap cs m ds k (T ts i)+(sat cs m (T ts i)-sat ds k (T ts i))*(T ts (i+1)-T ts i):=e
  rw[e2] at n
  rcases SO u n with h|h
  .exact .inl fun x h1 h2=>by have:=h x h1 (KJ h2 c);have:=g x h1 h2;grind
  .exact .inr fun x h1 h2=>by have:=h x h1 (KJ h2 c);have:=g x h1 h2;grind
 .unfold Hb at n
  rw[if_neg c] at n
  obtain⟨e1,e2⟩:=E (by unfold nxT;rw[if_neg c])
  rw[e1,e2] at g
  rcases Rn (a:=T ts i) n with h|h
  .exact .inl fun x h1 h2=>by have:=h x h1;have:=g x h1 h2;grind
  .exact .inr fun x h1 h2=>by have:=h x h1;have:=g x h1 h2;grind
theorem VW {cs ds:Cs}{ts:List Rat}{m k t':Rat}(o:Ord cs) (q:Ord ds) (t:Tms cs ds ts){i:Nat}(hi:i<ts.length) (n:Opp (gap cs m ds k (T ts i)) (Hb cs m ds k ts i)) (et:t'=T ts i+(0-gap cs m ds k (T ts i))/(sat cs m (T ts i)-sat ds k (T ts i))) :
 sat cs m (T ts i)-sat ds k (T ts i)≠0/\T ts i<t'/\(∀u,nxT ts i=some u->t'<u)/\Pc cs m ds k (T ts i) (some t')/\Pc cs m ds k t' (nxT ts i)/\val ds k t'=val cs m t'/\sat cs m t'=sat cs m (T ts i)/\sat ds k t'=sat ds k (T ts i):=by
 obtain⟨F,G,E⟩:=RX (m:=m) (k:=k) o q t hi
 have g:∀x,T ts i<=x->Til (nxT ts i) x->val cs m x-val ds k x=gap cs m ds k (T ts i)+(sat cs m (T ts i)-sat ds k (T ts i))*(x-T ts i):=fun x h1 h2=>by
  rw[F x h1 h2,G x h1 h2]
  unfold gap
  grind
 have K:sat cs m (T ts i)-sat ds k (T ts i)≠0/\T ts i<t'/\(∀u,nxT ts i=some u->t'<u):=by
  subst et
  by_cases c:i+1<ts.length
  .have u:=t.up i c
   have e:=g (T ts (i+1)) (qAp u) (fun v hv=>by unfold nxT at hv;rw[if_pos c] at hv;cases hv;exact qAi)
   unfold Hb at n
   rw[if_pos c] at n
   have e2:gap cs m ds k (T ts (i+1))=gap cs m ds k (T ts i)+(sat cs m (T ts i)-sat ds k (T ts i))*(T ts (i+1)-T ts i):=e
   rw[e2] at n
   obtain⟨a1,a2,a3⟩:=QL u n
   exact#[a1,a2,fun v hv=>by unfold nxT at hv;rw[if_pos c] at hv;cases hv;exact a3]
  .unfold Hb at n
   rw[if_neg c] at n
   obtain⟨e1,e2⟩:=E (by unfold nxT;rw[if_neg c])
   rw[<-e1,<-e2] at n
   rw[e1,e2] at n ⊢
   obtain⟨a1,a2⟩:=OP (a:=T ts i) n
   exact#[a1,a2,fun v hv=>by unfold nxT at hv;rw[if_neg c] at hv;cases hv]
 obtain⟨s0,lt,ltn⟩:=K
 have C:=Kb s0 et
 have tl:Til (nxT ts i) t':=fun u hu=>qAp (ltn u hu)
 have ti:∀x,Til (some t') x->Til (nxT ts i) x:=fun x hx u hu=>qAy (hx t' rfl) (tl u hu)
 have s1:sat cs m t'=sat cs m (T ts i):=Ni o t hi (qAp lt) (fun c=>ltn _ (by unfold nxT;rw[if_pos c]))
 have s2:sat ds k t'=sat ds k (T ts i):=Ni q t.swap hi (qAp lt) (fun c=>ltn _ (by unfold nxT;rw[if_pos c]))
 have g2:∀x,T ts i<=x->Til (nxT ts i) x->val cs m x-val ds k x=(sat cs m (T ts i)-sat ds k (T ts i))*(x-t'):=fun x h1 h2=>by rw[g x h1 h2,C x]
 have ev:val ds k t'=val cs m t':=by have:=g2 t' (qAp lt) tl;grind
 refine#[s0,lt,ltn,#[fun x h1 h2=>F x h1 (ti x h2),fun x h1 h2=>G x h1 (ti x h2),?_,fun h=>by cases h],#[fun x h1 h2=>?_,fun x h1 h2=>?_,?_,fun h=>by rw[s1,s2];exact E h],ev,s1,s2]
 .by_cases b0:0<=sat cs m (T ts i)-sat ds k (T ts i)
  .refine .inl fun x h1 h2=>?_
   have A:=qAj b0 (show 0<=t'-x by have:=h2 t' rfl;grind)
   have:=g2 x h1 (ti x h2)
   grind
  .refine .inr fun x h1 h2=>?_
   have A:=qAj (show 0<=-(sat cs m (T ts i)-sat ds k (T ts i)) from ⋯) (show 0<=t'-x by have:=h2 t' rfl;grind)
   have:=g2 x h1 (ti x h2)
   grind
 .have a1:=F x (qAy (qAp lt) h1) h2
  have a2:=F t' (qAp lt) tl
  rw[s1]
  grind
 .have a1:=G x (qAy (qAp lt) h1) h2
  have a2:=G t' (qAp lt) tl
  rw[s2]
  grind
 .by_cases b0:0<=sat cs m (T ts i)-sat ds k (T ts i)
  .refine .inr fun x h1 h2=>?_
   have A:=qAj b0 (show 0<=x-t' from ⋯)
   have:=g2 x (qAy (qAp lt) h1) h2
   grind
  .refine .inl fun x h1 h2=>?_
   have A:=qAj (show 0<=-(sat cs m (T ts i)-sat ds k (T ts i)) from ⋯) (show 0<=x-t' from ⋯)
   have:=g2 x (qAy (qAp lt) h1) h2
   grind
structure Qw (op:Rat->Rat->Rat):Prop where
 w:((∀x y,x<=y->op x y=x)/\(∀x y,y<=x->op x y=y))\/((∀x y,x<=y->op x y=y)/\(∀x y,y<=x->op x y=x))
theorem KA:Qw mn:=by
 refine#[.inl #[fun x y h=>?_,fun x y h=>?_]]
 .unfold mn;rw[if_neg (qAM.mpr h)]
 .unfold mn;split
  .rfl
  .grind
theorem Qw.or {op:Rat->Rat->Rat}(P:Qw op) (x y:Rat):op x y=x\/op x y=y:=by
 rcases P.w with⟨a,b⟩|⟨a,b⟩
 .by_cases c:x<=y
  .exact .inl (a x y c)
  .exact .inr (b x y ⋯)
 .by_cases c:x<=y
  .exact .inr (a x y c)
  .exact .inl (b x y ⋯)
theorem Qw.mono {op:Rat->Rat->Rat}(P:Qw op){x y x' y':Rat}(h1:x<=x') (h2:y<=y'):op x y<=op x' y':=by
 rcases P.w with⟨a,b⟩|⟨a,b⟩
 .by_cases c:x<=y
  .by_cases d:x'<=y'
   .rw[a x y c,a x' y' d];exact h1
   .rw[a x y c,b x' y' ⋯];grind
  .by_cases d:x'<=y'
   .rw[b x y ⋯,a x' y' d];grind
   .rw[b x y ⋯,b x' y' ⋯];exact h2
 .by_cases c:x<=y
  .by_cases d:x'<=y'
   .rw[a x y c,a x' y' d];exact h2
   .rw[a x y c,b x' y' ⋯];grind
  .by_cases d:x'<=y'
   .rw[b x y ⋯,a x' y' d];grind
   .rw[b x y ⋯,b x' y' ⋯];exact h1
theorem Lr {f0 g0 m k a:Rat}(h:∀x,a<=x->f0+m*(x-a)<=g0+k*(x-a)):m<=k:=by
 refine qAM.mp fun c=>?_
 have h0:=h a qAi
 have d0:0<m-k:=⋯
 have q0:0<=(g0-f0)/(m-k):=by
  rw[qCL]
  exact qAj ⋯ (qAp (Rat.inv_pos.mpr d0))
 have:=h (a+(g0-f0)/(m-k)+1) ⋯
 have e:(m-k)*((g0-f0)/(m-k))=g0-f0:=by
  have:m-k≠0:=⋯
  grind
 generalize (g0-f0)/(m-k)=y at *
 grind
theorem Pc.pick {cs ds:Cs}{m k a:Rat}{nx:Option Rat}{op:Rat->Rat->Rat}(h:Pc cs m ds k a nx) (P:Qw op):∃(c:Cs)(n:Rat),((c=cs/\n=m)\/(c=ds/\n=k))/\(∀x,a<=x->Til nx x->op (val cs m x) (val ds k x)=val c n x)/\(∀x,a<=x->Til nx x->val c n x=val c n a+sat c n a*(x-a))/\(nx=none->op m k=n/\sat c n a=n):=by
 have le:nx=none->(∀x,a<=x->Til nx x->val cs m x<=val ds k x)->m<=k:=fun e H=>by
  have tl:∀x,Til nx x:=fun x u hu=>by rw[e] at hu;cases hu
  refine Lr (f0:=val cs m a) (g0:=val ds k a) (a:=a) fun x hx=>?_
  have:=H x hx (tl x)
  have f:=h.f x hx (tl x)
  have g:=h.g x hx (tl x)
  rw[(h.e e).1] at f
  rw[(h.e e).2] at g
  grind
 have ge:nx=none->(∀x,a<=x->Til nx x->val ds k x<=val cs m x)->k<=m:=fun e H=>by
  have tl:∀x,Til nx x:=fun x u hu=>by rw[e] at hu;cases hu
  refine Lr (f0:=val ds k a) (g0:=val cs m a) (a:=a) fun x hx=>?_
  have:=H x hx (tl x)
  have f:=h.f x hx (tl x)
  have g:=h.g x hx (tl x)
  rw[(h.e e).1] at f
  rw[(h.e e).2] at g
  grind
 rcases P.w with⟨p,q⟩|⟨p,q⟩
 .rcases h.s with s|s
  .exact#[cs,m,.inl #[rfl,rfl],fun x h1 h2=>p _ _ (s x h1 h2),h.f,fun e=>#[p _ _ (le e s),(h.e e).1]]
  .exact#[ds,k,.inr #[rfl,rfl],fun x h1 h2=>q _ _ (s x h1 h2),h.g,fun e=>#[q _ _ (ge e s),(h.e e).2]]
 .rcases h.s with s|s
  .exact#[ds,k,.inr #[rfl,rfl],fun x h1 h2=>p _ _ (s x h1 h2),h.g,fun e=>#[p _ _ (le e s),(h.e e).2]]
  .exact#[cs,m,.inl #[rfl,rfl],fun x h1 h2=>q _ _ (s x h1 h2),h.f,fun e=>#[q _ _ (ge e s),(h.e e).1]]
def ocs (op:Rat->Rat->Rat)(cs:Cs)(m:Rat)(ds:Cs)(k:Rat)(us:List Rat):Cs:=us.map fun t=>(t,op (val cs m t) (val ds k t))
section
variable {op:Rat->Rat->Rat}{cs ds:Cs}{m k:Rat}{us:List Rat}
theorem Dh:(ocs op cs m ds k us).length=us.length:=qAa _
theorem C7 {i:Nat}(h:i<us.length):tt (ocs op cs m ds k us) i=T us i/\vv (ocs op cs m ds k us) i=op (val cs m (T us i)) (val ds k (T us i)):=by
 rw[(FW (show i<(ocs op cs m ds k us).length by rw[Dh];exact h)).1,(FW (show i<(ocs op cs m ds k us).length by rw[Dh];exact h)).2,Lv h]
 unfold ocs
 rw[List.getElem_map]
 exact#[rfl,rfl]
theorem Cx.nn {nx:Option Rat}(x:Cx cs m ds k us nx){i:Nat}(h:i<us.length):0<=T us i:=by
 have:=Gu x.up (i:=0) (j:=i) () h
 rw[x.t0] at this
 exact this
theorem Mi (P:Qw op)(r:G9 cs m)(s:G9 ds k)(x:Cx cs m ds k us none):Ord (ocs op cs m ds k us):=by
 have n:=x.ne
 refine#[by rw[Dh];exact n,by rw[(C7 n).1];exact x.t0,?_,fun i hi=>?_,fun i hi=>?_]
 .rw[(C7 n).2,x.t0,Gw r.o,Gw s.o]
  have:=r.o.v0
  have:=s.o.v0
  rcases P.or (vv cs 0) (vv ds 0) with e|e<;>rw[e]<;>assumption
 .rw[Dh] at hi
  rw[(C7 (show i<us.length from ())).1,(C7 hi).1];exact x.up i hi
 .rw[Dh] at hi
  have i0:i<us.length:=()
  rw[(C7 i0).2,(C7 hi).2]
  exact P.mono (EM r (x.nn i0) (qAp (x.up i hi))) (EM s (x.nn i0) (qAp (x.up i hi)))
theorem Sa (P:Qw op)(x:Cx cs m ds k us none){i:Nat}(hi:i<us.length):∃(c:Cs)(n:Rat),((c=cs/\n=m)\/(c=ds/\n=k))/\slp (ocs op cs m ds k us) (op m k) i=sat c n (T us i)/\(∀y,T us i<=y->(i+1<us.length->y<=T us (i+1))->op (val cs m y) (val ds k y)=val c n y/\val c n y=val c n (T us i)+sat c n (T us i)*(y-T us i)):=by
 obtain⟨c,n,w,h1,h2,h3⟩:=(x.pc i hi).pick P
 have tl:∀y,(i+1<us.length->y<=T us (i+1))->Til (nxU us none i) y:=fun y h u hu=>by
  unfold nxU at hu
  split at hu
  .next e=>cases hu;exact h e
  .cases hu
 refine#[c,n,w,?_,fun y y1 y2=>#[h1 y y1 (tl y y2),h2 y y1 (tl y y2)]]
 by_cases e:i+1<us.length
 .rw[BX (by rw[Dh];exact e),(C7 hi).1,(C7 hi).2,(C7 e).1,(C7 e).2]
  have u:=x.up i e
  have a0:=h1 (T us i) qAi (tl _ fun _=>qAp u)
  have a1:=h1 (T us (i+1)) (qAp u) (tl _ fun _=>qAi)
  have b:=h2 (T us (i+1)) (qAp u) (tl _ fun _=>qAi)
  rw[a0,a1]
  exact Nq ⋯ ⋯
 .rw[Bb (by rw[Dh];exact e)]
  obtain⟨q1,q2⟩:=h3 (by unfold nxU;rw[if_neg e])
  rw[q1,q2]
theorem SR (P:Qw op)(r:G9 cs m)(s:G9 ds k)(x:Cx cs m ds k us none){y:Rat}(y0:0<=y):val (ocs op cs m ds k us) (op m k) y=op (val cs m y) (val ds k y):=by
 obtain⟨i,hi,h1,h2⟩:=Rb x.ne x.t0 y0
 obtain⟨c,n,_,sl,pc⟩:=Sa P x hi
 have O:=Mi P r s x
 have on:On (ocs op cs m ds k us) i y:=#[by rw[Dh];exact hi,by rw[(C7 hi).1];exact h1,fun z=>by rw[Dh] at z;rw[(C7 z).1];exact h2 z]
 rw[Ey O.up on,sl,(C7 hi).1,(C7 hi).2,(pc _ qAi (fun z=>qAp (x.up i z))).1,(pc y h1 h2).1,(pc y h1 h2).2]
theorem VY (P:Qw op)(r:G9 cs m)(s:G9 ds k)(x:Cx cs m ds k us none){a b c:Nat}(z1:LS a b c cs m) (z2:LS a b c ds k) (zt:∀i,i<us.length->Sz a (T us i)):LS a b c (ocs op cs m ds k us) (op m k):=by
 have O:=Mi P r s x
 have key:∀y,0<=y->Sz b (sat (ocs op cs m ds k us) (op m k) y)/\Sz c (val (ocs op cs m ds k us) (op m k) y-sat (ocs op cs m ds k us) (op m k) y*y):=fun y y0=>by
  have on:=Gx O y0
  have ev:val (ocs op cs m ds k us) (op m k) y=vv (ocs op cs m ds k us) (plc (ocs op cs m ds k us) y (ocs op cs m ds k us).length)+slp (ocs op cs m ds k us) (op m k) (plc (ocs op cs m ds k us) y (ocs op cs m ds k us).length)*(y-tt (ocs op cs m ds k us) (plc (ocs op cs m ds k us) y (ocs op cs m ds k us).length)):=rfl
  have es:sat (ocs op cs m ds k us) (op m k) y=slp (ocs op cs m ds k us) (op m k) (plc (ocs op cs m ds k us) y (ocs op cs m ds k us).length):=rfl
  generalize plc (ocs op cs m ds k us) y (ocs op cs m ds k us).length=i at on ev es
  have hi:i<us.length:=by have:=on.lt;rw[Dh] at this;exact this
  obtain⟨C,n,w,sl,pc⟩:=Sa P x hi
  rw[ev,es,sl,(C7 hi).1,(C7 hi).2,(pc _ qAi (fun z=>qAp (x.up i z))).1]
  have e:val C n (T us i)+sat C n (T us i)*(y-T us i)-sat C n (T us i)*y=val C n (T us i)-sat C n (T us i)*T us i:=⋯
  rw[e]
  have t0:=x.nn hi
  rcases w with⟨rfl,rfl⟩|⟨rfl,rfl⟩
  .exact#[z1.sl _ t0,z1.ic _ t0]
  .exact#[z2.sl _ t0,z2.ic _ t0]
 exact#[fun i hi=>by rw[Dh] at hi;rw[(C7 hi).1];exact zt i hi,fun t t0=>(key t t0).1,fun t t0=>(key t t0).2]
end
theorem OX {a b c n:Nat}{cs ds:Cs}{m k t:Rat}(z1:LS a b c cs m) (z2:LS a b c ds k) (t0:0<=t) (s0:sat cs m t-sat ds k t≠0) (h:2*b+2*c+2<=n):Sz n (t+(0-gap cs m ds k t)/(sat cs m t-sat ds k t)):=by
 have q:=((z2.ic t t0).sub (z1.ic t t0)).div ((z1.sl t t0).sub (z2.sl t t0)) s0
 have e:t+(0-gap cs m ds k t)/(sat cs m t-sat ds k t)=((val ds k t-sat ds k t*t)-(val cs m t-sat cs m t*t))/(sat cs m t-sat ds k t):=by
  unfold gap
  generalize sat cs m t=p at *
  generalize sat ds k t=q at *
  grind
 rw[e]
 exact q.mono ()
theorem SJ (p q:Rat):p.num*q.num<0 ↔ Opp p q:=by
 unfold Opp
 have N:∀x:Rat,x.num<0 ↔ x<0:=fun x=>by rw[<-qA8,<-Int.not_le,Rat.num_nonneg]
 have N2:∀x:Rat,0<x.num ↔ 0<x:=fun x=>by
  have:=N (-x)
  rw[Rat.neg_num] at this
  constructor
  .intro h;have:=this.mp ();grind
  .intro h;have:=this.mpr ⋯;omega
 rw[<-N2 p,<-N2 q,<-N p,<-N q]
 constructor
 .intro h
  by_cases c:0<p.num
  .refine .inr #[c,Int.not_le.mp fun z=>?_]
   have:=qBZ (qCm c) z
   omega
  .by_cases d:p.num=0
   .rw[d] at h;omega
   .refine .inl #[(),Int.not_le.mp fun z=>?_]
    have:=qBZ (show 0<=- p.num from ()) (show 0<=- q.num from ())
    rw[Int.neg_mul_neg] at this
    omega
 .rintro (⟨a,b⟩|⟨a,b⟩)
  .exact Int.mul_neg_of_neg_of_pos a b
  .exact Int.mul_neg_of_pos_of_neg a b
def sdL (cs:Cs)(m:Rat)(ds:Cs)(k:Rat)(ts:List Rat):List Rat:=(List.range ts.length).map (Hb cs m ds k ts)
theorem Tn (cs:Cs)(m:Rat)(ds:Cs)(k:Rat)(ts:List Rat)(h:0<ts.length):(((gcs cs m ds k ts).drop 1).map fun c=>some (qd c.2)).filterMap id++[qd (m-k)]=(sdL cs m ds k ts).map qd:=by
 rw[DA ((gcs cs m ds k ts).drop 1) (fun c=>qd c.2)]
 have gl:=Ka (cs:=cs) (m:=m) (ds:=ds) (k:=k) (ts:=ts)
 refine List.ext_getElem (by simp[sdL,gl];omega) fun i h1 h2=>?_
 have hi:i<ts.length:=by simpa [sdL] using h2
 have e2:((sdL cs m ds k ts).map qd)[i]=qd (Hb cs m ds k ts i):=by simp[sdL]
 rw[e2]
 by_cases c:i+1<ts.length
 .have hg:i+1<(gcs cs m ds k ts).length:=by rw[gl];exact c
  rw[List.getElem_append_left (by simp[gl];omega)]
  have e:=(FW hg).2
  rw[(F6 c).2] at e
  unfold Hb
  rw[if_pos c,e]
  simp[qBU]
 .rw[List.getElem_append_right (by simp[gl];omega)]
  unfold Hb
  rw[if_neg c]
  simp
theorem Xk {cs:Cs}{m:Rat}{ds:Cs}{k:Rat}{ts:List Rat}{i:Int}(j:Nat) (e:i=(j:Int)) (h:j<ts.length):atI ((sdL cs m ds k ts).map qd) i=some (qd (Hb cs m ds k ts j)):=by
 subst e
 rw[CH.atI_nat (by simp[sdL];exact h)]
 simp[sdL,h]
theorem Cx.turn {cs ds:Cs}{m k:Rat}{ts us:List Rat}{i:Nat}{nx:Option Rat}(t:Tms cs ds ts) (hi:i<ts.length) (h0:i=0->us=[]) (hp:0<i->Cx cs m ds k us (nxT ts (i-1))/\∀u,nxT ts (i-1)=some u->T us (us.length-1)<u) (p:Pc cs m ds k (T ts i) nx):Cx cs m ds k (us++[T ts i]) nx:=by
 by_cases z:i=0
 .rw[h0 z]
  subst z
  rw[t.t0] at p ⊢
  exact Cx.one p
 .obtain⟨x,hl⟩:=hp ()
  have e:nxT ts (i-1)=some (T ts i):=by unfold nxT;rw[show i-1+1=i from (),if_pos hi]
  rw[e] at x
  exact x.snoc (hl _ e) p
theorem Po {us:List Rat}{a:Rat}:T (us++[a]) ((us++[a]).length-1)=a:=by
 rw[qAn]
 exact T_r
theorem MA {us:List Rat}{a:Rat}{n:Nat}(h:∀i,i<us.length->Sz n (T us i)) (ha:Sz n a):∀i,i<(us++[a]).length->Sz n (T (us++[a]) i):=fun i hi=>by
 by_cases c:i<us.length
 .rw[T_l c];exact h i c
 .rw[qAn] at hi
  have:i=us.length:=by have:i<us.length+1:=hi;omega
  rw[this,T_r];exact ha
def Ln (p g:Nat)(C:Cs)(M:Rat):Prop:=∀i,i<C.length->Sz p (slp C M i)/\Sz g (vv C i-slp C M i*tt C i)
theorem Ln.ls {a p g:Nat}{C:Cs}{M:Rat}(n:Ln p g C M) (o:Ord C) (ht:∀i,i<C.length->Sz a (tt C i)):LS a p g C M:=by
 refine#[ht,fun t t0=>?_,fun t t0=>?_]
 .exact(n _ (Gx o t0).lt).1
 .have on:=Gx o t0
  have ev:val C M t=vv C (plc C t C.length)+slp C M (plc C t C.length)*(t-tt C (plc C t C.length)):=rfl
  have es:sat C M t=slp C M (plc C t C.length):=rfl
  generalize plc C t C.length=j at on ev es
  have z:=(n j on.lt).2
  rw[ev,es]
  rw[show vv C j+slp C M j*(t-tt C j)-slp C M j*t=vv C j-slp C M j*tt C j from ⋯]
  exact z
section
variable {a b c a2 b2 c2:Nat}{cs ds:Cs}{m k:Rat}
end
theorem RE {B p:Nat}{l:List (Int×Int)}{lo hi a b:Int}(r:MX B l) (h1:0<lo) (h2:0<hi) (l1:lo.natAbs<2^p) (l2:hi.natAbs<2^p) (hb:0<b){n:Nat}(hn:B+p+1<=n) (a1:a.natAbs<2^n) (b1:b.natAbs<2^n){k:Nat}(hk:k<l.length):Sz n (slp (rcs l lo hi) (Rat.divInt a b) k):=by
 by_cases c:k+1<l.length
 .have u:=r.up k c
  have z1:=r.sz k hk
  have z2:=r.sz (k+1) c
  rw[BX (by rw[Dd];exact c),(CF hk).1,(CF hk).2,(CF c).1,(CF c).2]
  have e:(Rat.divInt (iv l (k+1)) hi-Rat.divInt (iv l k) hi)/(Rat.divInt (ia l (k+1)) lo-Rat.divInt (ia l k) lo)=Rat.divInt ((iv l (k+1)-iv l k)*lo) ((ia l (k+1)-ia l k)*hi):=by
   rw[qAx,qAx,qAx,qAx,qAx,qAk,qAk,qAR,qAR]
   have n1:(lo:Rat)≠0:=fun z=>absurd (qAN.mp z) (qBn h1)
   have n2:(hi:Rat)≠0:=fun z=>absurd (qAN.mp z) (qBn h2)
   have n3:((ia l (k+1):Rat)-(ia l k:Rat))≠0:=fun z=>by
    rw[<-qAR] at z
    have:=qAN.mp z
    omega
   generalize (ia l (k+1):Rat)=x1 at *
   generalize (ia l k:Rat)=x0 at *
   generalize (iv l (k+1):Rat)=y1 at *
   generalize (iv l k:Rat)=y0 at *
   generalize (lo:Rat)=pp at *
   generalize (hi:Rat)=q at *
   clear z1 z2 u a1 b1 l1 l2 h1 h2 hb
   have e:x1/pp-x0/pp=(x1-x0)/pp:=⋯
   have e2:y1/q-y0/q=(y1-y0)/q:=⋯
   rw[e,e2]
   generalize x1-x0=x at *
   generalize y1-y0=y at *
   grind
  rw[e]
  refine Jd (qAU () h2) (Ar (Aj (DL z2.2 z1.2) l1) ()) (Ar (Aj (DL z2.1 z1.1) l2) ())
 .rw[Bb (by rw[Dd];exact c)]
  exact Jd hb a1 b1
end CH
namespace L3
open PySem PySem.Spec PyProof.Rows L2
section
variable {X:L2.Cx}{e1 e2:Expr}{ti te:TE3}{pos:Pos}
end
end L3
namespace CH
open PySem L2 L3
section
variable {a b c a2 b2 c2:Nat}{cs ds:Cs}{m k:Rat}{ts:List Rat}
end
theorem LS.ln {a b c:Nat}{cs:Cs}{m:Rat}(z:LS a b c cs m) (o:Ord cs):Ln b c cs m:=fun i hi=>by
 have t0:0<=tt cs i:=by
  have:=BI o.up (i:=0) (j:=i) () hi
  rw[o.t0] at this
  exact this
 have e:sat cs m (tt cs i)=slp cs m i:=by
  unfold sat
  rw[Iu o.up (k:=i) qAi (fun h=>o.up i h) _ hi (qAc _)]
 have z1:=z.sl _ t0
 have z2:=z.ic _ t0
 rw[e] at z1 z2
 rw[CB o hi] at z2
 exact#[z1,z2]
section
variable {h:Rat->Rat}{ts:List Rat}{S:Nat->Rat}{a b c g X:Nat}
end
end CH
namespace L3
open PySem PySem.Spec PyProof.Rows L2
def OZ (idx:List Nat)(ws:TX3)(tt:TT3)(te:TE3):TE3:=fun τ R=>ws τ fun xs=>∃J:Nat->List D->Prop,J 0 []/\(∀n ds,J n ds->ds.length<=n) /\
 (∀(n:Nat)(x:D)(ds:List D),xs[n]? = some x->J n ds->tt (OT τ idx x) fun b=>if b=true then te (OT τ idx x) (fun s=>dd s.arg fun y=>J (n+1) (ds++[y])) else J (n+1) ds)/\xs.length<=100000/\∀ds,J xs.length ds->R (.l ds)
section
variable {X:L2.Cx}{x:Str}{px pos:Pos}{scope:Scope}{N:List Str}{idx:List Nat}{elt iter:Expr}{ifs:List Expr}{wi:TI}{ws:TX3}{tt:TT3}{te:TE3}
theorem LG (hsrc:Src X wi ws){σ:St}{H:Hp}{Q:VK}(h:FE X (OZ idx ws tt te) σ H Q):Qg X.K idx wi (fun H₀=>FT (cxC X N scope H₀) tt) (fun H₀=>FE (cxC X N scope H₀) te) σ H Q:=by
 obtain⟨B,z,τ,R,r,ht,q⟩:=h
 refine hsrc B τ σ H z _ _ r ht fun J0 p1 xs e1 hP hJ=>fun D' hD hK=>?_
 obtain⟨J,j0,jl,hel,hsz,hR⟩:=hP
 have sz:(100000:Nat)<sizeLine:=∅
 refine#[fun i m ys H'=>m=xs.length-i/\i<=xs.length/\∃z',Ext p1 #[H',z']/\z' D'=none/\∃ds,Iss X.K z' ys ds/\J i ds,#[xs.length,rfl,qA3 _,p1.z,Ext.own e1.sub hD _,e1.sub.free hD,[],Iss.nil,j0],?_]
 rintro i m ys H' hD' ⟨rfl,hi,z',hs,hzD,ds,hiss,hj⟩
 by_cases hlt:i<xs.length
 .obtain⟨go,yl⟩:=(hJ H' hs.hh).1 i hlt
  refine .inr #[go,fun v H'' hy=>?_]
  obtain⟨rfl,d,hx,iv⟩:=yl v H'' hy
  have rr:Rep (cxC X N scope p1.h) p1 (OT τ idx d) (some v::DS σ idx) #[H'',z']:=KW r e1 hs (iv.mono hs.zz)
  have hys:ys.length<=i:=by
   rw[hiss.1]
   exact jl i ds hj
  have keep:∀q:HZ,Ext #[H'',z'] q->q.z D'=none:=fun q e=>by
   cases y:q.z D' with
   |none=>rfl
   |some o =>
    rcases e.new D' o y with y|y
    .exact nomatch (hzD.symm.trans y)
    .exact nomatch (hD'.symm.trans y)
  refine#[_,_,_,_,rr,hel i d ds hx hj,fun b q3 e3 hb=>?_]
  cases b with
  |true =>
   rw[if_pos rfl] at hb ⊢
   refine#[_,_,_,_,rr.mono e3,hb,fun s v2 q4 e4 i4 f4 h4=>?_]
   obtain⟨y,hy',h4⟩:=FY h4
   obtain⟨z5,e5,i5⟩:=Fs e4 i4 f4
   rw[hy'] at i5
   have e35:=e3.trans e5
   have hD4:q4.h D'=some (.lst ys):=e35.hh _ _ hD'
   have hz5:z5 D'=none:=keep _ e35
   refine#[hD4,(),xs.length-(i+1),(),rfl,hlt,z5,?_,hz5,ds++[y],?_,h4]
   .have e15:=hs.trans e35
    refine#[fun b o hb'=>?_,e15.zz,fun b o hb'=>?_,e15.new]
    .have hne:b≠D':=by rintro rfl;rw[hD] at hb';cases hb'
     show upd q4.h D' _ b=some o
     rw[Al hne]
     exact e15.hh b o hb'
    .have hne:b≠D':=by
      rintro rfl
      have hb2:z5 b=some o:=hb'
      rw[hz5] at hb2;cases hb2
     show upd q4.h D' _ b=some o
     rw[Al hne]
     exact e15.sub b o hb'
   .exact(hiss.mono e35.zz).snoc i5
  |false =>
   rw[if_neg qAm] at hb ⊢
   exact#[e3.hh _ _ hD',xs.length-(i+1),(),rfl,hlt,q3.z,hs.trans e3,keep _ e3,ds,hiss.mono e3.zz,hb]
 .have ei:i=xs.length:=()
  subst ei
  refine .inl #[(hJ H' hs.hh).2 _ (qAc _),q (.l ds) _ #[H',z'] (e1.trans hs) #[D',ys,rfl,hD',hiss] (fun xs a _ h2=>?_) (hR ds hj)]
  .cases h2
   exact#[e1.hh.free hD,hK,hzD]
theorem OB (O:Ba X x scope N idx)(hc:X.calm=true)(hi:PI X (.Name x px) iter wi)(hsrc:Src X wi ws)(hifs:∀cl C s₀ H₀ fp,MB (AD X N scope cl C s₀ H₀ fp) ifs tt)(helt:∀cl C s₀ H₀ fp,PE3 (AD X N scope cl C s₀ H₀ fp) elt te)
 (hs:∀x,foldedSetIterable iter X.env x=pure x:=by intro _;rfl):PE3 X (.ListComp elt [#[.Name x px,iter,ifs,0]] scope pos) (OZ idx ws tt te) :=
 #[BO (ON O hc hi (KO hifs) (Jl helt) hs) fun σ H Q h=>LG hsrc h]
theorem Tb {i:Nat}{y:Str}{py spos:Pos}(O:Ba X x scope N idx) (hc:X.calm=true) (hi:PI X (.Name x px) iter wi) (hsrc:Src X wi ws) (hifs:∀cl C s₀ H₀ fp,MB (AD X N scope cl C s₀ H₀ fp) ifs tt) (helt:∀cl C s₀ H₀ fp,PE3 (AD X N scope cl C s₀ H₀ fp) elt te)
 (hN:X.N.Nodup) (hy:X.N[i]? = some y) (hly:Loc X.env.scope y)
 (hsw:swapsWith (.ListComp elt [#[.Name x px,iter,ifs,0]] scope pos) (some (.Name y py)) spos.line X.env=pure true:=by rfl) (hs:∀x,foldedSetIterable iter X.env x=pure x:=by intro _;rfl)
 (hfn:X.fn y=true\/X.env.scope.names.lookup y=some .local:=by first|exact .inl rfl|exact .inr rfl|assumption) (hp:Di X i:=by first|exact Cv rfl|exact Cr rfl ∅|assumption) :
 PS3 X (.Assign [.Name y py] (.ListComp elt [#[.Name x px,iter,ifs,0]] scope pos) spos) (WB i (OZ idx ws tt te)) :=
 #[Cm (JN O hc hi (KO hifs) (Jl helt) hN hy hly hsw hs hfn) fun D2 σ H hh=>by obtain⟨B,z,τ,D3,r,ht,c⟩:=hh;exact LG hsrc #[B,z,τ,_,r,ht,fun s v H' e i f h=>by
  cases s with
  |r _=>exact h.elim
  |d y=>exact c.nx _ _ _ (r.set e i f rfl hp) h
  |l ys=>exact c.nx _ _ _ (r.set e i f rfl hp) h]]
end
section
variable {X:L2.Cx}{pos:Pos}
end
abbrev SpM:=List D->List D->(List D->Prop)->Prop
noncomputable def NV (a:Addr)(H:Hp):Hp:=fun b=>if b=a then none else H b
theorem Ul {a:Addr}{H:Hp}:BD (NV a H) H:=fun b o h=>by
 unfold NV at h
 split at h
 .cases h
 .exact h
theorem Jj {a b:Addr}{H:Hp}(h:b≠a):NV a H b=H b:=if_neg h
theorem S5 {a:Addr}{H:Hp}:NV a H a=none:=if_pos rfl
def NX (K:W.Frag)(sp:SpM):Sp:=fun vs H Q _=>∃(z:Hp)(a:Addr)(ws vs0:List V)(xs0 ds:List D)(R:List D->Prop),
 vs=.ref a::ws/\BD z H/\z a=none/\K.lookup a=none/\H a=some (.lst vs0)/\Iss K z vs0 xs0/\Iss K z ws ds/\sp xs0 ds R /\
 ∀(q:HZ)(vs1:List V)(xs1:List D),Ext #[NV a H,z] q->q.h a=some (.lst vs1)->q.z a=none->Iss K q.z vs1 xs1->R xs1->Q .non q.h
def NN (X:Cx)(a:Addr):Cx:={ X with lent:=some (0,a) }
section
variable {X:Cx}{pins:List (Addr×Obj)}{σ:St}{H H':Hp}{s s':Shared}{a:Addr}
theorem Q9 (I:Inv X pins σ H s):Inv (NN X a) pins σ H s :=
 #[#[I.ok.mod,I.ok.kind,I.ok.glob,I.ok.blt,I.ok.above,I.ok.inj,I.ok.has,I.ok.cab,I.ok.hd,I.ok.frames,I.ok.stk,I.ok.exf,I.ok.bs,I.ok.bsz,I.ok.noex,I.ok.exfs,I.ok.funs,I.ok.frf,I.ok.tb],I.os,I.bare,I.base,I.loc,I.cell,I.free,I.freeC,I.pin,I.hok,I.len]
theorem FL (I:Inv (NN X a) pins σ H s):Inv X pins σ H s :=
 #[#[I.ok.mod,I.ok.kind,I.ok.glob,I.ok.blt,I.ok.above,I.ok.inj,I.ok.has,I.ok.cab,I.ok.hd,I.ok.frames,I.ok.stk,I.ok.exf,I.ok.bs,I.ok.bsz,I.ok.noex,I.ok.exfs,I.ok.funs,I.ok.frf,I.ok.tb],I.os,I.bare,I.base,I.loc,I.cell,I.free,I.freeC,I.pin,I.hok,I.len]
theorem Ph {D2:Nc}{f:Flow}(h:SP (NN X a) pins D2 f s):SP X pins D2 f s:=by
 cases f with
 |next=>obtain⟨σ',H',I',q⟩:=h;exact#[σ',H',FL I',q]
 |cont=>obtain⟨σ',H',I',q⟩:=h;exact#[σ',H',FL I',q]
 |brk=>obtain⟨σ',H',I',q⟩:=h;exact#[σ',H',FL I',q]
 |ret v=>obtain⟨x,σ',H',I',r,q⟩:=h;exact#[x,σ',H',FL I',r,q]
theorem Rp {st:List Stmt}{t:TS}(h:PSs (NN X a) st t):PSs X st t:=fun pins s σ H D I q =>
 thn (h pins s σ H D (Q9 I) q) fun f s1 h1=>Ph h1
theorem Q3 {N:List Str}{ws vs0:List V}{xs0 ds:List D}{z:Hp}(hz:BD z H) (hza:z a=none) (hk:X.K.lookup a=none) (hv:H a=some (.lst vs0)) (iv:Iss X.K z vs0 xs0) (iw:Iss X.K z ws ds) :
 Rep (NN X a) #[NV a H,z] (CD N (.l xs0::ds.map S.d)) (L2.start N (.ref a::ws)) #[H,z]:=by
 have len:(V.ref a::ws).length=(S.l xs0::ds.map S.d).length:=by simp[iw.1]
 have st:∀(i:Nat)(s:S),(CD N (.l xs0::ds.map S.d))[i]? = some (some s)->(S.l xs0::ds.map S.d)[i]? = some s:=fun i s h=>Jp h
 have sg:∀(i:Nat)(v:V),(V.ref a::ws)[i]? = some v->(L2.start N (.ref a::ws))[i]? = some (some v):=fun i v h=>by
  have hi:=(qAg.mp h).1
  unfold L2.start
  rw[qAv (by simpa using hi),qAe,h]
  rfl
 have onlyl:∀(i:Nat)(s:S),(S.l xs0::ds.map S.d)[i]? = some s->s.isL=true->i=0:=fun i s h hl=>by
  cases i with
  |zero=>rfl
  |succ i =>
   rw[qB1,qAe] at h
   cases e:ds[i]? with
   |none=>rw[e] at h;cases h
   |some d=>rw[e] at h;cases h;cases hl
 refine#[by unfold L2.start CD;simp[iw.1],#[Ul,BD.refl _,hz,fun _ _ e=>.inl e],fun i s h=>?_,fun i xs c h1 h2=>?_,fun i j xs s c hij h1 h2 hs h3=>?_,(fun h=>by cases h),fun i c h=>?_]
 .have h':=st i s h
  cases i with
  |zero =>
   cases h'
   exact#[.ref a,sg 0 _ rfl,a,vs0,rfl,hv,iv]
  |succ i =>
   rw[qB1,qAe] at h'
   cases e:ds[i]? with
   |none=>rw[e] at h';cases h'
   |some d =>
    rw[e] at h'
    cases h'
    have hi:=(qAg.mp e).1
    have hw:ws[i]? = some (ws[i]'(by rw[iw.1];exact hi)):=qAb (by rw[iw.1];exact hi)
    exact#[_,sg (i+1) _ (by rw[qB1];exact hw),iw.2 i _ d hw e]
 .have e0:=onlyl i _ (st i _ h1) rfl
  subst e0
  have:=sg 0 (.ref a) rfl
  rw[h2] at this
  cases this
  exact#[S5,hk,hza]
 .have e1:=onlyl i _ (st i _ h1) rfl
  have e2:=onlyl j _ (st j _ h2) hs
  exact absurd (e1.trans e2.symm) hij
 .cases h
  exact sg 0 _ rfl
end
section
variable {P:Program}{w:World}{K:W.Frag}{mg:Str->Option Value}{base:Heap}
theorem fnM {x qual:Str}{st:Stmt}{f:Addr}{fd:FuncData}{N ps:List Str}{k:Nat}{sp:SpM}(F:Fun K x qual st f fd) (Sc:Ad N ps (Ab st)) (len:∀xs ds R,sp xs ds R->ds.length+1=ps.length)
 (hbody:∀(cdv:Value)(A:Around)(outer:List Env)(s:Shared)(H:Hp)(E:XK)(a:Addr)(xs ds:List D)(R:List D->Prop),E4 k (A.deeper (envOfC qual (Ab st) s.heap.objs.size f cdv))->sp xs ds R ->
  ∃t,DP (NN (LR CX0 P w K mg base N qual (Ab st) f cdv A outer s H E).nox a) (Cp st) t/\t { nx:=fun τ=>∃ys,τ[0]? = some (some (.l ys))/\R ys,rt:=fun _=>False } (CD N (.l xs::ds.map S.d))):Az P w K mg base CX0 (k+1) f fd ps (NX K sp):=by
 refine F.ok Sc (fun vs H Q E hh=>by obtain⟨z,a,ws,vs0,xs0,ds,R,rfl,_,_,_,_,_,iw,h3,_⟩:=hh;rw[qBr,iw.1];exact len _ _ _ h3) fun cdv A outer s H vs Q E hr hh=>?_
 obtain⟨z,a,ws,vs0,xs0,ds,R,rfl,hz,hza,hk,hv,iv,iw,h3,q⟩:=hh
 obtain⟨t,ht,hq⟩:=hbody cdv A outer s H E a xs0 ds R hr h3
 refine#[_,Rp ht.out,#[NV a H,z],z,CD N (.l xs0::ds.map S.d),_,Q3 hz hza hk hv iv iw,hq,#[fun τ σ p r h=>?_,fun _ _ _ _ z=>z.elim,fun _ _ _ _ z=>z.elim,fun s v p e i f h=>h.elim]]
 obtain⟨ys,hy,hR⟩:=h
 have pn:=r.pin 0 a rfl
 obtain⟨vs1,e1,e2⟩:=r.own_list hy pn
 exact q p vs1 ys r.ext e1 (r.own 0 ys a hy pn).2.2 e2 hR
end
structure WH (P:Program)(w:World)(K:W.Frag)(mg:Str->Option Value)(base:Heap)(k:Nat)(x:Str)(ps:List Str)(sp:SpM):Prop where
 ex:∃f fd,Az P w K mg base CX0 k f fd ps (NX K sp)/\mg x=some (.ref f)/\W.keepIn K (.ref f)=true/\L2.Binds K fd ps []
theorem mkM {P:Program}{w:World}{K:W.Frag}{mg:Str->Option Value}{base h:Heap}(X:K.In h) (G:h.Ns mainGlobals mg){n:Str}{st:Stmt}(r:Rw K n st){k:Nat}{ps:List Str}{sp:SpM}(ok:∀{f:Addr}{fd:FuncData},L2.Fun K n n st f fd->rA K n f->Az P w K mg base CX0 k f fd ps (NX K sp))
 (hb:Bnd st n ps:=by(intro _ _ _ _ _ _ us hl;first|(obtain⟨x0,rfl⟩:=SX hl;rfl)|(obtain⟨x0,x1,rfl⟩:=Te hl;rfl)|(obtain⟨x0,x1,x2,rfl⟩:=SK hl;rfl)|(obtain⟨x0,x1,x2,x3,rfl⟩:=TM hl;rfl))):WH P w K mg base k n ps sp:=by
 obtain⟨a,l,c,k⟩:=r
 have F:=MH (st:=st) l c k
 exact#[#[_,_,ok F a,qAX X G a,k,F.binds hb]]
section
variable {X:Cx}{e:Expr}{es:List Expr}{tr:TA3}
theorem Ub {K:W.Frag}{H:Hp}{a c:Addr}{vs:List V}(h:SqL K H c vs) (n:c≠a):SqL K (NV a H) c vs:=by
 rcases h with (h|⟨o,h⟩)|h
 .exact .inl (.inl (by rw[Jj n];exact h))
 .exact .inl (.inr #[o,by rw[Jj n];exact h])
 .exact .inr h
theorem Rep.grown {B p q:HZ}{τ:Tau}{σ:St}{j:Nat}{a:Addr}{xs xs1:List D}{vs1:List V}(r:Rep X B τ σ p) (hj:τ[j]? = some (some (.l xs))) (hσ:σ[j]? = some (some (.ref a))) (e:Ext #[NV a p.h,p.z] q) (hq:q.h a=some (.lst vs1)) (hz:q.z a=none) (hi:Iss X.K q.z vs1 xs1) :
 Rep X B (τ.set j (some (.l xs1))) σ q:=by
 obtain⟨o1,o2,o3⟩:=r.own j xs a hj hσ
 have up:∀b o,B.h b=some o->NV a p.h b=some o:=fun b o h=>by
  have:b≠a:=fun z=>by rw[z,o1] at h;cases h
  rw[Jj this]
  exact r.ext.hh b o h
 have apart:∀(i:Nat)(s:S)(c:Addr),i≠j->τ[i]? = some (some s)->s.isL=true->σ[i]? = some (some (.ref c))->c≠a:=fun i s c hn h1 h2 h3 z=>by
  rw[z] at h3
  exact r.sep j i xs s a (fun z=>hn z.symm) hj h1 h2 hσ h3
 refine#[by simp[r.len],#[fun b o h=>e.hh b o (up b o h),r.ext.zz.trans e.zz,e.sub,fun b o h=>?_],fun i s h=>?_,fun i ys c h1 h2=>?_,fun i k ys s c hik h1 h2 hs h3=>?_,r.top,r.pin]
 .rcases e.new b o h with x|x
  .exact r.ext.new b o x
  .right
   cases y:B.h b with
   |none=>rfl
   |some o' =>
    have x':NV a p.h b=none:=x
    rw[up b o' y] at x'
    cases x'
 .rcases AN h with⟨rfl,rfl⟩|⟨hn,h'⟩
  .exact#[.ref a,hσ,a,vs1,rfl,hq,hi]
  .obtain⟨v,h1,h2⟩:=r.val i s h'
   refine#[v,h1,?_]
   cases s with
   |d x=>exact Is.mono e.zz h2
   |l zs =>
    obtain⟨c,us,rfl,q1,q2⟩:=h2
    exact#[c,us,rfl,e.hh c _ (by show NV a p.h c=_;rw[Jj (apart i _ c hn h' rfl h1)];exact q1),q2.mono e.zz]
   |r zs =>
    obtain⟨c,us,rfl,q1,q2⟩:=h2
    exact#[c,us,rfl,e.hh.seq (Ub q1 (apart i _ c hn h' rfl h1)),q2.mono e.zz]
 .rcases AN h1 with⟨rfl,e1⟩|⟨hn,h1'⟩
  .rw[hσ] at h2
   cases h2
   exact#[o1,o2,hz]
  .obtain⟨w1,w2,w3⟩:=r.own i ys c h1' h2
   refine#[w1,w2,?_]
   obtain⟨us,y1,_⟩:=r.own_list h1' h2
   cases y:q.z c with
   |none=>rfl
   |some o =>
    rcases e.new c o y with x|x
    .have x':p.z c=some o:=x
     rw[w3] at x';cases x'
    .have x':NV a p.h c=none:=x
     rw[Jj (apart i _ c hn h1' rfl h2),y1] at x'
     cases x'
 .rcases AN h1 with⟨rfl,e1⟩|⟨hn,h1'⟩
  .rcases AN h2 with⟨e3,_⟩|⟨_,h2'⟩
   .exact absurd e3.symm hik
   .exact r.sep i k xs s c hik hj h2' hs h3
  .rcases AN h2 with⟨rfl,e4⟩|⟨_,h2'⟩
   .exact r.sep i k ys (.l xs) c hik h1' hj rfl h3
   .exact r.sep i k ys s c hik h1' h2' hs h3
def SD (j:Nat)(sp:SpM)(tr:TA3):TS3:=fun D3 τ=>match τ[j]? with
 |some (some (.l xs))=>tr τ fun ss=>match Tf ss with
  |some ds=>sp xs ds (fun ys=>D3.nx (τ.set j (some (.l ys))))
  |none=>False
 |_=>False
theorem IB {k j:Nat}{x y:Str}{ps:List Str}{sp:SpM}{p py pos pa:Pos}(c:WH X.prog X.w X.K X.mg X.base k x ps sp) (hr:E4 k X.A) (hg:Gl X x) (hv:PE X (.Name y py) (Ny j)) (ha:PA3 X (e::es) tr)
 (hdb:(x==("__debug__":Str))=false:=by decide) (he:starEach (.Name y py::e::es) X.env=(false,eval (.Name y py) X.env)::starEach (e::es) X.env:=by exact CM rfl) (hpl:(backTo pos (starEach (e::es) X.env)).any (·.1)=false:=by exact D5 rfl)
 (hs:swapsWith (.Call (.Name x p) (.Name y py::e::es) [] pos) none pa.line X.env=pure false:=by rfl) :
 PS3 X (.Expr (.Call (.Name x p) (.Name y py::e::es) [] pos) pa) (SD j sp tr):=by
 refine#[?_]
 obtain⟨f,fd,F,hm,hk,hb⟩:=c.ex
 refine Cm (Be (Pt F hr hg hm hk hb .nil Xj (AL hv ha.out he) hdb he hpl) hs) fun D2 σ H hh=>?_
 obtain⟨B,z,τ,D3,r,ht,ct⟩:=hh
 unfold SD at ht
 split at ht
 .rename_i xs hx
  obtain⟨v,h1,a,vs,rfl,h3,h4⟩:=r.val j _ hx
  refine#[.ref a,h1,B,_,τ,_,r,ht,fun ss ws q1 e1 i1 h2=>?_]
  split at h2
  .rename_i ds hd
   rw[HW hd] at i1
   have iw:=JW i1
   have r1:=r.mono e1
   obtain⟨o1,o2,o3⟩:=r1.own j xs a hx h1
   obtain⟨vs',hv',iv'⟩:=r1.own_list hx h1
   show NX X.K sp ((.ref a::ws)++[]) q1.h _ E0
   rw[qBe]
   exact#[q1.z,a,ws,vs',xs,ds,_,rfl,e1.sub,o3,o2,hv',iv',iw,h2,fun q vs1 xs1 e2 g1 g2 g3 hR=>ct.nx _ _ _ (r1.grown hx h1 e2 g1 g2 g3) hR]
  .exact h2.elim
 .exact ht.elim
end
section
variable {X:Cx}{e:Expr}
def X9 (j:Nat):TT3:=fun τ R=>match τ[j]? with
 |some (some (.l xs))=>R (!xs.isEmpty)
 |some (some (.r xs))=>R (!xs.isEmpty)
 |_=>False
theorem Iq {K:W.Frag}{H:Hp}{vs:List V}{xs:List D}(h:Iss K H vs xs):(!vs.isEmpty)=!xs.isEmpty:=by
 have:=h.1
 cases vs<;>cases xs<;>first|rfl|(simp at this)
theorem WW {j:Nat}(h:PE X e (Ny j)) (he:∀whole,isTrue e X.env whole=(do let v <-whole;standAt e.pos;holding [v] (truthy v)):=by intro _;rfl):PT3 X e (X9 j):=#[K4 (MW h he) fun σ H Q hh=>by
 obtain⟨B,z,τ,R,r,ht,q⟩:=hh
 unfold X9 at ht
 split at ht
 .rename_i xs hs
  obtain⟨v,h1,a,vs,rfl,h3,h4⟩:=r.val j _ hs
  exact#[.ref a,h1,!vs.isEmpty,.inl #[vs,SqL.of h3,rfl],q _ #[H,z] (Ext.refl r.ext.sub) (by rw[Iq h4];exact ht)]
 .rename_i xs hs
  obtain⟨v,h1,a,vs,rfl,h3,h4⟩:=r.val j _ hs
  exact#[.ref a,h1,!vs.isEmpty,.inl #[vs,h3,rfl],q _ #[H,z] (Ext.refl r.ext.sub) (by rw[Iq h4];exact ht)]
 .exact ht.elim]
end
open PySem PySem.Spec PyProof.Rows
structure K0 (P:Program)(w:World)(A:Around)(i l:Addr)(us:Array Value)(st:Nat->Heap->Prop):Prop where
 item:∀(t:Shared)(k:Nat)(u:Value)(Q:Value->Shared->Prop)(E:Value->Shared->Prop),st k t.heap->us[k]? = some u->(∀h1,st (k+1) h1->Heap.SameBut i t.heap h1->Q u { t with heap:=h1 })->wpAny (model P w) A (Builtin.SmallTypes.nextOf (.ref i)) Q E t
 done:∀(t:Shared)(k:Nat)(Q:Value->Shared->Prop)(E:Value->Shared->Prop),st k t.heap->us[k]? = none->(∀h1 x,Heap.ExtBut i t.heap h1->(∃o,h1.get? x=some o/\o.cls=.type "StopIteration")->E (.ref x) { t with heap:=h1 })->wpAny (model P w) A (Builtin.SmallTypes.nextOf (.ref i)) Q E t
 keep:∀(k:Nat)(h h1:Heap),st k h->(∀b o,b=i\/b=l->h.get? b=some o->h1.get? b=some o)->st k h1
def stL (i l:Addr)(us:Array Value)(k:Nat)(h:Heap):Prop:=h.IsListIter i l k/\h.IsList l us
def stT (i l:Addr)(us:Array Value)(k:Nat)(h:Heap):Prop:=h.IsTupleIter i l k/\h.IsTuple l us
section
variable {P:Program}{w:World}{A:Around}
theorem QH (hd:A.handled=none){i l:Addr}(ne:l≠i) (us:Array Value):K0 P w A i l us (stL i l us) where
 item:=fun t k u Q E s1 hu q=>wpAny_nextOf_list_item s1.1 s1.2 hu fun h1 a b=>q h1 #[a,s1.2.extBut b.extBut ne] b
 done:=fun t k Q E s1 hu q=>wpAny_nextOf_list_end hd s1.1 s1.2 hu q
 keep:=fun k h h1 s1 e=>#[s1.1.at fun o z=>e i o (.inl rfl) z,s1.2.at fun o z=>e l o (.inr rfl) z]
theorem O3 (hd:A.handled=none){i l:Addr}(ne:l≠i) (us:Array Value):K0 P w A i l us (stT i l us) where
 item:=fun t k u Q E s1 hu q=>by
  obtain⟨⟨ob,g1,g2,g3⟩,oT,f1,f2,nT,f3⟩:=id s1
  have ty:=s1.1.typeIs (s:=t)
  refine wpAny_bind (wpAny_callSpecial?_slot (name:=Str.ofString "__next__") ty qBw (wpAny_call_entry qBw ty qCz ?_ (qCs _)))
  refine(wpAny_bind (wpAny_field g1 g3 (x:=Value.ref l) rfl ?_):wpAny _ _ (field (Value.ref i) 0 >>= _) _ _ t)
  refine(?_:wpAny _ _ (if (Value.ref l==Value.none)=true then _ else _) _ _ t)
  rw[if_neg (by intro z;cases z)]
  refine(wpAny_bind (wpAny_field g1 g3 (x:=Value.int k 0) rfl ?_):wpAny _ _ (field (Value.ref i) 1 >>= _) _ _ t)
  refine(wpAny_bind (wpAny_seqItems f1 f3 ?_):wpAny _ _ (seqItems? (Value.ref l) >>= _) _ _ t)
  simp only[qB2,hu]
  refine wpAny_bind (wpAny_setField g1 g3 (by simp) (wpAny_pure #[u,rfl,wpAny_pure (q _ #[?_,s1.2.extBut (Heap.SameBut.update ..).extBut ne] (Heap.SameBut.update ..))]))
  refine#[_,qCR _ g1 (Obj.isFreed_of_fields (Obj.data_mapFields g3 _)),(Obj.cls_mapFields ..).trans g2,?_]
  rw[Obj.data_mapFields g3]
  simp[rawInt]
 done:=fun t k Q E s1 hu q=>by
  obtain⟨⟨ob,g1,g2,g3⟩,oT,f1,f2,nT,f3⟩:=id s1
  have ty:=s1.1.typeIs (s:=t)
  refine wpAny_bind (wpAny_callSpecial?_slot (name:=Str.ofString "__next__") ty qBw (wpAny_call_entry qBw ty qCz ?_ (qCs _)))
  refine(wpAny_bind (wpAny_field g1 g3 (x:=Value.ref l) rfl ?_):wpAny _ _ (field (Value.ref i) 0 >>= _) _ _ t)
  refine(?_:wpAny _ _ (if (Value.ref l==Value.none)=true then _ else _) _ _ t)
  rw[if_neg (by intro z;cases z)]
  refine(wpAny_bind (wpAny_field g1 g3 (x:=Value.int k 0) rfl ?_):wpAny _ _ (field (Value.ref i) 1 >>= _) _ _ t)
  refine(wpAny_bind (wpAny_seqItems f1 f3 ?_):wpAny _ _ (seqItems? (Value.ref l) >>= _) _ _ t)
  simp only[qB2,hu]
  refine wpAny_bind (wpAny_rule (wpAny_bind (wpAny_setField g1 g3 (by simp) ?_)))
  refine(wpAny_bind ?_:wpAny _ _ (newExc (.type "StopIteration") [] >>= _) _ _ _)
  simp only[newExc,newTuple]
  refine wpAny_bind (wpAny_newObj_type ?_ (by size_fits))
  refine wpAny_bind (m:=firstArgMember _ _) (wpAny_of_eq (a:=Value.none) (by first|rfl|(unfold firstArgMember;rfl)) ?_)
  refine wpAny_newObj_type ?_ (by size_fits)
  unfold raiseNew
  refine wpAny_bind (wpAny_handled ?_)
  have hd1:A.in1.handled=none:=hd
  rw[hd1]
  exact wpAny_bind (wpAny_pure (wpAny_throw (q _ _ (((Heap.SameBut.update ..).extBut.push _).push _) #[_,qAr _ rfl,rfl])))
 keep:=fun k h h1 s1 e=>by
  obtain⟨⟨ob,g1,g2⟩,oT,f1,f2⟩:=s1
  exact#[#[ob,e i ob (.inl rfl) g1,g2],oT,e l oT (.inr rfl) f1,f2]
structure ZAp (z TI TO i1 i2 l1 l2:Addr):Prop where
 a1:TI≠z/\TO≠z/\i1≠z/\i2≠z/\l1≠z/\l2≠z
 a2:TI≠TO/\i1≠TO/\i2≠TO/\l1≠TO/\l2≠TO
 a3:TI≠i1/\i2≠i1/\l2≠i1/\TI≠i2/\l1≠i2
 a4:l1≠i1/\l2≠i2
variable {z TI TO i1 i2 l1 l2:Addr}{us1 us2:Array Value}{st1 st2:Nat->Heap->Prop}{s:Shared}{E:Value->Shared->Prop}
theorem Rl (D:ZAp z TI TO i1 i2 l1 l2)(S1:K0 P w A i1 l1 us1 st1)(S2:K0 P w A i2 l2 us2 st2){k:Nat}{x y a b:Value}{Q:Value->Shared->Prop}(Hz:IsZip s.heap z TI TO .none) (Ht:IsPair s.heap TI (.ref i1) (.ref i2)) (Ho:IsPair s.heap TO a b)
 (c1:st1 k s.heap) (c2:st2 k s.heap) (hx:us1[k]? = some x) (hy:us2[k]? = some y)
 (fin:∀h',IsZip h' z TI TO (rawInt s.heap.objs.size)->IsPair h' TO x y->st1 (k+1) h'->st2 (k+1) h'->IsPair h' s.heap.objs.size x y->(∀c o,c≠z->c≠TO->c≠i1->c≠i2->s.heap.get? c=some o->h'.get? c=some o)->Q (.ref s.heap.objs.size) { s with heap:=h' }) :
 wpAny (model P w) A (Builtin.«zip.__next__» #[[.ref z],[]]) (fun f s'=>∃v,f=.done (.ret v)/\Q v s') E s:=by
 obtain⟨⟨d1,d2,d3,d4,d5,d6⟩,⟨e1,e2,e3,e4,e5⟩,⟨f1,f2,f3,f4,f5⟩,_⟩:=D
 refine(wpAny_bind (wpAny_field Hz rfl (x:=Value.bool false) rfl ?_):wpAny _ _ (field (Value.ref z) 2 >>= _) _ _ _)
 refine(wpAny_bind (wpAny_field Hz rfl (x:=Value.ref TI) rfl ?_):wpAny _ _ (field (Value.ref z) 3 >>= _) _ _ _)
 refine wpAny_bind (wpAny_seqItems Ht rfl ?_)
 refine(wpAny_bind ?_:wpAny _ _ (Builtin.SmallTypes.ownedTupleIsFree (Value.ref z) >>= _) _ _ _)
 refine wpAny_bind (wpAny_field Hz rfl (x:=Value.none) rfl (wpAny_pure ?_))
 simp only[if_true]
 refine wpAny_bind (wpAny_rule (wpAny_bind (wpAny_field Hz rfl (x:=Value.ref TO) rfl (wpAny_bind (wpAny_setField_rec Hz (by simp) fun g1 Hz1 m1=>?_)))))
 have Hz1:IsZip g1 z TI TO .ellipsis:=Hz1
 refine wpAny_bind ?_
 simp only[qCa,qCn,qBv,qBY]
 have c1a:st1 k g1:=S1.keep k _ _ c1 fun b o hb e=>by
  rcases hb with rfl|rfl
  .exact m1.extBut _ _ d3 e
  .exact m1.extBut _ _ d5 e
 refine wpAny_bind (wpAny_bind (wpAny_onRaise (?_:wpAny _ _ (Builtin.SmallTypes.nextOf (Value.ref i1) >>= _) _ _ _)))
 refine wpAny_bind (S1.item _ k x _ _ c1a hx fun g2 c1b m2=>wpAny_pure ?_)
 have Ho2:IsPair g2 TO a b:=m2.extBut _ _ (Ne.symm e2) (m1.extBut _ _ d2 Ho)
 refine wpAny_bind (wpAny_seqItems Ho2 rfl (wpAny_bind (wpAny_updateSeq_pair Ho2 fun g3 Ho3 m3=>wpAny_bind (wpAny_letGo (wpAny_pure ?_)))))
 have Ho3:IsPair g3 TO x b:=Ho3
 have c2a:st2 k g3:=S2.keep k _ _ c2 fun b o hb e=>by
  rcases hb with rfl|rfl
  .exact m3.extBut _ _ e3 (m2.extBut _ _ f2 (m1.extBut _ _ d4 e))
  .exact m3.extBut _ _ e5 (m2.extBut _ _ f3 (m1.extBut _ _ d6 e))
 refine wpAny_bind (wpAny_bind (wpAny_onRaise (?_:wpAny _ _ (Builtin.SmallTypes.nextOf (Value.ref i2) >>= _) _ _ _)))
 refine wpAny_bind (S2.item _ k y _ _ c2a hy fun g4 c2b m4=>wpAny_pure ?_)
 have Ho4:IsPair g4 TO x b:=m4.extBut _ _ (Ne.symm e3) Ho3
 refine wpAny_bind (wpAny_seqItems Ho4 rfl (wpAny_bind (wpAny_updateSeq_pair Ho4 fun g5 Ho5 m5=>wpAny_bind (wpAny_letGo (wpAny_pure (wpAny_pure ?_))))))
 have Ho5:IsPair g5 TO x y:=Ho5
 have sz:g5.objs.size=s.heap.objs.size:=by rw[m5.1,m4.1,m3.1,m2.1,m1.1]
 have Hz5:IsZip g5 z TI TO .ellipsis:=m5.extBut _ _ (Ne.symm d2) (m4.extBut _ _ (Ne.symm d4) (m3.extBut _ _ (Ne.symm d2) (m2.extBut _ _ (Ne.symm d3) Hz1)))
 have old:∀c o,c≠z->c≠TO->c≠i1->c≠i2->s.heap.get? c=some o->g5.get? c=some o:=fun c o n1 n2 n3 n4 e =>
  m5.extBut _ _ n2 (m4.extBut _ _ n4 (m3.extBut _ _ n2 (m2.extBut _ _ n3 (m1.extBut _ _ n1 e))))
 have at5:∀b o,b≠TO->b≠i2->g2.get? b=some o->g5.get? b=some o:=fun b o n1 n2 e=>m5.extBut _ _ n1 (m4.extBut _ _ n2 (m3.extBut _ _ n1 e))
 have lz:z<g5.objs.size:=qAh Hz5
 refine wpAny_bind (wpAny_seqItems Ho5 rfl (wpAny_bind (wpAny_newTuple ?_)))
 refine(wpAny_bind ?_:wpAny _ _ (Builtin.SmallTypes.ownedTupleHandOut (Value.ref z) (Value.ref g5.objs.size) >>= _) _ _ _)
 have Hz6:IsZip (g5.push { cls:=.type "tuple",data:=.seq (List.toArray [x,y]) }) z TI TO .ellipsis:=qAf _ Hz5
 refine wpAny_bind (wpAny_setField_rec Hz6 (by simp) fun g7 Hz7 m7=>?_)
 have Hz7:IsZip g7 z TI TO (rawInt g5.objs.size):=Hz7
 refine wpAny_setField_rec Hz7 (by simp) fun g8 Hz8 m8=>?_
 have Hz8:IsZip g8 z TI TO (rawInt g5.objs.size):=Hz8
 have up:∀c o,c≠z->g5.get? c=some o->g8.get? c=some o:=fun c o n e=>m8.extBut _ _ n (m7.extBut _ _ n (qAf _ e))
 have new8:IsPair g8 g5.objs.size x y:=m8.extBut _ _ (qBg lz) (m7.extBut _ _ (qBg lz) (qAr _ rfl))
 rw[sz] at Hz8 new8
 have k1:st1 (k+1) g8:=S1.keep _ _ _ c1b fun b o hb e=>by
  rcases hb with rfl|rfl
  .exact up _ _ d3 (at5 _ _ e2 (Ne.symm f2) e)
  .exact up _ _ d5 (at5 _ _ e4 f5 e)
 have k2:st2 (k+1) g8:=S2.keep _ _ _ c2b fun b o hb e=>by
  rcases hb with rfl|rfl
  .exact up _ _ d4 (m5.extBut _ _ e3 e)
  .exact up _ _ d6 (m5.extBut _ _ e5 e)
 refine wpAny_pure #[_,rfl,(?_:Q (.ref g5.objs.size) _)]
 rw[sz]
 exact fin g8 Hz8 (up _ _ d2 Ho5) k1 k2 new8 fun c o n1 n2 n3 n4 e=>up c o n1 (old c o n1 n2 n3 n4 e)
theorem QB (hd:A.handled=none)(D:ZAp z TI TO i1 i2 l1 l2)(S1:K0 P w A i1 l1 us1 st1)(S2:K0 P w A i2 l2 us2 st2){k:Nat}{a b:Value}{Q:Fin->Shared->Prop}(Hz:IsZip s.heap z TI TO .none) (Ht:IsPair s.heap TI (.ref i1) (.ref i2)) (Ho:IsPair s.heap TO a b)
 (c1:st1 k s.heap) (c2:st2 k s.heap) (he:us1[k]? = none\/us2[k]? = none)
 (fin:∀h' e,(∀c o,c≠z->c≠TO->c≠i1->c≠i2->s.heap.get? c=some o->h'.get? c=some o)->(∃o,h'.get? e=some o/\o.cls=.type "StopIteration")->E (.ref e) { s with heap:=h' }) :
 wpAny (model P w) A (Builtin.«zip.__next__» #[[.ref z],[]]) Q E s:=by
 obtain⟨⟨d1,d2,d3,d4,d5,d6⟩,⟨e1,e2,e3,e4,e5⟩,⟨f1,f2,f3,f4,f5⟩,_⟩:=D
 refine(wpAny_bind (wpAny_field Hz rfl (x:=Value.bool false) rfl ?_):wpAny _ _ (field (Value.ref z) 2 >>= _) _ _ _)
 refine(wpAny_bind (wpAny_field Hz rfl (x:=Value.ref TI) rfl ?_):wpAny _ _ (field (Value.ref z) 3 >>= _) _ _ _)
 refine wpAny_bind (wpAny_seqItems Ht rfl ?_)
 refine(wpAny_bind ?_:wpAny _ _ (Builtin.SmallTypes.ownedTupleIsFree (Value.ref z) >>= _) _ _ _)
 refine wpAny_bind (wpAny_field Hz rfl (x:=Value.none) rfl (wpAny_pure ?_))
 simp only[if_true]
 refine wpAny_bind (wpAny_rule (wpAny_bind (wpAny_field Hz rfl (x:=Value.ref TO) rfl (wpAny_bind (wpAny_setField_rec Hz (by simp) fun g1 Hz1 m1=>?_)))))
 have Hz1:IsZip g1 z TI TO .ellipsis:=Hz1
 refine wpAny_bind ?_
 simp only[qCa,qCn,qBv,qBY]
 have c1a:st1 k g1:=S1.keep k _ _ c1 fun b o hb e=>by
  rcases hb with rfl|rfl
  .exact m1.extBut _ _ d3 e
  .exact m1.extBut _ _ d5 e
 refine wpAny_bind (wpAny_bind (wpAny_onRaise (?_:wpAny _ _ (Builtin.SmallTypes.nextOf (Value.ref i1) >>= _) _ _ _)))
 have out:∀{g:Heap}{x:Addr}(n:IsZip g z TI TO .ellipsis) (g':Heap) (m:Heap.SameBut z g g'),(∃o,g.get? x=some o/\o.cls=.type "StopIteration")->∃o,g'.get? x=some o/\o.cls=.type "StopIteration":=fun {g x} n g' m #[o,h1,h2] =>
  #[o,m.extBut _ _ (fun y=>by subst y;rw[n] at h1;cases h1;simp at h2) h1,h2]
 cases hx:us1[k]? with
 |none =>
  refine wpAny_bind (S1.done _ k _ _ c1a hx fun g2 x m2 hs=>?_)
  have Hz2:IsZip g2 z TI TO .ellipsis:=m2 _ _ (Ne.symm d3) Hz1
  exact wpAny_setField_rec Hz2 (by simp) fun g3 _ m3=>fin g3 x (fun c o n1 _ n3 _ e=>m3.extBut _ _ n1 (m2 _ _ n3 (m1.extBut _ _ n1 e))) (out Hz2 g3 m3 hs)
 |some x =>
  have hy:us2[k]? = none:=he.resolve_left (by rw[hx];simp)
  refine wpAny_bind (S1.item _ k x _ _ c1a hx fun g2 c1b m2=>wpAny_pure ?_)
  have Ho2:IsPair g2 TO a b:=m2.extBut _ _ (Ne.symm e2) (m1.extBut _ _ d2 Ho)
  refine wpAny_bind (wpAny_seqItems Ho2 rfl (wpAny_bind (wpAny_updateSeq_pair Ho2 fun g3 Ho3 m3=>wpAny_bind (wpAny_letGo (wpAny_pure ?_)))))
  have c2a:st2 k g3:=S2.keep k _ _ c2 fun b o hb e=>by
   rcases hb with rfl|rfl
   .exact m3.extBut _ _ e3 (m2.extBut _ _ f2 (m1.extBut _ _ d4 e))
   .exact m3.extBut _ _ e5 (m2.extBut _ _ f3 (m1.extBut _ _ d6 e))
  refine wpAny_bind (wpAny_bind (wpAny_onRaise (?_:wpAny _ _ (Builtin.SmallTypes.nextOf (Value.ref i2) >>= _) _ _ _)))
  refine wpAny_bind (S2.done _ k _ _ c2a hy fun g4 x m4 hs=>?_)
  have Hz4:IsZip g4 z TI TO .ellipsis:=m4 _ _ (Ne.symm d4) (m3.extBut _ _ (Ne.symm d2) (m2.extBut _ _ (Ne.symm d3) Hz1))
  exact wpAny_setField_rec Hz4 (by simp) fun g5 _ m5=>fin g5 x (fun c o n1 n2 n3 n4 e=>m5.extBut _ _ n1 (m4 _ _ n4 (m3.extBut _ _ n2 (m2.extBut _ _ n3 (m1.extBut _ _ n1 e))))) (out Hz4 g5 m5 hs)
end
abbrev zpA (h:Heap)(l1:Addr):Heap:=h.push { cls:=.type "tuple_iterator",data:=.fields (List.toArray [.ref l1,.int 0 0]) }
abbrev zpB (h:Heap)(l1 l2:Addr):Heap:=(zpA h l1).push { cls:=.type "list_iterator",data:=.fields (List.toArray [.ref l2,.int 0 0]) }
abbrev zpC (h:Heap)(l1 l2:Addr):Heap:=(zpB h l1 l2).push { cls:=.type "tuple",data:=.seq (List.toArray [.ref h.objs.size,.ref (zpA h l1).objs.size]) }
abbrev zpD (h:Heap)(l1 l2:Addr):Heap:=(zpC h l1 l2).push { cls:=.type "tuple",data:=.seq (List.toArray [.none,.none]) }
abbrev zpE (h:Heap)(l1 l2:Addr):Heap:=(zpD h l1 l2).push { cls:=.type "zip",data:=.fields (List.toArray [.none,.bool false,.bool false,.ref (zpB h l1 l2).objs.size,.ref (zpC h l1 l2).objs.size]) }
theorem Qc (l1 l2:Addr)(xs ys:Array Value) :
 Meets (Builtin.«zip.__new__» #[[.type "zip",.ref l1,.ref l2],[]]) (fun _ R s=>s.heap.IsTuple l1 xs/\s.heap.IsList l2 ys/\R (.ok (.ret (.ref (zpD s.heap l1 l2).objs.size))) { s with heap:=zpE s.heap l1 l2 }) :=
 .of_wp fun prog w A R s h=>by
  obtain⟨hp,g,d,tk,os⟩:=s;obtain⟨t1,t2,h⟩:=h
  have hsub:=sub_zip
  have q1:Heap.IsTuple (Shared.heap #[hp,g,d,tk,os]) l1 xs:=t1
  have q2:Heap.IsList (Shared.heap #[hp.push { cls:=.type "tuple_iterator",data:=.fields (List.toArray [.ref l1,.int 0 0]) },g,d,tk,os]) l2 ys:=Heap.IsList.push t2 _
  wp_walk using wpAny_pyIter_tuple q1,wpAny_pyIter_list q2
  exact#[_,rfl,h]
section
variable {P:Program}{w:World}{A:Around}{E:Value->Shared->Prop}{s:Shared}
theorem NW {l1 l2:Addr}{xs ys:Array Value}{Q:Value->Shared->Prop}(t1:s.heap.IsTuple l1 xs) (t2:s.heap.IsList l2 ys)
 (fin:∀h',IsZip h' (s.heap.objs.size+4) (s.heap.objs.size+2) (s.heap.objs.size+3) .none->IsPair h' (s.heap.objs.size+2) (.ref s.heap.objs.size) (.ref (s.heap.objs.size+1))->IsPair h' (s.heap.objs.size+3) .none .none ->
  h'.IsTupleIter s.heap.objs.size l1 0->h'.IsListIter (s.heap.objs.size+1) l2 0->(∀c o,s.heap.get? c=some o->h'.get? c=some o)->Q (.ref (s.heap.objs.size+4)) { s with heap:=h' }) :
 wpAny (model P w) A (call (.type "zip") [.ref l1,.ref l2]) Q E s:=by
 refine callType_new F.called_zip ∅ (F.typeCall_zip_2 _ _) (F.newCall_zip_2 _ _) (fun ob=>F.args_object_init_3 ob _ _) F.entry_zip_new (Qc l1 l2 xs ys) #[t1,t2,?_]
 have n1:(zpA s.heap l1).objs.size=s.heap.objs.size+1:=qA6 ..
 have n2:(zpB s.heap l1 l2).objs.size=s.heap.objs.size+2:=by rw[qA6,n1]
 have n3:(zpC s.heap l1 l2).objs.size=s.heap.objs.size+3:=by rw[qA6,n2]
 have n4:(zpD s.heap l1 l2).objs.size=s.heap.objs.size+4:=by rw[qA6,n3]
 have o5:(zpE s.heap l1 l2).get? (zpD s.heap l1 l2).objs.size=some _:=qAr _ rfl
 have o4:(zpE s.heap l1 l2).get? (zpC s.heap l1 l2).objs.size=some _:=qAf _ (qAr _ rfl)
 have o3:(zpE s.heap l1 l2).get? (zpB s.heap l1 l2).objs.size=some _:=qAf _ (qAf _ (qAr _ rfl))
 have o2:(zpE s.heap l1 l2).get? (zpA s.heap l1).objs.size=some _:=qAf _ (qAf _ (qAf _ (qAr _ rfl)))
 have o1:(zpE s.heap l1 l2).get? s.heap.objs.size=some _:=qAf _ (qAf _ (qAf _ (qAf _ (qAr _ rfl))))
 refine(?_:_/\_)
 rw[n2,n3,n4] at o5
 rw[n1,n2] at o3
 rw[n3] at o4
 rw[n1] at o2
 rw[n4]
 exact#[#[_,o5,rfl],fin _ o5 o3 o4 #[_,o1,rfl,rfl] #[_,o2,rfl,rfl] fun c o x=>qAf _ (qAf _ (qAf _ (qAf _ (qAf _ x))))]
variable {z TI TO i1 i2 l1 l2:Addr}{us1 us2:Array Value}{st1 st2:Nat->Heap->Prop}
theorem QK (D:ZAp z TI TO i1 i2 l1 l2)(S1:∀A':Around,A'.handled=A.handled->K0 P w A' i1 l1 us1 st1)(S2:∀A':Around,A'.handled=A.handled->K0 P w A' i2 l2 us2 st2){k:Nat}{x y a b:Value}{Q:Option Value->Shared->Prop}(Hz:IsZip s.heap z TI TO .none) (Ht:IsPair s.heap TI (.ref i1) (.ref i2)) (Ho:IsPair s.heap TO a b)
 (c1:st1 k s.heap) (c2:st2 k s.heap) (hx:us1[k]? = some x) (hy:us2[k]? = some y)
 (fin:∀h',IsZip h' z TI TO (rawInt s.heap.objs.size)->IsPair h' TO x y->st1 (k+1) h'->st2 (k+1) h'->IsPair h' s.heap.objs.size x y->(∀c o,c≠z->c≠TO->c≠i1->c≠i2->s.heap.get? c=some o->h'.get? c=some o)->Q (some (.ref s.heap.objs.size)) { s with heap:=h' }) :
 wpAny (model P w) A (pyNext (.ref z)) Q E s:=by
 have ty:s.TypeIs (.ref z) "zip":=#[_,Hz,rfl]
 refine wpAny_bind (wpAny_attempt (wpAny_callSpecial?_slot (name:=Str.ofString "__next__") ty qBo (wpAny_call_entry qBo ty qCb ?_ (qB3 _))))
 refine Rl (A:=A.in1) D (S1 A.in1 rfl) (S2 A.in1 rfl) Hz Ht Ho c1 c2 hx hy fun h' b1 b2 b3 b4 b5 b6=>?_
 exact wpAny_pure (fin h' b1 b2 b3 b4 b5 b6)
theorem RR (hd:A.handled=none)(D:ZAp z TI TO i1 i2 l1 l2)(S1:∀A':Around,A'.handled=A.handled->K0 P w A' i1 l1 us1 st1)(S2:∀A':Around,A'.handled=A.handled->K0 P w A' i2 l2 us2 st2){k:Nat}{a b:Value}{Q:Option Value->Shared->Prop}(Hz:IsZip s.heap z TI TO .none) (Ht:IsPair s.heap TI (.ref i1) (.ref i2)) (Ho:IsPair s.heap TO a b)
 (c1:st1 k s.heap) (c2:st2 k s.heap) (he:us1[k]? = none\/us2[k]? = none)
 (fin:∀h',(∀c o,c≠z->c≠TO->c≠i1->c≠i2->s.heap.get? c=some o->h'.get? c=some o)->Q none { s with heap:=h' }):wpAny (model P w) A (pyNext (.ref z)) Q E s:=by
 have ty:s.TypeIs (.ref z) "zip":=#[_,Hz,rfl]
 refine wpAny_bind (wpAny_attempt (wpAny_callSpecial?_slot (name:=Str.ofString "__next__") ty qBo (wpAny_call_entry qBo ty qCb ?_ (qB3 _))))
 refine QB (A:=A.in1) hd D (S1 A.in1 rfl) (S2 A.in1 rfl) Hz Ht Ho c1 c2 he fun h' e kp hs=>?_
 obtain⟨o,g1,g2⟩:=hs
 exact wpAny_bind (wpAny_isInstance (T:="StopIteration") (b:=true) #[o,g1,g2] isSubtype_stop (wpAny_pure (fin _ kp)))
end
def SqB (K:W.Frag)(b:Bool)(H:Hp)(a:Addr)(xs:List V):Prop:=if b=true then SqT K H a xs else SqL K H a xs
def ItB (b:Bool)(h:Heap)(i l:Addr)(k:Nat):Prop:=if b=true then h.IsTupleIter i l k else h.IsListIter i l k
def Itz (K:W.Frag)(b1 b2:Bool)(l1 l2:Addr):It :=
 #[fun i H=>∃xs ys x y,SqB K b1 H l1 xs/\SqB K b2 H l2 ys/\xs[i]? = some x/\ys[i]? = some y,
  fun i H v H'=>∃p x y,H p=none/\v=.ref p/\(∀xs,SqB K b1 H l1 xs->xs[i]? = some x)/\(∀ys,SqB K b2 H l2 ys->ys[i]? = some y)/\H'=upd H p (.tup [x,y]),
  fun i H=>∃xs ys,SqB K b1 H l1 xs/\SqB K b2 H l2 ys/\(xs.length<=i\/ys.length<=i)]
theorem C3 {b:Bool}{h h':Heap}{i l:Addr}{k:Nat}(a:ItB b h i l k) (e:∀o,h.get? i=some o->h'.get? i=some o):ItB b h' i l k:=by
 unfold ItB at *
 split at a
 .rename_i c;rw[if_pos c];obtain⟨o,g1,g2⟩:=a;exact#[o,e o g1,g2]
 .rename_i c;rw[if_neg c];exact a.at fun o z=>e o z
theorem Gf {b:Bool}{h:Heap}{i l:Addr}{k:Nat}(a:ItB b h i l k):∃o,h.get? i=some o/\∀v,o.data≠.cell v:=by
 unfold ItB at a
 split at a
 .obtain⟨o,g1,g2,g3⟩:=a;exact#[o,g1,fun v z=>by rw[g3] at z;cases z]
 .obtain⟨o,g1,g2,g3⟩:=a;exact#[o,g1,fun v z=>by rw[g3] at z;cases z]
def stB (b:Bool)(i l:Addr)(us:Array Value)(k:Nat)(h:Heap):Prop:=if b=true then stT i l us k h else stL i l us k h
theorem Jz {P:Program}{w:World}{A:Around}(hd:A.handled=none) (b:Bool){i l:Addr}(ne:l≠i) (us:Array Value):K0 P w A i l us (stB b i l us):=by
 cases b with
 |true=>exact O3 hd ne us
 |false=>exact QH hd ne us
section
variable {X:Cx}{pins:List (Addr×Obj)}{σ:St}{H:Hp}{s:Shared}
theorem El {b:Bool}{l:Addr}{xs:List V}(I:Inv X pins σ H s) (q:SqB X.K b H l xs):∃its:List Value,CK xs its/\∀i k,ItB b s.heap i l k->stB b i l its.toArray k s.heap:=by
 unfold SqB at q
 cases b with
 |true =>
  obtain⟨its,rv,p,hz⟩:=I.tuple q
  exact#[its,rv,fun i k a=>#[a,p]]
 |false =>
  obtain⟨its,rv,p,hz⟩:=I.list q
  exact#[its,rv,fun i k a=>#[a,p.isList]]
theorem IU {b:Bool}{l:Addr}{xs ys:List V}(I:Inv X pins σ H s) (q:SqB X.K b H l xs) (r:SqB X.K b H l ys):ys=xs:=by
 unfold SqB at q r
 cases b with
 |true=>exact I.tuple_inj r q
 |false=>exact I.list_inj r q
end
def tnZ (b1 b2:Bool)(z TI TO i1 i2 l1 l2:Addr)(i:Nat)(h:Heap):Prop:=IsZip h z TI TO .none/\IsPair h TI (.ref i1) (.ref i2)/\(∃a b,IsPair h TO a b)/\ItB b1 h i1 l1 i/\ItB b2 h i2 l2 i
theorem LN {b:Bool}{i l:Addr}{us:Array Value}{k:Nat}{h:Heap}(a:stB b i l us k h):ItB b h i l k:=by
 unfold stB at a
 unfold ItB
 split at a
 .rename_i c;rw[if_pos c];exact a.1
 .rename_i c;rw[if_neg c];exact a.1
theorem Q4 {P:Program}{w:World}{K:W.Frag}{elts:List Expr}{x1:Nat}{tpos:Pos}(b1 b2:Bool){z TI TO i1 i2 l1 l2:Addr}(D:ZAp z TI TO i1 i2 l1 l2):Qv P w K (.Tuple elts x1 tpos) (Itz K b1 b2 l1 l2) [z,TI,TO,i1,i2] z (tnZ b1 b2 z TI TO i1 i2 l1 l2) where
 mem:=by simp
 obj:=fun i h st b hb=>by
  obtain⟨g1,g2,⟨a,c,g3⟩,g4,g5⟩:=st
  simp only[qAo,qBb,or_false] at hb
  rcases hb with rfl|rfl|rfl|rfl|rfl
  .exact#[_,g1,fun v y=>by cases y]
  .exact#[_,g2,fun v y=>by cases y]
  .exact#[_,g3,fun v y=>by cases y]
  .exact Gf g4
  .exact Gf g5
 keep:=fun i h h' st k=>by
  obtain⟨g1,g2,⟨a,c,g3⟩,g4,g5⟩:=st
  exact#[k z (by simp) _ g1,k TI (by simp) _ g2,#[a,c,k TO (by simp) _ g3],C3 g4 fun o e=>k i1 (by simp) o e,C3 g5 fun o e=>k i2 (by simp) o e]
 item:=by
  intro X hP hw hK hc i pins s σ H E I hf st hg
  subst hP hw hK
  obtain⟨xs,ys,x,y,q1,q2,hx,hy⟩:=hg
  obtain⟨its1,rv1,src1⟩:=El I q1
  obtain⟨its2,rv2,src2⟩:=El I q2
  obtain⟨u,hu,ru⟩:=rv1.get hx
  obtain⟨v,hv,rv⟩:=rv2.get hy
  obtain⟨g1,g2,⟨a,c,g3⟩,g4,g5⟩:=st
  have hd:=I.ok.hd hc
  have fz:=hf z (by simp)
  have fI:=hf TI (by simp)
  have fO:=hf TO (by simp)
  have f1:=hf i1 (by simp)
  have f2:=hf i2 (by simp)
  refine QK D (fun A' e=>Jz (e.trans hd) b1 D.a4.1 its1.toArray) (fun A' e=>Jz (e.trans hd) b2 D.a4.2 its2.toArray) g1 g2 g3 (src1 i1 i g4) (src2 i2 i g5) (x:=u) (y:=v) (by simpa using hu) (by simpa using hv) fun h1 k1 k2 k3 k4 k5 k6=>#[_,rfl,wpAny_letOwnedTupleGo_zip (s:={ s with heap:=h1 }) k1 fun h2 m1 m2=>?_]
  have m2':Heap.SameBut z h1 h2:=m2
  have lt:∀{b:Addr}{o:Obj},s.heap.get? b=some o->s.heap.objs.size≠b:=fun e=>qBg (qAh e)
  have hn:H s.heap.objs.size=none:=I.hok.fresh (qAc _)
  have old2:∀b o,b≠z->b≠TO->b≠i1->b≠i2->s.heap.get? b=some o->h2.get? b=some o:=fun b o n1 n2 n3 n4 y=>(m2'.2 b n1).trans (k6 b o n1 n2 n3 n4 y)
  have tup2:h2.get? s.heap.objs.size=some { cls:=.type "tuple",data:=.seq (List.toArray [u,v]) }:=(m2'.2 _ (lt g1)).trans k5
  have trk:∀{b:Addr}{o:HO},H b=some o->b≠z/\b≠TO/\b≠i1/\b≠i2:=fun {b o} q=>#[(fun y=>by rw[y,fz.1] at q;cases q),(fun y=>by rw[y,fO.1] at q;cases q),(fun y=>by rw[y,f1.1] at q;cases q),(fun y=>by rw[y,f2.1] at q;cases q)]
  have hok2:HOk X.prog X.w (upd H s.heap.objs.size (.tup [x,y])) h2:=fun b o q=>by
   by_cases hb:b=s.heap.objs.size
   .subst hb
    rw[Au] at q
    cases q
    exact#[by show 2<=sizeLine;decide,[u,v],.cons ru (.cons rv .nil),#[_,tup2,rfl,_,rfl]]
   .rw[Al hb] at q
    refine(I.hok b o q).stay (hf:=fun c w1 w2 y=>by rw[Al (Ap y hn)];exact y) (fun c o hc' y=>?_) (fun c y=>by rw[Al (Ap y hn)];exact y) fun c ys y=>by rw[Al (Ap y hn)];exact y
    have t:c≠z/\c≠TO/\c≠i1/\c≠i2:=by
     rcases hc' with rfl|hc'
     .exact trk q
     .exact trk hc'
    exact old2 c o t.1 t.2.1 t.2.2.1 t.2.2.2 y
  have nin:∀{b:Addr},b∉[z,TO,i1,i2]->b≠z/\b≠TO/\b≠i1/\b≠i2:=fun {b} h=>#[(fun y=>h (by simp[y])),(fun y=>h (by simp[y])),(fun y=>h (by simp[y])),(fun y=>h (by simp[y]))]
  have I2:Inv X pins σ (upd H s.heap.objs.size (.tup [x,y])) { s with heap:=h2,toks:=s.toks }:=by
   refine I.step (g':=s.gens) (d':=s.drawn) (ch:=[z,TO,i1,i2]) (fun b hb=>?_) (fun b o _ _ hb q _=>old2 b o (nin hb).1 (nin hb).2.1 (nin hb).2.2.1 (nin hb).2.2.2 q) (fun b o _ _ hb q _=>#[o.slots,old2 b o (nin hb).1 (nin hb).2.1 (nin hb).2.2.1 (nin hb).2.2.2 q])
    (fun b o _ q n=>by rw[Al (qAw (qAh q))];exact n) (fun b o hb q=>#[o,old2 b o (nin hb).1 (nin hb).2.1 (nin hb).2.2.1 (nin hb).2.2.2 q])
    (fun b ys y=>by rw[Al (Ap y hn)];exact y) (fun b o ys y=>by rw[Al (Ap y hn)];exact y) (fun b ps y=>#[(List.toArray []),by rw[Al (Ap y hn),y];simp]) (fun m hm=>?_) hok2 I.bare
   .simp only[qAo,qBb,or_false] at hb
    rcases hb with rfl|rfl|rfl|rfl
    .exact#[fz.2.2.2.1,fz.2.1,fz.2.2.2.2.1,fz.2.2.2.2.2]
    .exact#[fO.2.2.2.1,fO.2.1,fO.2.2.2.2.1,fO.2.2.2.2.2]
    .exact#[f1.2.2.2.1,f1.2.1,f1.2.2.2.2.1,f1.2.2.2.2.2]
    .exact#[f2.2.2.2.1,f2.2.1,f2.2.2.2.2.1,f2.2.2.2.2.2]
   .obtain⟨o,es,ep,ho,r⟩:=hm
    exact#[o,es,ep,old2 _ o (Ne.symm fz.2.1) (Ne.symm fO.2.1) (Ne.symm f1.2.1) (Ne.symm f2.2.1) ho,r]
  have ob1:=Gf g4
  have ob2:=Gf g5
  refine#[.ref s.heap.objs.size,_,I2,rfl,#[_,x,y,hn,rfl,fun zs hz=>by rw[IU I q1 hz];exact hx,fun zs hz=>by rw[IU I q2 hz];exact hy,rfl],#[m1,?_,#[u,v,?_],?_,?_],fun b hb=>?_]
  .exact(m2'.2 _ D.a1.1).trans (k6 _ _ D.a1.1 D.a2.1 D.a3.1 D.a3.2.2.2.1 g2)
  .exact(m2'.2 _ D.a1.2.1).trans k2
  .exact C3 (LN k3) fun o e=>(m2'.2 _ D.a1.2.2.1).trans e
  .exact C3 (LN k4) fun o e=>(m2'.2 _ D.a1.2.2.2.1).trans e
  .have ne:∀{b:Addr}{o:Obj},s.heap.get? b=some o->b≠s.heap.objs.size:=fun e=>qAw (qAh e)
   simp only[qAo,qBb,or_false] at hb
   rcases hb with rfl|rfl|rfl|rfl|rfl
   .rw[Al (ne g1)];exact fz.1
   .rw[Al (ne g2)];exact fI.1
   .rw[Al (ne g3)];exact fO.1
   .obtain⟨o,e,_⟩:=ob1;rw[Al (ne e)];exact f1.1
   .obtain⟨o,e,_⟩:=ob2;rw[Al (ne e)];exact f2.1
 done:=by
  intro X hP hw hK hc i pins s σ H E I hf st hg
  subst hP hw hK
  obtain⟨xs,ys,q1,q2,he⟩:=hg
  obtain⟨its1,rv1,src1⟩:=El I q1
  obtain⟨its2,rv2,src2⟩:=El I q2
  obtain⟨g1,g2,⟨a,c,g3⟩,g4,g5⟩:=st
  have hd:=I.ok.hd hc
  have fz:=hf z (by simp)
  have fO:=hf TO (by simp)
  have f1:=hf i1 (by simp)
  have f2:=hf i2 (by simp)
  refine RR hd D (fun A' e=>Jz (e.trans hd) b1 D.a4.1 its1.toArray) (fun A' e=>Jz (e.trans hd) b2 D.a4.2 its2.toArray) g1 g2 g3 (src1 i1 i g4) (src2 i2 i g5) ?_ fun h' kp=>#[rfl,?_]
  .have e1:=rv1.length
   have e2:=rv2.length
   rcases he with he|he
   .left;rw[qBJ,qAO];omega
   .right;rw[qBJ,qAO];omega
  .have nin:∀{b:Addr},b∉[z,TO,i1,i2]->b≠z/\b≠TO/\b≠i1/\b≠i2:=fun {b} h=>#[(fun y=>h (by simp[y])),(fun y=>h (by simp[y])),(fun y=>h (by simp[y])),(fun y=>h (by simp[y]))]
   have old2:∀b o,b∉[z,TO,i1,i2]->s.heap.get? b=some o->h'.get? b=some o:=fun b o hb q=>kp b o (nin hb).1 (nin hb).2.1 (nin hb).2.2.1 (nin hb).2.2.2 q
   have trk:∀{b:Addr}{o:HO},H b=some o->b∉[z,TO,i1,i2]:=fun {b o} q hb=>by
    simp only[qAo,qBb,or_false] at hb
    rcases hb with rfl|rfl|rfl|rfl
    .rw[fz.1] at q;cases q
    .rw[fO.1] at q;cases q
    .rw[f1.1] at q;cases q
    .rw[f2.1] at q;cases q
   have hok2:HOk X.prog X.w H h':=fun b o q=>by
    refine(I.hok b o q).stay (fun c o hc' y=>old2 c o ?_ y) (fun _ y=>y) fun _ _ y=>y
    rcases hc' with rfl|hc'
    .exact trk q
    .exact trk hc'
   refine I.step (t':=s.toks) (g':=s.gens) (d':=s.drawn) (ch:=[z,TO,i1,i2]) (fun b hb=>?_) (fun b o _ _ hb q _=>old2 b o hb q) (fun b o _ _ hb q _=>#[o.slots,old2 b o hb q]) (fun b o _ q n=>n) (fun b o hb q=>#[o,old2 b o hb q])
    (fun b ys y=>y) (fun b o ys y=>y) (fun b ps y=>#[(List.toArray []),by rw[y];simp]) (fun m hm=>?_) hok2 I.bare
   .simp only[qAo,qBb,or_false] at hb
    rcases hb with rfl|rfl|rfl|rfl
    .exact#[fz.2.2.2.1,fz.2.1,fz.2.2.2.2.1,fz.2.2.2.2.2]
    .exact#[fO.2.2.2.1,fO.2.1,fO.2.2.2.2.1,fO.2.2.2.2.2]
    .exact#[f1.2.2.2.1,f1.2.1,f1.2.2.2.2.1,f1.2.2.2.2.2]
    .exact#[f2.2.2.2.1,f2.2.1,f2.2.2.2.2.1,f2.2.2.2.2.2]
   .obtain⟨o,es,ep,ho,r⟩:=hm
    refine#[o,es,ep,kp _ o (Ne.symm fz.2.1) (Ne.symm fO.2.1) (Ne.symm f1.2.1) (Ne.symm f2.2.1) ho,r]
 self:=fun A i s Q E st h=>wpAny_pyIter_zip st.1 h
section
variable {X:Cx}{pos:Pos}
def Xy (K:W.Frag)(ta:TA):TI:=fun σ H R=>ta σ H fun vs H1=>∃a1 a2,vs=[.ref a1,.ref a2]/\∃b:Bool,(∃xs,SqB K b H1 a1 xs)/\(∃ys,SqL K H1 a2 ys)/\R (Itz K b false a1 a2) H1
theorem Tr {n l1 l2:Addr}(h1:l1<n) (h2:l2<n):ZAp (n+4) (n+2) (n+3) n (n+1) l1 l2:=by
 have up:∀{a:Addr}(j:Nat),a<n->a≠n+j:=fun {a} j h=>qAw (qAq h (qBM n j))
 have lt:∀{i j:Nat},i<j->n+i≠n+j:=fun h=>qAw (Nat.add_lt_add_left h n)
 have gt:∀{i j:Nat},j<i->n+i≠n+j:=fun h=>qBg (Nat.add_lt_add_left h n)
 exact#[#[lt ∅,lt ∅,lt (i:=0) ∅,lt ∅,up 4 h1,up 4 h2],#[lt ∅,lt (i:=0) ∅,lt ∅,up 3 h1,up 3 h2],#[gt (j:=0) ∅,gt (j:=0) ∅,up 0 h2,gt ∅,up 1 h1],#[up 0 h1,up 1 h2]]
theorem Wl {e1 e2:Expr}{elts:List Expr}{x1:Nat}{tpos p:Pos}{ta:TA}(hg:Gl X "zip") (hm:X.mg "zip"=none) (ha:PA X [e1,e2] ta) (hs:starEach [e1,e2] X.env=[(false,eval e1 X.env),(false,eval e2 X.env)]:=by rfl) (hs2:starEach [e2] X.env=[(false,eval e2 X.env)]:=by rfl) :
 PI X (.Tuple elts x1 tpos) (.Call (.Name "zip" p) [e1,e2] [] pos) (Xy X.K ta):=by
 intro pins s σ H R I h
 refine Call_ (G1 I hg hm qCS (qA0 (thn (ha pos pins s σ H _ I h) fun us s1 #[vs,H1,I1,r1,q1]=>?_) (by rw[hs,hs2]) (by rw[hs2];rfl)))
 obtain⟨a1,a2,e,b,⟨xs,h1⟩,⟨ys,h2⟩,q⟩:=q1
 subst e
 cases r1 with
 |cons r rr =>
  cases rr with
  |cons r' rr =>
   cases rr
   cases r
   cases r'
   obtain⟨its2,rv2,p2,hz2⟩:=I1.list h2
   have fin:∀h',IsZip h' (s1.heap.objs.size+4) (s1.heap.objs.size+2) (s1.heap.objs.size+3) .none->IsPair h' (s1.heap.objs.size+2) (.ref s1.heap.objs.size) (.ref (s1.heap.objs.size+1))->IsPair h' (s1.heap.objs.size+3) .none .none ->
    ItB b h' s1.heap.objs.size a1 0->ItB false h' (s1.heap.objs.size+1) a2 0->(∀c o,s1.heap.get? c=some o->h'.get? c=some o)->a1<s1.heap.objs.size->a2<s1.heap.objs.size ->
    wpAny (model X.prog X.w) X.A (pyIter (.ref (s1.heap.objs.size+4))) (PIE X pins σ (.Tuple elts x1 tpos) R) X.xe { s1 with heap:=h' }:=fun h' g1 g2 g3 g4 g5 old n1 n2=>by
    have I2:Inv X pins σ H1 { s1 with heap:=h' }:=I1.kept (t':=s1.toks) old
    refine wpAny_pyIter_zip (s:={ s1 with heap:=h' }) g1 ?_
    refine#[s1.heap.objs.size+4,_,_,_,H1,rfl,I2,Q4 b false (Tr n1 n2),#[g1,g2,#[_,_,g3],g4,g5],fun c hc=>?_,q]
    have ge:s1.heap.objs.size<=c:=by
     simp only[qAo,qBb,or_false] at hc
     rcases hc with rfl|rfl|rfl|rfl|rfl
     .exact qBM _ 4
     .exact qBM _ 2
     .exact qBM _ 3
     .exact qAc _
     .exact qBM _ 1
    exact I1.fpOk ge (I1.hok.fresh ge)
   have n2:a2<s1.heap.objs.size:=by obtain⟨o,e,_⟩:=p2.isList;exact qAh e
   cases b with
   |true =>
    obtain⟨its1,rv1,p1,hz1⟩:=I1.tuple h1
    have t1:s1.heap.IsTuple a1 its1.toArray:=p1
    have n1:a1<s1.heap.objs.size:=by obtain⟨o,e,_⟩:=t1;exact qAh e
    exact NW t1 p2.isList fun h' g1 g2 g3 g4 g5 old=>fin h' g1 g2 g3 g4 g5 old n1 n2
   |false =>
    obtain⟨its1,rv1,p1,hz1⟩:=I1.list h1
    have n1:a1<s1.heap.objs.size:=by obtain⟨o,e,_⟩:=p1.isList;exact qAh e
    exact call_zip_2 p1.isList p2.isList fun h' g1 g2 g3 g4 g5 _ old=>fin h' g1 g2 g3 g4 g5 old n1 n2
end
structure Gd (X:Cx)(x y':Str)(scope:Scope)(N:List Str)(idx:List Nat):Prop where
 kind:scope.kind=.function
 cell:∀y∈scope.names,y.2≠.cell
 names:∀y∈scope.names,y.2=.local->scope.names.lookup y.1=some .local
 own:scope.names.lookup x=some .local
 own2:scope.names.lookup y'=some .local
 free:∀y∈scope.names,y.2=.free->X.env.kindOf y.1=some .cell
 nd:N.Nodup
 fst:N[0]? = some x
 snd:N[1]? = some y'
 len:N.length=idx.length+2
 cap:∀(k j:Nat),idx[k]? = some j->∃y,N[k+2]? = some y/\X.N[j]? = some y/\scope.names.lookup y=some .free
section
variable {X:Cx}{pins:List (Addr×Obj)}{σ:St}{H2:Hp}{s2:Shared}{x y':Str}{px py' pt:Pos}{kt:Nat}{tg:Expr}{scope:Scope}{N:List Str}{idx:List Nat}{J:It}{fp:List Addr}{it:Addr}{tn:Nat->Heap->Prop}{cl:List (Str×Addr)}
theorem Mv (O:Gd X x y' scope N idx)(I2:Inv X pins σ H2 s2)(T:Qv X.prog X.w X.K tg J fp it tn)(st2:tn 0 s2.heap)(f2:∀b∈fp,NS X pins H2 b)
 (hcl:∀y c,cl.lookup y=some c->X.env.cells.lookup y=some c)(hcl2:∀y,(y,NameKind.free)∈scope.names->∃c,cl.lookup y=some c)
 {h1:Heap}{C:Addr}{m:Str->Option Value}{tk:Nat}(hC:s2.heap.objs.size<C) (hns:h1.Ns C m) (old:∀b o,s2.heap.get? b=some o->h1.get? b=some o)
 (hD:h1.get? s2.heap.objs.size=some { cls:=.type "list",data:=.seq ([]:List Value).toArray }) :
 Inv (AD X N scope cl C s2 H2 fp) [] (none::none::DS σ idx) (upd H2 s2.heap.objs.size (.lst [])) { s2 with heap:=h1,toks:=tk }:=by
 have inHeap:∀b∈fp,b<s2.heap.objs.size:=fun b hb=>by
  obtain⟨o,e,_⟩:=T.obj 0 _ st2 b hb
  exact qAh e
 have hDn:H2 s2.heap.objs.size=none:=I2.hok.fresh (qAc _)
 refine#[#[I2.ok.mod,O.kind,I2.ok.glob,I2.ok.blt,?_,?_,?_,(fun _ _ z=>by cases z),I2.ok.hd,I2.ok.frames,.inl rfl,?_,fun b o e=>I2.bs b o e,qAL I2.ok.bsz I2.sz,?_,?_,I2.stack,I2.stkFree,I2.tb],rfl,I2.bare,?_,#[m,hns,?_],?_,?_,?_,?_,?_,?_]
 .exact qBt hC
 .intro y z c h1 h2
  exact I2.ok.inj y z c (hcl y c h1) (hcl z c h2)
 .intro y hy
  have key:∀k,(relabel scope X.env).names.lookup y=some k->(k=.cell\/k=.free)->∃c,cl.lookup y=some c:=fun k e hk=>by
   obtain⟨k0,h1,h2⟩:=CV e
   have hf:k0=.free:=by
    rcases h2 with rfl|h2
    .rcases hk with rfl|rfl
     .exact absurd rfl (O.cell _ h1)
     .rfl
    .exact h2
   subst hf
   exact hcl2 y h1
  rcases hy with e|e
  .exact key _ e (.inl rfl)
  .exact key _ e (.inr rfl)
 .intro b hb
  have:=inHeap b hb
  exact#[qAw (qBA this hC),fun y c e=>(f2 b hb).2.2.2.2.1 y c (hcl y c e)]
 .intro b o e hb
  rcases(f2 b hb).2.2.2.1 with z|z
  .exact I2.ok.noex b o e z
  .exact absurd (qAq (qAh e) (qAL I2.ok.bsz z)) (qA4 _)
 .intro b hb hf
  rcases qAo.mp (I2.stkSub b hf) with e|e
  .exact(f2 b hb).2.1 e
  .exact(f2 b hb).2.2.1 e
 .exact Un.laid old (qAc _) hDn
 .intro i y v e1 e2 e3
  cases i with
  |zero=>cases e2
  |succ k =>
   cases k with
   |zero=>cases e2
   |succ k =>
    obtain⟨j,ej,es⟩:=Ie (k:=k) e2
    obtain⟨y',n1,n2,n3⟩:=O.cap k j ej
    have ey:y'=y:=qAl (n1.symm.trans e1)
    subst ey
    have kc:=O.free _ (BH n3) rfl
    obtain⟨m0,hn0,hl0⟩:=I2.loc
    obtain⟨u,ru,lk⟩:=hl0 j y' v n2 es (.inr (.inl kc))
    refine#[u,ru,?_]
    rcases lk with⟨k1,_⟩|⟨_,c,hc,ic⟩
    .rw[kc] at k1;cases k1
    .obtain⟨c',hc'⟩:=hcl2 y' (BH n3)
     have:c'=c:=qAl ((hcl y' c' hc').symm.trans hc)
     subst this
     exact .inr #[.inl (Ck I2.ok.kind kc n3),c',hc',ic.keeps old]
 .intro y c e
  obtain⟨v,ic⟩:=I2.cell y c (hcl y c e)
  exact#[v,ic.keeps old]
 .show upd H2 _ _ C=none
  rw[Al (qBg hC)]
  exact I2.hok.fresh (qBt hC)
 .intro y c e
  obtain⟨v,ic⟩:=I2.cell y c (hcl y c e)
  rw[Al (qAw ic.lt)]
  exact I2.freeC y c (hcl y c e)
 .intro p hp;cases hp
 .exact I2.hok.laid old (qAc _) #[qA3 _,[],_,.nil,hD]
 .show(none::none::DS σ idx).length=N.length
  rw[O.len,qBr,qBr]
  unfold DS
  rw[qAa]
def PQ (K:W.Frag)(idx:List Nat)(wi:TI)(te:Hp->TE):TE:=fun σ H Q=>wi σ H fun J H1=>∀D,H1 D=none->K.lookup D=none->∃W:Nat->Nat->List V->Hp->Prop,(∃m,W 0 m [] (upd H1 D (.lst []))) /\
 ∀i m ys H,H D=some (.lst ys)->W i m ys H->(J.stop i H/\Q (.ref D) H)\/(J.go i H/\∀x H',J.yld i H x H'->∃p v1 v2,x=.ref p/\SqT K H' p [v1,v2] /\
  te H1 (some v1::some v2::DS σ idx) H' (fun v H3=>H3 D=some (.lst ys)/\ys.length<sizeLine/\∃m',m'<m/\W (i+1) m' (ys++[v]) (upd H3 D (.lst (ys++[v])))))
theorem PH {elt iter:Expr}{wi:TI}{te:Hp->TE}{pos:Pos}{s:Shared}{H:Hp}{Q:VK}{use:Option (Value->Sem Unit)}{QQ:Value->Shared->Prop}(O:Gd X x y' scope N idx) (hc:X.calm=true) (hi:PI X (.Tuple [.Name x px,.Name y' py'] kt pt) iter wi)
 (helt:∀cl C s₀ H₀ fp,PE (AD X N scope cl C s₀ H₀ fp) elt (te H₀))
 (hs:∀x,foldedSetIterable iter X.env x=pure x) (I:Inv X pins σ H s) (h:PQ X.K idx wi te σ H Q)
 (fin:∀(s2:Shared)(H2:Hp)(fp:List Addr)(cl:List (Str×Addr))(C D:Addr)(σ':St)(H':Hp)(s':Shared),Inv X pins σ H2 s2->(∀b∈fp,NS X pins H2 b)->s2.heap.objs.size<C->Inv (AD X N scope cl C s2 H2 fp) [] σ' H' s'->Q (.ref D) H' ->
  compPost (model X.prog X.w) X.A X.xe use QQ (.ref D) C (.ok .next) s') :
 wpAny (model X.prog X.w) X.A (comprehension (.ListComp elt [#[.Tuple [.Name x px,.Name y' py'] kt pt,iter,[],0]] scope pos) scope X.env (firstIterPos [#[.Tuple [.Name x px,.Name y' py'] kt pt,iter,[],0]] pos) (newList []) false (eval iter X.env) use) QQ X.xe s:=by
 obtain⟨cl,ecl,hcl,hcl2⟩:=Hq (scope:=scope) (env:=X.env) fun y hy hf=>I.ok.has y.1 (.inl (O.free y hy hf))
 refine wpAny_comprehension_free (use:=use) (cl:=cl) rfl hs ecl O.kind O.names ?_
 refine thn (hi pins s σ H _ I h) fun v s1 h1=>thn h1 fun itv s2 h2=>?_
 obtain⟨it,fp,tn,J,H2,rfl,I2,T,st2,f2,hD⟩:=h2
 refine wpAny_newObj_type (wpAny_newFunctionEnv O.cell (by intro y hy;simp at hy) (fun h1 hns hsb=>?_) O.kind)
 dsimp only at hns hsb ⊢
 generalize hG:s2.heap.push { cls:=.type "list",dict:=none,data:=.seq ([]:List Value).toArray }=G at hns hsb ⊢
 have hCs:s2.heap.objs.size<G.objs.size:=by rw[<-hG,qA6];exact qBL _
 have old:∀b o,s2.heap.get? b=some o->h1.get? b=some o:=fun b o e=>hsb.extBut b o (qAw (qBA (qAh e) hCs)) (qAf _ (hG ▸ qAf _ e))
 have hDl:h1.get? s2.heap.objs.size=some { cls:=.type "list",data:=.seq ([]:List Value).toArray }:=hsb.extBut _ _ (qAw hCs) (qAf _ (hG ▸ qAr _ rfl))
 have hDn:H2 s2.heap.objs.size=none:=I2.hok.fresh (qAc _)
 have hDk:X.K.lookup s2.heap.objs.size=none:=by
  cases e:X.K.lookup s2.heap.objs.size with
  |none=>rfl
  |some o=>exact absurd (qAh (I2.kIn _ _ e)) (qA4 _)
 obtain⟨W,⟨m0,w0⟩,step⟩:=hD _ hDn hDk
 have I4:Inv (AD X N scope cl G.objs.size s2 H2 fp) [] (none::none::DS σ idx) (upd H2 s2.heap.objs.size (.lst [])) { s2 with heap:=h1,toks:=s2.toks+([]:List (Str×Value)).length } :=
  Mv O I2 T st2 f2 hcl hcl2 hCs hns old hDl
 generalize hCC:G.objs.size=C at I4 hCs ⊢
 clear hsb hns hG hCC
 generalize hDD:s2.heap.objs.size=D at hDn hDk step w0 I4 hDl ⊢
 have st4:tn 0 h1:=T.keep 0 _ _ st2 fun b _ o e=>old b o e
 have frD:∀b∈fp,(upd H2 D (.lst [])) b=none:=fun b hb=>by
  obtain⟨o,e,_⟩:=T.obj 0 _ st2 b hb
  rw[Al (by rw[<-hDD];exact qAw (qAh e))]
  exact(f2 b hb).1
 have stat:∀{H':Hp},(∀b∈fp,H' b=none)->∀b∈fp,NS (AD X N scope cl C s2 H2 fp) [] H' b:=fun hn b hb =>
  #[hn b hb,(I4.ok.exf b hb).1,I4.ok.exfs b hb,.inl hb,(I4.ok.exf b hb).2,fun p hp=>by cases hp]
 have hloc:(AD X N scope cl C s2 H2 fp).env.scope.names.lookup x=some .local:=lookup_relabel_local O.own
 have hloc2:(AD X N scope cl C s2 H2 fp).env.scope.names.lookup y'=some .local:=lookup_relabel_local O.own2
 have pg:PG (AD X N scope cl C s2 H2 fp) (.Tuple [.Name x px,.Name y' py'] kt pt) (UO X.K 2 (HJ (Dc 0) (HJ (Dc 1) UQ))) :=
  Lm (X:=AD X N scope cl C s2 H2 fp) hc (Cz (AR O.nd O.fst (.inl hloc) (.inr hloc)) (Cz (AR O.nd O.snd (.inl hloc2) (.inr hloc2)) IM))
 have loop:∀s3:Shared,s3={ s2 with heap:=h1,toks:=s2.toks+([]:List (Str×Value)).length } ->
  codeAny (model X.prog X.w) X.A (.compLoop (.ListComp elt [#[.Tuple [.Name x px,.Name y' py'] kt pt,iter,[],0]] scope pos) 0 (.ref it) (.ref D) (compEnvC scope cl C X.env)) (compPost (model X.prog X.w) X.A X.xe use QQ (.ref D) C) s3:=by
  rintro s3 rfl
  refine LCp.codeAny_compLoop_pair (fun n s'=>∃i z1 z2 H' ys,Inv (AD X N scope cl C s2 H2 fp) [] (z1::z2::DS σ idx) H' s'/\tn i s'.heap/\(∀b∈fp,H' b=none)/\H' D=some (.lst ys)/\W i n ys H') ?_ m0 #[0,none,none,_,[],I4,st4,frD,Au,w0]
  rintro n s5 ⟨i,z1,z2,H5,ys,I5,st5,fr5,hD5,w5⟩
  rcases step i n ys H5 hD5 w5 with⟨stop,q⟩|⟨go,next⟩
  .refine wpAny_mono (T.done (AD X N scope cl C s2 H2 fp) rfl rfl rfl hc i [] s5 _ H5 (fun _ _=>False) I5 (stat fr5) st5 stop) (fun r s6 hh=>?_) fun _ _ z=>z.elim
   obtain⟨hr,I6⟩:=hh
   subst hr
   exact fin s2 H2 fp cl C D _ H5 s6 I2 f2 hCs I6 q
  .refine wpAny_mono (T.item (AD X N scope cl C s2 H2 fp) rfl rfl rfl hc i [] s5 _ H5 (fun _ _=>False) I5 (stat fr5) st5 go) (fun r s6 hh=>?_) fun _ _ z=>z.elim
   obtain⟨u,hr,h6⟩:=hh
   subst hr
   dsimp only
   refine wpAny_mono h6 (fun _ s7 h7=>?_) fun _ _ z=>z.elim
   obtain⟨xv,H7,I7,r7,y7,st7,fr7⟩:=h7
   have I7':=I7.pinned (stat fr7) (T.obj _ _ st7)
   obtain⟨p,v1,v2,e7,sq7,nx7⟩:=next xv H7 y7
   subst e7
   refine wpAny_mono (pg _ s7 _ H7 (.ref p) u (fun σ' H'=>σ'=some v1::some v2::DS σ idx/\H'=H7) I7' r7 #[p,[v1,v2],rfl,sq7,rfl,v1,[v2],rfl,v2,[],rfl,rfl,rfl,rfl]) (fun _ s8 h8=>?_) fun _ _ z=>z.elim
   obtain⟨σ8,H8,I8,e8,e8'⟩:=h8
   subst e8 e8'
   have again:∀{H9:Hp}{s9:Shared}{ys':List V}{m':Nat},Inv (AD X N scope cl C s2 H2 fp) ([]++JT fp s7.heap) (some v1::some v2::DS σ idx) H9 s9->H9 D=some (.lst ys')->m'<n->W (i+1) m' ys' H9 ->
    ∃m,m<n/\∃i z1 z2 H' ys,Inv (AD X N scope cl C s2 H2 fp) [] (z1::z2::DS σ idx) H' s9/\tn i s9.heap/\(∀b∈fp,H' b=none)/\H' D=some (.lst ys)/\W i m ys H':=fun {H9 s9 ys' m'} I9 hD9 hm w9=>by
    refine#[m',hm,i+1,some v1,some v2,H9,ys',I9.unpinned,T.keep _ _ _ st7 fun b hb o e=>(I9.pin (b,o) (qAB _ (qAB _ (Dw hb e)))).1,fun b hb=>?_,hD9,w9]
    obtain⟨o,e,d⟩:=T.obj _ _ st7 b hb
    exact(I9.pin (b,o) (qAB _ (qAB _ (Dw hb e)))).2.1
   refine wpAny_mono (helt cl C s2 H2 fp _ s8 _ H8 _ I8 nx7) (fun y s10 hh=>?_) fun _ _ z=>z.elim
   obtain⟨v,H10,I10,r10,hD10,hl,m',hm,w'⟩:=hh
   refine wpAny_mono (AF (X:=AD X N scope cl C s2 H2 fp) _ s10 _ H10 (.ref D) [v] (.ref D) [y] (fun _ H'=>H'=upd H10 D (.lst (ys++[v]))) I10 rfl (.cons r10 .nil) #[D,ys,v,rfl,rfl,hD10,hl,rfl]) (fun _ s11 hh=>?_) fun _ _ z=>z.elim
   obtain⟨_,H11,I11,_,e11⟩:=hh
   subst e11
   exact again I11 Au hm w'
 exact codeAny_compStart_list (loop _ rfl) (T.self X.A 0 _ _ _ st4 (loop _ rfl))
theorem Rc {elt iter:Expr}{wi:TI}{te:Hp->TE}{pos:Pos}(O:Gd X x y' scope N idx) (hc:X.calm=true) (hi:PI X (.Tuple [.Name x px,.Name y' py'] kt pt) iter wi)
 (helt:∀cl C s₀ H₀ fp,PE (AD X N scope cl C s₀ H₀ fp) elt (te H₀))
 (hs:∀x,foldedSetIterable iter X.env x=pure x:=by intro _;rfl):PE X (.ListComp elt [#[.Tuple [.Name x px,.Name y' py'] kt pt,iter,[],0]] scope pos) (PQ X.K idx wi te):=by
 intro pins s σ H Q I h
 rw[eval_ListComp]
 refine PH (use:=none) O hc hi helt hs I h fun s2 H2 fp cl C D σ' H' s' I2 f2 hC I' q=>?_
 obtain⟨m,hn,_⟩:=I'.loc
 exact#[m,hn,fun h' hs'=>#[.ref D,H',Ip I2 f2 hC I' hs',rfl,q]]
end
def Rz (τ:Tau)(idx:List Nat)(x y:D):Tau:=some (.d x)::some (.d y)::(DS τ idx).map (Option.map S.share)
section
variable {X:Cx}{x y':Str}{px py' pt pos:Pos}{kt:Nat}{scope:Scope}{N:List Str}{idx:List Nat}{σ:St}{τ:Tau}{elt:Expr}{ta:TA3}{te:TE3}
theorem Pf {B p p0 q:HZ}{d e:D}{v u:V}(r:Rep X B τ σ p) (e0:Ext p p0) (e':Ext p0 q) (iv:Is X.K q.z v d) (iu:Is X.K q.z u e):Rep (cxC X N scope p0.h) p0 (Rz τ idx d e) (some v::some u::DS σ idx) q:=by
 have base:=KW (N:=N) (scope:=scope) (idx:=idx) r e0 e' iu
 have no:∀(i:Nat)(xs:List D),¬(Rz τ idx d e)[i]? = some (some (.l xs)):=fun i xs z=>by
  cases i with
  |zero=>cases z
  |succ k =>
   have z':(OT τ idx e)[k]? = some (some (.l xs)):=z
   cases k with
   |zero=>cases z'
   |succ k =>
    have z2:((DS τ idx).map (Option.map S.share))[k]? = some (some (.l xs)):=z'
    rw[qAe] at z2
    cases q:(DS τ idx)[k]? with
    |none=>rw[q] at z2;cases z2
    |some o =>
     rw[q] at z2
     cases o with
     |none=>cases z2
     |some s0 =>
      have z3:s0.share=.l xs:=qAl (qAl z2)
      cases s0<;>cases z3
 refine#[?_,e',fun i s hs=>?_,fun i xs a z _=>absurd z (no i xs),fun i j xs s a _ z _ _ _=>absurd z (no i xs),fun _=>BD.refl _,fun k a h=>by cases h]
 .have:=base.len
  show(some u::DS σ idx).length+1=(OT τ idx e).length+1
  rw[this]
 .cases i with
  |zero=>cases hs;exact#[v,rfl,iv]
  |succ k=>exact base.val k s hs
def Si (idx:List Nat)(ta:TA3)(te:TE3):TE3:=fun τ R=>ta τ fun ss=>∃(s1 s2:S)(xs ys:List D),ss=[s1,s2]/\items s1=some xs/\(s2=.r ys\/s2=.d (.lst ys))/\∃os:List D,os.length=min xs.length ys.length /\
 (∀(n:Nat)(x y:D),xs[n]? = some x->ys[n]? = some y->te (Rz τ idx x y) (fun s=>dd s.arg fun d=>os[n]? = some d))/\os.length<=100000/\R (.l os)
theorem Xd {K:W.Frag}{p:HZ}{v:V}{s:S}{xs:List D}(h:IsS K p v s) (hz:BD p.z p.h) (hs:items s=some xs):∃a vs b,v=.ref a/\SqB K b p.h a vs/\Iss K p.z vs xs:=by
 cases s with
 |d z =>
  cases z with
  |tup zs=>cases hs;obtain⟨a,vs,rfl,h3,h4⟩:=Is.tup_inv h;exact#[a,vs,true,rfl,SqT.same hz h3,h4]
  |lst zs=>cases hs;obtain⟨a,vs,rfl,h3,h4⟩:=Is.lst_inv h;exact#[a,vs,false,rfl,hz.seq h3,h4]
  |_=>cases hs
 |l zs=>cases hs;obtain⟨a,vs,rfl,h3,h4⟩:=h;exact#[a,vs,false,rfl,SqL.of h3,h4]
 |r zs=>cases hs;obtain⟨a,vs,rfl,h3,h4⟩:=h;exact#[a,vs,false,rfl,h3,h4]
theorem SqB.same {K:W.Frag}{b:Bool}{H H':Hp}{a:Addr}{vs:List V}(e:BD H H') (h:SqB K b H a vs):SqB K b H' a vs:=by
 unfold SqB at *
 cases b with
 |true=>exact SqT.same e h
 |false=>exact e.seq h
theorem OI {Q:VK}{H:Hp}(h:FE X (Si idx ta te) σ H Q):PQ X.K idx (Xy X.K (FA X ta)) (fun H₀=>FE (cxC X N scope H₀) te) σ H Q:=by
 obtain⟨B,z,τ,R,r,ht,q⟩:=h
 refine#[B,z,τ,_,r,ht,fun ss vs p1 e1 i1 h1=>?_]
 obtain⟨s1,s2,xs,ys,rfl,hx,hy,os,hlen,hel,hsz,hR⟩:=h1
 obtain⟨w1,w2,rfl,is1,is2⟩:∃w1 w2,vs=[w1,w2]/\IsS X.K p1 w1 s1/\IsS X.K p1 w2 s2:=by
  have hl:=i1.1
  match vs,hl with
  |[w1,w2],_=>exact#[w1,w2,rfl,(i1.2 0 w1 s1 rfl rfl).1,(i1.2 1 w2 s2 rfl rfl).1]
 obtain⟨a1,vs1,b,rfl,q1,j1⟩:=Xd is1 e1.sub hx
 have hy':items s2=some ys:=by rcases hy with rfl|rfl<;>rfl
 obtain⟨a2,vs2,q2,j2,rfl⟩:∃a2 vs2,SqL X.K p1.h a2 vs2/\Iss X.K p1.z vs2 ys/\w2=.ref a2:=by
  rcases hy with rfl|rfl
  .obtain⟨p,us,e,h3,h4⟩:=is2;exact#[p,us,h3,h4,e]
  .obtain⟨p,us,e,h3,h4⟩:=Is.lst_inv is2;exact#[p,us,e1.sub.seq h3,h4,e]
 refine#[a1,a2,rfl,b,#[vs1,q1],#[vs2,q2],fun D' hD hK=>?_]
 have sz:(100000:Nat)<sizeLine:=∅
 have q2':SqB X.K false p1.h a2 vs2:=q2
 refine#[fun i m us H'=>m=os.length-i/\i<=os.length/\∃z',Ext p1 #[H',z']/\z' D'=none/\Iss X.K z' us (os.take i),#[os.length,rfl,qA3 _,p1.z,Ext.own e1.sub hD _,e1.sub.free hD,Iss.nil],?_]
 rintro i m us H' hD' ⟨rfl,hi,z',hs,hzD,hiss⟩
 have q1h:SqB X.K b H' a1 vs1:=q1.same hs.hh
 have q2h:SqB X.K false H' a2 vs2:=q2'.same hs.hh
 have l1:=j1.1
 have l2:=j2.1
 by_cases hlt:i<os.length
 .have n1:i<vs1.length:=()
  have n2:i<vs2.length:=()
  refine .inr #[#[vs1,vs2,_,_,q1h,q2h,qAb n1,qAb n2],fun v H'' hy2=>?_]
  obtain⟨p,v1,v2,hp,rfl,g1,g2,rfl⟩:=hy2
  obtain⟨d1,hd1,id1⟩:=BU j1 (g1 vs1 q1h)
  obtain⟨d2,hd2,id2⟩:=BU j2 (g2 vs2 q2h)
  have eo:Ext #[H',z'] #[upd H' p (.tup [v1,v2]),z']:=Ext.own hs.sub hp _
  have hs2:=hs.trans eo
  refine#[p,v1,v2,rfl,.inl (.inl Au),?_]
  have rr:Rep (cxC X N scope p1.h) p1 (Rz τ idx d1 d2) (some v1::some v2::DS σ idx) #[upd H' p (.tup [v1,v2]),z']:=Pf r e1 hs2 (id1.mono hs.zz) (id2.mono hs.zz)
  have hDp:D'≠p:=by rintro rfl;rw[hD'] at hp;cases hp
  have hD2:upd H' p (.tup [v1,v2]) D'=some (.lst us):=by rw[Al hDp];exact hD'
  have hys:us.length<=i:=by rw[hiss.1,qAQ];omega
  have keep:∀q:HZ,Ext #[upd H' p (.tup [v1,v2]),z'] q->q.z D'=none:=fun q e=>by
   cases y:q.z D' with
   |none=>rfl
   |some o =>
    rcases e.new D' o y with y|y
    .exact nomatch (hzD.symm.trans y)
    .exact nomatch (hD2.symm.trans y)
  refine#[_,_,_,_,rr,hel i d1 d2 hd1 hd2,fun s v3 q4 e4 i4 f4 h4=>?_]
  obtain⟨y,hy',h4⟩:=FY h4
  obtain⟨z5,e5,i5⟩:=Fs e4 i4 f4
  rw[hy'] at i5
  have hD4:q4.h D'=some (.lst us):=e5.hh _ _ hD2
  have hz5:z5 D'=none:=keep _ e5
  refine#[hD4,(),os.length-(i+1),(),rfl,hlt,z5,?_,hz5,?_]
  .have e15:=hs2.trans e5
   refine#[fun b o hb'=>?_,e15.zz,fun b o hb'=>?_,e15.new]
   .have hne:b≠D':=by rintro rfl;rw[hD] at hb';cases hb'
    show upd q4.h D' _ b=some o
    rw[Al hne]
    exact e15.hh b o hb'
   .have hne:b≠D':=by
     rintro rfl
     have hb2:z5 b=some o:=hb'
     rw[hz5] at hb2;cases hb2
    show upd q4.h D' _ b=some o
    rw[Al hne]
    exact e15.sub b o hb'
  .rw[qBd,h4]
   exact(hiss.mono e5.zz).snoc i5
 .have ei:i=os.length:=()
  subst ei
  rw[List.take_length] at hiss
  refine .inl #[#[vs1,vs2,q1h,q2h,()],q (.l os) _ #[H',z'] (e1.trans hs) #[D',us,rfl,hD',hiss] (fun xs a _ h2=>?_) hR]
  cases h2
  exact#[e1.hh.free hD,hK,hzD]
variable {e1 e2:Expr}{np pn:Pos}
theorem Uj (O:Gd X x y' scope N idx)(hc:X.calm=true)(hi:PI X (.Tuple [.Name x px,.Name y' py'] kt pt) (.Call (.Name "zip" np) [e1,e2] [] pn) (Xy X.K (FA X ta)))(helt:∀cl C s₀ H₀ fp,PE3 (AD X N scope cl C s₀ H₀ fp) elt te)
 (hs:∀x,foldedSetIterable (.Call (.Name "zip" np) [e1,e2] [] pn) X.env x=pure x:=by intro _;rfl):PE3 X (.ListComp elt [#[.Tuple [.Name x px,.Name y' py'] kt pt,.Call (.Name "zip" np) [e1,e2] [] pn,[],0]] scope pos) (Si idx ta te) :=
 #[BO (Rc O hc hi (Jl helt) hs) fun σ H Q h=>OI h]
end
def Kk (fN:List Str)(scope:Scope)(N:List Str):Nat->List Nat->Bool
 |_,[]=>true
 |k,j::r=>(match N[k+2]?,fN[j]? with
  |some y,some y'=>y==y'&&(scope.names.lookup y==some NameKind.free)
  |_,_=>false)&&Kk fN scope N (k+1) r
def ML (fsc:Scope)(fN:List Str)(x z:Str)(scope:Scope)(N:List Str)(idx:List Nat):Bool :=
 (scope.kind == .function)&&scope.names.all (fun y=>!(y.2 == .cell))&&scope.names.all (fun y=>!(y.2 == .local)||scope.names.lookup y.1==some .local)&&(scope.names.lookup x==some NameKind.local)&&(scope.names.lookup z==some NameKind.local) &&
 scope.names.all (fun y=>!(y.2 == .free)||fsc.names.lookup y.1==some .cell)&&decide N.Nodup&&(N[0]? == some x)&&(N[1]? == some z)&&(N.length==idx.length+2)&&Kk fN scope N 0 idx
theorem O1 {fN:List Str}{scope:Scope}{N:List Str}:∀{idx:List Nat}{k0:Nat},Kk fN scope N k0 idx=true->∀(k j:Nat),idx[k]? = some j->∃y,N[k0+k+2]? = some y/\fN[j]? = some y/\scope.names.lookup y=some .free
 |[],_,_,_,_,h=>by simp at h
 |i::r,k0,h,k,j,hk=>by
  unfold Kk at h
  rw[qAV] at h
  cases k with
  |zero =>
   have e:i=j:=by simpa using hk
   subst e
   obtain⟨h1,_⟩:=h
   split at h1
   .rename_i y y' e1 e2
    rw[qAV] at h1
    have ey:y=y':=by simpa using h1.1
    subst ey
    exact#[y,e1,e2,by simpa using h1.2]
   .cases h1
  |succ k =>
   obtain⟨y,a,b,c⟩:=O1 h.2 k j (by simpa using hk)
   exact#[y,by rw[<-a];congr 1;omega,b,c]
theorem Gd.mk' {X:Cx}{x z:Str}{scope:Scope}{N:List Str}{idx:List Nat}(fsc:Scope) (fN:List Str) (h1:X.env.scope=fsc) (h2:X.N=fN) (h:ML fsc fN x z scope N idx=true):Gd X x z scope N idx:=by
 subst h1 h2
 unfold ML at h
 simp only[qAV] at h
 obtain⟨⟨⟨⟨⟨⟨⟨⟨⟨⟨a1,a2⟩,a3⟩,a4⟩,b4⟩,a5⟩,a6⟩,a7⟩,b7⟩,a8⟩,a9⟩:=h
 refine#[by simpa using a1,fun y hy=>?_,fun y hy hl=>?_,by simpa using a4,by simpa using b4,fun y hy hf=>?_,by simpa using a6,by simpa using a7,by simpa using b7,by simpa using a8,fun k j hk=>?_]
 .have:=qAG.mp a2 y hy
  simpa using this
 .have:=qAG.mp a3 y hy
  rw[hl] at this
  simpa using this
 .have:=qAG.mp a5 y hy
  rw[hf] at this
  show X.env.scope.names.lookup y.1=some .cell
  simpa using this
 .have:=O1 a9 k j hk
  simpa using this
section
variable {X:Cx}{e st:Expr}{te ts:TE3}{pos p2:Pos}
end
section
variable {X:Cx}{pos:Pos}{e:Expr}{te tb:TE3}
def Uk (sp:SpL)(U:Str->Prop)(idx:List Nat)(te tb:TE3):TE3:=fun τ R=>te τ fun s=>∃(dom:D->Prop)(p:D->Bool),(∀x,dom x->tb (some (.d x)::K8 τ idx) fun s=>s=.d (.bl (p x)))/\∀a,sp a dom p [s.arg,.d (.ref a)] R U
theorem Km {k kb:Nat}{g x y:Str}{np lp:Pos}{ps:List Str}{sp:SpL}{c T:Addr}{params:Arguments}{body:Expr}{scope:Scope}{N:List Str}{idx:List Nat}(cal:Xv X.prog X.w X.K X.mg X.base k (kb+1) g ps sp) (hr:E4 k X.A) (hg:Gl X g)
 (ht:W.tabIn X.K y=some (c,T)) (hp:(recsOf X.prog).any (fun d=>d.name==y)=true) (hcode:X.env.code=.ref c) (O:Ba X x scope N idx) (he:PE3 X e te)
 (hb:∀cl nm a cdv A outer s H,E4 kb (A.deeper (W.envX nm scope s.heap.objs.size a cdv cl))->PE3 (Ur X N scope cl nm a cdv A outer s H) body tb)
 (hfn:∀y,X.fn y=true:=by intro _;rfl) (hdef:defaultsOf params X.env=([],[]):=by rfl) (hco:scope.isCoroutine=false:=by rfl) (hgen:scope.isGenerator=false:=by rfl)
 (hbind:∀(q:Str)(cl:List (Str×Addr))(pm cv ct u:Value),bindArgs (qCr "<lambda>" q params body scope cl pm cv ct) #[[u],[]]=pure [(x,u)]:=by intros;rfl)
 (hdb:(g==("__debug__":Str))=false:=by decide) (hs:starEach [e,.Lambda params body scope lp] X.env=(false,eval e X.env)::starEach [.Lambda params body scope lp] X.env:=by exact CM rfl) :
 PE3 X (.Call (.Name g np) [e,.Lambda params body scope lp] [] pos) (Uk sp NoU idx te tb):=by
 refine#[fun pins s σ H Q I hh=>?_]
 obtain⟨B,z,τ,R,r,ht1,q⟩:=hh
 obtain⟨f,fd,F,hm,hk,hbi⟩:=cal.ex
 obtain⟨cl,ecl,hcl,hcl2⟩:=Hq (scope:=scope) (env:=X.env) fun y hy hf=>I.ok.has y.1 (.inl (O.free y hy hf))
 refine wpAny_Call_Name_kw (Hk I hg hm ?_ hdb)
 refine qCw (h₀:=X.base) I.ok.mod.kin hk ?_ hs rfl
 rw[hs]
 refine Calls.spliced_cons (thn (he.out pins s σ H (fun v1 H1=>∃z1 d,Ext #[H,z] #[H1,z1]/\IsS X.K #[H1,z1] v1 d/\d.own=false/\∃(dom:D->Prop)(p:D->Bool),(∀x,dom x->tb (some (.d x)::K8 τ idx) fun s=>s=.d (.bl (p x)))/\∀a,sp a dom p [d,.d (.ref a)] R NoU) I #[B,z,τ,_,r,ht1,fun s2 v2 q2 e2 i2 f2 h2=>?_]) fun u1 s1 #[v1,H1,I1,rv1,z1,d,e1,i1,ow,dom,p,hdom,hsp]=>?_)
 .obtain⟨dom,p,hdom,h3⟩:=h2
  obtain⟨z5,e5,i5⟩:=Fs e2 i2 f2
  exact#[z5,s2.arg,e5,i5,Pn s2,dom,p,hdom,h3]
 have hs2:starEach [Expr.Lambda params body scope lp] X.env=(false,eval (.Lambda params body scope lp) X.env)::starEach [] X.env:=CM rfl
 rw[hs2]
 refine Calls.spliced_cons (Q7 I1 ht hp hcode hdef ecl fun a c' H2 s2 fo oc fs nm qual tq pm ctv I2 sm ha hfo hc hoc hfs=>?_)
 refine Calls.spliced_nil #[I2.kIn,?_]
 have e12:Ext #[H,z] #[H2,z1]:=e1.trans (Ext.grow e1.sub sm)
 have r2:Rep X B τ σ #[H2,z1]:=r.mono e12
 have hL:=Vs O hfn I2 hcl hcl2 ha hfo hc hoc hfs hco hgen hbind hb r2 hdom
 have i1':IsS X.K #[H2,z1] v1 d:=IsS.mono (Ext.grow e1.sub sm) i1
 have hl:[u1,Value.ref a].length=ps.length:=F.len a dom p _ _ _ (hsp a)
 have rvs:CK [v1,V.ref a] [u1,Value.ref a]:=.cons rv1 (.cons rfl .nil)
 refine wpAny_call (codeAny_mono (F.run X.A X.stack s2 H2 #[[u1,.ref a],[]] [u1,.ref a] [v1,.ref a] Q (fun _ _ _=>False) a dom p hr I2.env0 ?_ rvs hL #[z1,[d,.d (.ref a)],R,NoU,e12.sub,#[rfl,fun i v s h1 h2=>?_],hsp a,fun s v q3 e3 i3 f3 h3=>q s v q3 (e12.trans e3) i3 (N6 e12 f3) h3,fun _ _ _ _ _ z=>z.elim]) fun rr s3 hq=>?_)
 .have:=hbi s2 [u1,.ref a] I2.kIn (by simpa using hl)
  simpa using this
 .match i,h1,h2 with
  |0,h1,h2=>cases h1;cases h2;exact#[i1',ow]
  |1,h1,h2=>cases h1;cases h2;exact#[Is.ref a,rfl]
 cases rr with
 |error e=>exact(show False from hq).elim
 |ok fl =>
  cases fl with
  |ret u=>exact I2.after hq
  |next=>exact False.elim hq
  |brk=>exact False.elim hq
  |cont=>exact False.elim hq
end
section
variable {X:Cx}{e a b:Expr}{te ta tb:TE3}{pos:Pos}
def XB (X:Cx):R2:=fun x y H Q=>∃l b xs zs,x=.ref l/\y=.ref b/\SqL X.K H l xs/\SqL X.K H b zs/\xs.length+zs.length<=sizeLine/\∀p,H p=none->Q (.ref p) (upd H p (.lst (xs++zs)))
theorem Tg:OpR X (binaryOp .Add) (XB X):=by
 intro pins s σ H x y v u Q I rx ry h
 obtain⟨l,b,xs,zs,rfl,rfl,hH,hB,hz,q⟩:=h
 cases rx
 cases ry
 obtain⟨its,r,p1,_⟩:=I.list hH
 obtain⟨its2,r2,p2,_⟩:=I.list hB
 have e1:=r.length
 have e2:=r2.length
 obtain⟨⟨cls,dd,data,sl⟩,ho,hc,n,hd⟩:=p1.isList
 obtain⟨⟨cls2,dd2,data2,sl2⟩,ho2,hc2,n2,hd2⟩:=p2.isList
 simp only at hc hd hc2 hd2
 subst hc hd hc2 hd2
 have e:its.toArray++its2.toArray=(its++its2).toArray:=by simp
 refine concat_meets #[_,ho,rfl] #[_,ho2,rfl] noFill_list_add seq_list_add PySem.F.slot_list_add PySem.F.entry_list_add (PySem.F.args_list_add_2 _ _) (list_addW l b its.toArray its2.toArray n n2 dd dd2 sl sl2 (by simp;omega)) #[ho,ho2,?_]
 rw[e]
 exact#[.ref _,_,I.lnew (t':=s.toks) (r.append r2) (by rw[qAn];omega),rfl,q _ I.fresh]
def W3 (ta tb:TE3):TE3:=fun τ R=>ta τ fun x=>tb τ fun y=>match XG x,XG y with
 |some xs,some ys=>xs.length+ys.length<=100000/\R (.l (xs++ys))
 |_,_=>False
theorem Vk (ha:PE3 X a ta)(hb:PE3 X b tb):PE3 X (.BinOp a .Add b pos) (W3 ta tb) :=
 #[BO (XO (Uy Tg ha.out hb.out)) fun σ H Q hh=>by
  obtain⟨B,z,τ,R,r,ht,q⟩:=hh
  refine#[B,_,τ,_,r,ht,fun x v H1 e1 i1 f1 h1=>?_]
  refine#[B,_,τ,_,r.mono e1,h1,fun y u H2 e2 i2 f2 h2=>?_]
  have sz:(100000:Nat)<sizeLine:=∅
  split at h2
  .rename_i xs ys hx hy
   obtain⟨a,vs,rfl,g1,g2⟩:=R7 (IsS.mono e2 i1) e2.sub hx
   obtain⟨b,ws,rfl,g1',g2'⟩:=R7 i2 e2.sub hy
   refine#[a,b,vs,ws,rfl,rfl,g2,g2',by rw[g1.1,g1'.1];omega,fun p hp hk=>?_]
   exact q (.l (xs++ys)) _ #[_,H2.z] ((e1.trans e2).trans (Ext.own e2.sub hp _)) #[p,vs++ws,rfl,Au,g1.append g1'] (fun zs c _ h3=>by
    cases h3
    exact#[(e1.trans e2).hh.free hp,hk p _ Au,e2.sub.free hp]) h2.2
  .exact h2.elim]
end
end L3
namespace CH
abbrev Ln2:=Rat×Rat
def ev (l:Ln2)(t:Rat):Rat:=l.1*t+l.2
abbrev Ps:=List (Rat×Ln2)
def bg (P:Ps)(i:Nat):Rat:=(P.getD i (0,(0,0))).1
def ln (P:Ps)(i:Nat):Ln2:=(P.getD i (0,(0,0))).2
def LeO (t:Rat):Option Rat->Prop
 |none=>True
 |some u=>t<=u
def LtO (t:Rat):Option Rat->Prop
 |none=>True
 |some u=>t<u
theorem LtO.le {t:Rat}{T:Option Rat}(h:LtO t T):LeO t T:=by
 cases T with
 |none=>trivial
 |some u=>exact qAp h
structure PU (P:Ps)(h:Rat->Rat)(T:Option Rat):Prop where
 up:∀i,i+1<P.length->bg P i<bg P (i+1)
 lt:∀i,i<P.length->LtO (bg P i) T
 v:∀i,i<P.length->∀t,bg P i<=t->(i+1<P.length->t<=bg P (i+1))->LeO t T->h t=ev (ln P i) t
theorem Lg {P:Ps}{c:Rat×Ln2}{i:Nat}(h:i<P.length):bg (P++[c]) i=bg P i/\ln (P++[c]) i=ln P i:=by
 have e:(P++[c]).getD i (0,(0,0))=P.getD i (0,(0,0)):=by
  rw[qAd,qAd,qAv h]
 unfold bg ln
 rw[e]
 exact#[rfl,rfl]
theorem WC {P:Ps}{c:Rat×Ln2}:bg (P++[c]) P.length=c.1/\ln (P++[c]) P.length=c.2:=by
 have e:(P++[c]).getD P.length (0,(0,0))=c:=by
  rw[qAd,qAz (qAc _),qBX]
  rfl
 unfold bg ln
 rw[e]
 exact#[rfl,rfl]
theorem PU.push {P:Ps}{h:Rat->Rat}{T:Option Rat}{b:Rat}{l:Ln2}(p:PU P h (some b)) (hb:LtO b T) (hv:∀t,b<=t->LeO t T->h t=ev l t):PU (P++[(b,l)]) h T:=by
 have hl:(P++[(b,l)]).length=P.length+1:=by simp
 have r:=WC (P:=P) (c:=(b,l))
 refine#[fun i hi=>?_,fun i hi=>?_,fun i hi t h1 h2 h3=>?_]
 .rw[hl] at hi
  have hi':i<P.length:=()
  rw[(Lg hi').1]
  by_cases c:i+1<P.length
  .rw[(Lg c).1];exact p.up i c
  .rw[show i+1=P.length from (),r.1];exact p.lt i hi'
 .rw[hl] at hi
  by_cases c:i<P.length
  .rw[(Lg c).1]
   have:=p.lt i c
   cases T with
   |none=>trivial
   |some u =>
    have h1:bg P i<b:=this
    have h2:b<u:=hb
    show bg P i<u
    grind
  .rw[show i=P.length from (),r.1];exact hb
 .rw[hl] at hi h2
  by_cases c:i<P.length
  .rw[(Lg c).2]
   rw[(Lg c).1] at h1
   have h2':=h2 ()
   by_cases c2:i+1<P.length
   .rw[(Lg c2).1] at h2'
    exact p.v i c t h1 (fun _=>h2') (by
     have:=p.lt _ c2
     have h1:bg P (i+1)<b:=this
     show t<=b
     grind)
   .rw[show i+1=P.length from (),r.1] at h2'
    exact p.v i c t h1 (fun z=>absurd z c2) h2'
  .have e:i=P.length:=()
   subst e
   rw[r.1] at h1
   rw[r.2]
   exact hv t h1 h3
theorem PU.skip {P:Ps}{h:Rat->Rat}{T:Option Rat}{b:Rat}{l:Ln2}(p:PU P h (some b)) (hb:LtO b T) (ne:0<P.length) (e:ln P (P.length-1)=l) (hv:∀t,b<=t->LeO t T->h t=ev l t):PU P h T:=by
 refine#[p.up,fun i hi=>?_,fun i hi t h1 h2 h3=>?_]
 .have:=p.lt i hi
  cases T with
  |none=>trivial
  |some u =>
   have h1:bg P i<b:=this
   have h2:b<u:=hb
   show bg P i<u
   grind
 .by_cases c:t<=b
  .exact p.v i hi t h1 h2 c
  .have hn:¬i+1<P.length:=fun z=>by
    have h4:=h2 z
    have h5:bg P (i+1)<b:=p.lt _ z
    grind
   rw[show i=P.length-1 from (),e]
   exact hv t ⋯ h3
def mp (a b:Rat):Rat:=if a<b then a else b
theorem W0 {a b:Rat}(h:a<=b):mp a b=a:=by unfold mp;split<;>grind
theorem Yc {a b:Rat}(h:b<=a):mp a b=b:=by unfold mp;split<;>grind
def XX (l1 l2:Ln2)(a:Rat):Option Rat->Prop
 |some u=>a<u/\ev l1 u<=ev l2 u
 |none=>l1.1<=l2.1
def WO (l1 l2:Ln2)(a:Rat):Option Rat->Prop
 |some u=>a<u/\ev l2 u<ev l1 u
 |none=>l2.1<l1.1
theorem Lz {l1 l2:Ln2}{a t:Rat}{T:Option Rat}(ha:a<=t) (ht:LeO t T) (n:ev l1 a<=ev l2 a) (th:XX l1 l2 a T):ev l1 t<=ev l2 t:=by
 cases T with
 |none =>
  unfold ev at *
  have h1:l1.1<=l2.1:=th
  have h2:0<=(l2.1-l1.1)*(t-a):=qAj ⋯ ⋯
  grind
 |some u =>
  obtain⟨h0,h1⟩:=th
  unfold ev at *
  have h2:t<=u:=ht
  have h3:0<u-a:=⋯
  have k1:0<=(l2.1*a+l2.2-(l1.1*a+l1.2))*(u-t):=qAj ⋯ ⋯
  have k2:0<=(l2.1*u+l2.2-(l1.1*u+l1.2))*(t-a):=qAj ⋯ ⋯
  have k3:(l2.1*t+l2.2-(l1.1*t+l1.2))*(u-a)=(l2.1*a+l2.2-(l1.1*a+l1.2))*(u-t)+(l2.1*u+l2.2-(l1.1*u+l1.2))*(t-a):=⋯
  refine qAM.mp fun z=>?_
  have k4:(l2.1*t+l2.2-(l1.1*t+l1.2))*(u-a)<0:=by
   have:=qBx (a:=l1.1*t+l1.2-(l2.1*t+l2.2)) (b:=u-a) ⋯ h3
   grind
  grind
def xg (l1 l2:Ln2):Rat:=(l2.2-l1.2)/(l1.1-l2.1)
theorem Of {l1 l2:Ln2}(h:l1.1≠l2.1):ev l1 (xg l1 l2)=ev l2 (xg l1 l2):=by
 unfold ev xg
 have:l1.1-l2.1≠0:=⋯
 have k:(l2.2-l1.2)/(l1.1-l2.1)*(l1.1-l2.1)=l2.2-l1.2:=qBk this
 grind
theorem Ta {l1 l2:Ln2}:xg l1 l2=xg l2 l1:=by
 unfold xg
 by_cases h:l1.1=l2.1
 .rw[h,show l2.1-l2.1=0 from ⋯];rw[qCL,qCL];simp
 .have x1:=Of h
  have x2:=Of (l1:=l2) (l2:=l1) (Ne.symm h)
  unfold xg at x1 x2
  unfold ev at x1 x2
  have k:(l1.1-l2.1)*((l2.2-l1.2)/(l1.1-l2.1)-(l1.2-l2.2)/(l2.1-l1.1))=0:=⋯
  rcases qBf.mp k with z|z
  .grind
  .grind
theorem Ij {l1 l2:Ln2}{a:Rat}{T:Option Rat}(n:ev l1 a<ev l2 a) (th:WO l1 l2 a T):l1.1≠l2.1/\a<xg l1 l2/\LtO (xg l1 l2) T:=by
 have s:l2.1<l1.1:=by
  cases T with
  |none=>exact th
  |some u =>
   obtain⟨h0,h1⟩:=th
   unfold ev at n h1
   refine qA8.mp fun z=>?_
   have k:0<=(l2.1-l1.1)*(u-a):=qAj ⋯ ⋯
   grind
 have ne:l1.1≠l2.1:=⋯
 have x:=Of ne
 have key:∀t,(l1.1-l2.1)*(xg l1 l2-t)=ev l2 t-ev l1 t:=fun t=>by
  unfold ev at x ⊢
  grind
 have pos:∀t,ev l1 t<ev l2 t->t<xg l1 l2:=fun t h=>by
  refine qA8.mp fun z=>?_
  have k1:=key t
  have k2:0<=(l1.1-l2.1)*(t-xg l1 l2):=qAj ⋯ ⋯
  grind
 have neg:∀t,ev l2 t<ev l1 t->xg l1 l2<t:=fun t h=>by
  refine qA8.mp fun z=>?_
  have k1:=key t
  have k2:0<=(l1.1-l2.1)*(xg l1 l2-t):=qAj ⋯ ⋯
  grind
 refine#[ne,pos a n,?_]
 cases T with
 |none=>trivial
 |some u=>exact neg u th.2
def sg (x:Rat):Int:=if x<0 then -1 else if 0<x then 1 else 0
theorem Qf {x:Rat}:sg x<0 ↔ x<0:=by unfold sg;split<;>(try split)<;>constructor<;>intro h<;>first|grind|omega
theorem O7 {x:Rat}:0<sg x ↔ 0<x:=by unfold sg;split<;>(try split)<;>constructor<;>intro h<;>first|grind|omega
theorem TQ {x:Rat}:sg x=0 ↔ x=0:=by unfold sg;split<;>(try split)<;>constructor<;>intro h<;>first|grind|omega
def Et (l1 l2:Ln2):Option Rat->Rat
 |some u=>ev l1 u-ev l2 u
 |none=>l1.1-l2.1
theorem SV {l1 l2:Ln2}{a:Rat}{T:Option Rat}(ha:LtO a T) (h:Et l1 l2 T<=0):XX l1 l2 a T:=by
 cases T with
 |none=>exact(by have h':l1.1-l2.1<=0:=h;show l1.1<=l2.1;grind)
 |some u=>exact#[ha,by have h':ev l1 u-ev l2 u<=0:=h;grind]
theorem Od {l1 l2:Ln2}{a:Rat}{T:Option Rat}(ha:LtO a T) (h:0<Et l1 l2 T):WO l1 l2 a T:=by
 cases T with
 |none=>exact(by have h':0<l1.1-l2.1:=h;show l2.1<l1.1;grind)
 |some u=>exact#[ha,by have h':0<ev l1 u-ev l2 u:=h;grind]
theorem Hi {l1 l2:Ln2}{T:Option Rat}:Et l2 l1 T=- Et l1 l2 T:=by
 cases T with
 |none=>show l2.1-l1.1=-(l1.1-l2.1);grind
 |some u=>show ev l2 u-ev l1 u=-(ev l1 u-ev l2 u);grind
theorem LP {l1 l2:Ln2}{a:Rat}{T:Option Rat}(n:ev l1 a<ev l2 a) (th:WO l1 l2 a T) :
 a<xg l1 l2/\LtO (xg l1 l2) T/\(∀t,a<=t->t<=xg l1 l2->ev l1 t<=ev l2 t)/\∀t,xg l1 l2<=t->LeO t T->ev l2 t<=ev l1 t:=by
 obtain⟨ne,x1,x2⟩:=Ij n th
 have x:=Of ne
 refine#[x1,x2,fun t h1 h2=>?_,fun t h1 h2=>?_]
 .exact Lz (T:=some (xg l1 l2)) h1 h2 (qAp n) #[x1,by rw[x];exact qAi]
 .refine Lz (T:=T) h1 h2 (by rw[x];exact qAi) ?_
  cases T with
  |none=>exact qAp th
  |some u=>exact#[x2,qAp th.2]
open PySem L2 L3
abbrev RL:=Int×Int×Int
abbrev RP:=(Int×Int)×RL
def lnD (l:RL):D:=.tup [.int l.1,.int l.2.1,.int l.2.2]
def rpD (p:RP):D:=.tup [.tup [.int p.1.1,.int p.1.2],lnD p.2]
structure LW (k:Nat)(l:RL)(q:Ln2):Prop where
 s:Wq k l.1 l.2.2 q.1
 c:Wq k l.2.1 l.2.2 q.2
structure PW1 (k m:Nat)(p:RP)(q:Rat×Ln2):Prop where
 t:Wq m p.1.1 p.1.2 q.1
 l:LW k p.2 q.2
structure PL (k m:Nat)(ps:List RP)(P:Ps):Prop where
 len:ps.length=P.length
 at_:∀(i:Nat)(p:RP)(q:Rat×Ln2),ps[i]? = some p->(P:List (Rat×Ln2))[i]? = some q->PW1 k m p q
theorem PL.snoc {k m:Nat}{ps:List RP}{P:Ps}{p:RP}{q:Rat×Ln2}(h:PL k m ps P) (w:PW1 k m p q):PL k m (ps++[p]) (P++[q]):=by
 refine#[by simp[h.len],fun i p' q' h1 h2=>?_]
 by_cases c:i<ps.length
 .rw[qAv c] at h1
  rw[qAv (by rw[<-h.len];exact c)] at h2
  exact h.at_ i p' q' h1 h2
 .rw[qAz ()] at h1
  rw[qAz (by rw[<-h.len];omega),<-h.len] at h2
  cases e:i-ps.length with
  |zero=>rw[e] at h1 h2;cases h1;cases h2;exact w
  |succ n=>rw[e] at h1;cases h1
theorem LW.at_ {k m:Nat}{l:RL}{q:Ln2}{tn td:Int}{t:Rat}(h:LW k l q) (w:Wq m tn td t):Wq (k+m+1) (l.1*tn+l.2.1*td) (l.2.2*td) (ev q t):=by
 have w1:=h.s.mul w
 refine#[qAU h.s.pos w.pos,?_,?_,Ar w1.lb ()]
 .have e1:=h.s.eq
  have e2:=h.c.eq
  have e3:=w.eq
  unfold ev
  rw[qBD,qAk,qAk,qAk,e1,e2,e3]
  grind
 .have b1:=Aj h.s.la w.la
  have b2:=Aj h.c.la w.lb
  exact GS b1 b2
theorem LW.uniq {k k':Nat}{l:RL}{q q':Ln2}(h:LW k l q) (h':LW k' l q'):q=q':=by
 have hb:(l.2.2:Rat)≠0:=by
  have:=h.s.pos
  intro z
  have:l.2.2=0:=qCj.mp z
  omega
 have cn:∀a b:Rat,a*(l.2.2:Rat)=b*(l.2.2:Rat)->a=b:=fun a b e=>by
  have:(a-b)*(l.2.2:Rat)=0:=⋯
  rcases qBf.mp this with z|z
  .grind
  .exact absurd z hb
 have e1:=cn _ _ (h.s.eq.symm.trans h'.s.eq)
 have e2:=cn _ _ (h.c.eq.symm.trans h'.c.eq)
 exact Prod.ext e1 e2
theorem VO {a b:Int}{q:Rat}(hb:0<b) (e:(a:Rat)=q*(b:Rat)):sg q=a.sign:=by
 have hb:(0:Rat)<(b:Rat):=qAY.mpr hb
 unfold sg
 by_cases c1:q<0
 .rw[if_pos c1]
  have:(a:Rat)<0:=by
   have:=qBx (a:=-q) (b:=(b:Rat)) ⋯ hb
   rw[e];grind
  have:a<0:=Rat.intCast_neg_iff.mp this
  rw[qBN this]
 .rw[if_neg c1]
  by_cases c2:0<q
  .rw[if_pos c2]
   have:(0:Rat)<(a:Rat):=by rw[e];exact qBx c2 hb
   have:0<a:=qAY.mp this
   rw[qB5 this]
  .rw[if_neg c2]
   have z:q=0:=⋯
   rw[z] at e
   have:(a:Rat)=0:=by rw[e];grind
   have:a=0:=qCj.mp this
   rw[this];rfl
theorem Uz {k m:Nat}{l1 l2:RL}{q1 q2:Ln2}{tn td:Int}{t:Rat}(h1:LW k l1 q1) (h2:LW k l2 q2) (w:Wq m tn td t) :
 ((l1.1*tn+l1.2.1*td)*l2.2.2-(l2.1*tn+l2.2.1*td)*l1.2.2).sign=sg (ev q1 t-ev q2 t):=by
 refine(VO (b:=l1.2.2*l2.2.2*td) (qAU (qAU h1.s.pos h2.s.pos) w.pos) ?_).symm
 have e1:=h1.s.eq
 have e2:=h1.c.eq
 have e3:=h2.s.eq
 have e4:=h2.c.eq
 have e5:=w.eq
 unfold ev
 simp only[qAR,qBD,qAk]
 rw[e1,e2,e3,e4,e5]
 grind
theorem SU {k:Nat}{l1 l2:RL}{q1 q2:Ln2}(h1:LW k l1 q1) (h2:LW k l2 q2):(l1.1*l2.2.2-l2.1*l1.2.2).sign=sg (q1.1-q2.1):=by
 refine(VO (b:=l1.2.2*l2.2.2) (qAU h1.s.pos h2.s.pos) ?_).symm
 have e1:=h1.s.eq
 have e3:=h2.s.eq
 simp only[qAR,qAk]
 rw[e1,e3]
 grind
theorem Na {k:Nat}{l1 l2:RL}{q1 q2:Ln2}(h1:LW k l1 q1) (h2:LW k l2 q2) (ne:q1.1≠q2.1) :
 l1.1*l2.2.2-l2.1*l1.2.2≠0/\Rat.divInt (l2.2.1*l1.2.2-l1.2.1*l2.2.2) (l1.1*l2.2.2-l2.1*l1.2.2)=xg q1 q2:=by
 have e1:=h1.s.eq
 have e2:=h1.c.eq
 have e3:=h2.s.eq
 have e4:=h2.c.eq
 have p1:(l1.2.2:Rat)≠0:=by have:=qAY.mpr h1.s.pos;grind
 have p2:(l2.2.2:Rat)≠0:=by have:=qAY.mpr h2.s.pos;grind
 have eb:((l1.1*l2.2.2-l2.1*l1.2.2:Int):Rat)=(q1.1-q2.1)*((l1.2.2:Rat)*(l2.2.2:Rat)):=by
  simp only[qAR,qAk];rw[e1,e3];grind
 have ea:((l2.2.1*l1.2.2-l1.2.1*l2.2.2:Int):Rat)=(q2.2-q1.2)*((l1.2.2:Rat)*(l2.2.2:Rat)):=by
  simp only[qAR,qAk];rw[e2,e4];grind
 have np:(l1.2.2:Rat)*(l2.2.2:Rat)≠0:=fun z=>by
  rcases qBf.mp z with z|z
  .exact p1 z
  .exact p2 z
 have nb:((l1.1*l2.2.2-l2.1*l1.2.2:Int):Rat)≠0:=fun z=>by
  rw[eb] at z
  rcases qBf.mp z with z|z
  .grind
  .exact np z
 refine#[fun z=>nb (by rw[z];rfl),?_]
 rw[qAx,ea,eb]
 unfold xg
 have n1:q1.1-q2.1≠0:=⋯
 generalize (l1.2.2:Rat)*(l2.2.2:Rat)=B at *
 have k1:(q2.2-q1.2)/(q1.1-q2.1)*(q1.1-q2.1)=q2.2-q1.2:=qBk n1
 have n2:(q1.1-q2.1)*B≠0:=fun z=>by
  rcases qBf.mp z with z|z
  .exact n1 z
  .exact np z
 have k2:(q2.2-q1.2)*B/((q1.1-q2.1)*B)*((q1.1-q2.1)*B)=(q2.2-q1.2)*B:=qBk n2
 have k3:((q2.2-q1.2)*B/((q1.1-q2.1)*B)-(q2.2-q1.2)/(q1.1-q2.1))*((q1.1-q2.1)*B)=0:=⋯
 rcases qBf.mp k3 with z|z
 .grind
 .exact absurd z n2
theorem WN {k:Nat}{l1 l2:RL}{q1 q2:Ln2}(h1:LW k l1 q1) (h2:LW k l2 q2) (ne:q1.1≠q2.1):Sz (k+k+1) (xg q1 q2):=by
 obtain⟨n,e⟩:=Na h1 h2 ne
 rw[<-e]
 exact Es n (DL (Aj h2.c.la h1.s.lb) (Aj h1.c.la h2.s.lb)) (DL (Aj h1.s.la h2.s.lb) (Aj h2.s.la h1.s.lb))
theorem Vf (a b:RL):eqN 1 (lnD a) (lnD b)=decide (a=b):=by
 have e:eqN 1 (lnD a) (lnD b)=((a.1==b.1&&(a.2.1==b.2.1&&(a.2.2==b.2.2&&true)))&&true):=rfl
 rw[e]
 by_cases h:a=b
 .subst h;simp
 .rw[decide_eq_false h]
  cases c:((a.1==b.1&&(a.2.1==b.2.1&&(a.2.2==b.2.2&&true)))&&true) with
  |false=>rfl
  |true =>
   exfalso
   apply h
   simp only[qCA,qAV,beq_iff_eq] at c
   exact Prod.ext c.1 (Prod.ext c.2.1 c.2.2)
theorem H0 {α:Type}{f:α->D}{xs:List α}{a:α}(h:xs[xs.length-1]? = some a):atI (xs.map f) (-1)=some (f a):=by
 have hl:0<xs.length:=by
  cases xs with
  |nil=>cases h
  |cons _ _=>simp
 unfold atI ixN
 rw[qAa,if_neg (),if_pos ()]
 have e:((-1:Int)+(xs.length:Int)).toNat=xs.length-1:=()
 show(xs.map f)[((-1:Int)+(xs.length:Int)).toNat]? = _
 rw[e,qAe,h]
 rfl
theorem YH {a b:RL}{A B:Prop}(h1:¬a=b->A) (h2:a=b->B):if (!eqN 1 (lnD a) (lnD b))=true then A else B:=by
 rw[Vf]
 exact Nt h1 h2
theorem LW.moved {k m:Nat}{l:RL}{q:Ln2}{wn wd vn vd:Int}{w v:Rat}(h:LW k l q) (hw:Wq m wn wd w) (hv:Wq m vn vd v) :
 LW (k+m+m+2) (l.1*(wd*vd),l.2.1*(wd*vd)-l.1*wn*vd+l.2.2*vn*wd,l.2.2*(wd*vd)) (q.1,q.2-q.1*w+v):=by
 have e1:=h.s.eq
 have e2:=h.c.eq
 have e3:=hw.eq
 have e4:=hv.eq
 have pb:0<l.2.2*(wd*vd):=qAU h.s.pos (qAU hw.pos hv.pos)
 have sb:=Aj h.s.lb (Aj hw.lb hv.lb)
 refine#[#[pb,?_,Ar (Aj h.s.la (Aj hw.lb hv.lb)) (),Ar sb ()],#[pb,?_,?_,Ar sb ()]]
 .show((l.1*(wd*vd):Int):Rat)=_
  simp only[qAk]
  rw[e1]
  grind
 .show((l.2.1*(wd*vd)-l.1*wn*vd+l.2.2*vn*wd:Int):Rat)=_
  simp only[qAk,qBD,qAR]
  rw[e1,e2,e3,e4]
  grind
 .have b1:=Ar (Aj h.c.la (Aj hw.lb hv.lb)) (show k+(m+m)<=k+m+m from ())
  have b2:=Aj (Aj h.s.la hw.la) hv.lb
  have b3:=Aj (Aj h.s.lb hv.la) hw.lb
  have b4:=GS (DL b1 b2) (Ar b3 (qCv _))
  exact b4
theorem Wq.moved {m n:Nat}{a b wn wd:Int}{t w:Rat}(h:Wq m a b t) (hw:Wq n wn wd w):Wq (m+n+1) (a*wd+wn*b) (b*wd) (t+w):=by
 refine#[qAU h.pos hw.pos,?_,?_,Ar (Aj h.lb hw.lb) ()]
 .have e1:=h.eq
  have e2:=hw.eq
  simp only[qAk,qBD]
  rw[e1,e2]
  grind
 .exact GS (Aj h.la hw.lb) (Ar (Aj hw.la h.lb) ())
theorem QU {q:Ln2}{w v t:Rat}:ev (q.1,q.2-q.1*w+v) t=ev q (t-w)+v:=by
 unfold ev
 grind
def mvP (w v:Rat)(p:Rat×Ln2):Rat×Ln2:=(p.1+w,(p.2.1,p.2.2-p.2.1*w+v))
def mvR (wn wd vn vd:Int)(p:RP):RP:=((p.1.1*wd+wn*p.1.2,p.1.2*wd),(p.2.1*(wd*vd),p.2.2.1*(wd*vd)-p.2.1*wn*vd+p.2.2.2*vn*wd,p.2.2.2*(wd*vd)))
theorem PL.get {k m:Nat}{ps:List RP}{P:Ps}(h:PL k m ps P){i:Nat}{p:RP}(hp:ps[i]? = some p):∃q:Rat×Ln2,(P:List (Rat×Ln2))[i]? = some q/\PW1 k m p q:=by
 have hi:=(qAg.mp hp).1
 rw[h.len] at hi
 exact#[_,qAb hi,h.at_ i p _ hp (qAb hi)]
theorem PL.moved {k m n:Nat}{ps:List RP}{P:Ps}{wn wd vn vd:Int}{w v:Rat}(h:PL k m ps P) (hw:Wq n wn wd w) (hv:Wq n vn vd v):PL (k+n+n+2) (m+n+1) (ps.map (mvR wn wd vn vd)) (P.map (mvP w v)):=by
 refine#[by simp[h.len],fun i p q h1 h2=>?_]
 rw[qAe] at h1 h2
 cases e1:ps[i]? with
 |none=>rw[e1] at h1;cases h1
 |some p0 =>
  obtain⟨q0,e2,w0⟩:=h.get e1
  rw[e1] at h1
  rw[e2] at h2
  cases h1
  cases h2
  exact#[w0.t.moved hw,w0.l.moved hw hv]
theorem Kz {α:Type}{f:α->D}{xs:List α}:(xs.map fun x=>some (f x)).filterMap id=xs.map f:=by
 induction xs with
 |nil=>rfl
 |cons x xs ih=>simp[ih]
theorem ID {k m:Nat}{p:RP}{q:Rat×Ln2}(w:PW1 k m p q):Rat.divInt p.1.1 p.1.2=q.1/\Rat.divInt (p.2.1*p.1.1+p.2.2.1*p.1.2) (p.2.2.2*p.1.2)=ev q.2 q.1:=by
 have wa:=w.l.at_ w.t
 have key:∀{j:Nat}{a b:Int}{x:Rat},Wq j a b x->Rat.divInt a b=x:=fun {j a b x} h=>by
  have hb:(b:Rat)≠0:=by have:=qAY.mpr h.pos;grind
  rw[qAx,h.eq]
  have k2:x*(b:Rat)/(b:Rat)*(b:Rat)=x*(b:Rat):=qBk hb
  have k3:(x*(b:Rat)/(b:Rat)-x)*(b:Rat)=0:=⋯
  rcases qBf.mp k3 with z|z
  .grind
  .exact absurd z hb
 exact#[key w.t,key wa]
theorem XC {k l:Nat}{a b c d:Int}{p q:Rat}(h1:Wq k a b p) (h2:Wq l c d q):decide (a*d<c*b)=decide (p<q):=by
 have pb:(0:Rat)<(b:Rat):=qAY.mpr h1.pos
 have pd:(0:Rat)<(d:Rat):=qAY.mpr h2.pos
 have pp:(0:Rat)<(b:Rat)*(d:Rat):=qBx pb pd
 have ea:((a*d:Int):Rat)=p*((b:Rat)*(d:Rat)):=by rw[qAk,h1.eq];grind
 have eb:((c*b:Int):Rat)=q*((b:Rat)*(d:Rat)):=by rw[qAk,h2.eq];grind
 refine decide_eq_decide.mpr #[fun h=>?_,fun h=>?_]
 .have h':((a*d:Int):Rat)<((c*b:Int):Rat):=qBH.mpr h
  rw[ea,eb] at h'
  refine qA8.mp fun z=>?_
  have:0<=(p-q)*((b:Rat)*(d:Rat)):=qAj ⋯ (qAp pp)
  grind
 .have h':=qBx (a:=q-p) (b:=(b:Rat)*(d:Rat)) ⋯ pp
  refine qBH.mp ?_
  rw[ea,eb]
  grind
theorem T6 {n j:Nat}{m b:Rat}(hm:Sz n m) (hb:Sz j b):LW (n+j) (m.num*(b.den:Int),b.num*(m.den:Int),(m.den:Int)*(b.den:Int)) (m,b):=by
 have wm:=Wq.of hm
 have wb:=Wq.of hb
 refine#[#[qAU wm.pos wb.pos,?_,Aj wm.la wb.lb,Aj wm.lb wb.lb],#[qAU wm.pos wb.pos,?_,Ar (Aj wb.la wm.lb) (),Aj wm.lb wb.lb]]
 .have e:=wm.eq
  simp only[qAk]
  rw[e]
  grind
 .have e:=wb.eq
  simp only[qAk]
  rw[e]
  grind
structure Cnt (B S:List Rat)(P:Ps):Prop where
 up:∀i,i+1<P.length->bg P i<bg P (i+1)
 sl:∀i,i<P.length->(ln P i).1∈S
 st:∀i,i+1<P.length->bg P (i+1)∈B\/(ln P (i+1)).1<(ln P i).1
def bel (S:List Rat)(x:Rat):Nat:=(S.filter fun s=>decide (s<x)).length
theorem RZ {S:List Rat}{x y:Rat}(h:x∈S) (l:x<y):bel S x+1<=bel S y:=by
 unfold bel
 induction S with
 |nil=>cases h
 |cons a S ih =>
  have mono:∀T:List Rat,(T.filter fun s=>decide (s<x)).length<=(T.filter fun s=>decide (s<y)).length:=fun T=>by
   induction T with
   |nil=>exact qAc _
   |cons b T ih2 =>
    rw[qBj,qBj]
    by_cases c:b<x
    .have c2:b<y:=⋯
     rw[if_pos (by simp[c]),if_pos (by simp[c2])]
     simp;exact ih2
    .rw[if_neg (by simp[c])]
     split
     .simp;omega
     .exact ih2
  rw[qBj,qBj]
  rcases qAo.mp h with rfl|h'
  .rw[if_neg (by simp[qBq]),if_pos (by simp[l])]
   have:=mono S
   simp;omega
  .have:=ih h'
   by_cases c:a<x
   .have c2:a<y:=⋯
    rw[if_pos (by simp[c]),if_pos (by simp[c2])]
    simp;omega
   .rw[if_neg (by simp[c])]
    split
    .simp;omega
    .exact this
theorem OL {S:List Rat}{x:Rat}(h:x∈S):bel S x+1<=S.length:=by
 unfold bel
 induction S with
 |nil=>cases h
 |cons a S ih =>
  rw[qBj]
  rcases qAo.mp h with rfl|h'
  .rw[if_neg (by simp[qBq])]
   have:=qCc (fun s=>decide (s<x)) S
   simp;omega
  .have:=ih h'
   split
   .simp;omega
   .simp;omega
theorem Cnt.count {B S:List Rat}{P:Ps}(h:Cnt B S P):∀i,i<P.length->i+1+bel S (ln P i).1<=(bel B (bg P i)+(if bg P i∈B then 1 else 0)+1)*S.length:=by
 intro i
 induction i with
 |zero =>
  intro hi
  have:=OL (h.sl 0 hi)
  have k:1*S.length<=(bel B (bg P 0)+(if bg P 0∈B then 1 else 0)+1)*S.length:=qA2 _ ()
  omega
 |succ i ih =>
  intro hi
  have ih:=ih ()
  have u:=h.up i hi
  have sm:=h.sl (i+1) hi
  have le1:bel B (bg P i)+(if bg P i∈B then 1 else 0)<=bel B (bg P (i+1)):=by
   split
   .exact RZ (by assumption) u
   .unfold bel
    have:∀T:List Rat,(T.filter fun s=>decide (s<bg P i)).length<=(T.filter fun s=>decide (s<bg P (i+1))).length:=fun T=>by
     induction T with
     |nil=>exact qAc _
     |cons b T ih2 =>
      rw[qBj,qBj]
      by_cases c:b<bg P i
      .have c2:b<bg P (i+1):=⋯
       rw[if_pos (by simp[c]),if_pos (by simp[c2])]
       simp;exact ih2
      .rw[if_neg (by simp[c])]
       split
       .simp;omega
       .exact ih2
    exact this B
  by_cases c:bg P (i+1)∈B
  .rw[if_pos c]
   have b1:=OL sm
   have k:(bel B (bg P i)+(if bg P i∈B then 1 else 0)+1)*S.length<=(bel B (bg P (i+1))+1)*S.length:=qA2 _ ()
   have e:(bel B (bg P (i+1))+1+1)*S.length=(bel B (bg P (i+1))+1)*S.length+S.length:=qCV _ _
   omega
  .rw[if_neg c]
   rcases h.st i hi with z|z
   .exact absurd z c
   .have b1:=RZ sm z
    have k:(bel B (bg P i)+(if bg P i∈B then 1 else 0)+1)*S.length<=(bel B (bg P (i+1))+0+1)*S.length:=qA2 _ ()
    omega
theorem Cnt.len {B S:List Rat}{P:Ps}(h:Cnt B S P):P.length<=(B.length+1)*S.length:=by
 rcases qBG P.length with z|z
 .rw[z];exact qA3 _
 .have c:=h.count (P.length-1) ()
  have k:(bel B (bg P (P.length-1))+(if bg P (P.length-1)∈B then 1 else 0)+1)*S.length<=(B.length+1)*S.length:=by
   refine qA2 _ ?_
   split
   .have:=OL (S:=B) (by assumption)
    omega
   .have:bel B (bg P (P.length-1))<=B.length:=qCc _ _
    omega
  omega
def LZ (ps:List RP)(p:RP)(ps':List RP):Prop:=(ps'=ps++[p]/\∀q,ps[ps.length-1]? = some q->q.2≠p.2)\/(ps'=ps/\∃q,ps[ps.length-1]? = some q/\q.2=p.2)
theorem LZ.len {ps ps':List RP}{p:RP}(h:LZ ps p ps'):ps'.length<=ps.length+1:=by
 rcases h with⟨rfl,_⟩|⟨rfl,_⟩
 .simp
 .omega
structure FU (B S:List Rat)(G:Ln2->Prop)(U:Rat->Prop)(k m:Nat)(h:Rat->Rat)(T:Option Rat)(qs:List RP)(Q:Ps):Prop where
 pl:PL k m qs Q
 pu:PU Q h T
 cn:Cnt B S Q
 gd:∀i,i<Q.length->G (ln Q i)/\U (bg Q i)
theorem Cnt.snoc {B S:List Rat}{P:Ps}{b:Rat}{l:Ln2}(c:Cnt B S P) (hb:0<P.length->bg P (P.length-1)<b) (hs:l.1∈S) (st:0<P.length->b∈B\/l.1<(ln P (P.length-1)).1):Cnt B S (P++[(b,l)]):=by
 have hl:(P++[(b,l)]).length=P.length+1:=by simp
 have r:=WC (P:=P) (c:=(b,l))
 refine#[fun i hi=>?_,fun i hi=>?_,fun i hi=>?_]
 .rw[hl] at hi
  by_cases z:i+1<P.length
  .rw[(Lg (show i<P.length from ())).1,(Lg z).1];exact c.up i z
  .have:i=P.length-1:=()
   rw[(Lg (show i<P.length from ())).1,show i+1=P.length from (),r.1,this]
   exact hb ()
 .rw[hl] at hi
  by_cases z:i<P.length
  .rw[(Lg z).2];exact c.sl i z
  .rw[show i=P.length from (),r.2];exact hs
 .rw[hl] at hi
  by_cases z:i+1<P.length
  .rw[(Lg (show i<P.length from ())).2,(Lg z).1,(Lg z).2];exact c.st i z
  .have:i=P.length-1:=()
   rw[(Lg (show i<P.length from ())).2,show i+1=P.length from (),r.1,r.2,this]
   exact st ()
theorem Jx {P:Ps}{i:Nat}{q:Rat×Ln2}(h:(P:List (Rat×Ln2))[i]? = some q):bg P i=q.1/\ln P i=q.2:=by
 unfold bg ln
 rw[qAd,h]
 exact#[rfl,rfl]
theorem PL.lnw {k m:Nat}{qs:List RP}{Q:Ps}(h:PL k m qs Q){i:Nat}{q:RP}(hq:qs[i]? = some q):LW k q.2 (ln Q i)/\Wq m q.1.1 q.1.2 (bg Q i)/\i<Q.length:=by
 obtain⟨r,h1,h2⟩:=h.get hq
 rw[(Jx h1).1,(Jx h1).2]
 exact#[h2.l,h2.t,(qAg.mp h1).1]
def Few (B:List Rat)(qs:List RP)(k:Nat)(b:Rat)(p:RL)(l:Ln2):Prop:=b∈B\/qs=[]\/∃q ql,qs[qs.length-1]? = some q/\LW k q.2 ql/\(q.2=p\/l.1<ql.1)
theorem FU.add {B S:List Rat}{G:Ln2->Prop}{U:Rat->Prop}{k m:Nat}{h:Rat->Rat}{T:Option Rat}{qs qs':List RP}{Q:Ps}{b:Rat}{p:RP}{l:Ln2}(r:FU B S G U k m h (some b) qs Q) (w:PW1 k m p (b,l)) (a:LZ qs p qs') (hb:LtO b T) (hv:∀t,b<=t->LeO t T->h t=ev l t) (hs:l.1∈S) (hG:G l) (hU:U b) (few:Few B qs k b p.2 l) :
 ∃Q',FU B S G U k m h T qs' Q'/\(∃q,qs'[qs'.length-1]? = some q/\q.2=p.2)/\(qs=[]->bg Q' 0=b)/\(qs≠[]->bg Q' 0=bg Q 0)/\(∀i,i<qs.length->qs'[i]? = qs[i]?):=by
 have len:=r.pl.len
 rcases a with⟨rfl,hn⟩|⟨rfl,q,hq,e⟩
 .refine#[Q++[(b,l)],#[r.pl.snoc w,r.pu.push hb hv,r.cn.snoc (fun z=>r.pu.lt _ ()) hs fun z=>?_,fun i hi=>?_],#[p,by simp,rfl],fun z=>?_,fun z=>?_,fun i hi=>qAv hi]
  .rcases few with f|f|⟨q,ql,h1,h2,f⟩
   .exact .inl f
   .rw[f] at len;simp at len;omega
   .have u:=(r.pl.lnw h1).1
    rw[len] at u
    rcases f with f|f
    .exact absurd f (hn q h1)
    .right
     rw[u.uniq h2];exact f
  .rw[qAn] at hi
   by_cases z:i<Q.length
   .rw[(Lg z).1,(Lg z).2];exact r.gd i z
   .have hi':i<Q.length+1:=hi
    rw[show i=Q.length from (),WC.1,WC.2];exact#[hG,hU]
  .subst z
   simp at len
   have:Q=[]:=qAT len.symm
   subst this
   rfl
  .have:0<qs.length:=List.length_pos_iff.mpr z
   exact(Lg (show 0<Q.length from ())).1
 .have u:=r.pl.lnw hq
  have e2:ln Q (Q.length-1)=l:=by
   rw[<-len]
   have:=u.1
   rw[e] at this
   exact this.uniq w.l
  have q0:0<Q.length:=by have:=u.2.2;omega
  refine#[Q,#[r.pl,r.pu.skip hb q0 e2 hv,r.cn,r.gd],#[q,hq,e],fun z=>?_,fun _=>rfl,fun _ _=>rfl]
  rw[z] at hq;cases hq
def X8 (qs:List RP)(r1 r2:RL)(now thn:Rat):Prop:=∃q,qs[qs.length-1]? = some q/\((q.2=r1/\(thn<0\/(now<0/\thn=0)))\/(q.2=r2/\(0<thn\/(thn=0/\0<=now))))
def RG (ps:List RP)(tm:Int×Int)(l1 l2:RL)(now thn:Int)(x:Rat)(ps':List RP):Prop :=
 ∃ps1,(if now<0\/(now=0/\thn<0) then LZ ps (tm,l1) ps1 else LZ ps (tm,l2) ps1) /\
  (if now<0/\0<thn then LZ ps1 ((x.num,(x.den:Int)),l2) ps' else if 0<now/\thn<0 then LZ ps1 ((x.num,(x.den:Int)),l1) ps' else ps'=ps1)
theorem FU.row {B S:List Rat}{G:Ln2->Prop}{U:Rat->Prop}{k m:Nat}{h f g:Rat->Rat}{T:Option Rat}{qs qs':List RP}{Q:Ps}{a:Rat}{tm:Int×Int}{r1 r2:RL}{l1 l2:Ln2}(r:FU B S G U k m h (some a) qs Q) (ha:LtO a T) (wt:Wq m tm.1 tm.2 a) (w1:LW k r1 l1) (w2:LW k r2 l2) (hm:k+k+1<=m)
 (hf:∀t,a<=t->LeO t T->f t=ev l1 t) (hg:∀t,a<=t->LeO t T->g t=ev l2 t) (hh:∀t,a<=t->LeO t T->h t=mp (f t) (g t)) (s1:l1.1∈S) (s2:l2.1∈S) (g1:G l1) (g2:G l2) (ua:U a) (ux:∀l l',G l->G l'->l.1≠l'.1->U (xg l l'))
 (few:a∈B\/qs=[]\/∃q ql,qs[qs.length-1]? = some q/\LW k q.2 ql/\if ev l1 a-ev l2 a<0\/(ev l1 a-ev l2 a=0/\Et l1 l2 T<0) then (q.2=r1\/l1.1<ql.1) else (q.2=r2\/l2.1<ql.1))
 (ad:RG qs tm r1 r2 (sg (ev l1 a-ev l2 a)) (sg (Et l1 l2 T)) (xg l1 l2) qs') :
 ∃Q',FU B S G U k m h T qs' Q'/\X8 qs' r1 r2 (ev l1 a-ev l2 a) (Et l1 l2 T)/\(qs=[]->bg Q' 0=a)/\(qs≠[]->bg Q' 0=bg Q 0):=by
 obtain⟨ps1,a1,a2⟩:=ad
 have i1:∀x:Rat,(sg x<0)=(x<0):=fun x=>propext Qf
 have i2:∀x:Rat,(0<sg x)=(0<x):=fun x=>propext O7
 have i3:∀x:Rat,(sg x=0)=(x=0):=fun x=>propext TQ
 simp only[i1,i2,i3] at a1 a2
 have xw:l1.1≠l2.1->Wq m (xg l1 l2).num ((xg l1 l2).den:Int) (xg l1 l2):=fun ne=>(Wq.of (WN w1 w2 ne)).mono hm
 have inT:∀{x:Rat},LtO x T->∀t,LeO t (some x)->LeO t T:=fun {x} hx t ht=>by
  cases T with
  |none=>trivial
  |some u =>
   have h1:t<=x:=ht
   have h2:x<u:=hx
   show t<=u
   grind
 have id':∀t,LeO t T->LeO t T:=fun _ h=>h
 have one:∀{V:Option Rat},(∀t,LeO t V->LeO t T)->(∀t,a<=t->LeO t V->ev l1 t<=ev l2 t)->∀t,a<=t->LeO t V->h t=ev l1 t:=fun hU le t h1 h2=>by
  rw[hh t h1 (hU t h2),hf t h1 (hU t h2),hg t h1 (hU t h2)];exact W0 (le t h1 h2)
 have two:∀{V:Option Rat},(∀t,LeO t V->LeO t T)->(∀t,a<=t->LeO t V->ev l2 t<=ev l1 t)->∀t,a<=t->LeO t V->h t=ev l2 t:=fun hU le t h1 h2=>by
  rw[hh t h1 (hU t h2),hf t h1 (hU t h2),hg t h1 (hU t h2)];exact Yc (le t h1 h2)
 have fewA:∀{c:RL}{l:Ln2},(∀q ql,(if ev l1 a-ev l2 a<0\/(ev l1 a-ev l2 a=0/\Et l1 l2 T<0) then (q=r1\/l1.1<ql) else (q=r2\/l2.1<ql))->(q=c\/l.1<ql))->Few B qs k a c l:=fun {c l} F=>by
  rcases few with f|f|⟨q,ql,h1,h2,f⟩
  .exact .inl f
  .exact .inr (.inl f)
  .exact .inr (.inr #[q,ql,h1,h2,F q.2 ql.1 f])
 by_cases c1:ev l1 a-ev l2 a<0
 .rw[if_pos (.inl c1)] at a1
  have F1:Few B qs k a r1 l1:=fewA (fun q ql z=>by rw[if_pos (.inl c1)] at z;exact z)
  by_cases c2:0<Et l1 l2 T
  .rw[if_pos #[c1,c2]] at a2
   have am:=Ij (T:=T) (l1:=l1) (l2:=l2) (a:=a) ⋯ (Od ha c2)
   obtain⟨x1,x2,y1,y2⟩:=LP (T:=T) (l1:=l1) (l2:=l2) (a:=a) ⋯ (Od ha c2)
   obtain⟨Q1,R1,⟨q,hq,eq⟩,b1,b2,_⟩:=r.add (T:=some (xg l1 l2)) #[wt,w1] a1 x1 (one (inT x2) (fun t h1 h2=>y1 t h1 h2)) s1 g1 ua F1
   have ne1:ps1≠[]:=fun z=>by rw[z] at hq;cases hq
   have sl:l2.1<l1.1:=by
    have e:=Of am.1
    unfold ev at e c1
    refine qA8.mp fun z=>?_
    have:0<=(l2.1-l1.1)*(xg l1 l2-a):=qAj ⋯ ⋯
    grind
   obtain⟨Q2,R2,E2,b3,b4,_⟩:=R1.add (T:=T) (l:=l2) #[xw am.1,w2] a2 x2 (fun t h1 h2=>by
    have ht:a<=t:=⋯
    rw[hh t ht h2,hf t ht h2,hg t ht h2];exact Yc (y2 t h1 h2)) s2 g2 (ux _ _ g1 g2 am.1) (.inr (.inr #[q,l1,hq,by rw[eq];exact w1,.inr sl]))
   obtain⟨q2,hq2,eq2⟩:=E2
   exact#[Q2,R2,#[q2,hq2,.inr #[eq2,.inl c2]],fun z=>(b4 ne1).trans (b1 z),fun z=>(b4 ne1).trans (b2 z)]
  .rw[if_neg (fun z=>c2 z.2),if_neg (fun z=>⋯)] at a2
   subst a2
   obtain⟨Q1,R1,⟨q,hq,eq⟩,b1,b2,_⟩:=r.add (T:=T) #[wt,w1] a1 ha (one id' fun t h1 h2=>Lz h1 h2 ⋯ (SV ha ⋯)) s1 g1 ua F1
   exact#[Q1,R1,#[q,hq,.inl #[eq,⋯]],b1,b2]
 .by_cases c3:ev l1 a-ev l2 a=0/\Et l1 l2 T<0
  .rw[if_pos (.inr c3)] at a1
   have F1:Few B qs k a r1 l1:=fewA (fun q ql z=>by rw[if_pos (.inr c3)] at z;exact z)
   rw[if_neg (fun z=>c1 z.1),if_neg (fun z=>⋯)] at a2
   subst a2
   obtain⟨Q1,R1,⟨q,hq,eq⟩,b1,b2,_⟩:=r.add (T:=T) #[wt,w1] a1 ha (one id' fun t h1 h2=>Lz h1 h2 ⋯ (SV ha ⋯)) s1 g1 ua F1
   exact#[Q1,R1,#[q,hq,.inl #[eq,.inl c3.2]],b1,b2]
  .have nc:¬(ev l1 a-ev l2 a<0\/(ev l1 a-ev l2 a=0/\Et l1 l2 T<0)):=fun z=>z.elim c1 c3
   rw[if_neg nc] at a1
   have F2:Few B qs k a r2 l2:=fewA (fun q ql z=>by rw[if_neg nc] at z;exact z)
   rw[if_neg (fun z=>c1 z.1)] at a2
   by_cases c4:0<ev l1 a-ev l2 a/\Et l1 l2 T<0
   .rw[if_pos c4] at a2
    have c5:0<Et l2 l1 T:=by rw[Hi];grind
    have am:=Ij (T:=T) (l1:=l2) (l2:=l1) (a:=a) ⋯ (Od ha c5)
    obtain⟨x1,x2,y1,y2⟩:=LP (T:=T) (l1:=l2) (l2:=l1) (a:=a) ⋯ (Od ha c5)
    have xc:xg l2 l1=xg l1 l2:=Ta
    rw[xc] at am x1 x2 y1 y2
    obtain⟨Q1,R1,⟨q,hq,eq⟩,b1,b2,_⟩:=r.add (T:=some (xg l1 l2)) #[wt,w2] a1 x1 (two (inT x2) (fun t h1 h2=>y1 t h1 h2)) s2 g2 ua F2
    have ne1:ps1≠[]:=fun z=>by rw[z] at hq;cases hq
    have sl:l1.1<l2.1:=by
     have e:=Of (Ne.symm am.1)
     have c4':=c4.1
     unfold ev at e c4'
     refine qA8.mp fun z=>?_
     have:0<=(l1.1-l2.1)*(xg l1 l2-a):=qAj ⋯ ⋯
     grind
    obtain⟨Q2,R2,E2,b3,b4,_⟩:=R1.add (T:=T) (l:=l1) #[xw (Ne.symm am.1),w1] a2 x2 (fun t h1 h2=>by
     have ht:a<=t:=⋯
     rw[hh t ht h2,hf t ht h2,hg t ht h2];exact W0 (y2 t h1 h2)) s1 g1 (ux _ _ g1 g2 (Ne.symm am.1)) (.inr (.inr #[q,l2,hq,by rw[eq];exact w2,.inr sl]))
    obtain⟨q2,hq2,eq2⟩:=E2
    exact#[Q2,R2,#[q2,hq2,.inl #[eq2,.inl c4.2]],fun z=>(b4 ne1).trans (b1 z),fun z=>(b4 ne1).trans (b2 z)]
   .rw[if_neg c4] at a2
    subst a2
    obtain⟨Q1,R1,⟨q,hq,eq⟩,b1,b2,_⟩:=r.add (T:=T) #[wt,w2] a1 ha (two id' fun t h1 h2=>Lz h1 h2 ⋯ (SV ha (by grind [Hi]))) s2 g2 ua F2
    exact#[Q1,R1,#[q,hq,.inr #[eq,⋯]],b1,b2]
structure Sbs (P O:Ps)(N:Nat)(a:Nat->Rat)(i j:Nat->Nat):Prop where
 n0:0<N
 a0:a 0=bg O 0
 j0:j 0=0
 iP:∀n,n<N->i n<P.length
 jO:∀n,n<N->j n<O.length
 bi:∀n,n<N->bg P (i n)<=a n
 bj:∀n,n<N->bg O (j n)<=a n
 up:∀n,n+1<N->a n<a (n+1)
 ei:∀n,n<N->i n+1<P.length->n+1<N/\a (n+1)<=bg P (i n+1)
 ej:∀n,n<N->j n+1<O.length->n+1<N/\a (n+1)<=bg O (j n+1)
 si:∀n,n+1<N->i (n+1)=i n\/(i (n+1)=i n+1/\a (n+1)=bg P (i n+1))
 sj:∀n,n+1<N->j (n+1)=j n\/(j (n+1)=j n+1/\a (n+1)=bg O (j n+1))
 mv:∀n,n+1<N->i (n+1)=i n->j (n+1)≠j n
def TmN (N:Nat)(a:Nat->Rat)(n:Nat):Option Rat:=if n<N then some (a n) else none
section
variable {P O:Ps}{N:Nat}{a:Nat->Rat}{i j:Nat->Nat}{h g:Rat->Rat}
theorem Sbs.hP (s:Sbs P O N a i j)(p:PU P h none){n:Nat}(hn:n<N){t:Rat}(h1:a n<=t) (h2:LeO t (TmN N a (n+1))):h t=ev (ln P (i n)) t:=by
 refine p.v (i n) (s.iP n hn) t (qAy (s.bi n hn) h1) (fun z=>?_) trivial
 obtain⟨z1,z2⟩:=s.ei n hn z
 unfold TmN at h2
 rw[if_pos z1] at h2
 exact qAy h2 z2
theorem Sbs.hO (s:Sbs P O N a i j)(p:PU O g none){n:Nat}(hn:n<N){t:Rat}(h1:a n<=t) (h2:LeO t (TmN N a (n+1))):g t=ev (ln O (j n)) t:=by
 refine p.v (j n) (s.jO n hn) t (qAy (s.bj n hn) h1) (fun z=>?_) trivial
 obtain⟨z1,z2⟩:=s.ej n hn z
 unfold TmN at h2
 rw[if_pos z1] at h2
 exact qAy h2 z2
theorem Sbs.lt (s:Sbs P O N a i j){n:Nat}(hn:n<N):LtO (a n) (TmN N a (n+1)):=by
 unfold TmN
 split
 .exact s.up n (by assumption)
 .trivial
theorem Sbs.ge (s:Sbs P O N a i j){n:Nat}:n<N->a 0<=a n:=by
 induction n with
 |zero=>intro _;exact qAi
 |succ n ih =>
  intro hn
  have:=ih ()
  have:=s.up n hn
  grind
theorem Sbs.next (s:Sbs P O N a i j)(p:PU P h none)(q:PU O g none){n:Nat}(hn:n+1<N):ev (ln P (i n)) (a (n+1))=ev (ln P (i (n+1))) (a (n+1))/\ev (ln O (j n)) (a (n+1))=ev (ln O (j (n+1))) (a (n+1)):=by
 have e:TmN N a (n+1)=some (a (n+1)):=if_pos hn
 have l1:LeO (a (n+1)) (TmN N a (n+1)):=by rw[e];exact qAi
 have l2:=(s.lt (n:=n+1) hn).le
 have u:=qAp (s.up n hn)
 rw[<-s.hP p () u l1,<-s.hP p hn qAi l2,<-s.hO q () u l1,<-s.hO q hn qAi l2]
 exact#[rfl,rfl]
theorem Sbs.thn (s:Sbs P O N a i j)(p:PU P h none)(q:PU O g none){n:Nat}(hn:n+1<N):Et (ln P (i n)) (ln O (j n)) (TmN N a (n+1))=ev (ln P (i (n+1))) (a (n+1))-ev (ln O (j (n+1))) (a (n+1)):=by
 have e:TmN N a (n+1)=some (a (n+1)):=if_pos hn
 rw[e]
 obtain⟨e1,e2⟩:=s.next p q hn
 show ev _ _-ev _ _=_
 rw[e1,e2]
end
def NI (a0:Rat)(h g:Rat->Rat)(t:Rat):Rat:=if t<a0 then h t else mp (h t) (g t)
def ND (O:Ps):List Rat:=O.map (·.1)
theorem J1 {O:Ps}{j:Nat}(h:j<O.length):bg O j∈ND O:=by
 refine qA5.mpr #[O[j],qB9 h,?_]
 exact(Jx (qAb h)).1.symm
structure TV (B S:List Rat)(G:Ln2->Prop)(U:Rat->Prop)(k m:Nat)(ps os:List RP)(P O:Ps)(h g:Rat->Rat)(N:Nat)(a:Nat->Rat)(i j:Nat->Nat)(n:Nat)(qs:List RP)(Q:Ps):Prop where
 r:FU (B++ND O) S G U k m (NI (bg O 0) h g) (TmN N a n) qs Q
 e:∀n',n=n'+1->∀p1 p2,ps[i n']? = some p1->os[j n']? = some p2->X8 qs p1.2 p2.2 (ev (ln P (i n')) (a n')-ev (ln O (j n')) (a n')) (Et (ln P (i n')) (ln O (j n')) (TmN N a n))
 b:(n=0->qs≠[]->bg Q 0=bg P 0)/\(0<n->qs≠[]/\bg Q 0=bg P 0)
theorem RT {l1 l2:Ln2}{a u:Rat}(h:a<u) (h1:ev l1 a<ev l2 a) (h2:ev l1 u=ev l2 u):l2.1<l1.1:=by
 unfold ev at *
 refine qA8.mp fun z=>?_
 have:0<=(l2.1-l1.1)*(u-a):=qAj ⋯ ⋯
 grind
theorem SY {l1 l2:Ln2}{a:Rat}{T:Option Rat}(ha:LtO a T) (h1:ev l1 a=ev l2 a) (h2:Et l1 l2 T<0):l1.1<l2.1:=by
 cases T with
 |none=>have h:l1.1-l2.1<0:=h2;grind
 |some u =>
  have h:ev l1 u-ev l2 u<0:=h2
  have hl:a<u:=ha
  unfold ev at *
  refine qA8.mp fun z=>?_
  have:0<=(l1.1-l2.1)*(u-a):=qAj ⋯ ⋯
  grind
section
variable {B S:List Rat}{G:Ln2->Prop}{U:Rat->Prop}{k m:Nat}{ps os:List RP}{P O:Ps}{h g:Rat->Rat}{N:Nat}{a:Nat->Rat}{i j:Nat->Nat}
theorem TV.step (rP:FU B S G U k m h none ps P)(lo:PL k m os O)(pO:PU O g none)(sO:∀x,x<O.length->(ln O x).1∈S)(gO:∀x,x<O.length->G (ln O x)/\U (bg O x))(ux:∀l l',G l->G l'->l.1≠l'.1->U (xg l l'))(hm:k+k+1<=m)(s:Sbs P O N a i j)(hb:bg P 0<=bg O 0){n:Nat}{qs qs':List RP}{Q:Ps}(li:TV B S G U k m ps os P O h g N a i j n qs Q) (hn:n<N){tm:Int×Int}(wt:Wq m tm.1 tm.2 (a n)){p1 p2:RP}(h1:ps[i n]? = some p1) (h2:os[j n]? = some p2)
 (ad:RG qs tm p1.2 p2.2 (sg (ev (ln P (i n)) (a n)-ev (ln O (j n)) (a n))) (sg (Et (ln P (i n)) (ln O (j n)) (TmN N a (n+1)))) (xg (ln P (i n)) (ln O (j n))) qs') (h0:n=0->qs=[]->bg P 0=bg O 0) :
 ∃Q',TV B S G U k m ps os P O h g N a i j (n+1) qs' Q':=by
 have lp:=rP.pl
 have pP:=rP.pu
 have cP:=rP.cn
 have ua:U (a n):=by
  cases n with
  |zero=>rw[s.a0];exact(gO 0 (by have:=s.jO 0 hn;omega)).2
  |succ n =>
   rcases s.sj n hn with jj|⟨jj,ja⟩
   .rcases s.si n hn with ii|⟨ii,ia⟩
    .exact absurd jj (s.mv n hn ii)
    .rw[ia];exact(rP.gd _ (by rw[<-ii];exact s.iP _ hn)).2
   .rw[ja];exact(gO _ (by rw[<-jj];exact s.jO _ hn)).2
 have w1:=(lp.lnw h1).1
 have w2:=(lo.lnw h2).1
 have eT:TmN N a n=some (a n):=if_pos hn
 have r:=li.r
 rw[eT] at r
 have hg0:bg O 0<=a n:=by rw[<-s.a0];exact s.ge hn
 have few:a n∈B++ND O\/qs=[]\/∃q ql,qs[qs.length-1]? = some q/\LW k q.2 ql/\if ev (ln P (i n)) (a n)-ev (ln O (j n)) (a n)<0\/(ev (ln P (i n)) (a n)-ev (ln O (j n)) (a n)=0/\Et (ln P (i n)) (ln O (j n)) (TmN N a (n+1))<0) then (q.2=p1.2\/(ln P (i n)).1<ql.1) else (q.2=p2.2\/(ln O (j n)).1<ql.1):=by
  cases n with
  |zero =>
   left
   rw[s.a0]
   exact qAA.mpr (.inr (J1 (by have:=s.jO 0 hn;omega)))
  |succ n =>
   rcases s.sj n hn with jj|⟨jj,ja⟩
   .rcases s.si n hn with ii|⟨ii,ia⟩
    .exact absurd jj (s.mv n hn ii)
    .have il:=s.iP (n+1) hn
     rw[ii] at il
     rcases cP.st (i n) il with z|z
     .left
      rw[ia]
      exact qAA.mpr (.inl z)
     .right;right
      have i0:=s.iP n ()
      have hp:i n<ps.length:=by rw[lp.len];exact i0
      have h1':=qAb hp
      have h2':os[j n]? = some p2:=by rw[<-jj];exact h2
      obtain⟨q,hq,e⟩:=li.e n rfl _ _ h1' h2'
      have w1':=(lp.lnw h1').1
      have tn:=s.thn pP pO hn
      have u:=s.up n hn
      have hl:=s.lt (n:=n+1) hn
      rw[tn] at e
      have nx:=s.next pP pO hn
      rw[jj] at e ⊢
      rw[ii] at e nx ⊢
      rw[jj] at nx
      rcases e with⟨e1,e2⟩|⟨e1,e2⟩
      .refine#[q,ln P (i n),hq,by rw[e1];exact w1',?_]
       split
       .exact .inr z
       .right
        rename_i nc
        have:ev (ln P (i n)) (a n)-ev (ln O (j n)) (a n)<0/\ev (ln P (i n+1)) (a (n+1))-ev (ln O (j n)) (a (n+1))=0:=by
         rcases e2 with e2|e2
         .exact absurd (.inl e2) nc
         .exact e2
        exact RT u ⋯ ⋯
      .refine#[q,ln O (j n),hq,by rw[e1,<-jj];exact w2,?_]
       split
       .right
        rename_i c
        have:ev (ln P (i n+1)) (a (n+1))-ev (ln O (j n)) (a (n+1))=0/\Et (ln P (i n+1)) (ln O (j n)) (TmN N a (n+1+1))<0:=by
         rcases c with c|c
         .rcases e2 with e2|e2<;>grind
         .exact c
        exact SY hl ⋯ this.2
       .exact .inl e1
   .left
    rw[ja]
    exact qAA.mpr (.inr (J1 (by have:=s.jO (n+1) hn;omega)))
 obtain⟨Q',R',E',b1,b2⟩:=r.row (T:=TmN N a (n+1)) (f:=h) (g:=g) (s.lt hn) wt w1 w2 hm (fun t t1 t2=>s.hP pP hn t1 t2) (fun t t1 t2=>s.hO pO hn t1 t2) (fun t t1 _=>by
  unfold NI
  rw[if_neg ⋯]) (cP.sl _ (s.iP n hn)) (sO _ (s.jO n hn)) (rP.gd _ (s.iP n hn)).1 (gO _ (s.jO n hn)).1 ua ux few ad
 have ne':qs'≠[]:=fun z=>by obtain⟨q,hq,_⟩:=E';rw[z] at hq;cases hq
 refine#[Q',R',fun n' e p1' p2' g1 g2=>?_,fun z=>absurd z (),fun _=>#[ne',?_]]
 .have:n'=n:=()
  subst this
  rw[h1] at g1
  rw[h2] at g2
  cases g1
  cases g2
  exact E'
 .rcases qBG n with z|z
  .by_cases c:qs=[]
   .rw[b1 c,z,s.a0]
    exact(h0 z c).symm
   .rw[b2 c];exact li.b.1 z c
  .have:=li.b.2 z
   rw[b2 this.1];exact this.2
theorem Bh {P:Ps}{c x:Nat}(h:x<c):bg (P.take c) x=bg P x/\ln (P.take c) x=ln P x:=by
 unfold bg ln
 rw[qAd,qAd,qBy h]
 exact#[rfl,rfl]
theorem TV.zero (rP:FU B S G U k m h none ps P)(s:Sbs P O N a i j){c:Nat}(hc:c<=P.length) (c1:∀x,x<c->bg P x<bg O 0) (c2:c<P.length->bg O 0<=bg P c) (hj:0<c->h (bg O 0)<=g (bg O 0)):TV B S G U k m ps os P O h g N a i j 0 (ps.take c) (P.take c):=by
 have lp:=rP.pl
 have pP:=rP.pu
 have cP:=rP.cn
 have tl:(P.take c).length=c:=by rw[qAQ];omega
 have eT:TmN N a 0=some (bg O 0):=by unfold TmN;rw[if_pos s.n0,s.a0]
 refine#[#[#[by rw[qAQ,qAQ,lp.len],fun x p q h1 h2=>?_],?_,#[fun x hx=>?_,fun x hx=>?_,fun x hx=>?_],fun x hx=>by rw[tl] at hx;rw[(Bh hx).1,(Bh hx).2];exact rP.gd x ()],fun n' e=>absurd e (),fun _ z=>?_,fun z=>absurd z ()]
 .have hx:x<c:=by
   have:=(qAg.mp h2).1
   rw[tl] at this;exact this
  rw[qBy hx] at h1 h2
  exact lp.at_ x p q h1 h2
 .rw[eT]
  refine#[fun x hx=>?_,fun x hx=>?_,fun x hx t t1 t2 t3=>?_]
  .rw[tl] at hx
   rw[(Bh (show x<c from ())).1,(Bh hx).1];exact pP.up x ()
  .rw[tl] at hx
   rw[(Bh hx).1];exact c1 x hx
  .rw[tl] at hx t2
   rw[(Bh hx).1] at t1
   rw[(Bh hx).2]
   have t3:t<=bg O 0:=t3
   have ev1:h t=ev (ln P x) t:=by
    refine pP.v x () t t1 (fun z=>?_) trivial
    by_cases z2:x+1<c
    .have:=t2 z2
     rw[(Bh z2).1] at this
     exact this
    .have:x+1=c:=()
     rw[this]
     exact qAy t3 (c2 ())
   unfold NI
   split
   .exact ev1
   .have:t=bg O 0:=⋯
    rw[this] at ev1 ⊢
    rw[W0 (hj ())]
    exact ev1
 .rw[tl] at hx
  rw[(Bh (show x<c from ())).1,(Bh hx).1];exact pP.up x ()
 .rw[tl] at hx
  rw[(Bh hx).2];exact cP.sl x ()
 .rw[tl] at hx
  rw[(Bh (show x<c from ())).2,(Bh hx).1,(Bh hx).2]
  rcases cP.st x () with z|z
  .exact .inl (qAA.mpr (.inl z))
  .exact .inr z
 .have:0<c:=by
   rcases qBG c with y|y
   .subst y;exact absurd rfl z
   .exact y
  exact(Bh this).1
end
def GJ (cs:Cs)(m:Rat):Ps:=(List.range cs.length).map fun k=>(tt cs k,(slp cs m k,vv cs k-slp cs m k*tt cs k))
theorem DV {cs:Cs}{m:Rat}:(GJ cs m).length=cs.length:=by unfold GJ;simp
theorem Ci {cs:Cs}{m:Rat}{k:Nat}(h:k<cs.length):bg (GJ cs m) k=tt cs k/\ln (GJ cs m) k=(slp cs m k,vv cs k-slp cs m k*tt cs k):=by
 refine Jx (q:=(tt cs k,(slp cs m k,vv cs k-slp cs m k*tt cs k))) ?_
 unfold GJ
 rw[qAe,qAK h]
 rfl
theorem Iy {cs:Cs}{m:Rat}(o:Ord cs):PU (GJ cs m) (val cs m) none:=by
 refine#[fun i hi=>?_,fun i hi=>trivial,fun i hi t h1 h2 _=>?_]
 .rw[DV] at hi
  rw[(Ci (show i<cs.length from ())).1,(Ci hi).1];exact o.up i hi
 .rw[DV] at hi h2
  rw[(Ci hi).1] at h1
  rw[(Ci hi).2]
  have on:On cs i t:=#[hi,h1,fun z=>by have:=h2 z;rw[(Ci z).1] at this;exact this]
  rw[Ey o.up on]
  unfold ev
  grind
theorem Io {P:Ps}{F:Rat×Ln2->Rat×Ln2}{i:Nat}(h:i<P.length):bg (P.map F) i=(F (bg P i,ln P i)).1/\ln (P.map F) i=(F (bg P i,ln P i)).2:=by
 have e:P[i]? = some (bg P i,ln P i):=by
  have g:=qAb h
  rw[g]
  have:=Jx g
  rw[this.1,this.2]
 refine Jx ?_
 rw[qAe,e]
 rfl
theorem PU.move {P:Ps}{h:Rat->Rat}(w v:Rat) (p:PU P h none):PU (P.map (mvP w v)) (fun t=>h (t-w)+v) none:=by
 refine#[fun i hi=>?_,fun i hi=>trivial,fun i hi t h1 h2 _=>?_]
 .rw[qAa] at hi
  rw[(Io (show i<P.length from ())).1,(Io hi).1]
  have:=p.up i hi
  show bg P i+w<bg P (i+1)+w
  grind
 .rw[qAa] at hi h2
  rw[(Io hi).1] at h1
  rw[(Io hi).2]
  have h1:bg P i+w<=t:=h1
  show h (t-w)+v=_
  rw[p.v i hi (t-w) ⋯ (fun z=>by
   have:=h2 z
   rw[(Io z).1] at this
   have this:t<=bg P (i+1)+w:=this
   grind) trivial]
  exact QU.symm
def Jt (Q:Ps):Cs:=Q.map fun p=>(p.1,ev p.2 p.1)
theorem BJ {Q:Ps}:(Jt Q).length=Q.length:=qAa _
theorem BB {Q:Ps}{i:Nat}(h:i<Q.length):tt (Jt Q) i=bg Q i/\vv (Jt Q) i=ev (ln Q i) (bg Q i):=by
 have g:=qAb h
 have e:(Jt Q)[i]? = some (bg Q i,ev (ln Q i) (bg Q i)):=by
  unfold Jt
  rw[qAe,g,(Jx g).1,(Jx g).2]
  rfl
 unfold tt vv
 rw[qAd,e]
 exact#[rfl,rfl]
theorem NA {Q:Ps}{H:Rat->Rat}(p:PU Q H none){i:Nat}(h:i<Q.length):slp (Jt Q) (ln Q (Q.length-1)).1 i=(ln Q i).1:=by
 by_cases c:i+1<Q.length
 .rw[BX (by rw[BJ];exact c),(BB h).1,(BB h).2,(BB c).1,(BB c).2]
  have u:=p.up i c
  have e1:=p.v i h (bg Q (i+1)) (qAp u) (fun _=>qAi) trivial
  have e2:=p.v (i+1) c (bg Q (i+1)) qAi (fun z=>qAp (p.up (i+1) z)) trivial
  rw[<-e2,e1]
  unfold ev
  have ne:bg Q (i+1)-bg Q i≠0:=⋯
  generalize bg Q (i+1)=y at *
  generalize bg Q i=x at *
  have k:((ln Q i).1*y+(ln Q i).2-((ln Q i).1*x+(ln Q i).2))=(ln Q i).1*(y-x):=⋯
  rw[k]
  have k2:(ln Q i).1*(y-x)/(y-x)*(y-x)=(ln Q i).1*(y-x):=qBk ne
  have k3:((ln Q i).1*(y-x)/(y-x)-(ln Q i).1)*(y-x)=0:=⋯
  rcases qBf.mp k3 with z|z
  .grind
  .exact absurd z ne
 .rw[Bb (by rw[BJ];exact c),show i=Q.length-1 from ()]
theorem S4 {Q:Ps}{H:Rat->Rat}(p:PU Q H none) (ne:0<Q.length) (b0:bg Q 0=0) (mono:∀x y,0<=x->x<=y->H x<=H y) (h0:0<=H 0):Ord (Jt Q)/\0<=(ln Q (Q.length-1)).1/\∀t,0<=t->val (Jt Q) (ln Q (Q.length-1)).1 t=H t:=by
 have at_:∀i,i<Q.length->H (bg Q i)=ev (ln Q i) (bg Q i):=fun i hi=>p.v i hi _ qAi (fun z=>qAp (p.up i z)) trivial
 have pos:∀i,i<Q.length->0<=bg Q i:=fun i=>by
  induction i with
  |zero=>intro _;rw[b0];exact qAi
  |succ i ih=>intro hi;have:=ih ();have:=p.up i hi;grind
 have o:Ord (Jt Q):=by
  refine#[by rw[BJ];exact ne,by rw[(BB ne).1];exact b0,by rw[(BB ne).2,<-at_ 0 ne,b0];exact h0,fun i hi=>?_,fun i hi=>?_]
  .rw[BJ] at hi
   rw[(BB (show i<Q.length from ())).1,(BB hi).1];exact p.up i hi
  .rw[BJ] at hi
   rw[(BB (show i<Q.length from ())).2,(BB hi).2,<-at_ i (),<-at_ (i+1) hi]
   exact mono _ _ (pos i ()) (qAp (p.up i hi))
 refine#[o,?_,fun t t0=>?_]
 .have hl:Q.length-1<Q.length:=()
  have e1:=p.v (Q.length-1) hl (bg Q (Q.length-1)) qAi (fun z=>absurd z ()) trivial
  have e2:=p.v (Q.length-1) hl (bg Q (Q.length-1)+1) ⋯ (fun z=>absurd z ()) trivial
  have:=mono (bg Q (Q.length-1)) (bg Q (Q.length-1)+1) (pos _ hl) ⋯
  rw[e1,e2] at this
  unfold ev at this
  grind
 .have on:=Gx o t0
  rw[Ey (m:=(ln Q (Q.length-1)).1) o.up on]
  generalize plc (Jt Q) t (Jt Q).length=j at on
  have hj:j<Q.length:=by have:=on.lt;rw[BJ] at this;exact this
  rw[NA p hj,(BB hj).1,(BB hj).2]
  have lo:=on.lo
  rw[(BB hj).1] at lo
  rw[p.v j hj t lo (fun z=>by have:=on.hi (by rw[BJ];exact z);rw[(BB z).1] at this;exact this) trivial]
  unfold ev
  grind
theorem Oc {α:Type}(key:α->Rat) (p:α->Prop):∀F:List α,(∃x∈F,p x)->∃y∈F,p y/\∀x∈F,p x->key x<=key y
 |[],#[_,h,_]=>by cases h
 |a::F,h=>by
  by_cases c:∃x∈F,p x
  .obtain⟨y,hy,py,my⟩:=Oc key p F c
   by_cases d:p a/\key y<key a
   .refine#[a,qAo.mpr (.inl rfl),d.1,fun x hx px=>?_]
    rcases qAo.mp hx with rfl|hx
    .exact qAi
    .have:=my x hx px
     have:=d.2
     grind
   .refine#[y,qAo.mpr (.inr hy),py,fun x hx px=>?_]
    rcases qAo.mp hx with rfl|hx
    .exact qAM.mp fun z=>d #[px,z]
    .exact my x hx px
  .obtain⟨x,hx,px⟩:=h
   rcases qAo.mp hx with rfl|hx
   .refine#[x,qAo.mpr (.inl rfl),px,fun z hz pz=>?_]
    rcases qAo.mp hz with rfl|hz
    .exact qAi
    .exact absurd #[z,hz,pz] c
   .exact absurd #[x,hx,px] c
section
variable {cs:Cs}{m:Rat}
theorem Ez (o:Ord cs){a:Rat}(a0:0<=a):plc cs a cs.length<cs.length/\tt cs (plc cs a cs.length)<=a/\(plc cs a cs.length+1<cs.length->a<tt cs (plc cs a cs.length+1)):=by
 have s:=D0 (cs:=cs) (t:=a) (by rw[o.t0];exact a0) cs.length o.ne
 exact#[s.2.1,s.1,fun z=>s.2.2 _ (qBL _) z]
theorem PB (o:Ord cs){a b x:Rat}(a0:0<=a) (hk:∀k,k<cs.length->tt cs k<=a\/b<=tt cs k) (h1:a<=x) (h2:x<=b):val cs m x=val cs m a+sat cs m a*(x-a):=by
 obtain⟨jl,j1,j2⟩:=Ez o a0
 have ev:val cs m a=vv cs (plc cs a cs.length)+slp cs m (plc cs a cs.length)*(a-tt cs (plc cs a cs.length)):=rfl
 have es:sat cs m a=slp cs m (plc cs a cs.length):=rfl
 generalize plc cs a cs.length=j at *
 have on:On cs j x:=#[jl,qAy j1 h1,fun z=>by
  rcases hk (j+1) z with w|w
  .have:=j2 z;grind
  .exact qAy h2 w]
 rw[Ey o.up on,ev,es]
 grind
theorem Ql (o:Ord cs){a c:Rat}(a0:0<=a) (ac:a<c) (hk:∀k,k<cs.length->tt cs k<=a\/c<=tt cs k) (ne:sat cs m c≠sat cs m a):∃k,0<k/\k<cs.length/\tt cs k=c/\slp cs m k=sat cs m c/\slp cs m (k-1)=sat cs m a:=by
 obtain⟨jl,j1,j2⟩:=Ez o a0
 have es:sat cs m a=slp cs m (plc cs a cs.length):=rfl
 have ec:sat cs m c=slp cs m (plc cs c cs.length):=rfl
 generalize plc cs a cs.length=j at *
 by_cases z:j+1<cs.length/\tt cs (j+1)=c
 .obtain⟨z1,z2⟩:=z
  have e:plc cs c cs.length=j+1:=Iu o.up (by rw[z2];exact qAi) (fun w=>by rw[<-z2];exact o.up _ w) _ z1 (qAc _)
  exact#[j+1,(),z1,z2,by rw[ec,e],by rw[es];rfl]
 .have e:plc cs c cs.length=j:=Iu o.up (qAy j1 (qAp ac)) (fun w=>by
   rcases hk (j+1) w with y|y
   .have:=j2 w;grind
   .have:tt cs (j+1)≠c:=fun y=>z #[w,y]
    grind) _ jl (qAc _)
  rw[ec,es,e] at ne
  exact absurd rfl ne
end
def stI (cs:Cs)(m:Rat):List Nat:=((List.range (cs.length-1)).filter fun n=>decide (slp cs m n<slp cs m (n+1))).map (· + 1)
def flI (cs:Cs)(m:Rat):List Nat:=((List.range (cs.length-1)).filter fun n=>decide (slp cs m (n+1)<slp cs m n)).map (· + 1)
theorem Fx {cs:Cs}{m:Rat}{k:Nat}:k∈stI cs m ↔ k<cs.length/\0<k/\slp cs m (k-1)<slp cs m k:=by
 unfold stI
 rw[qA5]
 constructor
 .rintro⟨n,hn,rfl⟩
  have h:=qA7.mp hn
  have h1:=qAW.mp h.1
  exact#[(),(),of_decide_eq_true h.2]
 .rintro⟨h1,h2,h3⟩
  refine#[k-1,qA7.mpr #[qAW.mpr (),?_],()]
  rw[show k-1+1=k from ()]
  exact decide_eq_true h3
theorem TH {cs:Cs}{m:Rat}{k:Nat}:k∈flI cs m ↔ k<cs.length/\0<k/\slp cs m k<slp cs m (k-1):=by
 unfold flI
 rw[qA5]
 constructor
 .rintro⟨n,hn,rfl⟩
  have h:=qA7.mp hn
  have h1:=qAW.mp h.1
  exact#[(),(),of_decide_eq_true h.2]
 .rintro⟨h1,h2,h3⟩
  refine#[k-1,qA7.mpr #[qAW.mpr (),?_],()]
  rw[show k-1+1=k from ()]
  exact decide_eq_true h3
theorem Mq {α:Type}{p:Nat->Bool}{f:Nat->α}:∀l:List Nat,(l.map fun n=>if p n=true then some (f (n+1)) else none).filterMap id=((l.filter p).map (· + 1)).map f
 |[]=>rfl
 |a::l=>by
  have ih:=Mq (p:=p) (f:=f) l
  rw[qBp,qBj]
  by_cases c:p a=true
  .rw[if_pos c,if_pos c,qBp,qBp,<-ih]
   rfl
  .rw[if_neg c,if_neg c,<-ih]
   rfl
section
variable {fc gc:Cs}{fm gm:Rat}
theorem Dn {cs:Cs}(o:Ord cs){k:Nat}(h:k<cs.length):0<=tt cs k:=by
 have:=BI o.up (i:=0) (j:=k) () h
 rw[o.t0] at this
 exact this
end
def Xm (m b:Rat):RL:=(m.num*(b.den:Int),b.num*(m.den:Int),(m.den:Int)*(b.den:Int))
def qr (q:Rat):Int×Int:=(q.num,(q.den:Int))
def EB (cs:Cs)(m:Rat):List RP:=(List.range cs.length).map fun k=>(qr (tt cs k),Xm (slp cs m k) (vv cs k-slp cs m k*tt cs k))
theorem BY {cs:Cs}{m:Rat}:(EB cs m).length=cs.length:=by unfold EB;simp
theorem LU {cs:Cs}{m:Rat}{k:Nat}(h:k<cs.length):(EB cs m)[k]? = some (qr (tt cs k),Xm (slp cs m k) (vv cs k-slp cs m k*tt cs k)):=by
 unfold EB
 rw[qAe,qAK h]
 rfl
theorem Rt {cs:Cs}{m:Rat}{k:Nat}(h:k<cs.length):(GJ cs m)[k]? = some (tt cs k,(slp cs m k,vv cs k-slp cs m k*tt cs k)):=by
 unfold GJ
 rw[qAe,qAK h]
 rfl
theorem Fy {a b c:Nat}{cs:Cs}{m:Rat}(o:Ord cs) (z:LS a b c cs m):PL (b+c) a (EB cs m) (GJ cs m):=by
 have l:=z.ln o
 refine#[by rw[BY,DV],fun i p q h1 h2=>?_]
 have hi:i<cs.length:=by have:=(qAg.mp h1).1;rw[BY] at this;exact this
 rw[LU hi] at h1
 rw[Rt hi] at h2
 cases h1
 cases h2
 exact#[Wq.of (z.tm i hi),T6 (l i hi).1 (l i hi).2]
abbrev R4:=(Int×Int)×Nat×Nat
def tmF (rw:List R4)(n:Nat):Int×Int:=(rw.getD n ((0,1),0,0)).1
def iF' (rw:List R4)(n:Nat):Nat:=(rw.getD n ((0,1),0,0)).2.1
def jF (rw:List R4)(n:Nat):Nat:=(rw.getD n ((0,1),0,0)).2.2
def aF (rw:List R4)(n:Nat):Rat:=Rat.divInt (tmF rw n).1 (tmF rw n).2
theorem Yq {rw:List R4}{r:R4}{n:Nat}(h:n<rw.length):tmF (rw++[r]) n=tmF rw n/\iF' (rw++[r]) n=iF' rw n/\jF (rw++[r]) n=jF rw n/\aF (rw++[r]) n=aF rw n:=by
 have e:(rw++[r]).getD n ((0,1),0,0)=rw.getD n ((0,1),0,0):=by
  rw[qAd,qAd,qAv h]
 unfold aF tmF iF' jF
 rw[e]
 exact#[rfl,rfl,rfl,rfl]
theorem Ye {rw:List R4}{r:R4}:tmF (rw++[r]) rw.length=r.1/\iF' (rw++[r]) rw.length=r.2.1/\jF (rw++[r]) rw.length=r.2.2/\aF (rw++[r]) rw.length=Rat.divInt r.1.1 r.1.2:=by
 have e:(rw++[r]).getD rw.length ((0,1),0,0)=r:=by
  rw[qAd,qAz (qAc _),qBX]
  rfl
 unfold aF tmF iF' jF
 rw[e]
 exact#[rfl,rfl,rfl,rfl]
theorem SS {rw:List R4}{n:Nat}(h:n<rw.length):rw[n]? = some (tmF rw n,iF' rw n,jF rw n):=by
 unfold tmF iF' jF
 rw[qAd,qAb h]
 rfl
def dfR:RP:=((0,1),(0,0,1))
def Tt (ps os:List RP)(r:R4):D:=.tup [.tup [.int r.1.1,.int r.1.2],lnD (ps.getD r.2.1 dfR).2,lnD (os.getD r.2.2 dfR).2]
theorem Np {k:Nat}{a b:Int}{x:Rat}(h:Wq k a b x):Rat.divInt a b=x:=by
 have hb:(b:Rat)≠0:=by have:=qAY.mpr h.pos;grind
 rw[qAx,h.eq]
 have k2:x*(b:Rat)/(b:Rat)*(b:Rat)=x*(b:Rat):=qBk hb
 have k3:(x*(b:Rat)/(b:Rat)-x)*(b:Rat)=0:=⋯
 rcases qBf.mp k3 with z|z
 .grind
 .exact absurd z hb
structure Qb (P O:Ps)(m:Nat)(rw:List R4):Prop where
 n0:0<rw.length
 w:∀n,n<rw.length->Wq m (tmF rw n).1 (tmF rw n).2 (aF rw n)
 a0:aF rw 0=bg O 0
 j0:jF rw 0=0
 iP:∀n,n<rw.length->iF' rw n<P.length
 jO:∀n,n<rw.length->jF rw n<O.length
 bi:∀n,n<rw.length->bg P (iF' rw n)<=aF rw n
 bj:∀n,n<rw.length->bg O (jF rw n)<=aF rw n
 up:∀n,n+1<rw.length->aF rw n<aF rw (n+1)
 ei:∀n,n+1<rw.length->iF' rw n+1<P.length->aF rw (n+1)<=bg P (iF' rw n+1)
 ej:∀n,n+1<rw.length->jF rw n+1<O.length->aF rw (n+1)<=bg O (jF rw n+1)
 li:iF' rw (rw.length-1)+1<P.length->aF rw (rw.length-1)<bg P (iF' rw (rw.length-1)+1)
 lj:jF rw (rw.length-1)+1<O.length->aF rw (rw.length-1)<bg O (jF rw (rw.length-1)+1)
 si:∀n,n+1<rw.length->iF' rw (n+1)=iF' rw n\/(iF' rw (n+1)=iF' rw n+1/\aF rw (n+1)=bg P (iF' rw n+1))
 sj:∀n,n+1<rw.length->jF rw (n+1)=jF rw n\/(jF rw (n+1)=jF rw n+1/\aF rw (n+1)=bg O (jF rw n+1))
 mv:∀n,n+1<rw.length->iF' rw (n+1)=iF' rw n->jF rw (n+1)≠jF rw n
 cnt:rw.length+iF' rw 0<=iF' rw (rw.length-1)+jF rw (rw.length-1)+1+iF' rw 0
theorem Qb.all {P O:Ps}{m:Nat}{rw:List R4}(s:Qb P O m rw) (h1:¬iF' rw (rw.length-1)+1<P.length) (h2:¬jF rw (rw.length-1)+1<O.length):Sbs P O rw.length (aF rw) (iF' rw) (jF rw):=by
 refine#[s.n0,s.a0,s.j0,s.iP,s.jO,s.bi,s.bj,s.up,fun n hn z=>?_,fun n hn z=>?_,s.si,s.sj,s.mv]
 .by_cases c:n+1<rw.length
  .exact#[c,s.ei n c z]
  .rw[show n=rw.length-1 from ()] at z;exact absurd z h1
 .by_cases c:n+1<rw.length
  .exact#[c,s.ej n c z]
  .rw[show n=rw.length-1 from ()] at z;exact absurd z h2
theorem Qb.one {P O:Ps}{m:Nat}{tm:Int×Int}{i:Nat}(w:Wq m tm.1 tm.2 (bg O 0)) (hi:i<P.length) (ho:0<O.length) (b:bg P i<=bg O 0) (l:i+1<P.length->bg O 0<bg P (i+1)) (u:1<O.length->bg O 0<bg O 1):Qb P O m [(tm,i,0)]:=by
 have e:=Np w
 have ea:aF [(tm,i,0)] 0=bg O 0:=e
 have z:∀n,n < [(tm,i,(0:Nat))].length->n=0:=fun n hn=>by have:n<1:=hn;omega
 have nn:∀n,¬n+1 < [(tm,i,(0:Nat))].length:=fun n hn=>by have:n+1<1:=hn;omega
 refine#[by simp,fun n hn=>?_,ea,rfl,fun n hn=>?_,fun n hn=>?_,fun n hn=>?_,fun n hn=>?_,fun n hn=>absurd hn (nn n),fun n hn=>absurd hn (nn n),fun n hn=>absurd hn (nn n),fun h=>?_,fun h=>?_,fun n hn=>absurd hn (nn n),fun n hn=>absurd hn (nn n),fun n hn=>absurd hn (nn n),?_]
 .rw[z n hn,ea];exact w
 .rw[z n hn];exact hi
 .rw[z n hn];exact ho
 .rw[z n hn,ea];exact b
 .rw[z n hn,ea];exact qAi
 .show aF [(tm,i,0)] 0<_
  rw[ea];exact l h
 .show aF [(tm,i,0)] 0<_
  rw[ea];exact u h
 .show 1+i<=i+0+1+i
  omega
theorem Qb.step {P O:Ps}{m:Nat}{rw:List R4}(s:Qb P O m rw) (uP:∀i,i+1<P.length->bg P i<bg P (i+1)) (uO:∀i,i+1<O.length->bg O i<bg O (i+1)){tm:Int×Int}{x:Rat}{i' j':Nat}(w:Wq m tm.1 tm.2 x)
 (x1:iF' rw (rw.length-1)+1<P.length->x<=bg P (iF' rw (rw.length-1)+1)) (x2:jF rw (rw.length-1)+1<O.length->x<=bg O (jF rw (rw.length-1)+1))
 (x3:(iF' rw (rw.length-1)+1<P.length/\x=bg P (iF' rw (rw.length-1)+1))\/(jF rw (rw.length-1)+1<O.length/\x=bg O (jF rw (rw.length-1)+1)))
 (ei':i'=if iF' rw (rw.length-1)+1<P.length/\¬x<bg P (iF' rw (rw.length-1)+1) then iF' rw (rw.length-1)+1 else iF' rw (rw.length-1))
 (ej':j'=if jF rw (rw.length-1)+1<O.length/\¬x<bg O (jF rw (rw.length-1)+1) then jF rw (rw.length-1)+1 else jF rw (rw.length-1)):Qb P O m (rw++[(tm,i',j')]):=by
 have ln:(rw++[(tm,i',j')]).length=rw.length+1:=by simp
 have n0:=s.n0
 have ex:=Np w
 have L:=fun n (hn:n<rw.length)=>Yq (rw:=rw) (r:=(tm,i',j')) hn
 have Rr:=Ye (rw:=rw) (r:=(tm,i',j'))
 have rA:aF (rw++[(tm,i',j')]) rw.length=x:=by rw[Rr.2.2.2];exact ex
 have rI:iF' (rw++[(tm,i',j')]) rw.length=i':=Rr.2.1
 have rJ:jF (rw++[(tm,i',j')]) rw.length=j':=Rr.2.2.1
 have rT:tmF (rw++[(tm,i',j')]) rw.length=tm:=Rr.1
 have hL:rw.length-1<rw.length:=()
 have a1:=s.iP _ hL
 have a2:=s.jO _ hL
 have a3:=s.bi _ hL
 have a4:=s.bj _ hL
 have a5:=s.li
 have a6:=s.lj
 have cn:=s.cnt
 generalize eI:iF' rw (rw.length-1)=I0 at *
 generalize eJ:jF rw (rw.length-1)=J0 at *
 generalize eA:aF rw (rw.length-1)=A0 at *
 have lt:A0<x:=by
  rcases x3 with⟨h,e⟩|⟨h,e⟩
  .rw[e];exact a5 h
  .rw[e];exact a6 h
 have hi:(i'=I0/\(I0+1<P.length->x<bg P (I0+1)))\/(i'=I0+1/\I0+1<P.length/\x=bg P (I0+1)):=by
  by_cases c:I0+1<P.length/\¬x<bg P (I0+1)
  .rw[if_pos c] at ei'
   have:=x1 c.1
   exact .inr #[ei',c.1,⋯]
  .rw[if_neg c] at ei'
   exact .inl #[ei',fun h=>Decidable.byContradiction fun z=>c #[h,z]]
 have hj:(j'=J0/\(J0+1<O.length->x<bg O (J0+1)))\/(j'=J0+1/\J0+1<O.length/\x=bg O (J0+1)):=by
  by_cases c:J0+1<O.length/\¬x<bg O (J0+1)
  .rw[if_pos c] at ej'
   have:=x2 c.1
   exact .inr #[ej',c.1,⋯]
  .rw[if_neg c] at ej'
   exact .inl #[ej',fun h=>Decidable.byContradiction fun z=>c #[h,z]]
 have one:¬(i'=I0/\j'=J0):=fun z=>by
  rcases x3 with⟨h,e⟩|⟨h,e⟩
  .rcases hi with y|y
   .have:=y.2 h;grind
   .omega
  .rcases hj with y|y
   .have:=y.2 h;grind
   .omega
 have old:∀{q:Nat->Prop},(∀n,n<rw.length->q n)->q rw.length->∀n,n<(rw++[(tm,i',j')]).length->q n:=fun {q} h1 h2 n hn=>by
  rw[ln] at hn
  by_cases c:n<rw.length
  .exact h1 n c
  .rw[show n=rw.length from ()];exact h2
 have old2:∀{q:Nat->Prop},(∀n,n+1<rw.length->q n)->q (rw.length-1)->∀n,n+1<(rw++[(tm,i',j')]).length->q n:=fun {q} h1 h2 n hn=>by
  rw[ln] at hn
  by_cases c:n+1<rw.length
  .exact h1 n c
  .rw[show n=rw.length-1 from ()];exact h2
 have pre:rw.length-1+1=rw.length:=()
 have lI:iF' (rw++[(tm,i',j')]) (rw.length-1)=I0:=by rw[(L _ hL).2.1];exact eI
 have lJ:jF (rw++[(tm,i',j')]) (rw.length-1)=J0:=by rw[(L _ hL).2.2.1];exact eJ
 have lA:aF (rw++[(tm,i',j')]) (rw.length-1)=A0:=by rw[(L _ hL).2.2.2];exact eA
 have nl:(rw++[(tm,i',j')]).length-1=rw.length:=by rw[ln];omega
 refine#[(),old (fun n hn=>?_) ?_,?_,?_,old (fun n hn=>?_) ?_,old (fun n hn=>?_) ?_,old (fun n hn=>?_) ?_,old (fun n hn=>?_) ?_,old2 (fun n hn=>?_) ?_,old2 (fun n hn=>?_) ?_,old2 (fun n hn=>?_) ?_,?_,?_,old2 (fun n hn=>?_) ?_,old2 (fun n hn=>?_) ?_,old2 (fun n hn=>?_) ?_,?_]
 .rw[(L n hn).1,(L n hn).2.2.2];exact s.w n hn
 .rw[rT,rA];exact w
 .rw[(L 0 n0).2.2.2];exact s.a0
 .rw[(L 0 n0).2.2.1];exact s.j0
 .rw[(L n hn).2.1];exact s.iP n hn
 .rw[rI];rcases hi with y|y<;>omega
 .rw[(L n hn).2.2.1];exact s.jO n hn
 .rw[rJ];rcases hj with y|y<;>omega
 .rw[(L n hn).2.1,(L n hn).2.2.2];exact s.bi n hn
 .rw[rI,rA]
  rcases hi with y|y
  .rw[y.1];grind
  .rw[y.1,y.2.2];exact qAi
 .rw[(L n hn).2.2.1,(L n hn).2.2.2];exact s.bj n hn
 .rw[rJ,rA]
  rcases hj with y|y
  .rw[y.1];grind
  .rw[y.1,y.2.2];exact qAi
 .rw[(L n ()).2.2.2,(L (n+1) hn).2.2.2];exact s.up n hn
 .rw[pre,lA,rA];exact lt
 .rw[(L n ()).2.1,(L (n+1) hn).2.2.2];exact s.ei n hn
 .rw[pre,lI,rA];exact x1
 .rw[(L n ()).2.2.1,(L (n+1) hn).2.2.2];exact s.ej n hn
 .rw[pre,lJ,rA];exact x2
 .rw[nl,rI,rA]
  intro h
  rcases hi with y|y
  .rw[y.1] at h ⊢;exact y.2 h
  .rw[y.1] at h ⊢;rw[y.2.2];exact uP _ h
 .rw[nl,rJ,rA]
  intro h
  rcases hj with y|y
  .rw[y.1] at h ⊢;exact y.2 h
  .rw[y.1] at h ⊢;rw[y.2.2];exact uO _ h
 .rw[(L n ()).2.1,(L (n+1) hn).2.1,(L (n+1) hn).2.2.2];exact s.si n hn
 .rw[pre,lI,rI,rA]
  rcases hi with y|y
  .exact .inl y.1
  .exact .inr #[y.1,y.2.2]
 .rw[(L n ()).2.2.1,(L (n+1) hn).2.2.1,(L (n+1) hn).2.2.2];exact s.sj n hn
 .rw[pre,lJ,rJ,rA]
  rcases hj with y|y
  .exact .inl y.1
  .exact .inr #[y.1,y.2.2]
 .rw[(L n ()).2.1,(L (n+1) hn).2.1,(L n ()).2.2.1,(L (n+1) hn).2.2.1];exact s.mv n hn
 .rw[pre,lI,lJ,rI,rJ]
  exact fun z y=>one #[z,y]
 .rw[nl,rI,rJ,ln]
  rcases hi with y|y<;>rcases hj with z|z<;>omega
theorem Ki {α:Type}{f:α->D}{xs:List α}{j:Nat}{a b:Int}(e1:a=(j:Int)+1) (e2:b=(j:Int)+2):F0 (xs.map f) (some a) (some b)=((xs.drop (j+1)).take 1).map f:=by
 have e1:a=((j+1:Nat):Int):=()
 have e2:b=((j+2:Nat):Int):=()
 subst e1 e2
 unfold F0
 rw[HT.sIx_nat,HT.sIx_nat,qAa]
 by_cases c:j+1<xs.length
 .rw[qBF (),qBF (),<-qB8,<-qCU,show j+2-(j+1)=1 from ()]
 .rw[qCE (),qCE (),qBX,List.take_zero,qB7 (show xs.length<=j+1 from ())]
  rfl
theorem J5 {ps:List RP}{j:Nat}(h:j<ps.length):(ps.drop j).take 1=[ps.getD j dfR]:=by
 have g:ps[j]? = some (ps.getD j dfR):=by
  rw[qAd,qAb h]
  rfl
 rw[show(1:Nat)=0+1 from rfl,qBd,qBV,Nat.add_zero,g]
 rfl
theorem Nu {ps:List RP}{j:Nat}(h:¬j<ps.length):(ps.drop j).take 1=[]:=by
 rw[qB7 ()]
 rfl
theorem YW {k m:Nat}{ps os:List RP}{P O:Ps}(lp:PL k m ps P) (lo:PL k m os O){i j:Nat}(hc:i+1<P.length\/j+1<O.length) :
 ∃(p q:RP)(s t x:Rat)(tm:Int×Int),0<((ps.drop (i+1)).take 1++(os.drop (j+1)).take 1).length/\((ps.drop (i+1)).take 1++(os.drop (j+1)).take 1).getD 0 dfR=p/\((ps.drop (i+1)).take 1++(os.drop (j+1)).take 1).getD (((ps.drop (i+1)).take 1++(os.drop (j+1)).take 1).length-1) dfR=q/\Wq m p.1.1 p.1.2 s/\Wq m q.1.1 q.1.2 t/\(if t<s then tp q.1.1 q.1.2 else tp p.1.1 p.1.2)=tp tm.1 tm.2/\Wq m tm.1 tm.2 x /\
  (i+1<P.length->x<=bg P (i+1))/\(j+1<O.length->x<=bg O (j+1))/\((i+1<P.length/\x=bg P (i+1))\/(j+1<O.length/\x=bg O (j+1))):=by
 have l1:=lp.len
 have l2:=lo.len
 have g:∀{zs:List RP}{n:Nat},n<zs.length->zs[n]? = some (zs.getD n dfR):=fun {zs n} h=>by
  rw[qAd,qAb h]
  rfl
 by_cases c1:i+1<P.length
 .have w1:=(lp.lnw (g (show i+1<ps.length from ()))).2.1
  rw[J5 (show i+1<ps.length from ())]
  by_cases c2:j+1<O.length
  .have w2:=(lo.lnw (g (show j+1<os.length from ()))).2.1
   rw[J5 (show j+1<os.length from ())]
   refine#[_,_,_,_,if bg O (j+1)<bg P (i+1) then bg O (j+1) else bg P (i+1),if bg O (j+1)<bg P (i+1) then (os.getD (j+1) dfR).1 else (ps.getD (i+1) dfR).1,by simp,rfl,rfl,w1,w2,?_,?_,fun _=>?_,fun _=>?_,?_]
   .by_cases z:bg O (j+1)<bg P (i+1)
    .rw[if_pos z,if_pos z];rfl
    .rw[if_neg z,if_neg z];rfl
   .by_cases z:bg O (j+1)<bg P (i+1)
    .rw[if_pos z,if_pos z];exact w2
    .rw[if_neg z,if_neg z];exact w1
   .split<;>grind
   .split<;>grind
   .by_cases z:bg O (j+1)<bg P (i+1)
    .rw[if_pos z];exact .inr #[c2,rfl]
    .rw[if_neg z];exact .inl #[c1,rfl]
  .rw[Nu (show ¬j+1<os.length from ())]
   exact#[_,_,_,_,_,(ps.getD (i+1) dfR).1,by simp,rfl,rfl,w1,w1,by rw[if_neg qBq];rfl,w1,fun _=>qAi,fun z=>absurd z c2,.inl #[c1,rfl]]
 .have c2:j+1<O.length:=hc.resolve_left c1
  have w2:=(lo.lnw (g (show j+1<os.length from ()))).2.1
  rw[Nu (show ¬i+1<ps.length from ()),J5 (show j+1<os.length from ())]
  exact#[_,_,_,_,_,(os.getD (j+1) dfR).1,by simp,rfl,rfl,w2,w2,by rw[if_neg qBq];rfl,w2,fun z=>absurd z c1,fun _=>qAi,.inr #[c2,rfl]]
theorem Sr {P:Ps}(u:∀i,i+1<P.length->bg P i<bg P (i+1)) (x:Rat):∃c,c<=P.length/\(∀i,i<c->bg P i<x)/\∀i,c<=i->i<P.length->x<=bg P i:=by
 have key:∀n,n<=P.length->∃c,c<=n/\(∀i,i<c->bg P i<x)/\∀i,c<=i->i<n->x<=bg P i:=fun n=>by
  induction n with
  |zero=>intro _;exact#[0,qAc _,fun i hi=>absurd hi (qA9 i),fun i _ hi=>absurd hi (qA9 i)]
  |succ n ih =>
   intro hn
   obtain⟨c,c1,c2,c3⟩:=ih ()
   by_cases e:c<n
   .refine#[c,(),c2,fun i h1 h2=>?_]
    by_cases z:i<n
    .exact c3 i h1 z
    .have:=c3 (n-1) () ()
     have u':=u (n-1) ()
     rw[show n-1+1=n from ()] at u'
     rw[show i=n from ()];grind
   .have ec:c=n:=()
    subst ec
    by_cases z:bg P c<x
    .exact#[c+1,qAc _,fun i hi=>by
      by_cases y:i<c
      .exact c2 i y
      .rw[show i=c from ()];exact z,fun i h1 h2=>()]
    .exact#[c,(),c2,fun i h1 h2=>by rw[show i=c from ()];grind]
 exact key P.length (qAc _)
theorem U4 {P:Ps}(u:∀i,i+1<P.length->bg P i<bg P (i+1)) (x:Rat):∃c,c<=P.length/\(∀i,i<c->bg P i<=x)/\∀i,c<=i->i<P.length->x<bg P i:=by
 obtain⟨c,c1,c2,c3⟩:=Sr u x
 by_cases z:c<P.length/\bg P c<=x
 .refine#[c+1,z.1,fun i hi=>?_,fun i h1 h2=>?_]
  .by_cases y:i<c
   .exact qAp (c2 i y)
   .rw[show i=c from ()];exact z.2
  .have m:∀d,c+1+d<P.length->bg P c<bg P (c+1+d):=fun d=>by
    induction d with
    |zero=>intro h;exact u c h
    |succ d ih=>intro h;have:=ih ();have:=u (c+1+d) h;rw[show c+1+(d+1)=c+1+d+1 from ()];grind
   have:=m (i-(c+1)) ()
   rw[show c+1+(i-(c+1))=i from ()] at this
   have:=c3 c (qAc _) z.1
   grind
 .refine#[c,c1,fun i hi=>qAp (c2 i hi),fun i h1 h2=>?_]
  by_cases e:i=c
  .subst e
   have:=c3 i h1 h2
   have:¬bg P i<=x:=fun y=>z #[h2,y]
   grind
  .have m:∀d,c+1+d<P.length->bg P c<bg P (c+1+d):=fun d=>by
    induction d with
    |zero=>intro h;exact u c h
    |succ d ih=>intro h;have:=ih ();have:=u (c+1+d) h;rw[show c+1+(d+1)=c+1+d+1 from ()];grind
   have:=m (i-(c+1)) ()
   rw[show c+1+(i-(c+1))=i from ()] at this
   have:=c3 c (qAc _) ()
   grind
def Gz (b Z:Nat)(l:Ln2):Prop:=Sz b l.1/\Sz Z l.2
theorem Xc {b Z X:Nat}(hX:Z+Z+1+(b+b+1)<=X):∀l l',Gz b Z l->Gz b Z l'->l.1≠l'.1->Sz X (xg l l'):=fun l l' h1 h2 ne=>by
 unfold xg
 exact((h2.2.sub h1.2).div (h1.1.sub h2.1) ⋯).mono hX
theorem PL.mono {k m k' m':Nat}{ps:List RP}{P:Ps}(h:PL k m ps P) (h1:k<=k') (h2:m<=m'):PL k' m' ps P :=
 #[h.len,fun i p q a b=>#[(h.at_ i p q a b).t.mono h2,#[(h.at_ i p q a b).l.s.mono h1,(h.at_ i p q a b).l.c.mono h1]]]
section
variable {fc gc:Cs}{fm gm:Rat}{a b c:Nat}
end
theorem VP {B P:Nat}{l:List (Int×Int)}{lo hi a b:Int}(r:MX B l) (h1:0<lo) (h2:0<hi) (l1:lo.natAbs<2^4) (l2:hi.natAbs<2^4) (hb:0<b) (a1:a.natAbs<2^P) (b1:b.natAbs<2^4){n:Nat}(hn:B+B+2<=n) (hP:4<=P) (hn2:B+P+5<=n) (hB:9<=B){k:Nat}(hk:k<l.length):Sz n (vv (rcs l lo hi) k-slp (rcs l lo hi) (Rat.divInt a b) k*tt (rcs l lo hi) k):=by
 have z1:=r.sz k hk
 have n1:(lo:Rat)≠0:=fun z=>absurd (qAN.mp z) (qBn h1)
 have n2:(hi:Rat)≠0:=fun z=>absurd (qAN.mp z) (qBn h2)
 have n4:(b:Rat)≠0:=fun z=>absurd (qAN.mp z) (qBn hb)
 by_cases c:k+1<l.length
 .have u:=r.up k c
  have z2:=r.sz (k+1) c
  rw[BX (by rw[Dd];exact c),(CF hk).1,(CF hk).2,(CF c).1,(CF c).2]
  have e:Rat.divInt (iv l k) hi-(Rat.divInt (iv l (k+1)) hi-Rat.divInt (iv l k) hi)/(Rat.divInt (ia l (k+1)) lo-Rat.divInt (ia l k) lo)*Rat.divInt (ia l k) lo=Rat.divInt (iv l k*(ia l (k+1)-ia l k)-(iv l (k+1)-iv l k)*ia l k) (hi*(ia l (k+1)-ia l k)):=by
   rw[qAx,qAx,qAx,qAx,qAx,qAR,qAk,qAk,qAk,qAR,qAR]
   have n3:((ia l (k+1):Rat)-(ia l k:Rat))≠0:=fun z=>by
    rw[<-qAR] at z
    have:=qAN.mp z
    omega
   generalize (ia l (k+1):Rat)=x1 at *
   generalize (ia l k:Rat)=x0 at *
   generalize (iv l (k+1):Rat)=y1 at *
   generalize (iv l k:Rat)=y0 at *
   generalize (lo:Rat)=pp at *
   generalize (hi:Rat)=q at *
   clear z1 z2 u a1 b1 l1 l2 h1 h2 hb
   have e:x1/pp-x0/pp=(x1-x0)/pp:=⋯
   have e2:y1/q-y0/q=(y1-y0)/q:=⋯
   rw[e,e2]
   generalize x1-x0=x at *
   generalize y1-y0=y at *
   grind
  rw[e]
  have dt:=DL z2.1 z1.1
  have dv:=DL z2.2 z1.2
  have m1:=Aj z1.2 dt
  have m2:=Aj dv z1.1
  refine Jd (qAU h2 ()) (Ar (DL m1 (Ar m2 (show B+1+B<=B+(B+1) from ()))) ()) (Ar (Aj l2 dt) ())
 .rw[Bb (by rw[Dd];exact c),(CF hk).1,(CF hk).2]
  have e:Rat.divInt (iv l k) hi-Rat.divInt a b*Rat.divInt (ia l k) lo=Rat.divInt (iv l k*(b*lo)-a*ia l k*hi) (hi*(b*lo)):=by
   rw[qAx,qAx,qAx,qAx]
   simp only[qAR,qAk]
   generalize (ia l k:Rat)=x0 at *
   generalize (iv l k:Rat)=y0 at *
   generalize (lo:Rat)=pp at *
   generalize (hi:Rat)=q at *
   generalize (a:Rat)=aa at *
   generalize (b:Rat)=bb at *
   clear z1 a1 b1 l1 l2 h1 h2 hb
   grind
  rw[e]
  have m0:=Aj b1 l1
  have m1:=Aj z1.2 m0
  have m2:=Aj (Aj a1 z1.1) l2
  refine Jd (qAU h2 (qAU hb h1)) (Ar (DL (Ar m1 (show B+(4+4)<=B+P+4 from ())) (Ar m2 (show P+B+4<=B+P+4 from ()))) ()) (Ar (Aj l2 m0) ())
def CC (cs:Cs)(m:Rat):Prop:=∃(l:List (Int×Int))(lo hi p q:Int),MX 65 l/\(0<lo/\lo<=12)/\(0<hi/\hi<=12)/\(0<=p/\p.natAbs<2^60)/\(0<q/\q<=12)/\cs=rcs l lo hi/\m=Rat.divInt p q/\l.length<=13
structure CCf (cs:Cs)(m:Rat):Prop where
 r:G9 cs m
 z:SzC 65 cs
 zm:Sz 60 m
 ls:LS 65 70 132 cs m
 n:cs.length<=13
theorem CC.f {cs:Cs}{m:Rat}(h:CC cs m):CCf cs m:=by
 obtain⟨l,lo,hi,p,q,r,⟨l0,l1⟩,⟨h0,h1⟩,⟨p0,p1⟩,⟨q0,q1⟩,rfl,rfl,ln⟩:=h
 have o:=SF r l0 h0
 have lb:lo.natAbs<2^4:=()
 have hb:hi.natAbs<2^4:=()
 have qb:q.natAbs<2^4:=()
 have z:=Wx r l0 h0 (Ar lb ∅) (Ar hb ∅)
 refine#[#[o,GB q0 p0],z,Jd q0 p1 (Ar qb ∅),Ln.ls (fun i hi'=>?_) o (fun i hi'=>(z i hi').1),by rw[Dd];exact ln]
 have hi2:i<l.length:=by rw[Dd] at hi';exact hi'
 exact#[RE r l0 h0 lb hb q0 (n:=70) ∅ (Ar p1 ∅) (Ar qb ∅) hi2,VP r l0 h0 lb hb q0 p1 qb (n:=132) ∅ ∅ ∅ ∅ hi2]
end CH
namespace L3
open PySem PySem.Spec PyProof.Rows L2
abbrev BZ (h:Heap)(T:Addr)(a b c:Value):Prop:=h.get? T=some { cls:=.type "tuple",data:=.seq (List.toArray [a,b,c]) }
def Lj (n c:Nat):Prop:=c<n\/c=n+3\/n+5<c
section
variable {P:Program}{w:World}{A:Around}{E:Value->Shared->Prop}{s:Shared}
theorem VU {T:Addr}{a b c x:Value}{k:Nat}{Q:Unit->Shared->Prop}(hT:BZ s.heap T a b c)
 (h:∀h',h'.get? T=some { cls:=.type "tuple",data:=.seq (((List.toArray [a,b,c]):Array Value).setIfInBounds k x) }->Heap.SameBut T s.heap h'->Q Unit.unit { s with heap:=h' }) :
 wpAny (model P w) A (updateSeq T (·.setIfInBounds k x)) Q E s:=by
 refine wpAny_updateSeq hT rfl (h _ ?_ (Heap.SameBut.update ..))
 rw[qCR _ hT rfl]
 simp[Obj.mapSeq]
variable {n l1 l2 l3:Nat}{us1 us2 us3:Array Value}{st1 st2 st3:Nat->Heap->Prop}
theorem Dq {i l:Nat}{us:Array Value}{st:Nat->Heap->Prop}(S:K0 P w A i l us st){k:Nat}{h h1:Heap}(c:st k h) (e:∀b o,b=i\/b=l->h.get? b=some o->h1.get? b=some o):st k h1:=S.keep k h h1 c e
theorem Pl (h1:l1<n)(h2:l2<n)(h3:l3<n)(S1:K0 P w A n l1 us1 st1)(S2:K0 P w A (n+1:Nat) l2 us2 st2)(S3:K0 P w A (n+2:Nat) l3 us3 st3){k:Nat}{x y v a b c:Value}{Q:Value->Shared->Prop}(Hz:IsZip s.heap (n+5:Nat) (n+3:Nat) (n+4:Nat) .none) (Ht:BZ s.heap (n+3:Nat) (.ref n) (.ref (n+1:Nat)) (.ref (n+2:Nat))) (Ho:BZ s.heap (n+4:Nat) a b c)
 (c1:st1 k s.heap) (c2:st2 k s.heap) (c3:st3 k s.heap) (hx:us1[k]? = some x) (hy:us2[k]? = some y) (hv:us3[k]? = some v)
 (fin:∀h',IsZip h' (n+5:Nat) (n+3:Nat) (n+4:Nat) (rawInt s.heap.objs.size)->BZ h' (n+4:Nat) x y v->st1 (k+1) h'->st2 (k+1) h'->st3 (k+1) h'->BZ h' s.heap.objs.size x y v->(∀(c:Nat) o,Lj n c->s.heap.get? c=some o->h'.get? c=some o)->Q (.ref s.heap.objs.size) { s with heap:=h' }) :
 wpAny (model P w) A (Builtin.«zip.__next__» #[[.ref (n+5:Nat)],[]]) (fun f s'=>∃v,f=.done (.ret v)/\Q v s') E s:=by
 refine(wpAny_bind (wpAny_field Hz rfl (x:=Value.bool false) rfl ?_):wpAny _ _ (field (Value.ref (n+5:Nat)) 2 >>= _) _ _ _)
 refine(wpAny_bind (wpAny_field Hz rfl (x:=Value.ref (n+3:Nat)) rfl ?_):wpAny _ _ (field (Value.ref (n+5:Nat)) 3 >>= _) _ _ _)
 refine wpAny_bind (wpAny_seqItems Ht rfl ?_)
 refine(wpAny_bind ?_:wpAny _ _ (Builtin.SmallTypes.ownedTupleIsFree (Value.ref (n+5:Nat)) >>= _) _ _ _)
 refine wpAny_bind (wpAny_field Hz rfl (x:=Value.none) rfl (wpAny_pure ?_))
 simp only[if_true]
 refine wpAny_bind (wpAny_rule (wpAny_bind (wpAny_field Hz rfl (x:=Value.ref (n+4:Nat)) rfl (wpAny_bind (wpAny_setField_rec Hz (by simp) fun g1 Hz1 m1=>?_)))))
 have Hz1:IsZip g1 (n+5:Nat) (n+3:Nat) (n+4:Nat) .ellipsis:=Hz1
 have e1:∀(q:Nat) o,q≠n+5->s.heap.get? q=some o->g1.get? q=some o:=fun q o ne e=>m1.extBut _ _ ne e
 refine wpAny_bind ?_
 simp only[qCa,qCn,qBv,qBY]
 have c1a:st1 k g1:=Dq S1 c1 fun q o hq e=>e1 q o () e
 refine wpAny_bind (wpAny_bind (wpAny_onRaise (?_:wpAny _ _ (Builtin.SmallTypes.nextOf (Value.ref n) >>= _) _ _ _)))
 refine wpAny_bind (S1.item _ k x _ _ c1a hx fun g2 c1b m2=>wpAny_pure ?_)
 have e2:∀(q:Nat) o,q≠n->q≠n+5->s.heap.get? q=some o->g2.get? q=some o:=fun q o n1 n2 e=>m2.extBut _ _ n1 (e1 q o n2 e)
 have Ho2:BZ g2 (n+4:Nat) a b c:=e2 _ _ () () Ho
 refine wpAny_bind (wpAny_seqItems Ho2 rfl (wpAny_bind (VU Ho2 fun g3 Ho3 m3=>wpAny_bind (wpAny_letGo (wpAny_pure ?_)))))
 have Ho3:BZ g3 (n+4:Nat) x b c:=Ho3
 have c2a:st2 k g3:=Dq S2 c2 fun q o hq e=>m3.extBut _ _ (show q≠n+4 from ()) (e2 q o () () e)
 refine wpAny_bind (wpAny_bind (wpAny_onRaise (?_:wpAny _ _ (Builtin.SmallTypes.nextOf (Value.ref (n+1:Nat)) >>= _) _ _ _)))
 refine wpAny_bind (S2.item _ k y _ _ c2a hy fun g4 c2b m4=>wpAny_pure ?_)
 have Ho4:BZ g4 (n+4:Nat) x b c:=m4.extBut _ _ (show n+4≠n+1 from ()) Ho3
 refine wpAny_bind (wpAny_seqItems Ho4 rfl (wpAny_bind (VU Ho4 fun g5 Ho5 m5=>wpAny_bind (wpAny_letGo (wpAny_pure ?_)))))
 have Ho5:BZ g5 (n+4:Nat) x y c:=Ho5
 have e5:∀(q:Nat) o,q≠n+1->q≠n+4->g2.get? q=some o->g5.get? q=some o:=fun q o n1 n2 e=>m5.extBut _ _ n2 (m4.extBut _ _ n1 (m3.extBut _ _ n2 e))
 have c3a:st3 k g5:=Dq S3 c3 fun q o hq e=>e5 q o () () (e2 q o () () e)
 refine wpAny_bind (wpAny_bind (wpAny_onRaise (?_:wpAny _ _ (Builtin.SmallTypes.nextOf (Value.ref (n+2:Nat)) >>= _) _ _ _)))
 refine wpAny_bind (S3.item _ k v _ _ c3a hv fun g6 c3b m6=>wpAny_pure ?_)
 have Ho6:BZ g6 (n+4:Nat) x y c:=m6.extBut _ _ (show n+4≠n+2 from ()) Ho5
 refine wpAny_bind (wpAny_seqItems Ho6 rfl (wpAny_bind (VU Ho6 fun g7 Ho7 m7=>wpAny_bind (wpAny_letGo (wpAny_pure (wpAny_pure ?_))))))
 have Ho7:BZ g7 (n+4:Nat) x y v:=Ho7
 have e7:∀(q:Nat) o,q≠n+2->q≠n+4->g5.get? q=some o->g7.get? q=some o:=fun q o n1 n2 e=>m7.extBut _ _ n2 (m6.extBut _ _ n1 e)
 have sz:g7.objs.size=s.heap.objs.size:=by rw[m7.1,m6.1,m5.1,m4.1,m3.1,m2.1,m1.1]
 have Hz2:IsZip g2 (n+5:Nat) (n+3:Nat) (n+4:Nat) .ellipsis:=m2.extBut _ _ (show n+5≠n from ()) Hz1
 have Hz7:IsZip g7 (n+5:Nat) (n+3:Nat) (n+4:Nat) .ellipsis:=e7 _ _ () () (e5 _ _ () () Hz2)
 have lz:n+5<g7.objs.size:=qAh Hz7
 refine wpAny_bind (wpAny_seqItems Ho7 rfl (wpAny_bind (wpAny_newTuple ?_)))
 refine(wpAny_bind ?_:wpAny _ _ (Builtin.SmallTypes.ownedTupleHandOut (Value.ref (n+5:Nat)) (Value.ref g7.objs.size) >>= _) _ _ _)
 have Hz8:IsZip (g7.push { cls:=.type "tuple",data:=.seq (List.toArray [x,y,v]) }) (n+5:Nat) (n+3:Nat) (n+4:Nat) .ellipsis:=qAf _ Hz7
 refine wpAny_bind (wpAny_setField_rec Hz8 (by simp) fun g9 Hz9 m9=>?_)
 have Hz9:IsZip g9 (n+5:Nat) (n+3:Nat) (n+4:Nat) (rawInt g7.objs.size):=Hz9
 refine wpAny_setField_rec Hz9 (by simp) fun g0 Hz0 m0=>?_
 have Hz0:IsZip g0 (n+5:Nat) (n+3:Nat) (n+4:Nat) (rawInt g7.objs.size):=Hz0
 have up:∀(q:Nat) o,q≠n+5->g7.get? q=some o->g0.get? q=some o:=fun q o ne e=>m0.extBut _ _ ne (m9.extBut _ _ ne (qAf _ e))
 have new0:BZ g0 g7.objs.size x y v:=m0.extBut _ _ (qBg lz) (m9.extBut _ _ (qBg lz) (qAr _ rfl))
 rw[sz] at Hz0 new0
 have k1:st1 (k+1) g0:=Dq S1 c1b fun q o hq e=>up q o () (e7 q o () () (e5 q o () () e))
 have k2:st2 (k+1) g0:=Dq S2 c2b fun q o hq e=>up q o () (e7 q o () () (m5.extBut _ _ (show q≠n+4 from ()) e))
 have k3:st3 (k+1) g0:=Dq S3 c3b fun q o hq e=>up q o () (m7.extBut _ _ (show q≠n+4 from ()) e)
 refine wpAny_pure #[_,rfl,(?_:Q (.ref g7.objs.size) _)]
 rw[sz]
 exact fin g0 Hz0 (up _ _ () Ho7) k1 k2 k3 new0 fun q o hq e=>by
  unfold Lj at hq
  exact up q o () (e7 q o () () (e5 q o () () (e2 q o () () e)))
end
section
variable {P:Program}{w:World}{A:Around}{E:Value->Shared->Prop}{s:Shared}
variable {n l1 l2 l3:Nat}{us1 us2 us3:Array Value}{st1 st2 st3:Nat->Heap->Prop}
theorem O8 (hd:A.handled=none)(h1:l1<n)(h2:l2<n)(h3:l3<n)(S1:K0 P w A n l1 us1 st1)(S2:K0 P w A (n+1:Nat) l2 us2 st2)(S3:K0 P w A (n+2:Nat) l3 us3 st3){k:Nat}{a b c:Value}{Q:Fin->Shared->Prop}(Hz:IsZip s.heap (n+5:Nat) (n+3:Nat) (n+4:Nat) .none) (Ht:BZ s.heap (n+3:Nat) (.ref n) (.ref (n+1:Nat)) (.ref (n+2:Nat))) (Ho:BZ s.heap (n+4:Nat) a b c)
 (c1:st1 k s.heap) (c2:st2 k s.heap) (c3:st3 k s.heap) (he:us1[k]? = none\/us2[k]? = none\/us3[k]? = none)
 (fin:∀h' e,(∀(c:Nat) o,Lj n c->s.heap.get? c=some o->h'.get? c=some o)->(∃o,h'.get? e=some o/\o.cls=.type "StopIteration")->E (.ref e) { s with heap:=h' }) :
 wpAny (model P w) A (Builtin.«zip.__next__» #[[.ref (n+5:Nat)],[]]) Q E s:=by
 refine(wpAny_bind (wpAny_field Hz rfl (x:=Value.bool false) rfl ?_):wpAny _ _ (field (Value.ref (n+5:Nat)) 2 >>= _) _ _ _)
 refine(wpAny_bind (wpAny_field Hz rfl (x:=Value.ref (n+3:Nat)) rfl ?_):wpAny _ _ (field (Value.ref (n+5:Nat)) 3 >>= _) _ _ _)
 refine wpAny_bind (wpAny_seqItems Ht rfl ?_)
 refine(wpAny_bind ?_:wpAny _ _ (Builtin.SmallTypes.ownedTupleIsFree (Value.ref (n+5:Nat)) >>= _) _ _ _)
 refine wpAny_bind (wpAny_field Hz rfl (x:=Value.none) rfl (wpAny_pure ?_))
 simp only[if_true]
 refine wpAny_bind (wpAny_rule (wpAny_bind (wpAny_field Hz rfl (x:=Value.ref (n+4:Nat)) rfl (wpAny_bind (wpAny_setField_rec Hz (by simp) fun g1 Hz1 m1=>?_)))))
 have Hz1:IsZip g1 (n+5:Nat) (n+3:Nat) (n+4:Nat) .ellipsis:=Hz1
 have e1:∀(q:Nat) o,q≠n+5->s.heap.get? q=some o->g1.get? q=some o:=fun q o ne e=>m1.extBut _ _ ne e
 refine wpAny_bind ?_
 simp only[qCa,qCn,qBv,qBY]
 have c1a:st1 k g1:=Dq S1 c1 fun q o hq e=>e1 q o () e
 have out:∀{g:Heap}{x:Addr}(n':IsZip g (n+5:Nat) (n+3:Nat) (n+4:Nat) .ellipsis) (g':Heap) (m:Heap.SameBut (n+5:Nat) g g'),(∃o,g.get? x=some o/\o.cls=.type "StopIteration")->∃o,g'.get? x=some o/\o.cls=.type "StopIteration":=fun {g x} n' g' m #[o,h1,h2] =>
  #[o,m.extBut _ _ (fun y=>by subst y;rw[n'] at h1;cases h1;simp at h2) h1,h2]
 refine wpAny_bind (wpAny_bind (wpAny_onRaise (?_:wpAny _ _ (Builtin.SmallTypes.nextOf (Value.ref n) >>= _) _ _ _)))
 cases hx:us1[k]? with
 |none =>
  refine wpAny_bind (S1.done _ k _ _ c1a hx fun g2 x m2 hs=>?_)
  have Hz2:IsZip g2 (n+5:Nat) (n+3:Nat) (n+4:Nat) .ellipsis:=m2 _ _ (show n+5≠n from ()) Hz1
  exact wpAny_setField_rec Hz2 (by simp) fun g3 _ m3=>fin g3 x (fun q o hq e=>by
   unfold Lj at hq
   exact m3.extBut _ _ (show q≠n+5 from ()) (m2 _ _ (show q≠n from ()) (e1 q o () e))) (out Hz2 g3 m3 hs)
 |some x =>
 refine wpAny_bind (S1.item _ k x _ _ c1a hx fun g2 c1b m2=>wpAny_pure ?_)
 have e2:∀(q:Nat) o,q≠n->q≠n+5->s.heap.get? q=some o->g2.get? q=some o:=fun q o n1 n2 e=>m2.extBut _ _ n1 (e1 q o n2 e)
 have Ho2:BZ g2 (n+4:Nat) a b c:=e2 _ _ () () Ho
 have Hz2:IsZip g2 (n+5:Nat) (n+3:Nat) (n+4:Nat) .ellipsis:=m2.extBut _ _ (show n+5≠n from ()) Hz1
 refine wpAny_bind (wpAny_seqItems Ho2 rfl (wpAny_bind (VU Ho2 fun g3 Ho3 m3=>wpAny_bind (wpAny_letGo (wpAny_pure ?_)))))
 have Ho3:BZ g3 (n+4:Nat) x b c:=Ho3
 have Hz3:IsZip g3 (n+5:Nat) (n+3:Nat) (n+4:Nat) .ellipsis:=m3.extBut _ _ (show n+5≠n+4 from ()) Hz2
 have c2a:st2 k g3:=Dq S2 c2 fun q o hq e=>m3.extBut _ _ (show q≠n+4 from ()) (e2 q o () () e)
 refine wpAny_bind (wpAny_bind (wpAny_onRaise (?_:wpAny _ _ (Builtin.SmallTypes.nextOf (Value.ref (n+1:Nat)) >>= _) _ _ _)))
 cases hy:us2[k]? with
 |none =>
  refine wpAny_bind (S2.done _ k _ _ c2a hy fun g4 x m4 hs=>?_)
  have Hz4:IsZip g4 (n+5:Nat) (n+3:Nat) (n+4:Nat) .ellipsis:=m4 _ _ (show n+5≠n+1 from ()) Hz3
  exact wpAny_setField_rec Hz4 (by simp) fun g5 _ m5=>fin g5 x (fun q o hq e=>by
   unfold Lj at hq
   exact m5.extBut _ _ (show q≠n+5 from ()) (m4 _ _ (show q≠n+1 from ()) (m3.extBut _ _ (show q≠n+4 from ()) (e2 q o () () e)))) (out Hz4 g5 m5 hs)
 |some y =>
 have hv:us3[k]? = none:=(he.resolve_left (by rw[hx];simp)).resolve_left (by rw[hy];simp)
 refine wpAny_bind (S2.item _ k y _ _ c2a hy fun g4 c2b m4=>wpAny_pure ?_)
 have Ho4:BZ g4 (n+4:Nat) x b c:=m4.extBut _ _ (show n+4≠n+1 from ()) Ho3
 have Hz4:IsZip g4 (n+5:Nat) (n+3:Nat) (n+4:Nat) .ellipsis:=m4.extBut _ _ (show n+5≠n+1 from ()) Hz3
 refine wpAny_bind (wpAny_seqItems Ho4 rfl (wpAny_bind (VU Ho4 fun g5 Ho5 m5=>wpAny_bind (wpAny_letGo (wpAny_pure ?_)))))
 have e5:∀(q:Nat) o,q≠n+1->q≠n+4->g2.get? q=some o->g5.get? q=some o:=fun q o n1 n2 e=>m5.extBut _ _ n2 (m4.extBut _ _ n1 (m3.extBut _ _ n2 e))
 have c3a:st3 k g5:=Dq S3 c3 fun q o hq e=>e5 q o () () (e2 q o () () e)
 refine wpAny_bind (wpAny_bind (wpAny_onRaise (?_:wpAny _ _ (Builtin.SmallTypes.nextOf (Value.ref (n+2:Nat)) >>= _) _ _ _)))
 refine wpAny_bind (S3.done _ k _ _ c3a hv fun g6 x m6 hs=>?_)
 have Hz6:IsZip g6 (n+5:Nat) (n+3:Nat) (n+4:Nat) .ellipsis:=m6 _ _ (show n+5≠n+2 from ()) (m5.extBut _ _ (show n+5≠n+4 from ()) Hz4)
 exact wpAny_setField_rec Hz6 (by simp) fun g7 _ m7=>fin g7 x (fun q o hq e=>by
  unfold Lj at hq
  exact m7.extBut _ _ (show q≠n+5 from ()) (m6 _ _ (show q≠n+2 from ()) (e5 q o () () (e2 q o () () e)))) (out Hz6 g7 m7 hs)
end
theorem Um (a b c:Value):checkTypeCall "zip" #[[a,b,c],[]]=pure Unit.unit:=by kernel_rfl
theorem UI (a b c:Value):checkBuiltinCall "zip.__new__" #[[.type "zip",a,b,c],[]]=pure Unit.unit:=by kernel_rfl
theorem QR (a b c d:Value):argsOk "object.__init__" #[[a,b,c,d],[]]:=by
 unfold argsOk;rw[signature?_of (id:="object.__init__") (n:=['_','_','t','i','n','i','_','_']) (o:=['t','c','e','j','b','o']) (by kernel_rfl) F.owner_object];kernel_rfl
abbrev zt1 (h:Heap)(l1:Addr):Heap:=h.push { cls:=.type "list_iterator",data:=.fields (List.toArray [.ref l1,.int 0 0]) }
abbrev zt2 (h:Heap)(l1 l2:Addr):Heap:=(zt1 h l1).push { cls:=.type "tuple_iterator",data:=.fields (List.toArray [.ref l2,.int 0 0]) }
abbrev zt3 (h:Heap)(l1 l2 l3:Addr):Heap:=(zt2 h l1 l2).push { cls:=.type "tuple_iterator",data:=.fields (List.toArray [.ref l3,.int 0 0]) }
abbrev zt4 (h:Heap)(l1 l2 l3:Addr):Heap:=(zt3 h l1 l2 l3).push { cls:=.type "tuple",data:=.seq (List.toArray [.ref h.objs.size,.ref (zt1 h l1).objs.size,.ref (zt2 h l1 l2).objs.size]) }
abbrev zt5 (h:Heap)(l1 l2 l3:Addr):Heap:=(zt4 h l1 l2 l3).push { cls:=.type "tuple",data:=.seq (List.toArray [.none,.none,.none]) }
abbrev zt6 (h:Heap)(l1 l2 l3:Addr):Heap:=(zt5 h l1 l2 l3).push { cls:=.type "zip",data:=.fields (List.toArray [.none,.bool false,.bool false,.ref (zt3 h l1 l2 l3).objs.size,.ref (zt4 h l1 l2 l3).objs.size]) }
theorem Rg (l1 l2 l3:Addr)(xs ys zs:Array Value) :
 Meets (Builtin.«zip.__new__» #[[.type "zip",.ref l1,.ref l2,.ref l3],[]]) (fun _ R s=>s.heap.IsList l1 xs/\s.heap.IsTuple l2 ys/\s.heap.IsTuple l3 zs/\R (.ok (.ret (.ref (zt5 s.heap l1 l2 l3).objs.size))) { s with heap:=zt6 s.heap l1 l2 l3 }) :=
 .of_wp fun prog w A R s h=>by
  obtain⟨hp,g,d,tk,os⟩:=s;obtain⟨t1,t2,t3,h⟩:=h
  have hsub:=sub_zip
  have q1:Heap.IsList (Shared.heap #[hp,g,d,tk,os]) l1 xs:=t1
  have t2':Heap.IsTuple (zt1 hp l1) l2 ys:=by obtain⟨o,e1,e2⟩:=t2;exact#[o,qAf _ e1,e2]
  have t3':Heap.IsTuple (zt2 hp l1 l2) l3 zs:=by obtain⟨o,e1,e2⟩:=t3;exact#[o,qAf _ (qAf _ e1),e2]
  have q2:Heap.IsTuple (Shared.heap #[zt1 hp l1,g,d,tk,os]) l2 ys:=t2'
  have q3:Heap.IsTuple (Shared.heap #[zt2 hp l1 l2,g,d,tk,os]) l3 zs:=t3'
  wp_walk using wpAny_pyIter_list q1,wpAny_pyIter_tuple q2,wpAny_pyIter_tuple q3
  exact#[_,rfl,h]
section
variable {P:Program}{w:World}{A:Around}{E:Value->Shared->Prop}{s:Shared}
theorem Pa {l1 l2 l3:Addr}{xs ys zs:Array Value}{Q:Value->Shared->Prop}(t1:s.heap.IsList l1 xs) (t2:s.heap.IsTuple l2 ys) (t3:s.heap.IsTuple l3 zs){n:Nat}(hn:s.heap.objs.size=n)
 (fin:∀h',IsZip h' (n+5:Nat) (n+3:Nat) (n+4:Nat) .none->BZ h' (n+3:Nat) (.ref n) (.ref (n+1:Nat)) (.ref (n+2:Nat))->BZ h' (n+4:Nat) .none .none .none ->
  h'.IsListIter n l1 0->h'.IsTupleIter (n+1:Nat) l2 0->h'.IsTupleIter (n+2:Nat) l3 0->(∀c o,s.heap.get? c=some o->h'.get? c=some o)->Q (.ref (n+5:Nat)) { s with heap:=h' }) :
 wpAny (model P w) A (call (.type "zip") [.ref l1,.ref l2,.ref l3]) Q E s:=by
 refine callType_new F.called_zip ∅ (Um _ _ _) (UI _ _ _) (fun ob=>QR ob _ _ _) F.entry_zip_new (Rg l1 l2 l3 xs ys zs) #[t1,t2,t3,?_]
 subst hn
 have n1:(zt1 s.heap l1).objs.size=s.heap.objs.size+1:=qA6 ..
 have n2:(zt2 s.heap l1 l2).objs.size=s.heap.objs.size+2:=by rw[qA6,n1]
 have n3:(zt3 s.heap l1 l2 l3).objs.size=s.heap.objs.size+3:=by rw[qA6,n2]
 have n4:(zt4 s.heap l1 l2 l3).objs.size=s.heap.objs.size+4:=by rw[qA6,n3]
 have n5:(zt5 s.heap l1 l2 l3).objs.size=s.heap.objs.size+5:=by rw[qA6,n4]
 have up:∀{h:Heap}{o:Obj}{c:Addr}{x:Obj},h.get? c=some x->(h.push o).get? c=some x:=fun e=>qAf _ e
 have o6:(zt6 s.heap l1 l2 l3).get? (zt5 s.heap l1 l2 l3).objs.size=some _:=qAr _ rfl
 have o5:(zt6 s.heap l1 l2 l3).get? (zt4 s.heap l1 l2 l3).objs.size=some _:=up (qAr _ rfl)
 have o4:(zt6 s.heap l1 l2 l3).get? (zt3 s.heap l1 l2 l3).objs.size=some _:=up (up (qAr _ rfl))
 have o3:(zt6 s.heap l1 l2 l3).get? (zt2 s.heap l1 l2).objs.size=some _:=up (up (up (qAr _ rfl)))
 have o2:(zt6 s.heap l1 l2 l3).get? (zt1 s.heap l1).objs.size=some _:=up (up (up (up (qAr _ rfl))))
 have o1:(zt6 s.heap l1 l2 l3).get? s.heap.objs.size=some _:=up (up (up (up (up (qAr _ rfl)))))
 refine(?_:_/\_)
 rw[n3,n4,n5] at o6
 rw[n4] at o5
 rw[n1,n2,n3] at o4
 rw[n2] at o3
 rw[n1] at o2
 rw[n5]
 exact#[#[_,o6,rfl],fin _ o6 o4 o5 #[_,o1,rfl,rfl] #[_,o2,rfl,rfl] #[_,o3,rfl,rfl] fun c o x=>up (up (up (up (up (up x)))))]
end
def XT (K:W.Frag)(l1 l2 l3:Addr):It :=
 #[fun i H=>∃xs ys zs x y z,SqB K false H l1 xs/\SqB K true H l2 ys/\SqB K true H l3 zs/\xs[i]? = some x/\ys[i]? = some y/\zs[i]? = some z,
  fun i H v H'=>∃p x y z,H p=none/\v=.ref p/\(∀xs,SqB K false H l1 xs->xs[i]? = some x)/\(∀ys,SqB K true H l2 ys->ys[i]? = some y)/\(∀zs,SqB K true H l3 zs->zs[i]? = some z)/\H'=upd H p (.tup [x,y,z]),
  fun i H=>∃xs ys zs,SqB K false H l1 xs/\SqB K true H l2 ys/\SqB K true H l3 zs/\(xs.length<=i\/ys.length<=i\/zs.length<=i)]
def Yu (n l1 l2 l3:Nat)(i:Nat)(h:Heap):Prop:=IsZip h (n+5:Nat) (n+3:Nat) (n+4:Nat) .none/\BZ h (n+3:Nat) (.ref n) (.ref (n+1:Nat)) (.ref (n+2:Nat))/\(∃a b c,BZ h (n+4:Nat) a b c)/\ItB false h n l1 i/\ItB true h (n+1:Nat) l2 i/\ItB true h (n+2:Nat) l3 i
def fp3 (n:Nat):List Addr:=[(n+5:Nat),(n+3:Nat),(n+4:Nat),n,(n+1:Nat),(n+2:Nat)]
theorem Fc {n c:Nat}:c∈fp3 n ↔ n<=c/\c<=n+5:=by
 unfold fp3
 simp only[qAo,qBb,or_false]
 constructor
 .rintro (rfl|rfl|rfl|rfl|rfl|rfl)<;>exact#[(),()]
 .intro h
  have:c=n+5\/c=n+3\/c=n+4\/c=n\/c=n+1\/c=n+2:=()
  exact this
theorem Pq {P:Program}{w:World}{K:W.Frag}{elts:List Expr}{x1:Nat}{tpos:Pos}{n l1 l2 l3:Nat}(d1:l1<n) (d2:l2<n) (d3:l3<n):Qv P w K (.Tuple elts x1 tpos) (XT K l1 l2 l3) (fp3 n) (n+5:Nat) (Yu n l1 l2 l3) where
 mem:=Fc.mpr ()
 obj:=fun i h st b hb=>by
  obtain⟨g1,g2,⟨a,b',c,g3⟩,g4,g5,g6⟩:=st
  unfold fp3 at hb
  simp only[qAo,qBb,or_false] at hb
  rcases hb with rfl|rfl|rfl|rfl|rfl|rfl
  .exact#[_,g1,fun v y=>by cases y]
  .exact#[_,g2,fun v y=>by cases y]
  .exact#[_,g3,fun v y=>by cases y]
  .exact Gf g4
  .exact Gf g5
  .exact Gf g6
 keep:=fun i h h' st k=>by
  obtain⟨g1,g2,⟨a,b,c,g3⟩,g4,g5,g6⟩:=st
  have k:∀(b:Nat),n<=b/\b<=n+5->∀o,h.get? b=some o->h'.get? b=some o:=fun b hb o e=>k b (Fc.mpr hb) o e
  exact#[k _ () _ g1,k _ () _ g2,#[a,b,c,k _ () _ g3],C3 g4 fun o e=>k _ () o e,C3 g5 fun o e=>k _ () o e,C3 g6 fun o e=>k _ () o e]
 item:=by
  intro X hP hw hK hc i pins s σ H E I hf st hg
  subst hP hw hK
  obtain⟨xs,ys,zs,x,y,t,q1,q2,q3,hx,hy,ht⟩:=hg
  obtain⟨its1,rv1,src1⟩:=El I q1
  obtain⟨its2,rv2,src2⟩:=El I q2
  obtain⟨its3,rv3,src3⟩:=El I q3
  obtain⟨u,hu,ru⟩:=rv1.get hx
  obtain⟨v,hv,rv⟩:=rv2.get hy
  obtain⟨v',hv',rv'⟩:=rv3.get ht
  obtain⟨g1,g2,⟨a,b,c,g3⟩,g4,g5,g6⟩:=st
  have hd:=I.ok.hd hc
  have hf':∀b:Nat,n<=b/\b<=n+5->_:=fun b hb=>hf b (Fc.mpr hb)
  have ty:s.TypeIs (.ref (n+5:Nat)) "zip":=#[_,g1,rfl]
  refine wpAny_bind (wpAny_attempt (wpAny_callSpecial?_slot (name:=Str.ofString "__next__") ty qBo (wpAny_call_entry qBo ty qCb ?_ (qB3 _))))
  have hd1:X.A.in1.handled=none:=hd
  refine Pl (A:=X.A.in1) d1 d2 d3 (Jz hd1 false (show l1≠n from ()) its1.toArray) (Jz hd1 true (show l2≠n+1 from ()) its2.toArray) (Jz hd1 true (show l3≠n+2 from ()) its3.toArray) g1 g2 g3 (src1 n i g4) (src2 _ i g5) (src3 _ i g6) (x:=u) (y:=v) (v:=v') (by simpa using hu) (by simpa using hv) (by simpa using hv') fun h1 k1 k2 k3 k4 k5 k6 k7=>?_
  refine wpAny_pure #[_,rfl,wpAny_letOwnedTupleGo_zip (s:={ s with heap:=h1 }) k1 fun h2 m1 m2=>?_]
  have m2':Heap.SameBut (n+5:Nat) h1 h2:=m2
  have lt:∀{b:Addr}{o:Obj},s.heap.get? b=some o->b<s.heap.objs.size:=fun e=>qAh e
  have big:n+5<s.heap.objs.size:=lt g1
  have hn:H s.heap.objs.size=none:=I.hok.fresh (qAc _)
  have old2:∀(b:Nat) o,Lj n b->s.heap.get? b=some o->h2.get? b=some o:=fun b o hb y=>(m2'.2 b (show b≠n+5 by unfold Lj at hb;omega)).trans (k7 b o hb y)
  have tup2:h2.get? s.heap.objs.size=some { cls:=.type "tuple",data:=.seq (List.toArray [u,v,v']) }:=(m2'.2 _ (show s.heap.objs.size≠n+5 from ())).trans k6
  have out:∀b:Nat,¬(n<=b/\b<=n+5)->Lj n b:=fun b hb=>by unfold Lj;omega
  have trk:∀{b:Nat}{o:HO},H b=some o->Lj n b:=fun {b o} q=>out b fun z=>by
   have:=(hf' b z).1
   rw[this] at q
   cases q
  have hok2:HOk X.prog X.w (upd H s.heap.objs.size (.tup [x,y,t])) h2:=fun b o q=>by
   by_cases hb:b=s.heap.objs.size
   .subst hb
    rw[Au] at q
    cases q
    exact#[by show 3<=sizeLine;decide,[u,v,v'],.cons ru (.cons rv (.cons rv' .nil)),#[_,tup2,rfl,_,rfl]]
   .rw[Al hb] at q
    refine(I.hok b o q).stay (hf:=fun c w1 w2 y=>by rw[Al (Ap y hn)];exact y) (fun c o hc' y=>?_) (fun c y=>by rw[Al (Ap y hn)];exact y) fun c ys y=>by rw[Al (Ap y hn)];exact y
    rcases hc' with rfl|hc'
    .exact old2 c o (trk q) y
    .exact old2 c o (trk hc') y
  have nin:∀{b:Nat},b∉fp3 n->Lj n b:=fun {b} h=>out b fun z=>h (Fc.mpr z)
  have I2:Inv X pins σ (upd H s.heap.objs.size (.tup [x,y,t])) { s with heap:=h2,toks:=s.toks }:=by
   refine I.step (g':=s.gens) (d':=s.drawn) (ch:=fp3 n) (fun b hb=>?_) (fun b o _ _ hb q _=>old2 b o (nin hb) q) (fun b o _ _ hb q _=>#[o.slots,old2 b o (nin hb) q])
    (fun b o _ q n=>by rw[Al (qAw (qAh q))];exact n) (fun b o hb q=>#[o,old2 b o (nin hb) q])
    (fun b ys y=>by rw[Al (Ap y hn)];exact y) (fun b o ys y=>by rw[Al (Ap y hn)];exact y) (fun b ps y=>#[(List.toArray []),by rw[Al (Ap y hn),y];simp]) (fun m hm=>?_) hok2 I.bare
   .have f:=hf b hb
    exact#[f.2.2.2.1,f.2.1,f.2.2.2.2.1,f.2.2.2.2.2]
   .obtain⟨o,es,ep,ho,r⟩:=hm
    exact#[o,es,ep,old2 _ o (out _ fun z=>(hf' _ z).2.1 rfl) ho,r]
  refine#[.ref s.heap.objs.size,_,I2,rfl,#[_,x,y,t,hn,rfl,fun zs hz=>by rw[IU I q1 hz];exact hx,fun zs hz=>by rw[IU I q2 hz];exact hy,fun zs hz=>by rw[IU I q3 hz];exact ht,rfl],#[m1,?_,#[u,v,v',?_],?_,?_,?_],fun b hb=>?_]
  .exact old2 _ _ (by unfold Lj;omega) g2
  .exact(m2'.2 _ (show n+4≠n+5 from ())).trans k2
  .exact C3 (LN k3) fun o e=>(m2'.2 _ (show n≠n+5 from ())).trans e
  .exact C3 (LN k4) fun o e=>(m2'.2 _ (show n+1≠n+5 from ())).trans e
  .exact C3 (LN k5) fun o e=>(m2'.2 _ (show n+2≠n+5 from ())).trans e
  .have hb':=Fc.mp hb
   rw[Al (qAw (Nat.lt_of_le_of_lt hb'.2 big))]
   exact(hf b hb).1
 done:=by
  intro X hP hw hK hc i pins s σ H E I hf st hg
  subst hP hw hK
  obtain⟨xs,ys,zs,q1,q2,q3,he⟩:=hg
  obtain⟨its1,rv1,src1⟩:=El I q1
  obtain⟨its2,rv2,src2⟩:=El I q2
  obtain⟨its3,rv3,src3⟩:=El I q3
  obtain⟨g1,g2,⟨a,b,c,g3⟩,g4,g5,g6⟩:=st
  have hd:=I.ok.hd hc
  have hf':∀b:Nat,n<=b/\b<=n+5->_:=fun b hb=>hf b (Fc.mpr hb)
  have ty:s.TypeIs (.ref (n+5:Nat)) "zip":=#[_,g1,rfl]
  refine wpAny_bind (wpAny_attempt (wpAny_callSpecial?_slot (name:=Str.ofString "__next__") ty qBo (wpAny_call_entry qBo ty qCb ?_ (qB3 _))))
  have hd1:X.A.in1.handled=none:=hd
  refine O8 (A:=X.A.in1) hd1 d1 d2 d3 (Jz hd1 false (show l1≠n from ()) its1.toArray) (Jz hd1 true (show l2≠n+1 from ()) its2.toArray) (Jz hd1 true (show l3≠n+2 from ()) its3.toArray) g1 g2 g3 (src1 n i g4) (src2 _ i g5) (src3 _ i g6) ?_ fun h' e kp hs=>?_
  .have e1:=rv1.length
   have e2:=rv2.length
   have e3:=rv3.length
   simp only[qBJ,qAO]
   omega
  .obtain⟨o,z1,z2⟩:=hs
   refine wpAny_bind (wpAny_isInstance (T:="StopIteration") (b:=true) #[o,z1,z2] isSubtype_stop (wpAny_pure #[rfl,?_]))
   have out:∀b:Nat,¬(n<=b/\b<=n+5)->Lj n b:=fun b hb=>by unfold Lj;omega
   have nin:∀{b:Nat},b∉fp3 n->Lj n b:=fun {b} h=>out b fun z=>h (Fc.mpr z)
   have trk:∀{b:Nat}{o:HO},H b=some o->Lj n b:=fun {b o} q=>out b fun z=>by
    have:=(hf' b z).1
    rw[this] at q
    cases q
   have hok2:HOk X.prog X.w H h':=fun b o q=>by
    refine(I.hok b o q).stay (fun c o hc' y=>kp c o ?_ y) (fun _ y=>y) fun _ _ y=>y
    rcases hc' with rfl|hc'
    .exact trk q
    .exact trk hc'
   refine I.step (t':=s.toks) (g':=s.gens) (d':=s.drawn) (ch:=fp3 n) (fun b hb=>?_) (fun b o _ _ hb q _=>kp b o (nin hb) q) (fun b o _ _ hb q _=>#[o.slots,kp b o (nin hb) q]) (fun b o _ q n=>n) (fun b o hb q=>#[o,kp b o (nin hb) q])
    (fun b ys y=>y) (fun b o ys y=>y) (fun b ps y=>#[(List.toArray []),by rw[y];simp]) (fun m hm=>?_) hok2 I.bare
   .have f:=hf b hb
    exact#[f.2.2.2.1,f.2.1,f.2.2.2.2.1,f.2.2.2.2.2]
   .obtain⟨o,es,ep,ho,r⟩:=hm
    exact#[o,es,ep,kp _ o (out _ fun z=>(hf' _ z).2.1 rfl) ho,r]
 self:=fun A i s Q E st h=>wpAny_pyIter_zip st.1 h
section
variable {X:Cx}{pos:Pos}
def V5 (K:W.Frag)(ta:TA):TI:=fun σ H R=>ta σ H fun vs H1=>∃a1 a2 a3,vs=[.ref a1,.ref a2,.ref a3]/\(∃xs,SqL K H1 a1 xs)/\(∃ys,SqT K H1 a2 ys)/\(∃zs,SqT K H1 a3 zs)/\R (XT K a1 a2 a3) H1
theorem T2 {e1 e2 e3:Expr}{elts:List Expr}{x1:Nat}{tpos p:Pos}{ta:TA}(hg:Gl X "zip") (hm:X.mg "zip"=none) (ha:PA X [e1,e2,e3] ta) (hs:starEach [e1,e2,e3] X.env=[(false,eval e1 X.env),(false,eval e2 X.env),(false,eval e3 X.env)]:=by rfl) (hs2:starEach [e2,e3] X.env=[(false,eval e2 X.env),(false,eval e3 X.env)]:=by rfl) :
 PI X (.Tuple elts x1 tpos) (.Call (.Name "zip" p) [e1,e2,e3] [] pos) (V5 X.K ta):=by
 intro pins s σ H R I h
 refine Call_ (G1 I hg hm qCS (qA0 (thn (ha pos pins s σ H _ I h) fun us s1 #[vs,H1,I1,r1,q1]=>?_) (by rw[hs,hs2]) (by rw[hs2];rfl)))
 obtain⟨a1,a2,a3,e,⟨xs,h1⟩,⟨ys,h2⟩,⟨zs,h3⟩,q⟩:=q1
 subst e
 cases r1 with
 |cons r rr =>
  cases rr with
  |cons r' rr =>
   cases rr with
   |cons r'' rr =>
    cases rr
    cases r
    cases r'
    cases r''
    obtain⟨its1,rv1,p1,hz1⟩:=I1.list h1
    obtain⟨its2,rv2,p2,hz2⟩:=I1.tuple h2
    obtain⟨its3,rv3,p3,hz3⟩:=I1.tuple h3
    have t2:s1.heap.IsTuple a2 its2.toArray:=p2
    have t3:s1.heap.IsTuple a3 its3.toArray:=p3
    have n1:a1<s1.heap.objs.size:=by obtain⟨o,e,_⟩:=p1.isList;exact qAh e
    have n2:a2<s1.heap.objs.size:=by obtain⟨o,e,_⟩:=id t2;exact qAh e
    have n3:a3<s1.heap.objs.size:=by obtain⟨o,e,_⟩:=id t3;exact qAh e
    refine Pa p1.isList t2 t3 rfl fun h' g1 g2 g3 g4 g5 g6 old=>?_
    have I2:Inv X pins σ H1 { s1 with heap:=h' }:=I1.kept (t':=s1.toks) old
    refine wpAny_pyIter_zip (s:={ s1 with heap:=h' }) g1 ?_
    refine#[(s1.heap.objs.size+5:Nat),_,_,_,H1,rfl,I2,Pq n1 n2 n3,#[g1,g2,#[_,_,_,g3],g4,g5,g6],fun c hc=>?_,q]
    have ge:s1.heap.objs.size<=c:=(Fc.mp hc).1
    exact I1.fpOk ge (I1.hok.fresh ge)
def VF (i1 i2 i3:Nat)(xs ys zs:List D)(tb:TS3)(D3:JB)(τ0:Tau):Prop:=∃I:Nat->Tau->Prop,I 0 τ0 /\
 (∀n τ x y z,xs[n]? = some x->ys[n]? = some y->zs[n]? = some z->I n τ->tb { D3 with nx:=I (n+1),ct:=I (n+1),bk:=D3.nx } (((τ.set i1 (some (.d x))).set i2 (some (.d y))).set i3 (some (.d z))))/\∀τ,I (min xs.length (min ys.length zs.length)) τ->D3.nx τ
def Wk (i1 i2 i3:Nat)(t1 t2 t3:TE3)(tb:TS3):TS3:=fun D3 τ=>t1 τ fun s1=>∃xs,s1=.l xs/\t2 τ fun s2=>∃ys,s2=.d (.tup ys)/\t3 τ fun s3=>∃zs,s3=.d (.tup zs)/\VF i1 i2 i3 xs ys zs tb D3 τ
theorem TJ {i1 i2 i3:Nat}{x1 x2 x3:Str}{p1 p2 p3 pt pn pc:Pos}{kt:Nat}{body:List Stmt}{tb:TS3}{e1 e2 e3:Expr}{t1 t2 t3:TE3}
 (h:PS X (.For (.Tuple [.Name x1 p1,.Name x2 p2,.Name x3 p3] kt pt) (.Call (.Name "zip" pn) [e1,e2,e3] [] pc) body [] pos) (Qx (V5 X.K (Om (FE X t1) (Om (FE X t2) (Om (FE X t3) Xr)))) (UO X.K 3 (HJ (Dc i1) (HJ (Dc i2) (HJ (Dc i3) UQ)))) (FS X tb))) (hp1:Di X i1:=by first|exact Cv rfl|exact Cr rfl ∅|assumption) (hp2:Di X i2:=by first|exact Cv rfl|exact Cr rfl ∅|assumption) (hp3:Di X i3:=by first|exact Cv rfl|exact Cr rfl ∅|assumption) :
 PS3 X (.For (.Tuple [.Name x1 p1,.Name x2 p2,.Name x3 p3] kt pt) (.Call (.Name "zip" pn) [e1,e2,e3] [] pc) body [] pos) (Wk i1 i2 i3 t1 t2 t3 tb):=#[Cm h fun D2 σ H hh=>by
 obtain⟨B,z,τ,D3,r,ht,c⟩:=hh
 refine#[B,z,τ,_,r,ht,fun s v q1 e1 j1 f1 h1=>?_]
 obtain⟨xs,rfl,h1⟩:=h1
 have r1:=r.mono e1
 refine#[B,q1.z,τ,_,r1,h1,fun s v2 q2 e2 j2 f2 h2=>?_]
 obtain⟨ys,rfl,h2⟩:=h2
 have r2:=r1.mono e2
 refine#[B,q2.z,τ,_,r2,h2,fun s v3 q3 e3 j3 f3 h3=>?_]
 obtain⟨zs,rfl,h3⟩:=h3
 have r3:=r2.mono e3
 obtain⟨a1,vs1,rfl,k1,iv1⟩:=j1
 obtain⟨a2,vs2,rfl,k2,iv2⟩:=Is.tup_inv j2
 obtain⟨a3,vs3,rfl,k3,iv3⟩:=Is.tup_inv j3
 obtain⟨I,i0,turn,out⟩:=h3
 have k1':q3.h a1=some (.lst vs1):=e3.hh _ _ (e2.hh _ _ k1)
 have k2':SqT X.K q3.z a2 vs2:=SqT.same e3.zz k2
 have iv1':Iss X.K q3.z vs1 xs:=(iv1.mono e2.zz).mono e3.zz
 have iv2':Iss X.K q3.z vs2 ys:=iv2.mono e3.zz
 have hno:∀(m:Nat)(ys:List D),τ[m]? = some (some (S.l ys))->σ[m]?≠some (some (V.ref a1)):=fun m ys hm hσ=>by
  obtain⟨ws,hw,_⟩:=r.own_list hm hσ
  have:=(f1 xs a1 rfl rfl).1
  rw[hw] at this
  cases this
 have hB:SqL X.K (JM τ σ q3.h) a1 vs1:=.inl (.inl (by rw[FJ hno];exact k1'))
 have l1:=iv1'.1
 have l2:=iv2'.1
 have l3:=iv3.1
 refine#[a1,a2,a3,rfl,#[vs1,SqL.of k1'],#[vs2,SqT.same r3.ext.sub k2'],#[vs3,SqT.same r3.ext.sub k3],fun n m σ1 H1=>m=min vs1.length (min vs2.length vs3.length)-n/\n<=min vs1.length (min vs2.length vs3.length)/\∃z1 τ1,Rep X #[JM τ σ q3.h,q3.z] τ1 σ1 #[H1,z1]/\I n τ1,#[_,rfl,qA3 _,q3.z,_,r3.inB,i0],?_]
 rintro n m σ1 H1 ⟨rfl,hn,z1,τ1,r4,ih1⟩
 have q1:SqB X.K false H1 a1 vs1:=r4.ext.hh.seq hB
 have q2:SqB X.K true H1 a2 vs2:=SqT.same (r4.ext.zz.trans r4.ext.sub) k2'
 have q3':SqB X.K true H1 a3 vs3:=SqT.same (r4.ext.zz.trans r4.ext.sub) k3
 by_cases hlt:n<min vs1.length (min vs2.length vs3.length)
 .have b1:n<vs1.length:=()
  have b2:n<vs2.length:=()
  have b3:n<vs3.length:=()
  refine .inr #[#[vs1,vs2,vs3,vs1[n],vs2[n],vs3[n],q1,q2,q3',by simp[b1],by simp[b2],by simp[b3]],fun σ' H'=>∃z' τ',Rep X #[JM τ σ q3.h,q3.z] τ' σ' #[H',z']/\I (n+1) τ',fun σ' H' p'=>#[min vs1.length (min vs2.length vs3.length)-(n+1),(),rfl,hlt,p'],fun x H' y=>?_]
  obtain⟨p,w1,w2,w3,hp,rfl,y1,y2,y3,rfl⟩:=y
  obtain⟨d1,g1,id1⟩:=BU iv1' (y1 vs1 q1)
  obtain⟨d2,g2,id2⟩:=BU iv2' (y2 vs2 q2)
  obtain⟨d3,g3,id3⟩:=BU iv3 (y3 vs3 q3')
  have e1:Ext #[H1,z1] #[upd H1 p (.tup [w1,w2,w3]),z1]:=Ext.own r4.ext.sub hp _
  have r5:=r4.mono e1
  refine#[p,[w1,w2,w3],rfl,.inl (.inl Au),rfl,w1,[w2,w3],rfl,w2,[w3],rfl,w3,[],rfl,rfl,?_]
  exact#[_,_,_,_,((r5.setd (i:=i1) (id1.mono r4.ext.zz) hp1).setd (i:=i2) (id2.mono r4.ext.zz) hp2).setd (i:=i3) (id3.mono r4.ext.zz) hp3,turn n τ1 d1 d2 d3 g1 g2 g3 ih1,c.inB r3.leB fun τ' σ' p' r' h'=>#[p'.z,τ',r',h']]
 .have e:n=min vs1.length (min vs2.length vs3.length):=()
  subst e
  refine .inl #[#[vs1,vs2,vs3,q1,q2,q3',()],c.nx _ _ _ (r4.outB r3.leB) (out τ1 ?_)]
  rw[<-l1,<-l2,<-l3]
  exact ih1]
end
def WI (te:TE3):TT3:=fun τ R=>te τ fun s=>∃xs,s=.l xs/\R (!xs.isEmpty)
theorem Sw {X:Cx}{e:Expr}{te:TE3}(h:PE3 X e te) (he:∀whole,isTrue e X.env whole=(do let v <-whole;standAt e.pos;holding [v] (truthy v)):=by intro _;rfl):PT3 X e (WI te):=#[K4 (MW h.out he) fun σ H Q hh=>by
 obtain⟨B,z,τ,R,r,ht,q⟩:=hh
 refine#[B,z,τ,_,r,ht,fun s v q1 e1 i1 f1 h1=>?_]
 obtain⟨xs,rfl,h1⟩:=h1
 obtain⟨a,vs,rfl,h3,h4⟩:=i1
 exact#[!vs.isEmpty,.inl #[vs,SqL.of h3,rfl],q _ q1 e1 (by rw[Iq h4];exact h1)]]
end L3
namespace CH
open PySem L2 L3
def W8 (fc:Cs)(fm:Rat)(gc:Cs)(gm:Rat)(t s:Rat):Prop:=s=0\/s=t\/(∃k,0<k/\k<fc.length/\tt fc k=s/\slp fc fm (k-1)<slp fc fm k)\/∃k,0<k/\k<gc.length/\tt gc k=t-s/\slp gc gm (k-1)<slp gc gm k
theorem QC {fc gc:Cs}{fm gm:Rat}(of:Ord fc) (og:Ord gc){t:Rat}(t0:0<=t):∃s,(0<=s/\s<=t)/\W8 fc fm gc gm t s/\∀r,0<=r->r<=t->val fc fm s+val gc gm (t-s)<=val fc fm r+val gc gm (t-r):=by
 obtain⟨F,hF⟩:∃F:List Rat,F=(0:Rat)::t::(((List.range fc.length).map (tt fc)).filter (fun x=>decide (x<=t))++((List.range gc.length).map fun k=>t-tt gc k).filter fun x=>decide (0<=x)):=#[_,rfl]
 have f0:(0:Rat)∈F:=by rw[hF];exact qAo.mpr (.inl rfl)
 have fT:t∈F:=by rw[hF];exact qAo.mpr (.inr (qAo.mpr (.inl rfl)))
 have ff:∀k,k<fc.length->tt fc k<=t->tt fc k∈F:=fun k hk h=>by
  rw[hF]
  exact qAo.mpr (.inr (qAo.mpr (.inr (qAA.mpr (.inl (qA7.mpr #[qA5.mpr #[k,qAW.mpr hk,rfl],decide_eq_true h]))))))
 have fg:∀k,k<gc.length->tt gc k<=t->t-tt gc k∈F:=fun k hk h=>by
  rw[hF]
  exact qAo.mpr (.inr (qAo.mpr (.inr (qAA.mpr (.inr (qA7.mpr #[qA5.mpr #[k,qAW.mpr hk,rfl],decide_eq_true ⋯]))))))
 have nn:∀x∈F,0<=x/\x<=t:=fun x hx=>by
  rw[hF] at hx
  rcases qAo.mp hx with rfl|hx
  .exact#[qAi,t0]
  rcases qAo.mp hx with rfl|hx
  .exact#[t0,qAi]
  rcases qAA.mp hx with hx|hx
  .obtain⟨h1,h2⟩:=qA7.mp hx
   obtain⟨k,hk,rfl⟩:=qA5.mp h1
   have:=BI of.up (i:=0) (j:=k) () (qAW.mp hk)
   rw[of.t0] at this
   exact#[this,of_decide_eq_true h2]
  .obtain⟨h1,h2⟩:=qA7.mp hx
   obtain⟨k,hk,rfl⟩:=qA5.mp h1
   have:=BI og.up (i:=0) (j:=k) () (qAW.mp hk)
   rw[og.t0] at this
   exact#[of_decide_eq_true h2,⋯]
 clear hF
 obtain⟨w,hw⟩:∃w:Rat->Rat,w=fun s=>val fc fm s+val gc gm (t-s):=#[_,rfl]
 have we:∀s,w s=val fc fm s+val gc gm (t-s):=fun s=>by rw[hw]
 have amid:∀p n,p∈F->n∈F->(∀x∈F,x<=p\/n<=x)->∀x,p<=x->x<=n->w x=w p+(sat fc fm p-sat gc gm (t-n))*(x-p):=fun p n hp hn h x x1 x2=>by
  have p0:=nn p hp
  have n0:=nn n hn
  have e1:=PB (m:=fm) of (a:=p) (b:=n) (x:=x) p0.1 (fun k hk=>by
   by_cases c:tt fc k<=t
   .exact h _ (ff k hk c)
   .right;grind) x1 x2
  have hg:∀k,k<gc.length->tt gc k<=t-n\/t-p<=tt gc k:=fun k hk=>by
   by_cases c:tt gc k<=t
   .rcases h _ (fg k hk c) with y|y
    .right;grind
    .left;grind
   .right;grind
  have e2:=PB (m:=gm) og (a:=t-n) (b:=t-p) (x:=t-x) ⋯ hg ⋯ ⋯
  have e3:=PB (m:=gm) og (a:=t-n) (b:=t-p) (x:=t-p) ⋯ hg ⋯ ⋯
  rw[we,we,e1,e2,e3]
  grind
 obtain⟨y0,hy0,_,my0⟩:=Oc (fun x=>-w x) (fun _=>True) F #[0,f0,trivial]
 obtain⟨y,hy,py,my⟩:=Oc (fun x=>-x) (fun x=>w x=w y0) F #[y0,hy0,rfl]
 have best:∀x∈F,w y<=w x:=fun x hx=>by
  have:=my0 x hx trivial
  rw[py]
  grind
 have first:∀x∈F,x<y->w y<w x:=fun x hx lt=>by
  refine qA8.mp fun z=>?_
  have b:=best x hx
  have:=my x hx (by rw[<-py];grind)
  grind
 have next:∀v,v<t->∃n∈F,v<n/\∀x∈F,x<=v\/n<=x:=fun v lv=>by
  obtain⟨n,hn,pn,mn'⟩:=Oc (fun x=>-x) (fun x=>v<x) F #[t,fT,lv]
  refine#[n,hn,pn,fun x hx=>?_]
  by_cases d:v<x
  .right
   have:=mn' x hx d
   grind
  .left;grind
 refine#[y,nn y hy,?_,fun v v0 vt=>?_]
 .by_cases c:y=0
  .exact .inl c
  right
  by_cases c2:y=t
  .exact .inl c2
  right
  have yy:=nn y hy
  have y0':0<y:=⋯
  have yt:y<t:=⋯
  obtain⟨p,hp,lp,mp'⟩:=Oc (fun x=>x) (fun x=>x<y) F #[0,f0,y0']
  have gapF:∀x∈F,x<=p\/y<=x:=fun x hx=>by
   by_cases d:x<y
   .left;exact mp' x hx d
   .right;grind
  have a:=amid p y hp hy gapF y (qAp lp) qAi
  have f1:=first p hp lp
  have s1:sat fc fm p-sat gc gm (t-y)<0:=by
   refine qA8.mp fun z=>?_
   have:0<=(sat fc fm p-sat gc gm (t-y))*(y-p):=qAj z ⋯
   grind
  obtain⟨n,hn,ln,gn⟩:=next y yt
  have s2:0<=sat fc fm y-sat gc gm (t-n):=by
   have a2:=amid y n hy hn gn n (qAp ln) qAi
   have b:=best n hn
   refine qAM.mp fun z=>?_
   have:=qBx (show 0 < -(sat fc fm y-sat gc gm (t-n)) from ⋯) (show 0<n-y from ⋯)
   grind
  have p0:=nn p hp
  have n0:=nn n hn
  by_cases d:sat fc fm p<sat fc fm y
  .left
   obtain⟨k,k0,kl,e,e1,e2⟩:=Ql (m:=fm) of p0.1 lp (fun k hk=>by
    by_cases c:tt fc k<=t
    .exact gapF _ (ff k hk c)
    .right;grind) ⋯
   exact#[k,k0,kl,e,by rw[e1,e2];exact d]
  .right
   obtain⟨k,k0,kl,e,e1,e2⟩:=Ql (m:=gm) og (a:=t-n) (c:=t-y) ⋯ ⋯ (fun k hk=>by
    by_cases c:tt gc k<=t
    .rcases gn _ (fg k hk c) with z|z
     .right;grind
     .left;grind
    .right;grind) ⋯
   exact#[k,k0,kl,e,by rw[e1,e2];grind]
 .rw[<-we,<-we]
  by_cases vt':v=t
  .rw[vt'];exact best t fT
  obtain⟨p,hp,lp,mp'⟩:=Oc (fun x=>x) (fun x=>x<=v) F #[0,f0,v0]
  obtain⟨n,hn,ln,gn⟩:=next v ⋯
  have gF:∀x∈F,x<=p\/n<=x:=fun x hx=>by
   rcases gn x hx with z|z
   .left;exact mp' x hx z
   .right;exact z
  have e1:=amid p n hp hn gF v lp (qAp ln)
  have e2:=amid p n hp hn gF n ⋯ qAi
  have b1:=best p hp
  have b2:=best n hn
  rcases Rat.le_total (a:=sat fc fm p-sat gc gm (t-n)) (b:=0) with z|z
  .have:0<=(-(sat fc fm p-sat gc gm (t-n)))*(n-v):=qAj ⋯ ⋯
   grind
  .have:0<=(sat fc fm p-sat gc gm (t-n))*(v-p):=qAj z ⋯
   grind
def IsJ (fc:Cs)(fm:Rat)(gc:Cs)(gm:Rat)(t v:Rat):Prop :=
 (v<=val fc fm t/\v<=val gc gm t/\∀s,0<=s->s<=t->v<=val fc fm s+val gc gm (t-s))/\(v=val fc fm t\/v=val gc gm t\/∃s,0<=s/\s<=t/\v=val fc fm s+val gc gm (t-s))
theorem IsJ.uniq {fc gc:Cs}{fm gm t v w:Rat}(a:IsJ fc fm gc gm t v) (b:IsJ fc fm gc gm t w):v=w:=by
 obtain⟨⟨a1,a2,a3⟩,a4⟩:=a
 obtain⟨⟨b1,b2,b3⟩,b4⟩:=b
 refine qCI ?_ ?_
 .rcases b4 with e|e|⟨s,s0,s1,e⟩
  .rw[e];exact a1
  .rw[e];exact a2
  .rw[e];exact a3 s s0 s1
 .rcases a4 with e|e|⟨s,s0,s1,e⟩
  .rw[e];exact b1
  .rw[e];exact b2
  .rw[e];exact b3 s s0 s1
theorem IsJ.cong {fc gc fc' gc':Cs}{fm gm fm' gm' t v:Rat}(h:IsJ fc fm gc gm t v) (t0:0<=t) (e1:∀x,0<=x->val fc fm x=val fc' fm' x) (e2:∀x,0<=x->val gc gm x=val gc' gm' x):IsJ fc' fm' gc' gm' t v:=by
 obtain⟨⟨a1,a2,a3⟩,a4⟩:=h
 refine#[#[by rw[<-e1 _ t0];exact a1,by rw[<-e2 _ t0];exact a2,fun s s0 s1=>by rw[<-e1 _ s0,<-e2 _ ⋯];exact a3 s s0 s1],?_]
 rcases a4 with e|e|⟨s,s0,s1,e⟩
 .exact .inl (by rw[<-e1 _ t0];exact e)
 .exact .inr (.inl (by rw[<-e2 _ t0];exact e))
 .exact .inr (.inr #[s,s0,s1,by rw[<-e1 _ s0,<-e2 _ ⋯];exact e])
theorem Sq {fc gc:Cs}{fm gm:Rat}(of:Ord fc) (og:Ord gc){t v:Rat}(t0:0<=t) (hf:v<=val fc fm t) (hg:v<=val gc gm t)
 (h1:∀k,0<k->k<fc.length->slp fc fm (k-1)<slp fc fm k->tt fc k<=t->v<=vv fc k+val gc gm (t-tt fc k))
 (h2:∀k,0<k->k<gc.length->slp gc gm (k-1)<slp gc gm k->tt gc k<=t->v<=vv gc k+val fc fm (t-tt gc k))
 (at_:v=val fc fm t\/v=val gc gm t\/∃s,0<=s/\s<=t/\v=val fc fm s+val gc gm (t-s)):IsJ fc fm gc gm t v:=by
 refine#[#[hf,hg,fun r r0 r1=>?_],at_]
 obtain⟨s,⟨s0,s1⟩,cw,best⟩:=QC (fm:=fm) (gm:=gm) of og t0
 refine qAy ?_ (best r r0 r1)
 rcases cw with rfl|rfl|⟨k,k0,kl,e,z⟩|⟨k,k0,kl,e,z⟩
 .have:=of.v0
  rw[<-Gw (m:=fm) of] at this
  rw[show t-0=t from ⋯]
  grind
 .have:=og.v0
  rw[<-Gw (m:=gm) og] at this
  rw[show s-s=0 from ⋯]
  grind
 .have:=h1 k k0 kl z (by rw[e];exact s1)
  rw[<-CB (m:=fm) of kl,e] at this
  exact this
 .have:=h2 k k0 kl z (by rw[e];grind)
  rw[<-CB (m:=gm) og kl,e,show t-(t-s)=s from ⋯] at this
  grind
def Cvx (cs:Cs)(m:Rat):Prop:=∀k,k+1<cs.length->slp cs m k<=slp cs m (k+1)
section
variable {cs:Cs}{m σ:Rat}
theorem Cvx.mono (h:Cvx cs m){i:Nat}:∀{j:Nat},i<=j->j<cs.length->slp cs m i<=slp cs m j
 |0,ij,_=>by
  have:i=0:=()
  subst this
  exact qAi
 |j+1,ij,hj=>by
  by_cases e:i=j+1
  .subst e;exact qAi
  .exact qAy (Cvx.mono h (show i<=j from ()) ()) (h j hj)
theorem Se (h:flI cs m=[]):Cvx cs m:=fun k hk=>by
 refine qAM.mp fun z=>?_
 have:k+1∈flI cs m:=TH.mpr #[hk,(),z]
 rw[h] at this
 cases this
structure Sub (cs:Cs)(m:Rat)(j:Nat)(σ:Rat):Prop where
 lt:j<cs.length
 be:∀k,k<j->slp cs m k<=σ
 ah:∀k,j<=k->k<cs.length->σ<=slp cs m k
theorem Sub.up_c (u:Up cs)(h:Sub cs m j σ):∀d,j+d<cs.length->vv cs j+σ*(tt cs (j+d)-tt cs j)<=vv cs (j+d)
 |0,_=>by
  show vv cs j+σ*(tt cs j-tt cs j)<=vv cs j
  grind
 |d+1,hd=>by
  have ih:=Sub.up_c u h d ()
  have e:=Hu (m:=m) u (k:=j+d) hd
  have s:=h.ah (j+d) () ()
  have t:=u (j+d) hd
  have p:0<=(slp cs m (j+d)-σ)*(tt cs (j+d+1)-tt cs (j+d)):=qAj ⋯ ⋯
  show vv cs j+σ*(tt cs (j+d+1)-tt cs j)<=vv cs (j+d+1)
  rw[e]
  grind
theorem Sub.dn_c (u:Up cs)(h:Sub cs m j σ):∀d,d<=j->vv cs j+σ*(tt cs (j-d)-tt cs j)<=vv cs (j-d)
 |0,_=>by
  show vv cs j+σ*(tt cs j-tt cs j)<=vv cs j
  grind
 |d+1,hd=>by
  have ih:=Sub.dn_c u h d ()
  have jl:=h.lt
  have ej:j-(d+1)+1=j-d:=()
  have e:=Hu (m:=m) u (k:=j-(d+1)) ()
  have s:=h.be (j-(d+1)) ()
  have t:=u (j-(d+1)) ()
  rw[ej] at e t
  have p:0<=(σ-slp cs m (j-(d+1)))*(tt cs (j-d)-tt cs (j-(d+1))):=qAj ⋯ ⋯
  grind
theorem Sub.at_c (u:Up cs)(h:Sub cs m j σ){k:Nat}(hk:k<cs.length):vv cs j+σ*(tt cs k-tt cs j)<=vv cs k:=by
 by_cases c:j<=k
 .have:=h.up_c u (k-j) ()
  rw[show j+(k-j)=k from ()] at this
  exact this
 .have:=h.dn_c u (j-k) ()
  rw[show j-(j-k)=k from ()] at this
  exact this
theorem Sub.val (o:Ord cs)(h:Sub cs m j σ){x:Rat}(x0:0<=x):vv cs j+σ*(x-tt cs j)<=val cs m x:=by
 obtain⟨kl,k1,k2⟩:=Ez o x0
 have e:CH.val cs m x=vv cs (plc cs x cs.length)+slp cs m (plc cs x cs.length)*(x-tt cs (plc cs x cs.length)):=rfl
 rw[e]
 clear e
 generalize plc cs x cs.length=k at *
 by_cases c:j<=k
 .have a:=h.at_c o.up kl
  have s:=h.ah k c kl
  have p:0<=(slp cs m k-σ)*(x-tt cs k):=qAj ⋯ ⋯
  grind
 .have jl:=h.lt
  have a:=h.at_c o.up (k:=k+1) ()
  have s:=h.be k ()
  have e:=Hu (m:=m) o.up (k:=k) ()
  have t:=k2 ()
  have p:0<=(σ-slp cs m k)*(tt cs (k+1)-x):=qAj ⋯ ⋯
  grind
theorem LV (o:Ord cs){i:Nat}(il:i<cs.length) (h:∀k,i<=k->k<cs.length->slp cs m k=σ){x:Rat}(hx:tt cs i<=x):val cs m x=vv cs i+σ*(x-tt cs i):=by
 have c:∀d,i+d<cs.length->vv cs (i+d)=vv cs i+σ*(tt cs (i+d)-tt cs i):=fun d=>by
  induction d with
  |zero=>intro _;show vv cs i=vv cs i+σ*(tt cs i-tt cs i);grind
  |succ d ih =>
   intro hd
   have e:=Hu (m:=m) o.up (k:=i+d) hd
   have ih:=ih ()
   rw[h (i+d) () ()] at e
   show vv cs (i+d+1)=_+σ*(tt cs (i+d+1)-_)
   grind
 have x0:0<=x:=qAy (Dn o il) hx
 obtain⟨kl,k1,k2⟩:=Ez o x0
 have ik:i<=plc cs x cs.length:=by
  refine qBz fun z=>?_
  have t:=k2 ()
  have:=BI o.up (i:=plc cs x cs.length+1) (j:=i) () il
  grind
 have e:CH.val cs m x=vv cs (plc cs x cs.length)+slp cs m (plc cs x cs.length)*(x-tt cs (plc cs x cs.length)):=rfl
 rw[e]
 clear e
 generalize plc cs x cs.length=k at *
 have ck:=c (k-i) ()
 rw[show i+(k-i)=k from ()] at ck
 rw[h k ik kl,ck]
 grind
end
def wI (W:List (Nat×Nat))(n:Nat):Nat:=(W.getD n (0,0)).1
def wJ (W:List (Nat×Nat))(n:Nat):Nat:=(W.getD n (0,0)).2
def mcs (fc gc:Cs)(W:List (Nat×Nat)):Cs:=W.map fun w=>(tt fc w.1+tt gc w.2,vv fc w.1+vv gc w.2)
theorem EH {fc gc:Cs}{W:List (Nat×Nat)}:(mcs fc gc W).length=W.length:=qAa _
theorem BK {fc gc:Cs}{W:List (Nat×Nat)}{n:Nat}(h:n<W.length):tt (mcs fc gc W) n=tt fc (wI W n)+tt gc (wJ W n)/\vv (mcs fc gc W) n=vv fc (wI W n)+vv gc (wJ W n):=by
 have hl:n<(mcs fc gc W).length:=by rw[EH];exact h
 have e:(mcs fc gc W)[n]? = some (tt fc (wI W n)+tt gc (wJ W n),vv fc (wI W n)+vv gc (wJ W n)):=by
  unfold mcs wI wJ
  rw[qAe,qAb h,qAd,qAb h]
  rfl
 rw[qAb hl] at e
 have e:=qAl e
 rw[(FW hl).1,(FW hl).2,e]
 exact#[rfl,rfl]
structure RI (fc:Cs)(fm:Rat)(gc:Cs)(gm last:Rat)(W:List (Nat×Nat)):Prop where
 ne:0<W.length
 z0:wI W 0=0/\wJ W 0=0
 st:∀n,n+1<W.length->∃σ,Sub fc fm (wI W n) σ/\Sub gc gm (wJ W n) σ/\((wI W (n+1)=wI W n+1/\wJ W (n+1)=wJ W n/\wI W n+1<fc.length/\σ=slp fc fm (wI W n))\/(wI W (n+1)=wI W n/\wJ W (n+1)=wJ W n+1/\wJ W n+1<gc.length/\σ=slp gc gm (wJ W n)))
 en:Sub fc fm (wI W (W.length-1)) last/\Sub gc gm (wJ W (W.length-1)) last
section
variable {fc gc:Cs}{fm gm last:Rat}{W:List (Nat×Nat)}
theorem RI.ord (h:RI fc fm gc gm last W)(of:Ord fc)(og:Ord gc):Ord (mcs fc gc W):=by
 refine#[by rw[EH];exact h.ne,?_,?_,fun n hn=>?_,fun n hn=>?_]
 .rw[(BK h.ne).1,h.z0.1,h.z0.2,of.t0,og.t0];grind
 .rw[(BK h.ne).2,h.z0.1,h.z0.2]
  have:=of.v0
  have:=og.v0
  grind
 .rw[EH] at hn
  rw[(BK hn).1,(BK (show n<W.length from ())).1]
  obtain⟨σ,_,_,⟨e1,e2,l,_⟩|⟨e1,e2,l,_⟩⟩:=h.st n hn
  .rw[e1,e2];have:=of.up _ l;grind
  .rw[e1,e2];have:=og.up _ l;grind
 .rw[EH] at hn
  rw[(BK hn).2,(BK (show n<W.length from ())).2]
  obtain⟨σ,_,_,⟨e1,e2,l,_⟩|⟨e1,e2,l,_⟩⟩:=h.st n hn
  .rw[e1,e2];have:=of.vu _ l;grind
  .rw[e1,e2];have:=og.vu _ l;grind
theorem RI.slp (h:RI fc fm gc gm last W)(of:Ord fc)(og:Ord gc){n:Nat}(hn:n+1<W.length):∃σ,CH.slp (mcs fc gc W) last n=σ/\Sub fc fm (wI W n) σ/\Sub gc gm (wJ W n) σ/\((wI W (n+1)=wI W n+1/\wJ W (n+1)=wJ W n/\wI W n+1<fc.length/\σ=CH.slp fc fm (wI W n))\/(wI W (n+1)=wI W n/\wJ W (n+1)=wJ W n+1/\wJ W n+1<gc.length/\σ=CH.slp gc gm (wJ W n))):=by
 obtain⟨σ,s1,s2,c⟩:=h.st n hn
 refine#[σ,?_,s1,s2,c]
 rw[BX (by rw[EH];exact hn),(BK hn).1,(BK hn).2,(BK (show n<W.length from ())).1,(BK (show n<W.length from ())).2]
 rcases c with⟨e1,e2,l,e⟩|⟨e1,e2,l,e⟩
 .rw[e1,e2,e,BX l]
  have:∀a b c d x y:Rat,(a+x-(b+x))/(c+y-(d+y))=(a-b)/(c-d):=fun a b c d x y=>by rw[show a+x-(b+x)=a-b from ⋯,show c+y-(d+y)=c-d from ⋯]
  exact this _ _ _ _ _ _
 .rw[e1,e2,e,BX l]
  have:∀a b c d x y:Rat,(x+a-(x+b))/(y+c-(y+d))=(a-b)/(c-d):=fun a b c d x y=>by rw[show x+a-(x+b)=a-b from ⋯,show y+c-(y+d)=c-d from ⋯]
  exact this _ _ _ _ _ _
theorem RI.val (h:RI fc fm gc gm last W)(of:Ord fc)(og:Ord gc)(cf:Cvx fc fm)(cg:Cvx gc gm)(hl:last=fm\/last=gm){t:Rat}(t0:0<=t):(∀r,0<=r->r<=t->CH.val (mcs fc gc W) last t<=CH.val fc fm r+CH.val gc gm (t-r))/\∃s,0<=s/\s<=t/\CH.val (mcs fc gc W) last t=CH.val fc fm s+CH.val gc gm (t-s):=by
 have o:=h.ord of og
 obtain⟨nl,n1,n2⟩:=Ez o t0
 have e:CH.val (mcs fc gc W) last t=vv (mcs fc gc W) (plc (mcs fc gc W) t (mcs fc gc W).length)+CH.slp (mcs fc gc W) last (plc (mcs fc gc W) t (mcs fc gc W).length)*(t-tt (mcs fc gc W) (plc (mcs fc gc W) t (mcs fc gc W).length)):=rfl
 rw[e]
 clear e
 generalize plc (mcs fc gc W) t (mcs fc gc W).length=n at *
 rw[EH] at nl n2
 have ea:=BK (fc:=fc) (gc:=gc) nl
 rw[ea.1] at n1
 rw[ea.1,ea.2]
 have low:∀σ,Sub fc fm (wI W n) σ->Sub gc gm (wJ W n) σ->∀r,0<=r->r<=t->vv fc (wI W n)+vv gc (wJ W n)+σ*(t-(tt fc (wI W n)+tt gc (wJ W n)))<=CH.val fc fm r+CH.val gc gm (t-r):=fun σ s1 s2 r r0 r1=>by
  have a:=s1.val of r0
  have b:=s2.val og (x:=t-r) ⋯
  grind
 by_cases c:n+1<W.length
 .obtain⟨σ,es,s1,s2,cs⟩:=h.slp of og c
  rw[es]
  refine#[low σ s1 s2,?_]
  have t2:=n2 c
  rw[(BK c).1] at t2
  have i0:=Dn of s1.lt
  have j0:=Dn og s2.lt
  rcases cs with⟨e1,e2,l,e⟩|⟨e1,e2,l,e⟩
  .rw[e1,e2] at t2
   refine#[t-tt gc (wJ W n),⋯,⋯,?_]
   rw[show t-(t-tt gc (wJ W n))=tt gc (wJ W n) from ⋯,CB og s2.lt,Ey (m:=fm) of.up (k:=wI W n) #[s1.lt,⋯,fun _=>⋯],e]
   grind
  .rw[e1,e2] at t2
   refine#[tt fc (wI W n),i0,⋯,?_]
   rw[CB of s1.lt,Ey (m:=gm) og.up (k:=wJ W n) (t:=t-tt fc (wI W n)) #[s2.lt,⋯,fun _=>⋯],e]
   grind
 .have en:n=W.length-1:=()
  rw[Bb (by rw[EH];exact c)]
  obtain⟨s1,s2⟩:=h.en
  rw[<-en] at s1 s2
  refine#[low last s1 s2,?_]
  have i0:=Dn of s1.lt
  have j0:=Dn og s2.lt
  have nf:=of.ne
  have ng:=og.ne
  rcases hl with hl|hl
  .refine#[t-tt gc (wJ W n),⋯,⋯,?_]
   rw[show t-(t-tt gc (wJ W n))=tt gc (wJ W n) from ⋯,CB og s2.lt,LV (σ:=last) of s1.lt (fun k k1 k2=>?_) ⋯]
   .grind
   .have a:=s1.ah k k1 k2
    have b:=cf.mono (i:=k) (j:=fc.length-1) () ()
    rw[Bb (k:=fc.length-1) ()] at b
    exact qCI (by rw[hl];exact b) a
  .refine#[tt fc (wI W n),i0,⋯,?_]
   rw[CB of s1.lt,LV (σ:=last) og s2.lt (x:=t-tt fc (wI W n)) (fun k k1 k2=>?_) ⋯]
   .grind
   .have a:=s2.ah k k1 k2
    have b:=cg.mono (i:=k) (j:=gc.length-1) () ()
    rw[Bb (k:=gc.length-1) ()] at b
    exact qCI (by rw[hl];exact b) a
end
theorem K2 {W:List (Nat×Nat)}{w:Nat×Nat}{n:Nat}(h:n<W.length):wI (W++[w]) n=wI W n/\wJ (W++[w]) n=wJ W n:=by
 unfold wI wJ
 rw[qAd,qAd,qAv h]
 exact#[rfl,rfl]
theorem WD {W:List (Nat×Nat)}{w:Nat×Nat}:wI (W++[w]) W.length=w.1/\wJ (W++[w]) W.length=w.2:=by
 unfold wI wJ
 rw[qAd,qAz (qAc _),qBX]
 exact#[rfl,rfl]
structure H4 (fc:Cs)(fm:Rat)(gc:Cs)(gm:Rat)(i j:Nat)(W:List (Nat×Nat)):Prop where
 il:i<fc.length
 jl:j<gc.length
 ne:0<W.length
 z0:wI W 0=0/\wJ W 0=0
 st:∀n,n+1<W.length->∃σ,Sub fc fm (wI W n) σ/\Sub gc gm (wJ W n) σ/\((wI W (n+1)=wI W n+1/\wJ W (n+1)=wJ W n/\wI W n+1<fc.length/\σ=slp fc fm (wI W n))\/(wI W (n+1)=wI W n/\wJ W (n+1)=wJ W n+1/\wJ W n+1<gc.length/\σ=slp gc gm (wJ W n)))
 en:wI W (W.length-1)=i/\wJ W (W.length-1)=j
 fg:∀k l,k<i->j<=l->l<gc.length->slp fc fm k<=slp gc gm l
 gf:∀k l,k<j->i<=l->l<fc.length->slp gc gm k<=slp fc fm l
 wl:W.length=i+j+1
section
variable {fc gc:Cs}{fm gm last:Rat}{W:List (Nat×Nat)}{i j:Nat}
theorem H4.start (of:Ord fc)(og:Ord gc):H4 fc fm gc gm 0 0 [(0,0)] :=
 #[of.ne,og.ne,∅,#[rfl,rfl],fun n hn=>absurd hn (by show ¬n+1<1;omega),#[rfl,rfl],fun k _ h=>absurd h (qA9 k),fun k _ h=>absurd h (qA9 k),rfl]
theorem H4.f (h:H4 fc fm gc gm i j W)(cf:Cvx fc fm)(i1:i+1<fc.length)(hs:∀l,j<=l->l<gc.length->slp fc fm i<=slp gc gm l):H4 fc fm gc gm (i+1) j (W++[(i+1,j)]):=by
 have n:=h.ne
 have lw:(W++[(i+1,j)]).length=W.length+1:=by simp
 have r:=WD (W:=W) (w:=(i+1,j))
 refine#[i1,h.jl,(),by rw[(K2 n).1,(K2 n).2];exact h.z0,fun m hm=>?_,by rw[lw];exact r,fun k l hk hl ll=>?_,fun k l hk hl ll=>h.gf k l hk () ll,by rw[lw,h.wl];omega]
 .rw[lw] at hm
  by_cases c:m+1<W.length
  .rw[(K2 c).1,(K2 c).2,(K2 (show m<W.length from ())).1,(K2 (show m<W.length from ())).2]
   exact h.st m c
  .have em:m=W.length-1:=()
   have e2:m+1=W.length:=()
   rw[e2,r.1,r.2,(K2 (show m<W.length from ())).1,(K2 (show m<W.length from ())).2,em,h.en.1,h.en.2]
   refine#[slp fc fm i,#[h.il,fun k hk=>cf.mono () h.il,fun k hk kl=>cf.mono hk kl],#[h.jl,fun k hk=>h.gf k i hk (qAc _) h.il,hs],.inl #[rfl,rfl,i1,rfl]]
 .by_cases c:k<i
  .exact h.fg k l c hl ll
  .rw[show k=i from ()];exact hs l hl ll
theorem H4.g (h:H4 fc fm gc gm i j W)(cg:Cvx gc gm)(j1:j+1<gc.length)(hs:∀l,i<=l->l<fc.length->slp gc gm j<=slp fc fm l):H4 fc fm gc gm i (j+1) (W++[(i,j+1)]):=by
 have n:=h.ne
 have lw:(W++[(i,j+1)]).length=W.length+1:=by simp
 have r:=WD (W:=W) (w:=(i,j+1))
 refine#[h.il,j1,(),by rw[(K2 n).1,(K2 n).2];exact h.z0,fun m hm=>?_,by rw[lw];exact r,fun k l hk hl ll=>h.fg k l hk () ll,fun k l hk hl ll=>?_,by rw[lw,h.wl];omega]
 .rw[lw] at hm
  by_cases c:m+1<W.length
  .rw[(K2 c).1,(K2 c).2,(K2 (show m<W.length from ())).1,(K2 (show m<W.length from ())).2]
   exact h.st m c
  .have em:m=W.length-1:=()
   have e2:m+1=W.length:=()
   rw[e2,r.1,r.2,(K2 (show m<W.length from ())).1,(K2 (show m<W.length from ())).2,em,h.en.1,h.en.2]
   refine#[slp gc gm j,#[h.il,fun k hk=>h.fg k j hk (qAc _) h.jl,hs],#[h.jl,fun k hk=>cg.mono () h.jl,fun k hk kl=>cg.mono hk kl],.inr #[rfl,rfl,j1,rfl]]
 .by_cases c:k<j
  .exact h.gf k l c hl ll
  .rw[show k=j from ()];exact hs l hl ll
theorem Qi {cs:Cs}{m:Rat}(o:Ord cs) (c:Cvx cs m){last:Rat}(hl:last<=m):∃p,p<cs.length/\(∀k,k<p->slp cs m k<last)/\∀k,p<=k->k<cs.length->last<=slp cs m k:=by
 have n:=o.ne
 have main:∀d,d<cs.length->(∃p,p<=d/\(∀k,k<p->slp cs m k<last)/\last<=slp cs m p)\/∀k,k<=d->slp cs m k<last:=fun d=>by
  induction d with
  |zero =>
   intro _
   by_cases z:slp cs m 0<last
   .right;intro k hk;rw[show k=0 from ()];exact z
   .left;exact#[0,qAc _,fun k hk=>absurd hk (qA9 k),qAM.mp z]
  |succ d ih =>
   intro hd
   rcases ih () with⟨p,p1,p2,p3⟩|h
   .exact .inl #[p,(),p2,p3]
   .by_cases z:slp cs m (d+1)<last
    .right
     intro k hk
     by_cases e:k=d+1
     .rw[e];exact z
     .exact h k ()
    .left;exact#[d+1,qAc _,fun k hk=>h k (),qAM.mp z]
 rcases main (cs.length-1) () with⟨p,p1,p2,p3⟩|h
 .exact#[p,(),p2,fun k hk kl=>qAy p3 (c.mono hk kl)]
 .have:=h (cs.length-1) (qAc _)
  rw[Bb ()] at this
  grind
theorem H4.fin (h:H4 fc fm gc gm i j W)(h1:∀k,k<i->slp fc fm k<last)(h2:∀k,i<=k->k<fc.length->last<=slp fc fm k)(h3:∀k,k<j->slp gc gm k<last)(h4:∀k,j<=k->k<gc.length->last<=slp gc gm k):RI fc fm gc gm last W:=by
 refine#[h.ne,h.z0,h.st,?_]
 rw[h.en.1,h.en.2]
 exact#[#[h.il,fun k hk=>qAp (h1 k hk),h2],#[h.jl,fun k hk=>qAp (h3 k hk),h4]]
end
section
variable {fc gc:Cs}{fm gm:Rat}{a b c:Nat}
def slJ (fc:Cs)(fm:Rat)(gc:Cs)(gm:Rat):List Rat:=((List.range fc.length).map fun i=>slp fc fm i)++((List.range gc.length).map fun i=>slp gc gm i)
theorem Wf {i:Nat}(h:i<fc.length):slp fc fm i∈slJ fc fm gc gm:=by
 unfold slJ
 exact qAA.mpr (.inl (qA5.mpr #[i,qAW.mpr h,rfl]))
theorem V2 {i:Nat}(h:i<gc.length):slp gc gm i∈slJ fc fm gc gm:=by
 unfold slJ
 exact qAA.mpr (.inr (qA5.mpr #[i,qAW.mpr h,rfl]))
theorem SZ:(slJ fc fm gc gm).length=fc.length+gc.length:=by
 unfold slJ
 simp
def pJ (fc:Cs)(fm w v:Rat):Ps:=(GJ fc fm).map (mvP w v)
theorem OV {w v:Rat}:(pJ fc fm w v).length=fc.length:=by unfold pJ;rw[qAa,DV]
theorem N9 {w v:Rat}{i:Nat}(h:i<fc.length):bg (pJ fc fm w v) i=tt fc i+w/\ln (pJ fc fm w v) i=(slp fc fm i,vv fc i-slp fc fm i*tt fc i-slp fc fm i*w+v):=by
 unfold pJ
 have h':i<(GJ fc fm).length:=by rw[DV];exact h
 rw[(Io h').1,(Io h').2,(Ci h).1,(Ci h).2]
 exact#[rfl,rfl]
theorem VZ (of:Ord fc)(zf:LS a b c fc fm){w v:Rat}(zw:Sz a w) (zv:Sz (b+a+c+1) v){Z X:Nat}(hZ:2*(a+b+c)+5<=Z) (hX:2*a+1<=X):∀x,x<(pJ fc fm w v).length->Gz b Z (ln (pJ fc fm w v) x)/\Sz X (bg (pJ fc fm w v) x):=fun x hx=>by
 rw[OV] at hx
 rw[(N9 hx).1,(N9 hx).2]
 have l:=zf.ln of x hx
 exact#[#[l.1,((l.2.sub (l.1.mul zw)).add zv).mono ()],((zf.tm x hx).add zw).mono ()]
theorem Yt {S0:List Rat}{Z X K m:Nat}(of:Ord fc) (zf:LS a b c fc fm) (hs:∀i,i<fc.length->slp fc fm i∈S0) (h1:c<=Z) (h2:a<=X) (h3:b+c<=K) (h4:a<=m):FU (ND (GJ fc fm)) S0 (Gz b Z) (Sz X) K m (val fc fm) none (EB fc fm) (GJ fc fm):=by
 have l:=DV (cs:=fc) (m:=fm)
 refine#[(Fy of zf).mono h3 h4,Iy of,#[(Iy of).up,fun i hi=>?_,fun i hi=>.inl (J1 hi)],fun i hi=>?_]
 .rw[l] at hi;rw[(Ci hi).2];exact hs i hi
 .rw[l] at hi
  rw[(Ci hi).1,(Ci hi).2]
  have z:=zf.ln of i hi
  exact#[#[z.1,z.2.mono h1],(zf.tm i hi).mono h2]
structure JI (fc:Cs)(fm:Rat)(gc:Cs)(gm:Rat)(L1 L2:List Nat)(h:Rat->Rat):Prop where
 f:∀t,0<=t->h t<=val fc fm t
 g:∀t,0<=t->h t<=val gc gm t
 a:∀k∈L1,∀t,tt fc k<=t->h t<=vv fc k+val gc gm (t-tt fc k)
 b:∀k∈L2,∀t,tt gc k<=t->h t<=vv gc k+val fc fm (t-tt gc k)
 at_:∀t,0<=t->h t=val fc fm t\/h t=val gc gm t\/∃s,0<=s/\s<=t/\h t=val fc fm s+val gc gm (t-s)
theorem EF {a0:Rat}{h g:Rat->Rat}{t:Rat}:NI a0 h g t<=h t:=by
 unfold NI mp
 split
 .exact qAi
 .split<;>grind
theorem Pg {a0:Rat}{h g:Rat->Rat}{t:Rat}(z:a0<=t):NI a0 h g t<=g t:=by
 unfold NI mp
 split
 .grind
 .split<;>grind
theorem L6 {a0:Rat}{h g:Rat->Rat}{t:Rat}:NI a0 h g t=h t\/(a0<=t/\NI a0 h g t=g t):=by
 unfold NI mp
 split
 .exact .inl rfl
 .split
  .exact .inl rfl
  .exact .inr #[⋯,rfl]
theorem JI.start:JI fc fm gc gm [] [] (NI 0 (val fc fm) (val gc gm)) :=
 #[fun t _=>EF,fun t t0=>Pg t0,fun k hk=>absurd hk (by simp),fun k hk=>absurd hk (by simp),fun t t0=>by
  rcases L6 (a0:=0) (h:=val fc fm) (g:=val gc gm) (t:=t) with e|⟨_,e⟩
  .exact .inl e
  .exact .inr (.inl e)]
theorem JI.stepA {L1 L2:List Nat}{h:Rat->Rat}(j:JI fc fm gc gm L1 L2 h) (of:Ord fc){k:Nat}(hk:k<fc.length):JI fc fm gc gm (L1++[k]) L2 (NI (tt fc k) h (fun t=>val gc gm (t-tt fc k)+vv fc k)):=by
 have k0:=Dn of hk
 refine#[fun t t0=>qAy EF (j.f t t0),fun t t0=>qAy EF (j.g t t0),fun i hi t h1=>?_,fun i hi t h1=>qAy EF (j.b i hi t h1),fun t t0=>?_]
 .rcases qAA.mp hi with z|z
  .exact qAy EF (j.a i z t h1)
  .rcases qAF.mp z with rfl
   refine qAy (Pg h1) ?_
   rw[qCW]
   exact qAi
 .rcases L6 (a0:=tt fc k) (h:=h) (g:=fun t=>val gc gm (t-tt fc k)+vv fc k) (t:=t) with e|⟨z,e⟩
  .rw[e];exact j.at_ t t0
  .refine .inr (.inr #[tt fc k,k0,z,?_])
   rw[e,CB of hk,qCW]
theorem JI.stepB {L1 L2:List Nat}{h:Rat->Rat}(j:JI fc fm gc gm L1 L2 h) (og:Ord gc){k:Nat}(hk:k<gc.length):JI fc fm gc gm L1 (L2++[k]) (NI (tt gc k) h (fun t=>val fc fm (t-tt gc k)+vv gc k)):=by
 have k0:=Dn og hk
 refine#[fun t t0=>qAy EF (j.f t t0),fun t t0=>qAy EF (j.g t t0),fun i hi t h1=>qAy EF (j.a i hi t h1),fun i hi t h1=>?_,fun t t0=>?_]
 .rcases qAA.mp hi with z|z
  .exact qAy EF (j.b i z t h1)
  .rcases qAF.mp z with rfl
   refine qAy (Pg h1) ?_
   rw[qCW]
   exact qAi
 .rcases L6 (a0:=tt gc k) (h:=h) (g:=fun t=>val fc fm (t-tt gc k)+vv gc k) (t:=t) with e|⟨z,e⟩
  .rw[e];exact j.at_ t t0
  .refine .inr (.inr #[t-tt gc k,⋯,⋯,?_])
   rw[e,show t-(t-tt gc k)=tt gc k from ⋯,CB og hk]
theorem JI.isJ {h:Rat->Rat}(j:JI fc fm gc gm (stI fc fm) (stI gc gm) h) (of:Ord fc) (og:Ord gc){t:Rat}(t0:0<=t):IsJ fc fm gc gm t (h t) :=
 Sq of og t0 (j.f t t0) (j.g t t0) (fun k k0 kl z h1=>j.a k (Fx.mpr #[kl,k0,z]) t h1) (fun k k0 kl z h1=>j.b k (Fx.mpr #[kl,k0,z]) t h1) (j.at_ t t0)
theorem GK {cs:Cs}{m t:Rat}(r:G9 cs m) (t0:0<=t):0<=val cs m t:=by
 have:=EM r qAi t0
 rw[Gw r.o] at this
 exact qAy r.o.v0 this
theorem RH (rf:G9 fc fm)(rg:G9 gc gm){x y v w:Rat}(x0:0<=x) (xy:x<=y) (p:IsJ fc fm gc gm x v) (q:IsJ fc fm gc gm y w):v<=w:=by
 obtain⟨⟨p1,p2,p3⟩,_⟩:=p
 obtain⟨_,q4⟩:=q
 rcases q4 with e|e|⟨s,s0,s1,e⟩
 .rw[e];exact qAy p1 (EM rf x0 xy)
 .rw[e];exact qAy p2 (EM rg x0 xy)
 .rw[e]
  by_cases z:s<=x
  .have h1:=p3 s s0 z
   have h2:=EM rg (show 0<=x-s from ⋯) (show x-s<=y-s from ⋯)
   grind
  .have h1:=EM rf x0 (show x<=s from ⋯)
   have h2:=GK rg (show 0<=y-s from ⋯)
   grind
theorem Pk {cs:Cs}{m u:Rat}(r:G9 cs m) (t0:0<=u):m*(u-tt cs (cs.length-1))<=val cs m u:=by
 have n:=r.o.ne
 have m0:=r.m0
 by_cases z:u<=tt cs (cs.length-1)
 .have h1:=GK r t0
  have h2:0<=m*(tt cs (cs.length-1)-u):=qAj m0 ⋯
  grind
 .rw[JZ n ⋯]
  have h1:=GK r (Dn r.o (show cs.length-1<cs.length from ()))
  rw[CB r.o ()] at h1
  grind
theorem Q5 (rf:G9 fc fm)(rg:G9 gc gm){C:Cs}{M:Rat}(o:Ord C) (q:∀t,0<=t->IsJ fc fm gc gm t (val C M t)):M=if gm<fm then gm else fm:=by
 have fn:=rf.o.ne
 have cn:=o.ne
 have gn:=rg.o.ne
 have f0:=Dn rf.o (show fc.length-1<fc.length from ())
 have c0:=Dn o (show C.length-1<C.length from ())
 have g0:=Dn rg.o (show gc.length-1<gc.length from ())
 generalize eA:tt fc (fc.length-1)+tt C (C.length-1)+tt gc (gc.length-1)=A
 have A0:0<=A:=⋯
 have lin:∀(L:Cs)(m:Rat),0<L.length->tt L (L.length-1)<=A->∀x,A<=x->val L m x=val L m A+m*(x-A):=fun L m n h x hx=>by
  rw[JZ n ⋯,JZ n h]
  grind
 have vC:=lin C M cn ⋯
 have vF:=lin fc fm fn ⋯
 have vG:=lin gc gm gn ⋯
 have u1:M<=fm:=Lr (f0:=val C M A) (g0:=val fc fm A) (a:=A) fun x hx=>by
  rw[<-vC x hx,<-vF x hx]
  exact(q x ⋯).1.1
 have u2:M<=gm:=Lr (f0:=val C M A) (g0:=val gc gm A) (a:=A) fun x hx=>by
  rw[<-vC x hx,<-vG x hx]
  exact(q x ⋯).1.2.1
 have key:∀μ:Rat,0<=μ->μ<=fm->μ<=gm->μ<=M:=fun μ m0 h1 h2=>by
  refine Lr (f0:=μ*A-fm*tt fc (fc.length-1)-gm*tt gc (gc.length-1)) (g0:=val C M A) (a:=A) fun x hx=>?_
  rw[<-vC x hx]
  have k1:0<=fm*tt fc (fc.length-1):=qAj rf.m0 f0
  have k2:0<=gm*tt gc (gc.length-1):=qAj rg.m0 g0
  have lf:∀u,0<=u->μ*u-fm*tt fc (fc.length-1)<=val fc fm u:=fun u u0=>by
   have:=Pk rf u0
   have:0<=(fm-μ)*u:=qAj ⋯ u0
   grind
  have lg:∀u,0<=u->μ*u-gm*tt gc (gc.length-1)<=val gc gm u:=fun u u0=>by
   have:=Pk rg u0
   have:0<=(gm-μ)*u:=qAj ⋯ u0
   grind
  rcases(q x ⋯).2 with e|e|⟨s,s0,s1,e⟩
  .rw[e];have:=lf x ⋯;grind
  .rw[e];have:=lg x ⋯;grind
  .rw[e];have:=lf s s0;have:=lg (x-s) ⋯;grind
 split
 .have:=key gm rg.m0 ⋯ qAi;grind
 .have:=key fm rf.m0 qAi ⋯;grind
theorem QI (rf:G9 fc fm)(rg:G9 gc gm){B S0:List Rat}{b Z X K m:Nat}{h:Rat->Rat}{qs:List RP}{Q:Ps}(r:FU B S0 (Gz b Z) (Sz X) K m h none qs Q) (ne:0<Q.length) (b0:bg Q 0=0) (mi:JI fc fm gc gm (stI fc fm) (stI gc gm) h) :
 Ord (Jt Q)/\0<=(ln Q (Q.length-1)).1/\(ln Q (Q.length-1)).1=(if gm<fm then gm else fm)/\(∀t,0<=t->IsJ fc fm gc gm t (val (Jt Q) (ln Q (Q.length-1)).1 t))/\LS X b Z (Jt Q) (ln Q (Q.length-1)).1:=by
 have iu:∀t,0<=t->IsJ fc fm gc gm t (h t):=fun t t0=>mi.isJ rf.o rg.o t0
 have h0:0<=h 0:=by
  rcases(iu 0 qAi).2 with e|e|⟨s,s0,s1,e⟩
  .rw[e];exact GK rf qAi
  .rw[e];exact GK rg qAi
  .rw[e]
   have:=GK rf s0
   have:=GK rg (show 0<=0-s from ⋯)
   grind
 obtain⟨o,m0,v⟩:=S4 r.pu ne b0 (fun x y x0 xy=>RH rf rg x0 xy (iu x x0) (iu y ⋯)) h0
 have iv:∀t,0<=t->IsJ fc fm gc gm t (val (Jt Q) (ln Q (Q.length-1)).1 t):=fun t t0=>by rw[v t t0];exact iu t t0
 refine#[o,m0,Q5 rf rg o iv,iv,Ln.ls (fun i hi=>?_) o (fun i hi=>?_)]
 .rw[BJ] at hi
  rw[NA r.pu hi,(BB hi).1,(BB hi).2]
  have g:=(r.gd i hi).1
  refine#[g.1,?_]
  have e:ev (ln Q i) (bg Q i)-(ln Q i).1*bg Q i=(ln Q i).2:=by unfold ev;grind
  rw[e]
  exact g.2
 .rw[BJ] at hi
  rw[(BB hi).1]
  exact(r.gd i hi).2
end
def stD (cs:Cs)(m:Rat)(k:Nat):D:=.tup [qd (slp cs m k),qd (tt cs (k+1)-tt cs k),qd (vv cs (k+1)-vv cs k)]
def F7 (fc gc:Cs)(W:List (Nat×Nat))(L:List D):Prop:=L.length+1=W.length/\∀n,n+1<W.length->∃s:D,L[n]? = some (.tup [s,qd (tt (mcs fc gc W) (n+1)-tt (mcs fc gc W) n),qd (vv (mcs fc gc W) (n+1)-vv (mcs fc gc W) n)])
section
variable {fc gc:Cs}{fm gm last:Rat}{W:List (Nat×Nat)}{L:List D}{i j:Nat}
theorem F7.start:F7 fc gc [(0,0)] []:=#[rfl,fun n hn=>absurd hn (by show ¬n+1<1;omega)]
theorem F7.snoc (h:F7 fc gc W L){w:Nat×Nat}{s:D}{dt dv:Rat}(h1:dt=tt fc w.1+tt gc w.2-(tt fc (wI W (W.length-1))+tt gc (wJ W (W.length-1)))) (h2:dv=vv fc w.1+vv gc w.2-(vv fc (wI W (W.length-1))+vv gc (wJ W (W.length-1)))):F7 fc gc (W++[w]) (L++[.tup [s,qd dt,qd dv]]):=by
 obtain⟨hl,hs⟩:=h
 have lw:(W++[w]).length=W.length+1:=by simp
 have at_:∀n,n<W.length->tt (mcs fc gc (W++[w])) n=tt (mcs fc gc W) n/\vv (mcs fc gc (W++[w])) n=vv (mcs fc gc W) n:=fun n hn=>by
  rw[(BK (W:=W++[w]) ()).1,(BK (W:=W++[w]) ()).2,(BK hn).1,(BK hn).2,(K2 hn).1,(K2 hn).2]
  exact#[rfl,rfl]
 refine#[by rw[lw,qAn];show L.length+1+1=_;omega,fun n hn=>?_]
 rw[lw] at hn
 by_cases c:n+1<W.length
 .obtain⟨s',e⟩:=hs n c
  refine#[s',?_]
  rw[qAv (),e,(at_ _ c).1,(at_ _ c).2,(at_ n ()).1,(at_ n ()).2]
 .have e1:n=W.length-1:=()
  have e2:n+1=W.length:=()
  refine#[s,?_]
  rw[qAz (),show n-L.length=0 from (),(at_ n ()).1,(at_ n ()).2,e2,(BK (W:=W++[w]) ()).1,(BK (W:=W++[w]) ()).2,WD.1,WD.2,(BK ()).1,(BK ()).2,e1,h1,h2]
  rfl
theorem H4.fS (h:H4 fc fm gc gm i j W)(s:F7 fc gc W L)(cf:Cvx fc fm)(i1:i+1<fc.length)(hs:∀l,j<=l->l<gc.length->slp fc fm i<=slp gc gm l):H4 fc fm gc gm (i+1) j (W++[(i+1,j)])/\F7 fc gc (W++[(i+1,j)]) (L++[stD fc fm i]):=by
 refine#[h.f cf i1 hs,s.snoc ?_ ?_]
 .rw[h.en.1,h.en.2];grind
 .rw[h.en.1,h.en.2];grind
theorem H4.gS (h:H4 fc fm gc gm i j W)(s:F7 fc gc W L)(cg:Cvx gc gm)(j1:j+1<gc.length)(hs:∀l,i<=l->l<fc.length->slp gc gm j<=slp fc fm l):H4 fc fm gc gm i (j+1) (W++[(i,j+1)])/\F7 fc gc (W++[(i,j+1)]) (L++[stD gc gm j]):=by
 refine#[h.g cg j1 hs,s.snoc ?_ ?_]
 .rw[h.en.1,h.en.2];grind
 .rw[h.en.1,h.en.2];grind
theorem Nl (cg:Cvx gc gm){q:Nat}(ql:q<gc.length) (h3:∀k,k<q->slp gc gm k<last) (h2:∀k,i<=k->k<fc.length->last<=slp fc fm k):∀d j W L,j+d=q->H4 fc fm gc gm i j W->F7 fc gc W L->∃W',H4 fc fm gc gm i q W'/\F7 fc gc W' (L++((List.range q).drop j).map (stD gc gm))
 |0,j,W,L,e,h,s=>by
  have e':j=q:=()
  subst e'
  refine#[W,h,?_]
  rw[qB7 (by simp),qBS,qBe]
  exact s
 |d+1,j,W,L,e,h,s=>by
  have jq:j<q:=()
  have:=h3 j jq
  obtain⟨h',s'⟩:=h.gS s cg () (fun l l1 l2=>by have:=h2 l l1 l2;grind)
  obtain⟨W',h'',s''⟩:=Nl cg ql h3 h2 d (j+1) _ _ () h' s'
  refine#[W',h'',?_]
  rw[List.drop_eq_getElem_cons (by simp;exact jq),qBp,List.getElem_range]
  rw[List.append_assoc] at s''
  exact s''
theorem Tx (h:RI fc fm gc gm last W)(of:Ord fc)(og:Ord gc){a b:Nat}(zf:∀k,k<fc.length->Sz a (tt fc k)/\Sz a (vv fc k)) (zg:∀k,k<gc.length->Sz a (tt gc k)/\Sz a (vv gc k)) (sf:∀k,k<fc.length->Sz b (slp fc fm k)) (sg:∀k,k<gc.length->Sz b (slp gc gm k)) (sl:Sz b last) (wl:∀n,n<W.length->wI W n<fc.length/\wJ W n<gc.length):LS (2*a+1) b (4*a+2*b+3) (mcs fc gc W) last:=by
 have ml:=EH (fc:=fc) (gc:=gc) (W:=W)
 have key:∀n σ,n<W.length->Sz b σ->Sz (4*a+2*b+3) (vv (mcs fc gc W) n-σ*tt (mcs fc gc W) n):=fun n σ hn z=>by
  rw[(BK hn).1,(BK hn).2]
  have f:=zf _ (wl n hn).1
  have g:=zg _ (wl n hn).2
  have e:vv fc (wI W n)+vv gc (wJ W n)-σ*(tt fc (wI W n)+tt gc (wJ W n))=(vv fc (wI W n)-σ*tt fc (wI W n))+(vv gc (wJ W n)-σ*tt gc (wJ W n)):=⋯
  rw[e]
  exact((f.2.sub (z.mul f.1)).add (g.2.sub (z.mul g.1))).mono ()
 refine Ln.ls (fun n hn=>?_) (h.ord of og) (fun n hn=>?_)
 .rw[ml] at hn
  have zs:Sz b (slp (mcs fc gc W) last n):=by
   by_cases c:n+1<W.length
   .obtain⟨σ,e,_,_,z⟩:=h.slp of og c
    rw[e]
    rcases z with⟨_,_,z,rfl⟩|⟨_,_,z,rfl⟩
    .exact sf _ ()
    .exact sg _ ()
   .rw[Bb (by rw[ml];exact c)];exact sl
  exact#[zs,key n _ hn zs]
 .rw[ml] at hn
  rw[(BK hn).1]
  exact((zf _ (wl n hn).1).1.add (zg _ (wl n hn).2).1).mono ()
theorem H4.wb (h:H4 fc fm gc gm i j W):∀n,n<W.length->wI W n<fc.length/\wJ W n<gc.length:=fun n hn=>by
 by_cases c:n+1<W.length
 .obtain⟨σ,s1,s2,_⟩:=h.st n c
  exact#[s1.1,s2.1]
 .rw[show n=W.length-1 from (),h.en.1,h.en.2]
  exact#[h.il,h.jl]
end
end CH
namespace L3
open PySem PySem.Spec PyProof.Rows L2
section
variable {X:Cx}{pos:Pos}
def UY (i1 i2:Nat)(xs:List D)(tb:TS3)(D3:JB)(τ0:Tau):Prop:=∃I:Nat->Tau->Prop,I 0 τ0 /\
 (∀n τ x,xs[n]? = some x->I n τ->∃a b,x=.tup [a,b]/\tb { D3 with nx:=I (n+1),ct:=I (n+1),bk:=D3.nx } ((τ.set i1 (some (.d a))).set i2 (some (.d b))))/\∀τ,I xs.length τ->D3.nx τ
def WU (i1 i2:Nat)(te:TE3)(tb:TS3):TS3:=fun D3 τ=>te τ fun s=>∃xs,s=.l xs/\UY i1 i2 xs tb D3 τ
theorem Vw {i1 i2:Nat}{x1 x2:Str}{p1 p2 pt:Pos}{kt:Nat}{body:List Stmt}{tb:TS3}{e:Expr}{te:TE3}
 (h:PS X (.For (.Tuple [.Name x1 p1,.Name x2 p2] kt pt) e body [] pos) (Qx (US X.K (FE X te)) (UO X.K 2 (HJ (Dc i1) (HJ (Dc i2) UQ))) (FS X tb))) (hp1:Di X i1:=by first|exact Cv rfl|exact Cr rfl ∅|assumption) (hp2:Di X i2:=by first|exact Cv rfl|exact Cr rfl ∅|assumption) :
 PS3 X (.For (.Tuple [.Name x1 p1,.Name x2 p2] kt pt) e body [] pos) (WU i1 i2 te tb):=#[Cm h fun D2 σ H hh=>by
 obtain⟨B,z,τ,D3,r,ht,c⟩:=hh
 refine#[B,z,τ,_,r,ht,fun s v q1 e1 j1 f1 h1=>?_]
 obtain⟨xs,rfl,I,i0,turn,out⟩:=h1
 have r1:=r.mono e1
 obtain⟨a,vs,rfl,k1,iv⟩:=j1
 have hno:∀(m:Nat)(ys:List D),τ[m]? = some (some (S.l ys))->σ[m]?≠some (some (V.ref a)):=fun m ys hm hσ=>by
  obtain⟨ws,hw,_⟩:=r.own_list hm hσ
  have:=(f1 xs a rfl rfl).1
  rw[hw] at this
  cases this
 have hB:SqL X.K (JM τ σ q1.h) a vs:=.inl (.inl (by rw[FJ hno];exact k1))
 refine#[a,rfl,.inl #[#[vs,SqL.of k1],?_]]
 refine MO (K:=X.K) (a:=a) (xs:=vs) (g:=UO X.K 2 (HJ (Dc i1) (HJ (Dc i2) UQ))) (tb:=FS X tb) (D:=D2) (fun n σ1 H1=>∃z1 τ1,Rep X #[JM τ σ q1.h,q1.z] τ1 σ1 #[H1,z1]/\I n τ1) #[q1.z,τ,r1.inB,i0] (fun n σ1 H1 _ #[z1,τ1,r2,_]=>r2.ext.hh.seq hB) ?_ ?_
 .rintro n v σ1 H1 hn ⟨z1,τ1,r2,ih⟩
  obtain⟨x,hx,ix⟩:=BU iv hn
  obtain⟨d1,d2,rfl,t⟩:=turn n τ1 x hx ih
  obtain⟨b,ws,rfl,k2,iw⟩:=Is.tup_inv ix
  have wl:ws.length=2:=iw.1
  obtain⟨w1,w2,rfl⟩:∃w1 w2,ws=[w1,w2]:=by
   match ws,wl with
   |[w1,w2],_=>exact#[w1,w2,rfl]
  obtain⟨e1',g1,id1⟩:=BU (n:=0) iw rfl
  obtain⟨e2',g2,id2⟩:=BU (n:=1) iw rfl
  cases g1
  cases g2
  refine#[b,[w1,w2],rfl,SqT.same (r2.ext.zz.trans r2.ext.sub) k2,rfl,w1,[w2],rfl,w2,[],rfl,rfl,?_]
  exact#[_,_,_,_,(r2.setd (i:=i1) (id1.mono r2.ext.zz) hp1).setd (i:=i2) (id2.mono r2.ext.zz) hp2,t,c.inB r1.leB fun τ' σ' p' r' h'=>#[p'.z,τ',r',h']]
 .rintro σ1 H1 ⟨z1,τ1,r2,ih⟩
  exact c.nx _ _ _ (r2.outB r1.leB) (out τ1 (by rw[<-iv.1];exact ih))]
end
end L3
namespace CL
open PySem L2 L3 CH
theorem EJ {cs:Cs}{m:Rat}:(JH cs m).length=cs.length:=by unfold JH;simp
theorem Pw {cs:Cs}{m:Rat}{n:Nat}{y:D}(h:((JH cs m).map qd)[n]? = some y):n<cs.length/\y=qd (slp cs m n):=by
 have hn:n<cs.length:=by
  have:=(qAg.mp h).1
  rw[qAa,EJ] at this
  exact this
 refine#[hn,?_]
 unfold JH at h
 rw[qAe,qAe,qAK hn] at h
 exact(qAl h).symm
theorem KC {ps:List RP}{i:Int}(j:Nat) (e:i=(j:Int)) (h:j<ps.length):atI (ps.map rpD) i=some (rpD (ps.getD j dfR)):=by
 subst e
 rw[CH.atI_nat (by rw[qAa];exact h),qAe,qAb h,qAd,qAb h]
 rfl
theorem Sj {ps:List RP}(h:0<ps.length):atI (ps.map rpD) (-1)=some (rpD (ps.getD (ps.length-1) dfR)):=by
 refine H0 ?_
 rw[qAd,qAb (show ps.length-1<ps.length from ())]
 rfl
theorem BW {ps:List RP}{j:Nat}(h:j<ps.length):ps[j]? = some (ps.getD j dfR):=by
 rw[qAd,qAb h]
 rfl
def Ut (x:D):Rat:=match x with
 |.tup [.tup [.int a,.int b],_]=>Rat.divInt a b
 |_=>0
theorem KI {m:Nat}{p:RP}{t:Rat}(w:Wq m p.1.1 p.1.2 t):Ut (rpD p)=t:=Np w
theorem V7 (x:Int):qd (x:Rat)=tp x 1:=rfl
theorem UL (x:Int):Rat.divInt x 1=(x:Rat):=by rw[qAx];show(x:Rat)/1=x;grind
theorem p18:(10:Int)^(18:Int).toNat=1000000000000000000:=∅
theorem Nz {l:List (Int×Int)}{lo hi a v:Int}:rcs (l++[(a,v)]) lo hi=rcs l lo hi++[(Rat.divInt a lo,Rat.divInt v hi)]:=by unfold rcs;rw[qAC];rfl
def pD (p:Int×Int×Rat):D:=tp p.1 p.2.1
theorem _root_.CH.Wq.cross {k n:Nat}{a b c d:Int}{q:Rat}(h:Wq k a b q) (g:Wq n c d q):a*d=c*b:=by
 have e1:=h.eq
 have e2:=g.eq
 rw[<-qCj,qAk,qAk,e1,e2]
 grind
theorem VB {xs:List D}{i:Int}(h0:0<=i) (h1:i<(xs.length:Int)):∃x,atI xs i=some x/\x∈xs:=by
 obtain⟨k,rfl⟩:=Int.eq_ofNat_of_zero_le h0
 have hk:k<xs.length:=()
 exact#[xs[k],by rw[atI_nat hk,qAb hk],qB9 hk]
theorem _root_.CH.Wq.nn {k:Nat}{a b:Int}{q:Rat}(h:Wq k a b q) (hq:0<=q):0<=a:=by
 have e:=h.eq
 have:(0:Rat)<=(a:Rat):=by rw[e];exact qAj hq (Rat.intCast_nonneg.mpr (qCm h.pos))
 exact Rat.intCast_nonneg.mp this
def tq (cs:Cs):List (Int×Int×Rat):=cs.map fun c=>(c.1.num,(c.1.den:Int),c.1)
theorem _root_.CH.L4.up {a b c d:Int}(h:L4 30000 a b c d):L4 400000 a b c d:=#[Ar h.1 ∅,Ar h.2.1 ∅,Ar h.2.2.1 ∅,Ar h.2.2.2 ∅]
theorem Kh {cs:Cs}{m:Rat}(n0:0<cs.length):(stI cs m).length+1<=cs.length:=by
 unfold CH.stI
 rw[qAa]
 have:=qCc (fun n=>decide (slp cs m n<slp cs m (n+1))) (List.range (cs.length-1))
 rw[qAH] at this
 omega
def oD:Option Rat->D
 |none=>.non
 |some q=>qd q
def gv (fc:Cs)(fm:Rat)(gc:Cs)(gm:Rat):Option Rat×Option Rat->Rat
 |(some s,none)=>val fc fm s
 |(none,some r)=>val gc gm r
 |(some s,some r)=>val fc fm s+val gc gm r
 |(none,none)=>0
def ptD (p:Option Rat×Option Rat):D:=.tup [oD p.1,oD p.2]
inductive Prt (n:Nat)(t:Rat):Option Rat×Option Rat->Prop
 |a (h:Sz n t) (h0:0<=t):Prt n t (some t,none)
 |b (h:Sz n t) (h0:0<=t):Prt n t (none,some t)
 |c {s r:Rat}(h1:Sz n s) (h2:Sz n r) (s0:0<=s) (r0:0<=r) (e:s+r=t):Prt n t (some s,some r)
theorem Prt.mono {n n':Nat}{t:Rat}{p:Option Rat×Option Rat}(h:Prt n t p) (l:n<=n'):Prt n' t p:=by
 cases h with
 |a h h0=>exact .a (h.mono l) h0
 |b h h0=>exact .b (h.mono l) h0
 |c h1 h2 s0 r0 e=>exact .c (h1.mono l) (h2.mono l) s0 r0 e
def prD (p:Rat×Rat):D:=.tup [qd p.1,qd p.2]
def Pr (p:Rat×Rat):Prop:=0<=p.2/\p.2<=p.1/\Sz 200 p.1/\Sz 200 p.2
theorem UX {t:Rat}{x m:Int}(t0:0<=t) (x0:0<=x) (xm:x<=m) (m0:0<m):0<=Rat.divInt (t.num*x) ((t.den:Int)*m)/\Rat.divInt (t.num*x) ((t.den:Int)*m)<=t:=by
 have d0:(0:Rat)<(t.den:Rat):=by have:=t.den_pos;exact_mod_cast this
 have m1:(0:Rat)<(m:Rat):=by exact_mod_cast m0
 have x1:(0:Rat)<=(x:Rat):=by exact_mod_cast x0
 have x2:(x:Rat)<=(m:Rat):=by exact_mod_cast xm
 have e:Rat.divInt (t.num*x) ((t.den:Int)*m)=t*((x:Rat)/(m:Rat)):=by
  rw[qAx,qAk,qAk]
  have h:=qBT t
  rw[qAx] at h
  have e1:((t.den:Int):Rat)=(t.den:Rat):=rfl
  rw[e1] at h ⊢
  generalize hx:(x:Rat)/(m:Rat)=y
  have hy:(x:Rat)=y*m:=by have:=qCo m1;grind
  rw[hy]
  have hn:(t.num:Rat)=t*(t.den:Rat):=by have:=qCo d0;grind
  rw[hn]
  have:=qCo d0
  have:=qCo m1
  grind
 have y0:0<=(x:Rat)/(m:Rat):=by
  rw[qCL]
  exact qAj x1 (qAp (Rat.inv_pos.mpr m1))
 have y1:(x:Rat)/(m:Rat)<=1:=by
  have h:0<=((m:Rat)-x)*(m:Rat)⁻¹:=qAj ⋯ (qAp (Rat.inv_pos.mpr m1))
  have:=qCo m1
  grind
 rw[e]
 refine#[qAj t0 y0,?_]
 have:0<=t*(1-(x:Rat)/(m:Rat)):=qAj t0 ⋯
 grind
inductive Im (ss:List S)(R:S->Prop)(U_:Str->Prop):Prop
 |mk (a:Int)(_:ss=[.d (.int a)])(_:R (.d (.bl true)))
inductive JO (ss:List S)(R:S->Prop)(U_:Str->Prop):Prop
 |mk (a b:Int)(_:ss=[.d (.int a),.d (.int b)])(_:R (.d (.int (g a b))))
inductive NG (ss:List S)(R:S->Prop)(U_:Str->Prop):Prop
 |mk (a b:Int)(_:ss=[.d (.int a),.d (.int b)])(_:b≠0)(_:a.natAbs<2^13000)(_:b.natAbs<2^13000)(_:R (.d (qd (Rat.divInt a b))))
inductive Qr (ss:List S)(R:S->Prop)(U_:Str->Prop):Prop
 |mk (p q:Rat)(k l:Nat)(_:ss=[.d (qd p),.d (qd q)])(_:Sz k p)(_:Sz l q)(_:k+l+1<=13000)(_:R (.d (qd (p+q))))
inductive NB (ss:List S)(R:S->Prop)(U_:Str->Prop):Prop
 |mk (p q:Rat)(k l:Nat)(_:ss=[.d (qd p),.d (qd q)])(_:Sz k p)(_:Sz l q)(_:k+l+1<=13000)(_:R (.d (qd (p-q))))
inductive Nd (ss:List S)(R:S->Prop)(U_:Str->Prop):Prop
 |mk (p q:Rat)(k l:Nat)(_:ss=[.d (qd p),.d (qd q)])(_:Sz k p)(_:Sz l q)(_:k+l<=13000)(_:R (.d (qd (p*q))))
inductive PD (ss:List S)(R:S->Prop)(U_:Str->Prop):Prop
 |mk (p q:Rat)(k l:Nat)(_:ss=[.d (qd p),.d (qd q)])(_:Sz k p)(_:Sz l q)(_:k+l<=13000)(_:q≠0)(_:R (.d (qd (p/q))))
inductive MT (ss:List S)(R:S->Prop)(U_:Str->Prop):Prop
 |mk (p q:Rat)(k l:Nat)(_:ss=[.d (qd p),.d (qd q)])(_:Sz k p)(_:Sz l q)(_:k+l<=30000)(_:R (.d (.bl (decide (p<q)))))
inductive Lo (ss:List S)(R:S->Prop)(U_:Str->Prop):Prop
 |mk (p q:Rat)(k l:Nat)(_:ss=[.d (qd p),.d (qd q)])(_:Sz k p)(_:Sz l q)(_:k+l<=30000)(_:R (.d (qd (if q<p then q else p))))
inductive Nj (ss:List S)(R:S->Prop)(U:Str->Prop):Prop
 |mk (x:S)(cs:Cs)(m:Rat)(_:ss=[x,.d (qd m)])(_:(x=.r (cs.map cd)\/x=.d (.lst (cs.map cd))))(_:SzK 2000 cs m)(_:(Ord cs/\0<=m->R (.d (crv (kp cs m (cs.length-1)) m))))(_:(¬(Ord cs/\0<=m)->U "NoCurve"))
inductive FX (ss:List S)(R:S->Prop)(U:Str->Prop):Prop
 |mk (x:S)(cs:Cs)(_:ss=[x])(_:(x=.r (cs.map cd)\/x=.d (.lst (cs.map cd))))(_:cs.length<=100000)(_:SzC 2000 cs)(_:(Bgn cs->R (.d .non)))(_:(¬Bgn cs->U "NoCurve"))
inductive GW (ss:List S)(R:S->Prop)(U:Str->Prop):Prop
 |mk (x:S)(cs:Cs)(_:ss=[x])(_:(x=.r (cs.map cd)\/x=.d (.lst (cs.map cd))))(_:0<cs.length)(_:cs.length<=100000)(_:SzC 2000 cs)(_:(Ris cs cs.length->R (.d .non)))(_:(¬Ris cs cs.length->U "NoCurve"))
inductive IW (ss:List S)(R:S->Prop)(U:Str->Prop):Prop
 |mk (cs:Cs)(m t:Rat)(n:Nat)(_:ss=[.d (crv cs m),.d (qd t)])(_:0<cs.length)(_:tt cs 0=0)(_:Up cs)(_:n<=1800)(_:SzK n cs m)(_:Sz n t)(_:(0<=t->R (.d (qd (val cs m t)))))(_:(¬0<=t->U "NoTime"))
inductive Jf (ss:List S)(R:S->Prop)(U:Str->Prop):Prop
 |mk (cs:Cs)(m t:Rat)(n:Nat)(_:ss=[.d (crv cs m),.d (qd t)])(_:0<cs.length)(_:cs.length<=100000)(_:tt cs 0=0)(_:Up cs)(_:n<=6000)(_:SzC n cs)(_:Sz n t)(_:(0<=t->R (.d (.int (plc cs t cs.length)))))(_:(¬0<=t->U "NoTime"))
inductive GX (ss:List S)(R:S->Prop)(U:Str->Prop):Prop
 |mk (t:Rat)(n:Nat)(_:ss=[.d (qd t)])(_:n<=6000)(_:Sz n t)(_:(0<=t->R (.d .non)))(_:(¬0<=t->U "NoTime"))
inductive En (ss:List S)(R:S->Prop)(U_:Str->Prop):Prop
 |mk (cs:Cs)(m:Rat)(k n:Nat)(_:ss=[.d (crv cs m),.d (.int k)])(_:k<cs.length)(_:cs.length<=100000)(_:Up cs)(_:n<=3200)(_:SzC n cs)(_:R (.d (qd (slp cs m k))))
inductive EV (ss:List S)(R:S->Prop)(U_:Str->Prop):Prop
 |mk (a b c d:Rat)(n:Nat)(_:ss=[.d (.tup [qd a,qd b]),.d (.tup [qd c,qd d])])(_:n<=3200)(_:Sz n a)(_:Sz n b)(_:Sz n c)(_:Sz n d)(_:c-a≠0)(_:R (.d (qd ((d-b)/(c-a)))))
inductive E1 (ss:List S)(R:S->Prop)(U_:Str->Prop):Prop
 |mk (x:S)(cs:Cs)(m:Rat)(_:ss=[x,.d (qd m)])(_:(x=.r (cs.map cd)\/x=.d (.lst (cs.map cd))))(_:0<cs.length)(_:cs.length<=100000)(_:SzC 3200 cs)(_:Up cs)(_:R (.l ((JH cs m).map qd)))
inductive Ef (ss:List S)(R:S->Prop)(U_:Str->Prop):Prop
 |mk (cs:Cs)(m:Rat)(a b c:Nat)(_:ss=[.d (crv cs m)])(_:Ord cs)(_:LS a b c cs m)(_:a+b+c+1<=1800)(_:cs.length<=5000)(_:R (.l ((stI cs m).map fun k=>cd (tt cs k,vv cs k))))
inductive DW (ss:List S)(R:S->Prop)(U_:Str->Prop):Prop
 |mk (cs:Cs)(m:Rat)(a b c:Nat)(_:ss=[.d (crv cs m)])(_:Ord cs)(_:LS a b c cs m)(_:a+b+c+1<=1800)(_:cs.length<=5000)(_:R (.l ((flI cs m).map fun k=>cd (tt cs k,vv cs k))))
inductive JL (ss:List S)(R:S->Prop)(U_:Str->Prop):Prop
 |mk (a b s h:Rat)(n k:Nat)(_:ss=[.d (.tup [qd a,qd b]),.d (qd s),.d (qd h)])(_:Sz n a)(_:Sz n b)(_:Sz n h)(_:Sz k s)(_:s≠0)(_:3*n+k+2<=13000)(_:R (.d (qd (a+(h-b)/s))))
def F4:SpL:=fun a dom p ss R _=>∃(x:S)(xs:List D)(n:Nat),ss=[x,.d (.ref a)]/\(x=.d (.tup xs)\/x=.r xs\/x=.d (.lst xs))/\xs.length<=100000/\n<=xs.length/\(∀i x,xs[i]? = some x->dom x/\p x=decide (i<n))/\R (.d (.int n))
inductive M8 (ss:List S)(R:S->Prop)(U_:Str->Prop):Prop
 |mk (cs:Cs)(m:Rat)(ds:Cs)(k:Rat)(a b c:Nat)(_:ss=[.d (crv cs m),.d (crv ds k)])(_:G9 cs m)(_:G9 ds k)(_:LS a b c cs m)(_:LS a b c ds k)(_:2*b+2*c+2<=a)(_:a+b+c+1<=1500)(_:cs.length+ds.length<=480)(_:∀(C:Cs)(M:Rat),Crv C M->M=mn m k->LS a b c C M->C.length<=2*(cs.length+ds.length)->(∀t,0<=t->val C M t=mn (val cs m t) (val ds k t))->R (.d (crv C M)))
inductive FZ (ss:List S)(R:S->Prop)(U_:Str->Prop):Prop
 |mk (cs:Cs)(m:Rat)(ds:Cs)(k:Rat)(n:Nat)(_:ss=[.d (crv cs m),.d (crv ds k)])(_:Ord cs)(_:Ord ds)(_:cs.length<=1000)(_:ds.length<=1000)(_:n<=1800)(_:SzK n cs m)(_:SzK n ds k)(_:∀ts:List Rat,Tms cs ds ts->ts.length<=cs.length+ds.length->R (.l (ts.map (rw3 cs m ds k))))
inductive E9 (ss:List S)(R:S->Prop)(U_:Str->Prop):Prop
 |mk (cs:Cs)(m:Rat)(ds:Cs)(k:Rat)(n:Nat)(_:ss=[.d (crv cs m),.d (crv ds k)])(_:Ord cs)(_:Ord ds)(_:cs.length<=1000)(_:ds.length<=1000)(_:n<=6000)(_:SzC n cs)(_:SzC n ds)(_:∀ts:List Rat,Tms cs ds ts->ts.length<=cs.length+ds.length->R (.d (.lst (ts.map qd))))
inductive GZ (ss:List S)(R:S->Prop)(U_:Str->Prop):Prop
 |mk (x:S)(cs:Cs)(m:Rat)(ds:Cs)(k:Rat)(ts:List Rat)(v:Nat)(_:ss=[x])(_:(x=.r (ts.map (rw3 cs m ds k))\/x=.d (.lst (ts.map (rw3 cs m ds k)))))(_:ts.length<=2000)(_:v<=6400)(_:(∀i,i<ts.length->Sz v (val cs m (T ts i))/\Sz v (val ds k (T ts i))))(_:R (.l ((gcs cs m ds k ts).map cd)))
inductive Fq (ss:List S)(R:S->Prop)(U_:Str->Prop):Prop
 |mk (cs:Cs)(m:Rat)(ds:Cs)(k:Rat)(a b c:Nat)(_:ss=[.d (crv cs m),.d (crv ds k)])(_:Ord cs)(_:Ord ds)(_:LS a b c cs m)(_:LS a b c ds k)(_:2*b+2*c+2<=a)(_:a+b+c+1<=1500)(_:cs.length+ds.length<=480)(_:∀us:List Rat,Cx cs m ds k us none->(∀i,i<us.length->Sz a (T us i))->us.length<=2*(cs.length+ds.length)->R (.l (us.map (rw3 cs m ds k))))
inductive Jn (ss:List S)(R:S->Prop)(U_:Str->Prop):Prop
 |mk (p q:Rat)(_:ss=[.d (qd p),.d (qd q)])(_:Sz 6000 p)(_:Sz 6000 q)(_:R (.d (.bl (decide (Opp p q)))))
inductive HI (ss:List S)(R:S->Prop)(U_:Str->Prop):Prop
 |mk (cs:Cs)(m:Rat)(a b c:Nat)(_:ss=[.d (crv cs m)])(_:Ord cs)(_:LS a b c cs m)(_:a+b+c+1<=1800)(_:cs.length<=5000)(_:R (.l ((EB cs m).map rpD)))
inductive Ft (ss:List S)(R:S->Prop)(U_:Str->Prop):Prop
 |mk (c:Rat×Rat)(m:Rat)(n:Nat)(_:ss=[.d (cd c),.d (qd m)])(_:Sz n c.1)(_:Sz n c.2)(_:Sz n m)(_:n<=4000)(_:R (.d (lnD (Xm m (c.2-m*c.1)))))
inductive Iw (ss:List S)(R:S->Prop)(U:Str->Prop):Prop
 |mk (ps:List RP)(P:Ps)(k m:Nat)(_:ss=[.r (ps.map rpD)])(_:PL k m ps P)(_:0<ps.length)(_:ps.length<=90000)(_:k+m+1<=13000)(_:(∀i,i<P.length->Sz 2000 (bg P i)/\Sz 2000 (ev (ln P i) (bg P i))))(_:Sz 2000 (ln P (P.length-1)).1)(_:Ord (Jt P))(_:0<=(ln P (P.length-1)).1)(_:R (.d (crv (kp (Jt P) (ln P (P.length-1)).1 (P.length-1)) (ln P (P.length-1)).1)))
inductive HH (ss:List S)(R:S->Prop)(U_:Str->Prop):Prop
 |mk (p:RP)(q:Rat×Ln2)(k m:Nat)(_:ss=[.d (tp p.1.1 p.1.2),.d (lnD p.2)])(_:PW1 k m p q)(_:k+m+1<=13000)(_:R (.d (cd (q.1,ev q.2 q.1))))
inductive PR (ss:List S)(R:S->Prop)(U_:Str->Prop):Prop
 |mk (x:S)(ps:List RP)(P:Ps)(wn wd vn vd:Int)(w v:Rat)(k m n:Nat)(_:ss=[x,.d (.tup [tp wn wd,tp vn vd])])(_:(x=.r (ps.map rpD)\/x=.d (.lst (ps.map rpD))))(_:PL k m ps P)(_:Wq n wn wd w)(_:Wq n vn vd v)(_:k<=30000)(_:m<=30000)(_:n<=30000)(_:ps.length<=100000)(_:R (.l ((ps.map (mvR wn wd vn vd)).map rpD)))
inductive GN (ss:List S)(R:S->Prop)(U_:Str->Prop):Prop
 |mk (a b wn wd:Int)(t w:Rat)(m n:Nat)(_:ss=[.d (tp a b),.d (tp wn wd)])(_:Wq m a b t)(_:Wq n wn wd w)(_:m<=100000)(_:n<=100000)(_:R (.d (tp (a*wd+wn*b) (b*wd))))
inductive G0 (ss:List S)(R:S->Prop)(U_:Str->Prop):Prop
 |mk (l:RL)(q:Ln2)(wn wd vn vd:Int)(w v:Rat)(k m:Nat)(_:ss=[.d (lnD l),.d (.tup [tp wn wd,tp vn vd])])(_:LW k l q)(_:Wq m wn wd w)(_:Wq m vn vd v)(_:k<=100000)(_:m<=100000)(_:R (.d (lnD (l.1*(wd*vd),l.2.1*(wd*vd)-l.1*wn*vd+l.2.2*vn*wd,l.2.2*(wd*vd)))))
inductive JP (ss:List S)(R:S->Prop)(U_:Str->Prop):Prop
 |mk (y:S)(ps os:List RP)(P O:Ps)(B S0:List Rat)(G:Ln2->Prop)(V:Rat->Prop)(k m:Nat)(h g:Rat->Rat)(_:ss=[.r (ps.map rpD),y])(_:(y=.r (os.map rpD)\/y=.d (.lst (os.map rpD))))(_:(FU B S0 G V k m h none ps P/\0<P.length/\PL k m os O/\PU O g none/\0<O.length/\(∀x,x<O.length->(ln O x).1∈S0)/\(∀x,x<O.length->G (ln O x)/\V (bg O x))/\(∀l l',G l->G l'->l.1≠l'.1->V (xg l l'))/\k+k+1<=m/\m<=12000/\bg P 0<=bg O 0/\(bg P 0<bg O 0->h (bg O 0)<=g (bg O 0))/\ps.length+os.length<=90000/\(B.length+O.length+1)*S0.length<=90000))(_:∀(qs:List RP)(Q:Ps),FU (B++ND O) S0 G V k m (NI (bg O 0) h g) none qs Q->0<Q.length->bg Q 0=bg P 0->R (.l (qs.map rpD)))
inductive Fo (ss:List S)(R:S->Prop)(U_:Str->Prop):Prop
 |mk (y:S)(ps os:List RP)(P O:Ps)(k m c:Nat)(_:ss=[.r (ps.map rpD),y])(_:(y=.r (os.map rpD)\/y=.d (.lst (os.map rpD))))(_:PL k m ps P)(_:PL k m os O)(_:0<O.length)(_:(∀i,i+1<P.length->bg P i<bg P (i+1)))(_:(∀i,i+1<O.length->bg O i<bg O (i+1)))(_:m<=100000)(_:ps.length+os.length<=90000)(_:0<c)(_:c<=P.length)(_:(∀i,i<c->bg P i<=bg O 0))(_:(∀i,c<=i->i<P.length->bg O 0<bg P i))(_:∀rw:List R4,Qb P O m rw->¬iF' rw (rw.length-1)+1<P.length->¬jF rw (rw.length-1)+1<O.length->R (.l (rw.map (Tt ps os))))
inductive Fa (ss:List S)(R:S->Prop)(U_:Str->Prop):Prop
 |mk (xs:List RP)(p q:RP)(s t:Rat)(m:Nat)(_:ss=[.d (.lst (xs.map rpD))])(_:0<xs.length)(_:xs.getD 0 dfR=p)(_:xs.getD (xs.length-1) dfR=q)(_:Wq m p.1.1 p.1.2 s)(_:Wq m q.1.1 q.1.2 t)(_:m<=100000)(_:R (.d (if t<s then tp q.1.1 q.1.2 else tp p.1.1 p.1.2)))
inductive O2 (ss:List S)(R:S->Prop)(U_:Str->Prop):Prop
 |mk (l1 l2:RL)(tn td:Int)(q1 q2:Ln2)(t:Rat)(k m:Nat)(_:ss=[.d (lnD l1),.d (lnD l2),.d (tp tn td)])(_:LW k l1 q1)(_:LW k l2 q2)(_:Wq m tn td t)(_:k<=100000)(_:m<=100000)(_:R (.d (.int (sg (ev q1 t-ev q2 t)))))
inductive O4 (ss:List S)(R:S->Prop)(U_:Str->Prop):Prop
 |mk (l1 l2:RL)(q1 q2:Ln2)(k:Nat)(_:ss=[.d (lnD l1),.d (lnD l2)])(_:LW k l1 q1)(_:LW k l2 q2)(_:k<=100000)(_:R (.d (.int (sg (q1.1-q2.1)))))
inductive Px (ss:List S)(R:S->Prop)(U_:Str->Prop):Prop
 |mk (a:Int)(_:ss=[.d (.int a)])(_:R (.d (.int a.sign)))
def HG:SpM:=fun xs ds R=>∃(ps:List RP)(tm:Int×Int)(l1 l2:RL)(now thn:Int)(q1 q2:Ln2)(k:Nat),xs=ps.map rpD/\ds=[.tup [.tup [.int tm.1,.int tm.2],lnD l1,lnD l2],.int now,.int thn]/\LW k l1 q1/\LW k l2 q2/\k<=6000/\(now<0/\0<thn\/0<now/\thn<0->q1.1≠q2.1)/\ps.length<999980/\∀ps',RG ps tm l1 l2 now thn (xg q1 q2) ps'->R (ps'.map rpD)
def Eg:SpM:=fun xs ds R=>∃(ps:List RP)(p:RP),xs=ps.map rpD/\ds=[.tup [.int p.1.1,.int p.1.2],lnD p.2]/\ps.length<999990/\∀ps',LZ ps p ps'->R (ps'.map rpD)
inductive IG (ss:List S)(R:S->Prop)(U_:Str->Prop):Prop
 |mk (l1 l2:RL)(q1 q2:Ln2)(k:Nat)(_:ss=[.d (lnD l1),.d (lnD l2)])(_:LW k l1 q1)(_:LW k l2 q2)(_:k<=6000)(_:q1.1≠q2.1)(_:R (.d (qd (xg q1 q2))))
inductive Ls (ss:List S)(R:S->Prop)(U_:Str->Prop):Prop
 |mk (fc:Cs)(fm:Rat)(gc:Cs)(gm:Rat)(a b c:Nat)(_:ss=[.d (crv fc fm),.d (crv gc gm)])(_:(G9 fc fm/\G9 gc gm/\LS a b c fc fm/\LS a b c gc gm/\6*a+9*b+6*c+24<=2000/\(2*(fc.length*gc.length)+2*fc.length+2*gc.length+3)*(fc.length+gc.length)<=40000/\SzC a fc/\SzC a gc/\a<=c/\c<=4*a+2*b+3/\12*a+9*b+12<=1500/\fc.length+gc.length<=100))(_:∀(C:Cs)(M:Rat),Crv C M->M=(if gm<fm then gm else fm)->(∀t,0<=t->IsJ fc fm gc gm t (val C M t))->LS (4*(a+b+c)+2*b+16) b (2*(a+b+c)+5) C M->C.length<=40000->R (.d (crv C M)))
inductive Ew (ss:List S)(R:S->Prop)(U_:Str->Prop):Prop
 |mk (fc:Cs)(fm:Rat)(gc:Cs)(gm:Rat)(a b c:Nat)(_:ss=[.d (crv fc fm),.d (crv gc gm)])(_:(G9 fc fm/\G9 gc gm/\Cvx fc fm/\Cvx gc gm/\SzC a fc/\SzC a gc/\LS a b c fc fm/\LS a b c gc gm/\12*a+9*b+12<=1500/\fc.length+gc.length<=100))(_:∀(C:Cs)(M:Rat),Crv C M->M=(if gm<fm then gm else fm)->(∀t,0<=t->(∀r,0<=r->r<=t->val C M t<=val fc fm r+val gc gm (t-r))/\∃s,0<=s/\s<=t/\val C M t=val fc fm s+val gc gm (t-s))->LS (2*a+1) b (4*a+2*b+3) C M->C.length<=100->R (.d (crv C M)))
inductive Ee (ss:List S)(R:S->Prop)(U_:Str->Prop):Prop
 |mk (cs:Cs)(m last:Rat)(p n:Nat)(_:ss=[.d (crv cs m),.d (qd last)])(_:0<cs.length)(_:Up cs)(_:cs.length<=1000)(_:SzC n cs)(_:n<=3000)(_:(∀k,k<cs.length->Sz 3000 (slp cs m k)))(_:Sz 3000 last)(_:p<cs.length)(_:(∀k,k<p->slp cs m k<last))(_:(∀k,p<=k->k<cs.length->last<=slp cs m k))(_:R (.l ((List.range p).map (stD cs m))))
inductive IL (ss:List S)(R:S->Prop)(U_:Str->Prop):Prop
 |mk (fc:Cs)(fm:Rat)(gc:Cs)(gm last:Rat)(p q:Nat)(_:ss=[.d (.lst ((List.range p).map (stD fc fm))),.d (.lst ((List.range q).map (stD gc gm)))])(_:(Ord fc/\Ord gc/\Cvx fc fm/\Cvx gc gm/\p<fc.length/\q<gc.length/\(∀k,k<p->slp fc fm k<last)/\(∀k,p<=k->k<fc.length->last<=slp fc fm k)/\(∀k,k<q->slp gc gm k<last)/\(∀k,q<=k->k<gc.length->last<=slp gc gm k)))(_:fc.length<=1000)(_:gc.length<=1000)(_:(∀k,k<fc.length->Sz 3000 (slp fc fm k)))(_:(∀k,k<gc.length->Sz 3000 (slp gc gm k)))(_:∀(W:List (Nat×Nat))(L:List D),H4 fc fm gc gm p q W->F7 fc gc W L->R (.d (.lst L)))
inductive Dl (ss:List S)(R:S->Prop)(U_:Str->Prop):Prop
 |mk (fc:Cs)(fm:Rat)(gc:Cs)(gm:Rat)(a b c:Nat)(_:ss=[.d (crv fc fm),.d (crv gc gm)])(_:(G9 fc fm/\G9 gc gm/\LS a b c fc fm/\LS a b c gc gm/\6*a+9*b+6*c+24<=2000/\(2*(fc.length*gc.length)+2*fc.length+2*gc.length+3)*(fc.length+gc.length)<=40000))(_:∀(C:Cs)(M:Rat),Crv C M->M=(if gm<fm then gm else fm)->(∀t,0<=t->IsJ fc fm gc gm t (val C M t))->LS (4*(a+b+c)+2*b+16) b (2*(a+b+c)+5) C M->C.length<=40000->R (.d (crv C M)))
inductive JV (ss:List S)(R:S->Prop)(U:Str->Prop):Prop
 |mk (fc:Cs)(fm:Rat)(gc:Cs)(gm t:Rat)(a b c n:Nat)(_:ss=[.d (crv fc fm),.d (crv gc gm),.d (qd t)])(_:(Ord fc/\Ord gc/\LS a b c fc fm/\LS a b c gc gm/\a+b+c+1<=1800/\fc.length<=5000/\gc.length<=5000/\a+n+1<=1700))(_:Sz n t)(_:(0<=t->∀p,Prt (a+n+1) t p->IsJ fc fm gc gm t (gv fc fm gc gm p)->R (.d (ptD p))))(_:(¬0<=t->U "NoTime"))
inductive EA (ss:List S)(R:S->Prop)(U_:Str->Prop):Prop
 |mk (fc:Cs)(fm:Rat)(gc:Cs)(gm t:Rat)(a b c n:Nat)(_:ss=[.d (crv fc fm),.d (crv gc gm),.d (qd t)])(_:(Ord fc/\Ord gc/\LS a b c fc fm/\LS a b c gc gm/\a+b+c+1<=1800/\fc.length<=5000/\gc.length<=5000/\n<=1700))(_:0<=t)(_:Sz n t)(_:∀L:List (Option Rat×Option Rat),L.length<=20000->(∀p∈L,Prt (a+n+1) t p)->(none,some t)∈L->(∀k∈stI fc fm,tt fc k<=t->(some (tt fc k),some (t-tt fc k))∈L)->(∀k∈stI gc gm,tt gc k<=t->(some (t-tt gc k),some (tt gc k))∈L)->R (.l (L.map ptD)))
inductive MR (ss:List S)(R:S->Prop)(U:Str->Prop):Prop
 |mk (fc:Cs)(fm:Rat)(gc:Cs)(gm t:Rat)(p:Option Rat×Option Rat)(a b c n:Nat)(_:ss=[.d (crv fc fm),.d (crv gc gm),.d (ptD p)])(_:(Ord fc/\Ord gc/\LS a b c fc fm/\LS a b c gc gm/\a+b+c+1<=1800/\fc.length<=5000/\gc.length<=5000/\n<=1700))(_:(Prt n t p->Sz (b+n+c+1+(b+n+c+1)+1) (gv fc fm gc gm p)->R (.d (qd (gv fc fm gc gm p)))))(_:(¬Prt n t p->p=(some t,none)/\t<0/\Sz n t/\U "NoTime"))
inductive Fp (ss:List S)(R:S->Prop)(U_:Str->Prop):Prop
 |mk (ns:List Int)(k:Int)(_:ss=[.r (ns.map D.int),.d (.int k)])(_:0<=k)(_:R (.d (.int (cell ns k))))
inductive F5 (ss:List S)(R:S->Prop)(U_:Str->Prop):Prop
 |mk (a b:Int)(_:ss=[.d (.int a),.d (.int b)])(_:0<b)(_:a.natAbs<2^13000)(_:b.natAbs<2^13000)(_:R (.d (qd (Rat.divInt a b))))
inductive Hx (ss:List S)(R:S->Prop)(U_:Str->Prop):Prop
 |mk (a b c d:Int)(_:ss=[.d (tp a b),.d (tp c d)])(_:L4 400000 a b c d)(_:R (.d (.bl (decide (a*d<c*b)))))
inductive GP (ss:List S)(R:S->Prop)(U_:Str->Prop):Prop
 |mk (a b c d:Int)(_:ss=[.d (tp a b),.d (tp c d)])(_:L4 400000 a b c d)(_:R (.d (tp (a*d-c*b) (b*d))))
inductive Hy (ss:List S)(R:S->Prop)(U_:Str->Prop):Prop
 |mk (a b c d:Int)(_:ss=[.d (tp a b),.d (tp c d)])(_:L4 400000 a b c d)(_:R (.d (tp (a*d+c*b) (b*d))))
inductive EW (ss:List S)(R:S->Prop)(U_:Str->Prop):Prop
 |mk (c lo:Int)(_:ss=[.d (.int c),.d (.int lo)])(_:0<lo)(_:lo<=12)(_:∀p q:Int,0<=p->p<1000000000000000000->0<q->q<=12->R (.d (qd (Rat.divInt p q))))
inductive EX (ss:List S)(R:S->Prop)(U_:Str->Prop):Prop
 |mk (ms:List Int)(n:Int)(_:ss=[.d (.lst (ms.map D.int)),.d (.int n)])(_:0<=n)(_:n<=12)(_:3+2*n<=ms.length)(_:∀(cs:Cs)(m:Rat),CC cs m->R (.d (.tup [.lst (cs.map cd),qd m])))
inductive GV (ss:List S)(R:S->Prop)(U_:Str->Prop):Prop
 |mk (ns:List Int)(b n:Int)(_:ss=[.r (ns.map D.int),.d (.int b),.d (.int n)])(_:0<=b)(_:b<=100)(_:0<=n)(_:n<=12)(_:∀ms:List Int,(ms.length:Int)=3+2*n->R (.l (ms.map D.int)))
inductive G6 (ss:List S)(R:S->Prop)(U_:Str->Prop):Prop
 |mk (s n:Int)(_:ss=[.d (.int s),.d (.int n)])(_:0<=n)(_:n<=12)(_:∀ms:List Int,(ms.length:Int)=3+2*n->R (.l (ms.map D.int)))
inductive Dm (ss:List S)(R:S->Prop)(U_:Str->Prop):Prop
 |mk (c r:Int)(_:ss=[.d (.int c),.d (.int r)])(_:0<r)(_:r<=13)(_:∀(cs:Cs)(m:Rat),CC cs m->R (.d (.tup [.lst (cs.map cd),qd m])))
inductive Jo (ss:List S)(R:S->Prop)(U_:Str->Prop):Prop
 |mk (ns:List Int)(_:ss=[.r (ns.map D.int)])(_:∀(cs:Cs)(m:Rat)(ds:Cs)(k:Rat),CC cs m->CC ds k->R (.l [.tup [.lst (cs.map cd),qd m],.tup [.lst (ds.map cd),qd k]]))
inductive G3 (ss:List S)(R:S->Prop)(U_:Str->Prop):Prop
 |mk (x:S)(cs:Cs)(m t:Rat)(mn md tn td:Int)(n:Nat)(_:ss=[x,.d (tp mn md),.d (tp tn td)])(_:(x=.d (.tup (cs.map cd))\/x=.d (.lst (cs.map cd))\/x=.r (cs.map cd)))(_:0<cs.length)(_:cs.length<=100000)(_:n<=14000)(_:SzC n cs)(_:Wq n mn md m)(_:Wq n tn td t)(_:Up cs)(_:∀A B:Int,Wq (7*n+4) A B (val cs m t)->R (.d (tp A B)))
inductive EU (ss:List S)(R:S->Prop)(U_:Str->Prop):Prop
 |mk (q:Rat)(_:ss=[.d (qd q)])(_:Sz 13000 q)(_:R (.d (.bl true)))
inductive GI (ss:List S)(R:S->Prop)(U_:Str->Prop):Prop
 |mk (x:D)(cs:Cs)(m:Rat)(k:Nat)(_:ss=[.d (.tup [x,qd m]),.d (.int k)])(_:(x=.tup (cs.map cd)\/x=.lst (cs.map cd)))(_:0<k)(_:k<cs.length)(_:SzC 13000 cs)(_:Sz 13000 m)(_:Up cs)(_:R (.d (.bl (!decide (slp cs m (k-1)=slp cs m k)))))
inductive EZ (ss:List S)(R:S->Prop)(U_:Str->Prop):Prop
 |mk (cs:Cs)(m:Rat)(_:ss=[.d (crv cs m)])(_:Crv cs m)(_:SzK 13000 cs m)(_:R (.d (.bl true)))
inductive HA (ss:List S)(R:S->Prop)(U_:Str->Prop):Prop
 |mk (ns:List Int)(k:Int)(_:ss=[.r (ns.map D.int),.d (.int k)])(_:0<=k)(_:∀v:Int,R (.d (.int v)))
inductive F3 (ss:List S)(R:S->Prop)(U_:Str->Prop):Prop
 |mk (c o:Int)(x:S)(ps:List (Int×Int×Rat))(n:Nat)(_:ss=[.d (.int c),.d (.int o),x])(_:(x=.r (ps.map pD)\/False))(_:0<ps.length)(_:ps.length<=100000)(_:110<=n)(_:n<=6000)(_:(∀p∈ps,Wq n p.1 p.2.1 p.2.2/\0<=p.2.2))(_:∀p:Int×Int×Rat,Wq (n+40) p.1 p.2.1 p.2.2->0<=p.2.2->((∀p∈ps,pD p=qd p.2.2)->pD p=qd p.2.2)->R (.d (pD p)))
inductive GO (ss:List S)(R:S->Prop)(U_:Str->Prop):Prop
 |mk (cs:Cs)(m:Rat)(ds:Cs)(k t:Rat)(p:Option Rat×Option Rat)(_:ss=[.d (.tup [.lst (cs.map cd),qd m]),.d (.tup [.lst (ds.map cd),qd k]),.d (ptD p),.d (qd t)])(_:CC cs m)(_:CC ds k)(_:Prt 1400 t p)(_:∀(A B:Int),Wq 60000 A B (gv cs m ds k p)->R (.d (tp A B)))
inductive Fd (ss:List S)(R:S->Prop)(U_:Str->Prop):Prop
 |mk (fc:Cs)(fm:Rat)(gc:Cs)(gm t:Rat)(a b c n:Nat)(_:ss=[.d (crv fc fm),.d (crv gc gm),.d (qd t)])(_:(Ord fc/\Ord gc/\LS a b c fc fm/\LS a b c gc gm/\a+b+c+1<=1800/\fc.length<=5000/\gc.length<=5000/\a+n+1<=1700))(_:Sz n t)(_:t<0)(_:R (.d (.bl true)))
inductive Gr (ss:List S)(R:S->Prop)(U_:Str->Prop):Prop
 |mk (ns:List Int)(ps:List (Int×Int×Rat))(_:ss=[.r (ns.map D.int),.r (ps.map pD)])(_:0<ps.length)(_:ps.length<=100000)(_:ns.length<=100000)(_:(∀p∈ps,Wq 110 p.1 p.2.1 p.2.2/\0<=p.2.2/\pD p=qd p.2.2))(_:∀L:List (Rat×Rat),L.length<=100->(∀p∈L,Pr p)->R (.l (L.map prD)))
abbrev VH:Sp3:=Nh
inductive IY (ss:List S)(R:S->Prop)(U_:Str->Prop):Prop
 |mk (a b c d:Int)(p q:Rat)(k l:Nat)(_:ss=[.d (tp a b),.d (tp c d)])(_:Wq k a b p)(_:Wq l c d q)(_:k<=200000)(_:l<=200000)(_:R (.d (.bl (decide (p<q)))))
inductive DI (ss:List S)(R:S->Prop)(U_:Str->Prop):Prop
 |mk (cs:Cs)(m:Rat)(_:ss=[.d (.tup (cs.map cd)),.d (qd m)])(_:0<cs.length)(_:cs.length<=100000)(_:SzC 3200 cs)(_:Up cs)(_:R (.l ((JH cs m).map qd)))
section
variable {P:Program}{w:World}{K:W.Frag}{mg:Str->Option Value}{base:Heap}{f:Addr}{fd:FuncData}
variable {K_CurveError K_NoRatio K_NoCurve K_NoTime K_NoHouse K_NoWay K_NoText K_NoName K_NoEnd K_NoRow:Addr}
theorem Mp:Ad ["thing"] ["thing"] (Ab Hc):=scN
variable (Af:mg "isinstance"=none)
variable (Mu:mg "int"=none)
variable (IT:mg "bool"=none)
include Af Mu IT in
theorem Ms (F:Fun K "is_whole" "is_whole" Hc f fd):Az P w K mg base CX0 1 f fd ["thing"] (Ah K mg Im):=by
 refine fn3 F Mp (fun ss R U h=>?_) (fun cdv A outer s H E ss R U hr h=>?_)
 .obtain⟨a,rfl,_⟩:=h;rfl
 obtain⟨a,rfl,q⟩:=h
 refine#[_,(Bf (UB (KG .int (vN 0) rfl Af rfl Mu qCT) (Us (UJ (KG .bool (vN 0) rfl Af rfl IT qCM))))),?_]
 refine#[trivial,#[trivial,?_]]
 exact q
variable (Ep:Cal P w K mg base (CXU P w) 1 "is_whole" ["thing"] Im)
theorem Dv:Ad ["one","other","great","small","rest"] ["one","other"] (Ab Ii):=scN
variable (K6:mg "abs"=none)
include K6 in
theorem Og (F:Fun K "divisor" "divisor" Ii f fd):Az P w K mg base CX0 1 f fd ["one","other"] (Ah K mg JO):=by
 refine fn3 F Dv (fun ss R U h=>?_) (fun cdv A outer s H E ss R U hr h=>?_)
 .obtain⟨a,b,rfl,_⟩:=h;rfl
 obtain⟨a,b,rfl,q⟩:=h
 refine#[_,(Aa (AH 2 Dv (Hs TR rfl K6 qCd (a1 (vN 0))))
  (Aa (AH 3 Dv (Hs TR rfl K6 qCd (a1 (vN 1))))
  (Aa (G8 PassesOwn.never (BV Qu (vN 3) Ac) (Aa (AH 4 Dv (Ai A7 (vN 2) (vN 3)))
  (Aa (AH 2 Dv (vN 3))
  (Ag (AH 3 Dv (vN 4))))))
  (Ag (C6 (pv 2)))))),?_]
 refine#[fun m τ=>∃x y z,τ=[I a,I b,I x,I y,z]/\0<=x/\0<=y/\g x y=g a b/\m=y.toNat,#[_,_,_,_,rfl,?_,?_,Vv a b,rfl],?_]
 .exact Oo a
 .exact Oo b
 rintro m τ ⟨x,y,z,rfl,h1,h2,h3,rfl⟩
 refine Nt (fun c=>?_) (fun c=>?_)
 .refine#[c,(x.fmod y).toNat,?_,_,_,_,rfl,h2,?_,?_,rfl]
  .have:=qCy x (show 0<y from ())
   omega
  .exact qB6 x ()
  .rw[<-h3,qCB x h2]
   exact Sf ()
 .subst c
  rw[Va h1] at h3
  subst h3
  exact q
variable (GF:Cal P w K mg base (CXU P w) 1 "divisor" ["one","other"] JO)
theorem J8:Ad ["top","bottom","common"] ["top","bottom"] (Ab L7):=scN
include Ep GF in
theorem Rh (F:Fun K "ratio" "ratio" L7 f fd):Az P w K mg base CX0 2 f fd ["top","bottom"] (Ah K mg NG):=by
 refine fn3 F J8 (fun ss R U h=>?_) (fun cdv A outer s H E ss R U hr h=>?_)
 .obtain⟨a,b,rfl,_⟩:=h;rfl
 obtain⟨a,b,rfl,hb,h1,h2,q⟩:=h
 refine#[_,(Gh (BE (PW3.pt (HM (w_not (Bc (Aq hr Ep (a1 (vN 0))))) (EL (w_not (Bc (Aq hr Ep (a1 (vN 1)))))))) (Ag OK) Am)
  (Aa (BE (BV Kv (vN 1) Ac) (Ag OK) Am)
  (Aa (AH 2 J8 (Aq hr GF (a2 (vN 0) (vN 1))))
  (Dk (BE (BV HB (vN 1) Ac) (Ag (AH 2 J8 (Kt (vN 2)))) Am)
  (Bf (Bs (a2 (Ai A8 (vN 0) (vN 2)) (Ai A8 (vN 1) (vN 2))))))))),?_]
 have hp:=IA (a:=a) hb
 have hc:=NO (a:=a) hb
 refine#[#[a,rfl,#[b,rfl,rfl]],?_]
 refine Ca (fun e=>absurd e hb) (fun _=>?_)
 refine#[a,b,rfl,?_]
 refine#[fun τ=>τ=[I a,I b,I (cm a b)],?_,?_]
 .refine Ca (fun e=>?_) (fun e=>?_)
  .have e':cm a b=-(g a b):=if_pos e
   rw[e']
   rfl
  .have e':cm a b=g a b:=if_neg e
   rw[e']
   rfl
 rintro τ rfl
 refine#[#[hc,WG h1],#[hc,WG h2],(by show 2<=1000;decide),?_]
 show R (.d (.tup [.int (a.fdiv (cm a b)),.int (b.fdiv (cm a b))]))
 rw[hp.1,hp.2]
 exact q
variable (Bm:Cal P w K mg base (CXU P w) 2 "ratio" ["top","bottom"] NG)
theorem UM:Ad ["one","other"] ["one","other"] (Ab Ox):=scN
include Bm in
theorem Uu (F:Fun K "plus" "plus" Ox f fd):Az P w K mg base CX0 3 f fd ["one","other"] (Ah K mg Qr):=by
 refine fn3 F UM (fun ss R U h=>?_) (fun cdv A outer s H E ss R U hr h=>?_)
 .obtain⟨p,q,k,l,rfl,_⟩:=h;rfl
 obtain⟨q1,q2,k,l,rfl,h1,h2,hk,q⟩:=h
 refine#[_,(Bf (Aq hr Bm (a2 (Ai AU (Ai Av (vK 0) (vK 1)) (Ai Av (vK 1) (vK 0))) (Ai Av (vK 0) (vK 1))))),?_]
 have m1:=Aj h1.1 (AB h2)
 have m2:=Aj h2.1 (AB h1)
 have m3:=Aj (AB h1) (AB h2)
 rw[qBU l k] at m2
 refine#[Ax h1.1 (AB h2) (),Ax h2.1 (AB h1) (),Ax (AB h1) (AB h2) (),_,_,rfl,Ju q1 q2,Ar (GS m1 m2) (),Ar m3 (),?_]
 rw[Qa q1 q2]
 exact q
variable (DK:Cal P w K mg base (CXU P w) 3 "plus" ["one","other"] Qr)
theorem Q8:Ad ["one","other"] ["one","other"] (Ab Mb):=scN
include Bm in
theorem Q6 (F:Fun K "minus" "minus" Mb f fd):Az P w K mg base CX0 3 f fd ["one","other"] (Ah K mg NB):=by
 refine fn3 F Q8 (fun ss R U h=>?_) (fun cdv A outer s H E ss R U hr h=>?_)
 .obtain⟨p,q,k,l,rfl,_⟩:=h;rfl
 obtain⟨q1,q2,k,l,rfl,h1,h2,hk,q⟩:=h
 refine#[_,(Bf (Aq hr Bm (a2 (Ai DN (Ai Av (vK 0) (vK 1)) (Ai Av (vK 1) (vK 0))) (Ai Av (vK 0) (vK 1))))),?_]
 have m1:=Aj h1.1 (AB h2)
 have m2:=Aj h2.1 (AB h1)
 have m3:=Aj (AB h1) (AB h2)
 rw[qBU l k] at m2
 refine#[Ax h1.1 (AB h2) (),Ax h2.1 (AB h1) (),Ax (AB h1) (AB h2) (),_,_,rfl,Ju q1 q2,Ar (DL m1 m2) (),Ar m3 (),?_]
 rw[Nn q1 q2]
 exact q
variable (AS:Cal P w K mg base (CXU P w) 3 "minus" ["one","other"] NB)
theorem Ra:Ad ["one","other"] ["one","other"] (Ab L9):=scN
include Bm in
theorem RO (F:Fun K "times" "times" L9 f fd):Az P w K mg base CX0 3 f fd ["one","other"] (Ah K mg Nd):=by
 refine fn3 F Ra (fun ss R U h=>?_) (fun cdv A outer s H E ss R U hr h=>?_)
 .obtain⟨p,q,k,l,rfl,_⟩:=h;rfl
 obtain⟨q1,q2,k,l,rfl,h1,h2,hk,q⟩:=h
 refine#[_,(Bf (Aq hr Bm (a2 (Ai Av (vK 0) (vK 1)) (Ai Av (vK 0) (vK 1))))),?_]
 refine#[Ax h1.1 h2.1 (),Ax (AB h1) (AB h2) (),_,_,rfl,Ju q1 q2,Ar (Aj h1.1 h2.1) (),Ar (Aj (AB h1) (AB h2)) (),?_]
 rw[M4 q1 q2]
 exact q
variable (Gb:Cal P w K mg base (CXU P w) 3 "times" ["one","other"] Nd)
theorem Ud:Ad ["one","other"] ["one","other"] (Ab Qn):=scN
include Bm in
theorem T8 (F:Fun K "over" "over" Qn f fd):Az P w K mg base CX0 3 f fd ["one","other"] (Ah K mg PD):=by
 refine fn3 F Ud (fun ss R U h=>?_) (fun cdv A outer s H E ss R U hr h=>?_)
 .obtain⟨p,q,k,l,rfl,_⟩:=h;rfl
 obtain⟨q1,q2,k,l,rfl,h1,h2,hk,h0,q⟩:=h
 refine#[_,(Bf (Aq hr Bm (a2 (Ai Av (vK 0) (vK 1)) (Ai Av (vK 0) (vK 1))))),?_]
 refine#[Ax h1.1 (AB h2) (),Ax (AB h1) h2.1 (),_,_,rfl,Sz.den_ne (k:=0) h0,Ar (Aj h1.1 (AB h2)) (),Ar (Aj (AB h1) h2.1) (),?_]
 rw[OM q1 q2 h0]
 exact q
variable (Jm:Cal P w K mg base (CXU P w) 3 "over" ["one","other"] PD)
theorem M5:Ad ["one","other"] ["one","other"] (Ab Kp):=scN
theorem Rv (F:Fun K "under" "under" Kp f fd):Az P w K mg base CX0 1 f fd ["one","other"] (Ah K mg MT):=by
 refine fn3 F M5 (fun ss R U h=>?_) (fun cdv A outer s H E ss R U hr h=>?_)
 .obtain⟨p,q,k,l,rfl,_⟩:=h;rfl
 obtain⟨q1,q2,k,l,rfl,h1,h2,hk,q⟩:=h
 refine#[_,(Bf (Me HB (Ai Av (vK 0) (vK 1)) (Ai Av (vK 1) (vK 0)) (HF _))),?_]
 refine#[Ax h1.1 (AB h2) (),Ax h2.1 (AB h1) (),?_]
 have e:decide (q1.num*(q2.den:Int)<q2.num*(q1.den:Int))=decide (q1<q2):=decide_eq_decide.mpr (lt_iff q1 q2)
 show R (.d (.bl (decide (q1.num*(q2.den:Int)<q2.num*(q1.den:Int)))))
 rw[e]
 exact q
variable (Aw:Cal P w K mg base (CXU P w) 1 "under" ["one","other"] MT)
theorem Mo (F:Fun K "under" "under" Kp f fd):Az P w K mg base CX0 1 f fd ["one","other"] (Ah K mg IY):=by
 refine fn3 F M5 (fun ss R U h=>?_) (fun cdv A outer s H E ss R U hr h=>?_)
 .obtain⟨a,b,c,d,p,q,k,l,rfl,_⟩:=h;rfl
 obtain⟨a,b,c,d,p,q0,k,l,rfl,h1,h2,hk,hl,q⟩:=h
 refine#[_,(Bf (Me HB (Ai Av (vK 0) (vK 1)) (Ai Av (vK 1) (vK 0)) (HF _))),?_]
 refine#[Ax h1.la h2.lb (),Ax h2.la h1.lb (),?_]
 show R (.d (.bl (decide (a*d<c*b))))
 rw[XC h1 h2]
 exact q
variable (Bo:Cal P w K mg base (CXU P w) 1 "under" ["one","other"] IY)
theorem Pz:Ad ["one","other"] ["one","other"] (Ab JY):=scN
include Aw in
theorem Ov (F:Fun K "lesser" "lesser" JY f fd):Az P w K mg base CX0 2 f fd ["one","other"] (Ah K mg Lo):=by
 refine fn3 F Pz (fun ss R U h=>?_) (fun cdv A outer s H E ss R U hr h=>?_)
 .obtain⟨p,q,k,l,rfl,_⟩:=h;rfl
 obtain⟨q1,q2,k,l,rfl,h1,h2,hk,q⟩:=h
 refine#[_,(Aa (BE (Bc (Aq hr Aw (a2 (vN 1) (vN 0)))) (Ag (C6 (pv 1))) Am)
  (Ag (C6 (pv 0)))),?_]
 refine#[q2,q1,l,k,rfl,h2,h1,(),?_]
 refine Ca (fun e=>?_) (fun e=>?_)
 .rw[if_pos e] at q
  exact q
 .rw[if_neg e] at q
  exact q
variable (DZ:Cal P w K mg base (CXU P w) 2 "lesser" ["one","other"] Lo)
theorem Jv:Ad ["corners"] ["corners"] (Ab EG):=scN
variable (AG:mg "len"=none)
variable (gc_NOUGHT:GC K mg "NOUGHT" (.tup [(.int 0),(.int 1)]))
variable (ec_NoCurve:ExC K "NoCurve" K_NoCurve)
variable (m_NoCurve:mg "NoCurve"=some (.ref K_NoCurve))
include Aw AG gc_NOUGHT ec_NoCurve m_NoCurve in
theorem JC (F:Fun K "check_begin" "check_begin" EG f fd):Az P w K mg base (CXU P w) 2 f fd ["corners"] (Ah K mg FX):=by
 refine fnW (fun ss R U h=>?_) (fnU F Jv (fun ss R U h=>?_) (fun cdv A outer s H E ss R U hr h xo=>?_))
 .obtain⟨x,cs,rfl,hx,hl,hz,q,qu⟩:=h
  rcases hx with rfl|rfl<;>exact#[_,cs,rfl,(.inl rfl),hl,hz,q,qu]
 .obtain⟨x,cs,rfl,_⟩:=h.1;rfl
 obtain⟨h,nl_⟩:=h
 obtain⟨x,cs,rfl,hx,hl,hz,q,qu⟩:=h
 refine#[_,(Aa (BE (BV Kv (Co AG (vN 0)) Ac) (Ag (Ge xo rfl MD rfl ec_NoCurve m_NoCurve)) Am)
  (Aa (BE (BV (N8 1 (hu_ hr ∅)) (AW (vK 0) Ac) (UP rfl gc_NOUGHT)) (Ag (Ge xo rfl MD rfl ec_NoCurve m_NoCurve)) Am)
  (Ag (BE (Bc (Iz xo hr Aw (a2 (AW (vK 0) Ac) (UP rfl gc_NOUGHT)))) (Ag (Ge xo rfl MD rfl ec_NoCurve m_NoCurve)) Am)))),?_]
 obtain rfl:=KH hx (nl_ _ (by simp))
 refine Ca (fun c=>?_) (fun c=>?_)
 .exact qu (fun z=>by have:=z.1;rw[qAa] at c;omega)
 have c0:0<cs.length:=by rw[qAa] at c;omega
 have a0:=BM (cs:=cs) (i:=0) 0 rfl c0
 have z0:=hz 0 c0
 refine atR a0 ?_
 refine#[rfl,rfl,neT (tt cs 0) 0 (fun c=>qu (fun z=>c z.2.1)) (fun e0=>?_)]
 refine atR a0 ?_
 refine#[_,0,_,_,rfl,z0.2,Sz.zero,∅,?_]
 refine Ca (fun c=>qu (fun z=>absurd c (qAM.mpr z.2.2))) (fun c=>?_)
 exact q #[c0,e0,qAM.mp c]
variable (Dt:Cal P w K mg base (CXU P w) 2 "check_begin" ["corners"] FX)
theorem Dr:Ad ["corners","number","ahead","corner"] ["corners"] (Ab E3):=scN
variable (Ay:mg "range"=none)
include Aw AG ec_NoCurve m_NoCurve Ay in
theorem Kc (F:Fun K "check_rise" "check_rise" E3 f fd):Az P w K mg base (CXU P w) 2 f fd ["corners"] (Ah K mg GW):=by
 refine fnW (fun ss R U h=>?_) (fnU F Dr (fun ss R U h=>?_) (fun cdv A outer s H E ss R U hr h xo=>?_))
 .obtain⟨x,cs,rfl,hx,c0,hl,hz,q,qu⟩:=h
  rcases hx with rfl|rfl<;>exact#[_,cs,rfl,(.inl rfl),c0,hl,hz,q,qu]
 .obtain⟨x,cs,rfl,_⟩:=h.1;rfl
 obtain⟨h,nl_⟩:=h
 obtain⟨x,cs,rfl,hx,c0,hl,hz,q,qu⟩:=h
 refine#[_,(Ag (Qt (BP PassesOwn.leaving rfl (DG rfl Ay (PA3.out (a2 Ac (Co AG (vN 0))))) (AR (i:=1) Dr.nd rfl (Or.inl rfl)) (DP.out (Aa (AH 2 Dr (AW (vN 0) (Ai DN (vN 1) Ac)))
  (Aa (AH 3 Dr (AW (vN 0) (vN 1)))
  (Aa (BE (w_not (Bc (Iz xo hr Aw (a2 (vK 2) (vK 3))))) (Ag (Ge xo rfl MD rfl ec_NoCurve m_NoCurve)) Am)
  (Ag (BE (Bc (Iz xo hr Aw (a2 (vK 3) (vK 2)))) (Ag (Ge xo rfl MD rfl ec_NoCurve m_NoCurve)) Am))))))))),?_]
 obtain rfl:=KH hx (nl_ _ (by simp))
 refine#[#[∅,∅,by rw[qAa];omega,by rw[qAa];omega],?_]
 refine#[fun n τ=>∃y0 y1 y2,τ=[some (.r (cs.map cd)),y0,y1,y2]/\Ris cs n,#[_,_,_,rfl,fun k hk=>absurd hk (qA9 k)],?_,?_]
 .rintro n τ hn ⟨y0,y1,y2,rfl,hr⟩
  rw[qAa] at hn
  have n1:n+1<cs.length:=()
  have z0:=hz n ()
  have z1:=hz (n+1) n1
  refine atR (BM (cs:=cs) n () ()) ?_
  refine atR (BM (cs:=cs) (n+1) () n1) ?_
  refine#[_,_,_,_,rfl,z0.1,z1.1,∅,?_]
  refine Nt (fun c=>qu (fun z=>c (z n () n1).1)) (fun lt=>?_)
  refine#[_,_,_,_,rfl,z1.2,z0.2,∅,?_]
  refine Ca (fun c=>qu (fun z=>absurd c (qAM.mpr (z n () n1).2))) (fun c=>?_)
  refine#[_,_,_,rfl,fun k hk k1=>?_]
  by_cases e:k<n
  .exact hr k e k1
  .have e':k=n:=()
   subst e'
   exact#[lt,qAM.mp c]
 rintro τ ⟨y0,y1,y2,rfl,hr⟩
 rw[qAa,show((cs.length:Int)-1).toNat=cs.length-1 from ()] at hr
 exact q (fun k hk k1=>hr k () k1)
variable (Ed:Cal P w K mg base (CXU P w) 2 "check_rise" ["corners"] GW)
theorem HL:Ad ["one","other"] ["one","other"] (Ab DH):=scN
include AS Jm in
theorem HN (F:Fun K "slope_between" "slope_between" DH f fd):Az P w K mg base CX0 4 f fd ["one","other"] (Ah K mg EV):=by
 refine fn3 F HL (fun ss R U h=>?_) (fun cdv A outer s H E ss R U hr h=>?_)
 .obtain⟨a,b,c,d,n,rfl,_⟩:=h;rfl
 obtain⟨a,b,c,d,n,rfl,hn,ha,hb,hc,hd,h0,q⟩:=h
 refine#[_,(Bf (Aq hr Jm (a2 (Aq hr AS (a2 (vK 1) (vK 0))) (Aq hr AS (a2 (vK 1) (vK 0)))))),?_]
 refine#[d,b,n,n,rfl,hd,hb,(),?_]
 refine#[c,a,n,n,rfl,hc,ha,(),?_]
 exact#[d-b,c-a,_,_,rfl,hd.sub hb,hc.sub ha,(),h0,q]
variable (AO:Cal P w K mg base (CXU P w) 4 "slope_between" ["one","other"] EV)
theorem Cc:Ad ["points","last","slopes"] ["points","last"] (Ab Bt):=scN
include AG Ay AO in
theorem HV (F:Fun K "slopes_behind" "slopes_behind" Bt f fd):Az P w K mg base CX0 5 f fd ["points","last"] (Ah K mg E1):=by
 refine fnW (fun ss R U h=>?_) (fn3 F Cc (fun ss R U h=>?_) (fun cdv A outer s H E ss R U hr h=>?_))
 .obtain⟨x,cs,m,rfl,hx,c0,hl,hz,up,q⟩:=h
  rcases hx with rfl|rfl<;>exact#[_,cs,m,rfl,(.inl rfl),c0,hl,hz,up,q]
 .obtain⟨x,cs,m,rfl,_⟩:=h.1;rfl
 obtain⟨h,nl_⟩:=h
 obtain⟨x,cs,m,rfl,hx,c0,hl,hz,up,q⟩:=h
 refine#[_,(Aa (LA (i:=2) (N:=["number","points"]) (idx:=[0]) (Ba.mk' (Ab Bt) ["points","last","slopes"] rfl rfl (by decide +kernel)) rfl (DG rfl Ay (PA3.out (a2 Ac (Co AG (vN 0))))) Ib (fun cl C s₀ H₀ fp=>Cf) (fun cl C s₀ H₀ fp=>(Aq hr AO (a2 (AW (vN 1) (Ai DN (vN 0) Ac)) (AW (vN 1) (vN 0))))) Cc.nd rfl (Or.inl rfl))
  (Aa (DQ (Be (DR qAu qAs qAt AF (pv 2) (AL (PE3.out (vN 1)) Bn))))
  (Ag (C6 (pv 2))))),?_]
 obtain rfl:=KH hx (nl_ _ (by simp))
 refine#[#[∅,∅,by rw[qAa];omega,by rw[qAa];omega],?_]
 have eN:((((cs.map cd).length:Nat):Int)-1).toNat=cs.length-1:=by rw[qAa];omega
 refine#[(List.range (cs.length-1)).map fun i=>some (qd (slp cs m i)),by rw[Bp,eN,qAa,qAH],?_,?_,?_]
 .intro n x hx
  obtain⟨hn,rfl⟩:=Em hx
  rw[eN] at hn
  have n1:n+1<cs.length:=()
  have z0:=hz n ()
  have z1:=hz (n+1) n1
  refine atR (BM (cs:=cs) n () ()) ?_
  refine atR (BM (cs:=cs) (n+1) () n1) ?_
  refine#[tt cs n,vv cs n,tt cs (n+1),vv cs (n+1),3200,rfl,∅,z0.1,z0.2,z1.1,z1.2,E6 (up n n1),?_]
  show((List.range (cs.length-1)).map _)[n]? = _
  rw[qAe,qAK ()]
  show some (some (qd (slp cs m n)))=_
  rw[BX n1]
 .rw[Bp,eN];omega
 refine#[?_,?_]
 .have:=qBB id ((List.range (cs.length-1)).map fun i=>some (qd (slp cs m i)))
  rw[qAa,qAH] at this
  omega
 show R (.l (_++[qd m]))
 rw[Nv cs m c0]
 exact q
variable (Bg:Cal P w K mg base (CXU P w) 5 "slopes_behind" ["points","last"] E1)
include AG Ay AO in
theorem Gk (F:Fun K "slopes_behind" "slopes_behind" Bt f fd):Az P w K mg base CX0 5 f fd ["points","last"] (Ah K mg DI):=by
 refine fn3 F Cc (fun ss R U h=>?_) (fun cdv A outer s H E ss R U hr h=>?_)
 .obtain⟨cs,m,rfl,_⟩:=h;rfl
 obtain⟨cs,m,rfl,c0,hl,hz,up,q⟩:=h
 refine#[_,(Aa (LA (i:=2) (N:=["number","points"]) (idx:=[0]) (Ba.mk' (Ab Bt) ["points","last","slopes"] rfl rfl (by decide +kernel)) rfl (DG rfl Ay (PA3.out (a2 Ac (Co AG (vN 0))))) Ib (fun cl C s₀ H₀ fp=>Cf) (fun cl C s₀ H₀ fp=>(Aq hr AO (a2 (AW (vN 1) (Ai DN (vN 0) Ac)) (AW (vN 1) (vN 0))))) Cc.nd rfl (Or.inl rfl))
  (Aa (DQ (Be (DR qAu qAs qAt AF (pv 2) (AL (PE3.out (vN 1)) Bn))))
  (Ag (C6 (pv 2))))),?_]
 refine#[#[∅,∅,by rw[qAa];omega,by rw[qAa];omega],?_]
 have eN:((((cs.map cd).length:Nat):Int)-1).toNat=cs.length-1:=by rw[qAa];omega
 refine#[(List.range (cs.length-1)).map fun i=>some (qd (slp cs m i)),by rw[Bp,eN,qAa,qAH],?_,?_,?_]
 .intro n x hx
  obtain⟨hn,rfl⟩:=Em hx
  rw[eN] at hn
  have n1:n+1<cs.length:=()
  have z0:=hz n ()
  have z1:=hz (n+1) n1
  refine atR (BM (cs:=cs) n () ()) ?_
  refine atR (BM (cs:=cs) (n+1) () n1) ?_
  refine#[tt cs n,vv cs n,tt cs (n+1),vv cs (n+1),3200,rfl,∅,z0.1,z0.2,z1.1,z1.2,E6 (up n n1),?_]
  show((List.range (cs.length-1)).map _)[n]? = _
  rw[qAe,qAK ()]
  show some (some (qd (slp cs m n)))=_
  rw[BX n1]
 .rw[Bp,eN];omega
 refine#[?_,?_]
 .have:=qBB id ((List.range (cs.length-1)).map fun i=>some (qd (slp cs m i)))
  rw[qAa,qAH] at this
  omega
 show R (.l (_++[qd m]))
 rw[Nv cs m c0]
 exact q
variable (Ao:Cal P w K mg base (CXU P w) 5 "slopes_behind" ["points","last"] DI)
theorem Ia:Ad ["corners","last","slopes","kept","number"] ["corners","last"] (Ab Mz):=scN
variable (Cd:mg "tuple"=none)
include Aw AG gc_NOUGHT ec_NoCurve m_NoCurve Dt Ay Ed Bg Cd in
theorem Rk (F:Fun K "curve" "curve" Mz f fd):Az P w K mg base (CXU P w) 6 f fd ["corners","last"] (Ah K mg Nj):=by
 refine fnW (fun ss R U h=>?_) (fnU F Ia (fun ss R U h=>?_) (fun cdv A outer s H E ss R U hr h xo=>?_))
 .obtain⟨x,cs,m,rfl,hx,hz,q,qu⟩:=h
  rcases hx with rfl|rfl<;>exact#[_,cs,m,rfl,(.inl rfl),hz,q,qu]
 .obtain⟨x,cs,m,rfl,_⟩:=h.1;rfl
 obtain⟨h,nl_⟩:=h
 obtain⟨x,cs,m,rfl,hx,hz,q,qu⟩:=h
 refine#[_,(Aa (P4 (Iz xo hr Dt (a1 (vN 0))))
  (Aa (P4 (Iz xo hr Ed (a1 (vN 0))))
  (Aa (BE (Bc (Iz xo hr Aw (a2 (vN 1) (UP rfl gc_NOUGHT)))) (Ag (Ge xo rfl MD rfl ec_NoCurve m_NoCurve)) Am)
  (Aa (AH 2 Ia (Iz xo hr Bg (a2 (vN 0) (vN 1))))
  (Aa (AH 3 Ia (F9 (a1 (vK 0))))
  (Aa (Qt (BP PassesOwn.leaving rfl (DG rfl Ay (PA3.out (a2 Ac (Co AG (vN 0))))) (AR (i:=4) Ia.nd rfl (Or.inl rfl)) (DP.out (Ag (BE (BV (N8 1 (hu_ hr ∅)) (AW (vN 2) (vN 4)) (AW (vN 2) (Ai DN (vN 4) Ac))) (Ag (DQ (Be (DR qAu qAs qAt AF (pv 3) (AL (PE3.out (AW (vN 0) (vN 4))) Bn))))) Am)))))
  (Bf (Bs (a2 (TC (vN 3) rfl Cd) (vN 1)))))))))),?_]
 obtain rfl:=KH hx (nl_ _ (by simp))
 have hl:=hz.len
 refine#[_,cs,rfl,Or.inl rfl,hl,hz.cs,fun hb=>?_,fun nb=>qu (fun z=>nb #[z.1.ne,z.1.t0,z.1.v0])]
 refine#[_,cs,rfl,Or.inl rfl,hb.1,hl,hz.cs,fun hr=>?_,fun nr=>qu (fun z=>nr (fun k _ k1=>#[z.1.up k k1,z.1.vu k k1]))]
 refine#[m,0,_,_,rfl,hz.m,Sz.zero,∅,?_]
 refine Ca (fun c=>qu (fun z=>absurd c (qAM.mpr z.2))) (fun c=>?_)
 have hm:0<=m:=qAM.mp c
 have c0:=hb.1
 have ho:Ord cs:=#[hb.1,hb.2.1,hb.2.2,fun k k1=>(hr k () k1).1,fun k k1=>(hr k () k1).2]
 refine#[_,cs,m,rfl,Or.inl rfl,c0,hl,hz.cs.mono ∅,ho.up,?_]
 refine atR (BM (cs:=cs) (i:=0) 0 rfl c0) ?_
 refine#[(by show 1<=1000;decide),?_]
 refine#[#[∅,∅,by rw[qAa];omega,by rw[qAa];omega],?_]
 refine#[fun n τ=>∃y,τ=[some (.r (cs.map cd)),some (.d (qd m)),some (.l ((JH cs m).map qd)),some (.l ((kp cs m n).map cd)),y],#[_,rfl],?_,?_]
 .rintro n τ hn ⟨y,rfl⟩
  rw[qAa] at hn
  have n1:n+1<cs.length:=()
  refine atR (My (n+1) () n1) ?_
  refine atR (My n () ()) ?_
  refine#[rfl,rfl,neT (slp cs m (n+1)) (slp cs m n) (fun c=>?_) (fun c=>?_)]
  .refine atR (BM (cs:=cs) (n+1) () n1) ?_
   refine#[?_,some (.d (.int (1+n*1))),?_]
   .rw[qAa]
    have:=Jq cs m n
    omega
   .rw[NQ (fun z=>c z.symm),qAC]
    rfl
  .refine#[some (.d (.int (1+n*1))),?_]
   rw[Hd c.symm]
   rfl
 rintro τ ⟨y,rfl⟩
 rw[qAa,show((cs.length:Int)-1).toNat=cs.length-1 from ()]
 exact#[(by show 2<=1000;decide),q #[ho,hm]]
variable (Cq:Cal P w K mg base (CXU P w) 6 "curve" ["corners","last"] Nj)
theorem Ks:Ad ["t"] ["t"] (Ab Fu):=scN
variable (ec_NoTime:ExC K "NoTime" K_NoTime)
variable (m_NoTime:mg "NoTime"=some (.ref K_NoTime))
include Aw gc_NOUGHT ec_NoTime m_NoTime in
theorem J7 (F:Fun K "check_time" "check_time" Fu f fd):Az P w K mg base (CXU P w) 2 f fd ["t"] (Ah K mg GX):=by
 refine fnU F Ks (fun ss R U h=>?_) (fun cdv A outer s H E ss R U hr h xo=>?_)
 .obtain⟨t,n,rfl,_⟩:=h;rfl
 obtain⟨t,n,rfl,hn,ht,q,qu⟩:=h
 refine#[_,(Ag (BE (Bc (Iz xo hr Aw (a2 (vN 0) (UP rfl gc_NOUGHT)))) (Ag (Ge xo rfl MD rfl ec_NoTime m_NoTime)) Am)),?_]
 refine#[t,0,_,_,rfl,ht,Sz.zero,(),?_]
 exact Ca (fun c=>qu (qA8.mpr c)) (fun c=>q (qAM.mp c))
variable (Ea:Cal P w K mg base (CXU P w) 2 "check_time" ["t"] GX)
theorem BF:Ad ["corners","holds","low","high","middle"] ["corners","holds"] (Ab ED):=scN
include AG in
theorem Jy (F:Fun K "count_while" "count_while" ED f fd):Ob P w K mg base 5 4 f fd ["corners","holds"] F4:=by
 refine Y1 (fun a dom p ss R U h=>?_) (fnL F BF (fun a dom p ss R U h=>?_) (fun cdv A outer s H E a dom p ss R U hr hL h=>?_))
 .obtain⟨x,xs,n,rfl,hx,hl,hn,hp,q⟩:=h
  rcases hx with rfl|rfl|rfl
  .exact#[_,xs,n,rfl,(.inl rfl),hl,hn,hp,q]
  all_goals exact#[_,xs,n,rfl,(.inr (.inl rfl)),hl,hn,hp,q]
 .obtain⟨x,xs,n,rfl,_⟩:=h.1;rfl
 obtain⟨h,nl_⟩:=h
 obtain⟨x,xs,n,rfl,hx,hl,hn,hp,q⟩:=h
 refine#[_,(Aa (AH 2 BF Ac)
  (Aa (AH 3 BF (Co AG (vN 0)))
  (Aa (G8 PassesOwn.never (BV HB (vN 2) (vN 3)) (Aa (AH 4 BF (Ai A8 (Ai AU (vN 2) (vN 3)) Ac))
  (Ag (BE (Bc (Uv hL (hr.mono ∅) (pv 1) (AW (vN 0) (vN 4)))) (Ag (AH 2 BF (Ai AU (vN 4) Ac))) (Ag (AH 3 BF (vN 4)))))))
  (Ag (C6 (pv 2)))))),?_]
 replace hx:=hx.imp_right fun z=>KH z (nl_ _ (by simp))
 rcases hx with rfl|rfl
 all_goals
  first|refine#[fun m τ=>∃(lo hi:Int)(y:Option S),τ=[some (.d (.tup xs)),some (.d (.ref a)),I lo,I hi,y]/\0<=lo/\lo<=n/\(n:Int)<=hi/\hi<=xs.length/\m=(hi-lo).toNat,#[_,_,_,_,rfl,∅,(),(),(),rfl],?_]|refine#[fun m τ=>∃(lo hi:Int)(y:Option S),τ=[some (.r xs),some (.d (.ref a)),I lo,I hi,y]/\0<=lo/\lo<=n/\(n:Int)<=hi/\hi<=xs.length/\m=(hi-lo).toNat,#[_,_,_,_,rfl,∅,(),(),(),rfl],?_]
  rintro m τ ⟨lo,hi,y,rfl,h1,h2,h3,h4,rfl⟩
  refine Ca (fun c=>?_) (fun c=>?_)
  .have d1:lo<=(lo+hi).fdiv 2/\(lo+hi).fdiv 2<hi:=by
    rw[qBO _ ∅]
    exact Vn c
   refine#[#[nz2,Cn ∅],?_]
   generalize (lo+hi).fdiv 2=mid at d1
   have m0:0<=mid:=Int.le_trans h1 d1.1
   have em:mid=((mid.toNat:Nat):Int):=(Int.toNat_of_nonneg m0).symm
   have ml:mid.toNat<xs.length:=Yz h1 d1.1 d1.2 h4
   have hx:xs[mid.toNat]? = some xs[mid.toNat]:=qAb ml
   have b:atI xs mid=some xs[mid.toNat]:=by
    have:=atI_nat ml
    rw[<-em] at this
    rw[this]
    exact hx
   obtain⟨dm,ep⟩:=hp _ _ hx
   refine#[rfl,?_]
   refine atR b ?_
   refine#[dm,?_]
   rw[ep]
   refine Ca (fun e=>?_) (fun e=>?_)
   .exact#[(hi-(mid+1)).toNat,(),_,_,_,rfl,Int.add_nonneg m0 ∅,(),h3,h4,rfl]
   .exact#[(mid-lo).toNat,Yl d1.2 d1.1,_,_,_,rfl,h1,h2,(),(),rfl]
  .have e:lo=n:=()
   subst e
   exact q
variable (AY:Xv P w K mg base 5 4 "count_while" ["corners","holds"] F4)
theorem MG:Ad ["f","t"] ["f","t"] (Ab Fz):=scN
include Aw Ea AY in
theorem Mj (F:Fun K "piece_at" "piece_at" Fz f fd){cA cT:Addr}(ht_:W.tabIn K "piece_at"=some (cA,cT)) (hn_:rA K "piece_at" f) (hp_:(PyProof.Rows.recsOf P).any (fun d=>d.name == "piece_at")=true):Az P w K mg base (CXU P w) 6 f fd ["f","t"] (Ah K mg Jf):=by
 refine Yx ht_ hn_ F MG (fun ss R U h=>?_) (fun cdv A outer s H E ss R U ec hr h xo=>?_)
 .obtain⟨cs,m,t,n,rfl,_⟩:=h;rfl
 subst ec
 obtain⟨cs,m,t,n,rfl,c0,hl,t0,up,hn,hz,ht,q,qu⟩:=h
 refine#[_,(Aa (P4 (Iz xo hr Ea (a1 (vN 1))))
  (Bf (Ai DN (Km (x:="corner") AY (hr.mono ∅) rfl ht_ hp_ rfl (Ba.mk' (Ab Fz) ["f","t"] rfl rfl (by decide +kernel) (N:=["corner","t"]) (idx:=[1])) (vK 0) (fun cl nm a cdv A outer s H hr=>(UJ (Aq hr Aw (a2 (vN 1) (vK 0)))))) Ac))),?_]
 refine#[t,n,rfl,hn,ht,fun c'=>?_,fun c=>qu c]
 have h0:tt cs 0<=t:=by rw[t0];exact c'
 refine#[fun x=>∃k,k<cs.length/\x=.tup [qd (tt cs k),qd (vv cs k)],fun x=>!decide (t<tOf x),?_,?_]
 .rintro x ⟨k,hk,rfl⟩
  refine#[t,tt cs k,_,_,rfl,ht,(hz k hk).1,(),?_]
  show S.d (.bl (!decide (t<tt cs k)))=.d (.bl (!decide (t<tOf (.tup [qd (tt cs k),qd (vv cs k)]))))
  rw[Sg]
 intro a
 refine#[_,_,plc cs t cs.length+1,rfl,Or.inl rfl,by rw[qAa];exact hl,by rw[qAa];exact JQ c0 _ (qAc _),fun i x hx=>?_,?_]
 .obtain⟨hi,rfl⟩:=Jc hx
  refine#[#[i,hi,rfl],?_]
  show(!decide (t<tOf (.tup [qd (tt cs i),qd (vv cs i)])))=_
  rw[Sg]
  exact Uw up h0 hi
 show R (.d (.int (((plc cs t cs.length+1:Nat):Int)-1)))
 rw[show(((plc cs t cs.length+1:Nat):Int)-1)=((plc cs t cs.length:Nat):Int) from ()]
 exact q c'
variable (FG:Cal P w K mg base (CXU P w) 6 "piece_at" ["f","t"] Jf)
theorem Er:Ad ["f","number","corners"] ["f","number"] (Ab De):=scN
include AG AO in
theorem Hh (F:Fun K "slope_of_piece" "slope_of_piece" De f fd):Az P w K mg base CX0 5 f fd ["f","number"] (Ah K mg En):=by
 refine fn3 F Er (fun ss R U h=>?_) (fun cdv A outer s H E ss R U hr h=>?_)
 .obtain⟨cs,m,k,n,rfl,_⟩:=h;rfl
 obtain⟨cs,m,k,n,rfl,hk,hl,up,hn,hz,q⟩:=h
 refine#[_,(Aa (AH 2 Er (vK 0))
  (Aa (BE (BV Kv (vN 1) (Ai DN (Co AG (vN 2)) Ac)) (Bf (vK 0)) Am)
  (Bf (Aq hr AO (a2 (AW (vN 2) (vN 1)) (AW (vN 2) (Ai AU (vN 1) Ac))))))),?_]
 refine Ca (fun c=>?_) (fun c=>?_)
 .rw[qAa] at c
  rw[Bb ()] at q
  exact q
 rw[qAa] at c
 have k1:k+1<cs.length:=()
 refine atR (OC hk) ?_
 refine atR (BM (cs:=cs) (k+1) () k1) ?_
 refine#[_,_,_,_,n,rfl,hn,(hz k hk).1,(hz k hk).2,(hz _ k1).1,(hz _ k1).2,E6 (up k k1),?_]
 rw[BX k1] at q
 exact q
variable (B9:Cal P w K mg base (CXU P w) 5 "slope_of_piece" ["f","number"] En)
theorem Go:Ad ["f","t","number","corner"] ["f","t"] (Ab Hr):=scN
include DK AS Gb FG B9 in
theorem MC (F:Fun K "value_at" "value_at" Hr f fd):Az P w K mg base (CXU P w) 7 f fd ["f","t"] (Ah K mg IW):=by
 refine fnU F Go (fun ss R U h=>?_) (fun cdv A outer s H E ss R U hr h xo=>?_)
 .obtain⟨cs,m,t,n,rfl,_⟩:=h;rfl
 obtain⟨cs,m,t,n,rfl,c0,t0,up,hn,hz,ht,q,qu⟩:=h
 refine#[_,(Aa (AH 2 Go (Iz xo hr FG (a2 (vN 0) (vN 1))))
  (Aa (AH 3 Go (AW (vK 0) (vN 2)))
  (Aa (BE (BV (SI 1 (hu_ hr ∅)) (vK 3) (vN 1)) (Bf (vK 3)) Am)
  (Bf (Iz xo hr DK (a2 (vK 3) (Iz xo hr Gb (a2 (Iz xo hr B9 (a2 (vN 0) (vN 2))) (Iz xo hr AS (a2 (vN 1) (vK 3))))))))))),?_]
 refine#[cs,m,t,n,rfl,c0,hz.len,t0,up,(),hz.cs,ht,fun h=>?_,fun h=>qu h]
 have q':R (.d (qd (vv cs (plc cs t cs.length)+slp cs m (plc cs t cs.length)*(t-tt cs (plc cs t cs.length))))):=q h
 have hk:plc cs t cs.length<cs.length:=JQ c0 _ (qAc _)
 generalize plc cs t cs.length=k at q' hk
 have zk:=hz.cs k hk
 refine atR (OC hk) ?_
 refine#[rfl,rfl,eqT (tt cs k) t (fun e=>?_) (fun e=>?_)]
 .rw[show vv cs k+slp cs m k*(t-tt cs k)=vv cs k by rw[e];grind] at q'
  exact q'
 refine#[cs,m,k,n,rfl,hk,hz.len,up,(),hz.cs,?_]
 refine#[t,tt cs k,n,n,rfl,ht,zk.1,(),?_]
 have zs:Sz (4*n+2) (slp cs m k):=Vh up hz hk
 refine#[_,_,_,_,rfl,zs,ht.sub zk.1,(),?_]
 exact#[_,_,_,_,rfl,zk.2,zs.mul (ht.sub zk.1),(),q']
variable (A9:Cal P w K mg base (CXU P w) 7 "value_at" ["f","t"] IW)
theorem D7:Ad ["f","slopes"] ["f"] (Ab BS):=scN
include Aw AG Ay Ao in
theorem Gs (F:Fun K "steeper_corners" "steeper_corners" BS f fd):Az P w K mg base CX0 6 f fd ["f"] (Ah K mg Ef):=by
 refine fn3 F D7 (fun ss R U h=>?_) (fun cdv A outer s H E ss R U hr h=>?_)
 .obtain⟨cs,m,a,b,c,rfl,_⟩:=h;rfl
 obtain⟨cs,m,a,b,c,rfl,o,z,hs,hl,q⟩:=h
 refine#[_,(Aa (AH 1 D7 (Aq hr Ao (a2 (vK 0) (vK 0))))
  (Bf (GU (N:=["number","f","slopes"]) (idx:=[0,1]) (Ba.mk' (Ab BS) ["f","slopes"] rfl rfl (by decide +kernel)) rfl (DG rfl Ay (PA3.out (a2 Ac (Co AG (vN 1))))) Ib (fun cl C s₀ H₀ fp=>(P5 (Bc (Aq hr Aw (a2 (AW (vN 2) (Ai DN (vN 0) Ac)) (AW (vN 2) (vN 0))))))) (fun cl C s₀ H₀ fp=>(AW (vK 1) (vN 0)))))),?_]
 have kc:SzK 1800 cs m:=z.szk o () hs
 have n0:=o.ne
 refine#[cs,m,rfl,o.ne,(),kc.cs.mono ∅,o.up,?_]
 have eN:((((JH cs m).map qd).length:Nat):Int)=(cs.length:Int):=by rw[qAa,EJ]
 have eT:((((JH cs m).map qd).length:Nat)-1:Int).toNat=cs.length-1:=by rw[eN];omega
 refine#[#[∅,∅,(),()],?_]
 refine#[(List.range (cs.length-1)).map fun n=>if decide (slp cs m n<slp cs m (n+1))=true then some (cd (tt cs (n+1),vv cs (n+1))) else none,?_,?_,?_,?_]
 .rw[Bp,qAa,qAH,eT]
 .intro n x hx
  obtain⟨hn,rfl⟩:=Em hx
  rw[eT] at hn
  have z1:=(z.ln o n ()).1
  have z2:=(z.ln o (n+1) ()).1
  refine atR (My (cs:=cs) (m:=m) n () ()) ?_
  refine atR (My (cs:=cs) (m:=m) (n+1) () ()) ?_
  refine#[_,_,b,b,rfl,z1,z2,(),?_]
  have g:((List.range (cs.length-1)).map fun n=>if decide (slp cs m n<slp cs m (n+1))=true then some (cd (tt cs (n+1),vv cs (n+1))) else none)[n]? = some (if decide (slp cs m n<slp cs m (n+1))=true then some (cd (tt cs (n+1),vv cs (n+1))) else none):=by
   rw[qAe,qAK hn]
   rfl
  refine Ca (fun c=>?_) (fun c=>?_)
  .refine atR (BM (cs:=cs) (n+1) () ()) ?_
   rw[if_pos (decide_eq_true c)] at g
   exact g
  .rw[if_neg (by simpa using c)] at g
   exact g
 .rw[Bp,eT];omega
 rw[Mq (p:=fun n=>decide (slp cs m n<slp cs m (n+1))) (f:=fun k=>cd (tt cs k,vv cs k))]
 exact q
variable (AM:Cal P w K mg base (CXU P w) 6 "steeper_corners" ["f"] Ef)
theorem Eb:Ad ["f","slopes"] ["f"] (Ab BQ):=scN
include Aw AG Ay Ao in
theorem Gv (F:Fun K "flatter_corners" "flatter_corners" BQ f fd):Az P w K mg base CX0 6 f fd ["f"] (Ah K mg DW):=by
 refine fn3 F Eb (fun ss R U h=>?_) (fun cdv A outer s H E ss R U hr h=>?_)
 .obtain⟨cs,m,a,b,c,rfl,_⟩:=h;rfl
 obtain⟨cs,m,a,b,c,rfl,o,z,hs,hl,q⟩:=h
 refine#[_,(Aa (AH 1 Eb (Aq hr Ao (a2 (vK 0) (vK 0))))
  (Bf (GU (N:=["number","f","slopes"]) (idx:=[0,1]) (Ba.mk' (Ab BQ) ["f","slopes"] rfl rfl (by decide +kernel)) rfl (DG rfl Ay (PA3.out (a2 Ac (Co AG (vN 1))))) Ib (fun cl C s₀ H₀ fp=>(P5 (Bc (Aq hr Aw (a2 (AW (vN 2) (vN 0)) (AW (vN 2) (Ai DN (vN 0) Ac))))))) (fun cl C s₀ H₀ fp=>(AW (vK 1) (vN 0)))))),?_]
 have kc:SzK 1800 cs m:=z.szk o () hs
 have n0:=o.ne
 refine#[cs,m,rfl,o.ne,(),kc.cs.mono ∅,o.up,?_]
 have eN:((((JH cs m).map qd).length:Nat):Int)=(cs.length:Int):=by rw[qAa,EJ]
 have eT:((((JH cs m).map qd).length:Nat)-1:Int).toNat=cs.length-1:=by rw[eN];omega
 refine#[#[∅,∅,(),()],?_]
 refine#[(List.range (cs.length-1)).map fun n=>if decide (slp cs m (n+1)<slp cs m n)=true then some (cd (tt cs (n+1),vv cs (n+1))) else none,?_,?_,?_,?_]
 .rw[Bp,qAa,qAH,eT]
 .intro n x hx
  obtain⟨hn,rfl⟩:=Em hx
  rw[eT] at hn
  have z1:=(z.ln o n ()).1
  have z2:=(z.ln o (n+1) ()).1
  refine atR (My (cs:=cs) (m:=m) (n+1) () ()) ?_
  refine atR (My (cs:=cs) (m:=m) n () ()) ?_
  refine#[_,_,b,b,rfl,z2,z1,(),?_]
  have g:((List.range (cs.length-1)).map fun n=>if decide (slp cs m (n+1)<slp cs m n)=true then some (cd (tt cs (n+1),vv cs (n+1))) else none)[n]? = some (if decide (slp cs m (n+1)<slp cs m n)=true then some (cd (tt cs (n+1),vv cs (n+1))) else none):=by
   rw[qAe,qAK hn]
   rfl
  refine Ca (fun c=>?_) (fun c=>?_)
  .refine atR (BM (cs:=cs) (n+1) () ()) ?_
   rw[if_pos (decide_eq_true c)] at g
   exact g
  .rw[if_neg (by simpa using c)] at g
   exact g
 .rw[Bp,eT];omega
 rw[Mq (p:=fun n=>decide (slp cs m (n+1)<slp cs m n)) (f:=fun k=>cd (tt cs k,vv cs k))]
 exact q
variable (Bw:Cal P w K mg base (CXU P w) 6 "flatter_corners" ["f"] DW)
theorem NK:Ad ["point","slope","height"] ["point","slope","height"] (Ab IS):=scN
include DK AS Jm in
theorem NM (F:Fun K "time_of" "time_of" IS f fd):Az P w K mg base CX0 4 f fd ["point","slope","height"] (Ah K mg JL):=by
 refine fn3 F NK (fun ss R U h=>?_) (fun cdv A outer s H E ss R U hr h=>?_)
 .obtain⟨a,b,s,h,n,k,rfl,_⟩:=h;rfl
 obtain⟨a,b,s,h,n,k,rfl,ha,hb,hh,hs,s0,hl,q⟩:=h
 refine#[_,(Bf (Aq hr DK (a2 (vK 0) (Aq hr Jm (a2 (Aq hr AS (a2 (vN 2) (vK 0))) (vN 1)))))),?_]
 refine#[h,b,n,n,rfl,hh,hb,(),?_]
 refine#[h-b,s,_,k,rfl,hh.sub hb,hs,(),s0,?_]
 exact#[a,_,n,_,rfl,ha,(hh.sub hb).div hs s0,(),q]
variable (GA:Cal P w K mg base (CXU P w) 4 "time_of" ["point","slope","height"] JL)
theorem Bj:Ad ["f","g","others","told","place","corner"] ["f","g"] (Ab CS):=scN
include Aw AG in
theorem II (F:Fun K "corner_times" "corner_times" CS f fd):Az P w K mg base CX0 2 f fd ["f","g"] (Ah K mg E9):=by
 refine fn3 F Bj (fun ss R U h=>?_) (fun cdv A outer s H E ss R U hr h=>?_)
 .obtain⟨cs,m,ds,k,n,rfl,_⟩:=h;rfl
 obtain⟨cs,m,ds,k,n,rfl,oc,od,lc,ld,hn,zc,zd,q⟩:=h
 refine#[_,(Aa (LA (i:=2) (N:=["corner"]) (idx:=[]) (Ba.mk' (Ab CS) ["f","g","others","told","place","corner"] rfl rfl (by decide +kernel)) rfl (BL (PE3.out (vK 1))) Dz (fun cl C s₀ H₀ fp=>Cf) (fun cl C s₀ H₀ fp=>(vK 0)) Bj.nd rfl (Or.inl rfl))
  (Aa (AH 3 Bj (F9 L8))
  (Aa (AH 4 Bj Ac)
  (Aa (GQ (BP PassesOwn.never rfl (BL (PE3.out (vK 0))) (AR (i:=5) Bj.nd rfl (Or.inl rfl)) (DP.out (Aa (G8 PassesOwn.never (PW3.pt (IX (BV HB (vN 4) (Co AG (vN 2))) (Fi (Bc (Aq hr Aw (a2 (AW (vN 2) (vN 4)) (vK 5))))))) (Aa (DQ (Be (DR qAu qAs qAt AF (pv 3) (AL (PE3.out (AW (vN 2) (vN 4))) Bn))))
  (Ag (Lp (i:=4) Bj.nd rfl (Or.inl rfl) Ac))))
  (Dk (BE (PW3.pt (IX (BV HB (vN 4) (Co AG (vN 2))) (Fi (BV (SI 1 (hu_ hr ∅)) (AW (vN 2) (vN 4)) (vK 5))))) (Ag (Lp (i:=4) Bj.nd rfl (Or.inl rfl) Ac)) Am)
  (Ag (DQ (Be (DR qAu qAs qAt AF (pv 3) (AL (PE3.out (vK 5)) Bn))))))))))
  (M7 3 (Bf (RJ RC (vN 3) (RY (vN 2) (Il (vN 4)) V1)))))))),?_]
 refine#[ds.map fun c=>some (qd c.1),by rw[qAa,qAa],?_,?_,?_]
 .intro i x hx
  obtain⟨c,hc,rfl⟩:=Bq hx
  show(ds.map _)[i]? = _
  rw[qAe,hc]
  rfl
 .rw[qAa];omega
 have e0:(ds.map fun c=>some (qd c.1)).filterMap id=(rst ds 0).map qd:=by
  rw[DA ds (fun c=>qd c.1)]
  unfold rst
  rw[List.drop_zero,qBW]
  rfl
 rw[e0]
 refine#[(by show 0<=1000;decide),?_]
 refine#[fun n' τ=>∃(p:Nat)(ts:List Rat)(y0 y1 y5:Option S),τ=[some (.d (crv cs m)),some (.d (crv ds k)),some (.l ((rst ds 0).map qd)),some (.l (ts.map qd)),I p,y5]/\Mrg cs ds n' p ts/\p<=ds.length/\(n'<cs.length->∀x∈ts,x<tt cs n'),#[0,[],none,none,none,rfl,Mrg.nil cs ds,qA3 _,fun _ x hx=>by cases hx],?_,?_]
 .rintro n' τ x hx ⟨p,ts,y0,y1,y5,rfl,g,hp,hlt⟩
  obtain⟨hi,rfl⟩:=Jc hx
  have zi:=(zc n' hi).1
  refine#[fun mm τ=>∃(p:Nat)(ts:List Rat),τ=[some (.d (crv cs m)),some (.d (crv ds k)),some (.l ((rst ds 0).map qd)),some (.l (ts.map qd)),I p,some (.d (.tup [qd (tt cs n'),qd (vv cs n')]))]/\Mrg cs ds n' p ts/\p<=ds.length/\(n'<cs.length->∀x∈ts,x<tt cs n')/\mm=ds.length-p,#[_,p,ts,rfl,g,hp,hlt,rfl],?_]
  clear g hp hlt
  rintro mm τ ⟨p,ts,rfl,g,hp,hlt,rfl⟩
  refine Ca (fun c=>?_) (fun c=>?_)
  .have pl:p<ds.length:=by rw[qAa,Ec] at c;omega
   refine atR (KB p rfl pl) ?_
   refine#[_,_,_,_,rfl,(zd p pl).1,zi,(),?_]
   refine Ca (fun c2=>?_) (fun c2=>?_)
   .refine atR (KB p rfl pl) ?_
    obtain⟨g2,h2⟩:=g.other od.up pl (hlt hi) c2
    refine#[by rw[qAa];have:=g.len;omega,ds.length-(p+1),(),p+1,ts++[tt ds p],by rw[qAC];rfl,g2,pl,fun _=>h2,rfl]
   .have NL:p<ds.length->tt cs n'<=tt ds p:=fun _=>qAM.mp c2
    refine#[fun τ=>∃(q:Nat)(y0 y1 y5:Option S),τ=[some (.d (crv cs m)),some (.d (crv ds k)),some (.l ((rst ds 0).map qd)),some (.l (ts.map qd)),I q,some (.d (.tup [qd (tt cs n'),qd (vv cs n')]))]/\(q=p\/(q=p+1/\p<ds.length/\tt ds p=tt cs n'))/\q<=ds.length/\∀j,q<=j->j<ds.length->tt cs n'<tt ds j,?_,?_]
    .refine Ca (fun c'=>?_) (fun c'=>?_)
     .have pl:p<ds.length:=by rw[qAa,Ec] at c';omega
      refine atR (KB p rfl pl) ?_
      refine#[rfl,rfl,eqT (tt ds p) (tt cs n') (fun e=>?_) (fun e=>?_)]
      .exact#[p+1,none,none,none,rfl,.inr #[rfl,pl,e],pl,fun j j1 j2=>by rw[<-e];exact JK od.up () j2]
      .refine#[p,none,none,none,rfl,.inl rfl,(),fun j j1 j2=>?_]
       have lt:tt cs n'<tt ds p:=Rat.lt_of_le_of_ne (NL pl) (fun z=>e z.symm)
       by_cases z:j=p
       .rw[z];exact lt
       .have:=JK od.up (i:=p) (j:=j) () j2
        grind
     .have pl:¬p<ds.length:=by rw[qAa,Ec] at c';omega
      exact#[p,none,none,none,rfl,.inl rfl,hp,fun j j1 j2=>()]
    rintro τ ⟨q',y0,y1,y5,rfl,hq,hq2,hb⟩
    have g2:=g.one hq (hlt hi) hb
    refine#[by rw[qAa];have:=g.len;omega,q',ts++[tt cs n'],none,none,_,by rw[qAC];rfl,g2,hq2,fun c' x hx=>?_]
    rcases qAA.mp hx with hx|hx
    .have:=hlt hi x hx
     have:=oc.up n' c'
     grind
    .rw[qAF.mp hx];exact oc.up n' c'
  .have NL:p<ds.length->tt cs n'<=tt ds p:=fun z=>absurd z (by rw[qAa,Ec] at c;omega)
   refine#[fun τ=>∃(q:Nat)(y0 y1 y5:Option S),τ=[some (.d (crv cs m)),some (.d (crv ds k)),some (.l ((rst ds 0).map qd)),some (.l (ts.map qd)),I q,some (.d (.tup [qd (tt cs n'),qd (vv cs n')]))]/\(q=p\/(q=p+1/\p<ds.length/\tt ds p=tt cs n'))/\q<=ds.length/\∀j,q<=j->j<ds.length->tt cs n'<tt ds j,?_,?_]
   .refine Ca (fun c'=>?_) (fun c'=>?_)
    .have pl:p<ds.length:=by rw[qAa,Ec] at c';omega
     refine atR (KB p rfl pl) ?_
     refine#[rfl,rfl,eqT (tt ds p) (tt cs n') (fun e=>?_) (fun e=>?_)]
     .exact#[p+1,none,none,none,rfl,.inr #[rfl,pl,e],pl,fun j j1 j2=>by rw[<-e];exact JK od.up () j2]
     .refine#[p,none,none,none,rfl,.inl rfl,(),fun j j1 j2=>?_]
      have lt:tt cs n'<tt ds p:=Rat.lt_of_le_of_ne (NL pl) (fun z=>e z.symm)
      by_cases z:j=p
      .rw[z];exact lt
      .have:=JK od.up (i:=p) (j:=j) () j2
       grind
    .have pl:¬p<ds.length:=by rw[qAa,Ec] at c';omega
     exact#[p,none,none,none,rfl,.inl rfl,hp,fun j j1 j2=>()]
   rintro τ ⟨q',y0,y1,y5,rfl,hq,hq2,hb⟩
   have g2:=g.one hq (hlt hi) hb
   refine#[by rw[qAa];have:=g.len;omega,q',ts++[tt cs n'],none,none,_,by rw[qAC];rfl,g2,hq2,fun c' x hx=>?_]
   rcases qAA.mp hx with hx|hx
   .have:=hlt hi x hx
    have:=oc.up n' c'
    grind
   .rw[qAF.mp hx];exact oc.up n' c'
 rintro τ ⟨p,ts,y0,y1,y5,rfl,g,hp,hlt⟩
 rw[qAa] at g
 have gl:=g.len
 have lr:=Ec ds p
 have rr:F0 ((rst ds 0).map qd) (some (p:Int)) none=(rst ds p).map qd:=RD hp
 show WE (.lst (ts.map qd)) (.lst (F0 ((rst ds 0).map qd) (some (p:Int)) none)) (fun d=>R (.d d))
 rw[rr]
 refine#[by rw[qAa,qAa];omega,?_]
 rw[<-qAC]
 exact q _ (Vx oc od g hp) (by rw[qAn];omega)
variable (CP:Cal P w K mg base (CXU P w) 2 "corner_times" ["f","g"] E9)
theorem JA:Ad ["f","g"] ["f","g"] (Ab Ds):=scN
include A9 CP in
theorem JE (F:Fun K "corner_rows" "corner_rows" Ds f fd):Az P w K mg base CX0 8 f fd ["f","g"] (Ah K mg FZ):=by
 refine fn3 F JA (fun ss R U h=>?_) (fun cdv A outer s H E ss R U hr h=>?_)
 .obtain⟨cs,m,ds,k,n,rfl,_⟩:=h;rfl
 obtain⟨cs,m,ds,k,n,rfl,oc,od,lc,ld,hn,zc,zd,q⟩:=h
 refine#[_,(Bf (GU (N:=["t","f","g"]) (idx:=[0,1]) (Ba.mk' (Ab Ds) ["f","g"] rfl rfl (by decide +kernel)) rfl (BL (PE3.out (Aq hr CP (a2 (vN 0) (vN 1))))) Dz (fun cl C s₀ H₀ fp=>Cf) (fun cl C s₀ H₀ fp=>(Bs (AV (vN 0) (a2 (Aq hr A9 (a2 (vN 1) (vN 0))) (Aq hr A9 (a2 (vN 2) (vN 0))))))))),?_]
 refine#[cs,m,ds,k,n,rfl,oc,od,lc,ld,(),zc.cs,zd.cs,fun ts ht hl=>?_]
 refine#[ts.map fun t=>some (rw3 cs m ds k t),by rw[qAa,qAa],?_,?_,?_]
 .intro i x hx
  obtain⟨t,et,rfl⟩:=Bq hx
  obtain⟨hi,eT⟩:=Nk et
  have zt:=ht.sz zc.cs zd.cs hi
  have t0:=SA ht hi
  rw[eT] at zt t0
  refine#[cs,m,t,n,rfl,oc.ne,oc.t0,oc.up,hn,zc,zt,fun _=>?_,fun z=>absurd t0 z]
  refine#[ds,k,t,n,rfl,od.ne,od.t0,od.up,hn,zd,zt,fun _=>?_,fun z=>absurd t0 z]
  refine#[(by show 3<=1000;decide),?_]
  show(ts.map _)[i]? = _
  rw[qAe,et]
  rfl
 .rw[qAa];omega
 rw[DA ts (rw3 cs m ds k)]
 exact q ts ht hl
variable (Dp:Cal P w K mg base (CXU P w) 8 "corner_rows" ["f","g"] FZ)
theorem Kd:Ad ["rows"] ["rows"] (Ab D6):=scN
include AS in
theorem KM (F:Fun K "gap_points" "gap_points" D6 f fd):Az P w K mg base CX0 4 f fd ["rows"] (Ah K mg GZ):=by
 refine fn3 F Kd (fun ss R U h=>?_) (fun cdv A outer s H E ss R U hr h=>?_)
 .obtain⟨x,cs,m,ds,k,ts,v,rfl,_⟩:=h;rfl
 obtain⟨x,cs,m,ds,k,ts,v,rfl,hx,hl,hv,hz,q⟩:=h
 refine#[_,(Bf (GU (N:=["row"]) (idx:=[]) (Ba.mk' (Ab D6) ["rows"] rfl rfl (by decide +kernel)) rfl (BL (PE3.out (vN 0))) Dz (fun cl C s₀ H₀ fp=>Cf) (fun cl C s₀ H₀ fp=>(Bs (a2 (vK 0) (Aq hr AS (a2 (vK 0) (vK 0)))))))),?_]
 rcases hx with rfl|rfl
 all_goals
  refine#[ts.map fun t=>some (.tup [qd t,qd (gap cs m ds k t)]),by rw[qAa,qAa],?_,?_,?_]
  .intro i x hx
   obtain⟨t,et,rfl⟩:=Bq hx
   obtain⟨hi,eT⟩:=Nk et
   have z:=hz i hi
   rw[eT] at z
   refine#[_,_,_,_,rfl,z.1,z.2,(),?_]
   refine#[(by show 2<=1000;decide),?_]
   show(ts.map _)[i]? = _
   rw[qAe,et]
   rfl
  .rw[qAa];omega
  rw[DA ts (fun t=>.tup [qd t,qd (gap cs m ds k t)])]
  have e:(gcs cs m ds k ts).map cd=ts.map (fun t=>.tup [qd t,qd (gap cs m ds k t)]):=by
   unfold gcs
   rw[qBW]
   rfl
  rw[e] at q
  exact q
variable (DX:Cal P w K mg base (CXU P w) 4 "gap_points" ["rows"] GZ)
theorem ME:Ad ["one","other"] ["one","other"] (Ab He):=scN
theorem Mt (F:Fun K "opposite" "opposite" He f fd):Az P w K mg base CX0 1 f fd ["one","other"] (Ah K mg Jn):=by
 refine fn3 F ME (fun ss R U h=>?_) (fun cdv A outer s H E ss R U hr h=>?_)
 .obtain⟨p,q,rfl,_⟩:=h;rfl
 obtain⟨p,q1,rfl,hp,hq,q⟩:=h
 refine#[_,(Bf (Me HB (Ai Av (vK 0) (vK 1)) Ac (HF _))),?_]
 refine#[Ax hp.1 hq.1 ∅,?_]
 rw[show decide (Opp p q1)=decide (p.num*q1.num<0) from decide_eq_decide.mpr (SJ p q1).symm] at q
 exact q
variable (FP:Cal P w K mg base (CXU P w) 1 "opposite" ["one","other"] Jn)
theorem AK:Ad ["f","g","rows","gaps","last","slopes","sides","told","number","row","t","meet"] ["f","g"] (Ab CT):=scN
variable (Ce:mg "enumerate"=none)
include AS gc_NOUGHT Bg A9 GA Dp DX FP Ce in
theorem Jg (F:Fun K "crossed_rows" "crossed_rows" CT f fd):Az P w K mg base CX0 9 f fd ["f","g"] (Ah K mg Fq):=by
 refine fn3 F AK (fun ss R U h=>?_) (fun cdv A outer s H E ss R U hr h=>?_)
 .obtain⟨cs,m,ds,k,a,b,c,rfl,_⟩:=h;rfl
 obtain⟨cs,m,ds,k,a,b,c,rfl,oc,od,z1,z2,h1,h2,hl,q⟩:=h
 refine#[_,(Aa (AH 2 AK (Aq hr Dp (a2 (vN 0) (vN 1))))
  (Aa (AH 3 AK (Aq hr DX (a1 (vN 2))))
  (Aa (AH 4 AK (Aq hr AS (a2 (vK 0) (vK 1))))
  (Aa (AH 5 AK (Aq hr Bg (a2 (vN 3) (vN 4))))
  (Aa (AH 6 AK (RJ RC (GU (N:=["gap"]) (idx:=[]) (Ba.mk' (Ab CT) ["f","g","rows","gaps","last","slopes","sides","told","number","row","t","meet"] rfl rfl (by decide +kernel)) rfl (BL (PE3.out (RY (vN 3) (Il Ac) V1))) Dz (fun cl C s₀ H₀ fp=>Cf) (fun cl C s₀ H₀ fp=>(vK 0))) (F9 (a1 (vN 4)))))
  (Aa (AH 7 AK (F9 L8))
  (Aa (Sn (BP PassesOwn.never rfl (Pu rfl Ce (pv 2)) (Lm rfl (Cz (AR (i:=8) AK.nd rfl (Or.inl rfl)) (Cz (AR (i:=9) AK.nd rfl (Or.inl rfl)) IM))) (DP.out (Aa (DQ (Be (DR qAu qAs qAt AF (pv 7) (AL (PE3.out (vN 9)) Bn))))
  (Ag (BE (Bc (Aq hr FP (a2 (AW (AW (vN 3) (vN 8)) Ac) (AW (vN 6) (vN 8))))) (Aa (AH 10 AK (Aq hr GA (AV (AW (vN 3) (vN 8)) (a2 (AW (vN 5) (vN 8)) (UP rfl gc_NOUGHT)))))
  (Aa (AH 11 AK (Aq hr A9 (a2 (vN 0) (vN 10))))
  (Ag (DQ (Be (DR qAu qAs qAt AF (pv 7) (AL (PE3.out (Bs (AV (vN 10) (a2 (vN 11) (vN 11))))) Bn))))))) Am))))))
  (Ag (C6 (pv 7)))))))))),?_]
 have kc:SzK 1500 cs m:=z1.szk oc () h2
 have kd:SzK 1500 ds k:=z2.szk od () h2
 refine#[cs,m,ds,k,1500,rfl,oc,od,(),(),∅,kc,kd,fun ts ht tl=>?_]
 have tz:∀i,i<ts.length->Sz a (T ts i):=fun i hi=>by
  rcases ht.of i hi with⟨j,hj,e⟩|⟨j,hj,e⟩
  .rw[e];exact z1.tm j hj
  .rw[e];exact z2.tm j hj
 have vz:∀i,i<ts.length->Sz 1500 (val cs m (T ts i))/\Sz 1500 (val ds k (T ts i)):=fun i hi=>#[(z1.va (SA ht hi) (tz i hi)).mono (),(z2.va (SA ht hi) (tz i hi)).mono ()]
 have gz:∀i,i<ts.length->Sz 3001 (gap cs m ds k (T ts i)):=fun i hi=>(vz i hi).1.sub (vz i hi).2
 refine#[_,cs,m,ds,k,ts,1500,rfl,Or.inl rfl,(),∅,vz,?_]
 have gl:=Ka (cs:=cs) (m:=m) (ds:=ds) (k:=k) (ts:=ts)
 have gC:SzC 3001 (gcs cs m ds k ts):=fun i hi=>by
  rw[gl] at hi
  rw[(F6 hi).1,(F6 hi).2]
  exact#[(tz i hi).mono (),gz i hi]
 have gU:Up (gcs cs m ds k ts):=fun i hi=>by
  rw[gl] at hi
  rw[(F6 (show i<ts.length from ())).1,(F6 hi).1]
  exact ht.up i hi
 have ne:=ht.ne
 have zm:=z1.m oc
 have zk:=z2.m od
 refine#[m,k,_,_,rfl,zm,zk,(),?_]
 refine#[_,gcs cs m ds k ts,m-k,rfl,Or.inl rfl,by rw[gl];exact ne,by rw[gl];omega,gC.mono ∅,gU,?_]
 have cut1:F0 ((gcs cs m ds k ts).map cd) (some 1) none=((gcs cs m ds k ts).drop 1).map cd:=SN (f:=cd) (h:=1) (by rw[gl];omega)
 refine#[((gcs cs m ds k ts).drop 1).map fun c=>some (qd c.2),?_,?_,?_,?_]
 .show _=(F0 ((gcs cs m ds k ts).map cd) (some 1) none).length
  rw[cut1,qAa,qAa]
 .intro i x hx
  have hx:(F0 ((gcs cs m ds k ts).map cd) (some 1) none)[i]? = some x:=hx
  rw[cut1] at hx
  obtain⟨c',hc,rfl⟩:=Bq hx
  show(((gcs cs m ds k ts).drop 1).map _)[i]? = _
  rw[qAe,hc]
  rfl
 .show(F0 ((gcs cs m ds k ts).map cd) (some 1) none).length<=100000
  rw[cut1,qAa,qAZ,gl];omega
 refine#[(by show 1<=1000;decide),?_]
 refine#[?_,?_]
 .have:=qBB id (((gcs cs m ds k ts).drop 1).map fun c=>some (qd c.2))
  rw[qAa,qAZ,gl] at this
  show List.length _+1<=_
  omega
 rw[Tn cs m ds k ts ne]
 refine#[(by show 0<=1000;decide),?_]
 refine#[fun i τ=>∃(us:List Rat)(y8 y9 y10 y11:Option S),τ=[some (.d (crv cs m)),some (.d (crv ds k)),some (.r (ts.map (rw3 cs m ds k))),some (.l ((gcs cs m ds k ts).map cd)),some (.d (qd (m-k))),some (.l ((JH (gcs cs m ds k ts) (m-k)).map qd)),some (.d (.lst ((sdL cs m ds k ts).map qd))),some (.l (us.map (rw3 cs m ds k))),y8,y9,y10,y11]/\(i=0->us=[])/\(0<i->Cx cs m ds k us (nxT ts (i-1))/\∀u,nxT ts (i-1)=some u->T us (us.length-1)<u)/\us.length<=2*i/\(∀j,j<us.length->Sz a (T us j)),#[[],_,_,_,_,rfl,fun _=>rfl,fun z=>absurd z ∅,qA3 _,fun j hj=>absurd hj (qA9 j)],?_,?_]
 .rintro i τ x hx ⟨us,y8,y9,y10,y11,rfl,i0,ip,ul,uz⟩
  obtain⟨t,et,rfl⟩:=Bq hx
  obtain⟨hi,eT⟩:=Nk et
  subst eT
  obtain⟨e1,e2⟩:=F6 (cs:=cs) (m:=m) (ds:=ds) (k:=k) hi
  have gi:i<(gcs cs m ds k ts).length:=by rw[gl];exact hi
  have t0:=SA ht hi
  have zsd:Sz 6000 (Hb cs m ds k ts i):=by
   unfold Hb
   split
   .next z=>exact(gz _ z).mono ∅
   .exact(zm.sub zk).mono ()
  refine#[by rw[qAa];omega,?_]
  refine atR (BM (cs:=gcs cs m ds k ts) i rfl gi) ?_
  refine atR (Xk i rfl hi) ?_
  rw[e2]
  refine#[_,_,rfl,(gz i hi).mono ∅,zsd,?_]
  refine Ca (fun op=>?_) (fun nop=>?_)
  .have lin:=Tw (m:=m) (k:=k) oc od ht hi
   have P:=VW oc od ht hi op rfl
   have es:slp (gcs cs m ds k ts) (m-k) i=sat cs m (T ts i)-sat ds k (T ts i):=lin.2
   have zt:=OX z1 z2 t0 P.1 h1
   have zs:Sz (b+b+1) (sat cs m (T ts i)-sat ds k (T ts i)):=(z1.sl _ t0).sub (z2.sl _ t0)
   refine atR (BM (cs:=gcs cs m ds k ts) i rfl gi) ?_
   refine atR (My (cs:=gcs cs m ds k ts) (m:=m-k) i rfl gi) ?_
   rw[e1,e2,es]
   refine#[T ts i,gap cs m ds k (T ts i),_,0,3001,_,rfl,(tz i hi).mono (),gz i hi,Sz.zero.mono ∅,zs,P.1,(),?_]
   generalize T ts i+(0-gap cs m ds k (T ts i))/(sat cs m (T ts i)-sat ds k (T ts i))=t' at P zt
   obtain⟨_,lt,ltn,p1,p2,ev,_,_⟩:=P
   have t0':0<=t':=⋯
   refine#[cs,m,t',1500,rfl,oc.ne,oc.t0,oc.up,∅,kc,zt.mono (),fun _=>?_,fun z=>absurd t0' z]
   refine#[(by show 3<=1000;decide),by rw[qAn,qAa];show us.length+1<_;omega,?_]
   have x1:=Cx.turn ht hi i0 ip p1
   have x2:=x1.snoc (by rw[Po];exact lt) p2
   have em:(us++[T ts i]++[t']).map (rw3 cs m ds k)=us.map (rw3 cs m ds k)++[rw3 cs m ds k (T ts i)]++[.tup [qd t',qd (val cs m t'),qd (val cs m t')]]:=by
    rw[qAC,qAC]
    show us.map (rw3 cs m ds k)++[rw3 cs m ds k (T ts i)]++[.tup [qd t',qd (val cs m t'),qd (val ds k t')]]=_
    rw[ev]
   refine#[us++[T ts i]++[t'],_,_,_,_,by rw[em];rfl,fun z=>absurd z (),fun _=>#[x2,fun u hu=>by rw[Po];exact ltn u hu],?_,MA (MA uz (tz i hi)) zt]
   rw[qAn,qAn];show us.length+1+1<=_;omega
  .have x1:=Cx.turn ht hi i0 ip (Ui oc od ht hi nop)
   refine#[us++[T ts i],_,_,_,_,by rw[qAC];rfl,fun z=>absurd z (),fun _=>#[x1,fun u hu=>?_],?_,MA uz (tz i hi)]
   .rw[Po]
    unfold nxT at hu
    split at hu
    .next z=>cases hu;exact ht.up i z
    .cases hu
   .rw[qAn];show us.length+1<=_;omega
 rintro τ ⟨us,y8,y9,y10,y11,rfl,i0,ip,ul,uz⟩
 rw[qAa] at ip ul
 have X:=(ip ne).1
 rw[show nxT ts (ts.length-1)=none by unfold nxT;rw[if_neg ()]] at X
 exact q us X uz ()
variable (CU:Cal P w K mg base (CXU P w) 9 "crossed_rows" ["f","g"] Fq)
theorem Nb:Ad ["f","g","corners"] ["f","g"] (Ab Ky):=scN
include DZ Cq CU in
theorem RS (F:Fun K "least" "least" Ky f fd):Az P w K mg base CX0 10 f fd ["f","g"] (Ah K mg M8):=by
 refine fn3 F Nb (fun ss R U h=>?_) (fun cdv A outer s H E ss R U hr h=>?_)
 .obtain⟨cs,m,ds,k,a,b,c,rfl,_⟩:=h;rfl
 obtain⟨cs,m,ds,k,a,b,c,rfl,r,s,z1,z2,h1,h2,hl,q⟩:=h
 refine#[_,(Aa (LA (i:=2) (N:=["row"]) (idx:=[]) (Ba.mk' (Ab Ky) ["f","g","corners"] rfl rfl (by decide +kernel)) rfl (BL (PE3.out (Aq hr CU (a2 (vN 0) (vN 1))))) Dz (fun cl C s₀ H₀ fp=>Cf) (fun cl C s₀ H₀ fp=>(Bs (a2 (vK 0) (Aq hr DZ (a2 (vK 0) (vK 0)))))) Nb.nd rfl (Or.inl rfl))
  (Bf (Aq hr Cq (a2 (vN 2) (Aq hr DZ (a2 (vK 0) (vK 1))))))),?_]
 refine#[cs,m,ds,k,a,b,c,rfl,r.o,s.o,z1,z2,h1,h2,hl,fun us X uz ul=>?_]
 have zz:∀i,i<us.length->Sz 1500 (val cs m (T us i))/\Sz 1500 (val ds k (T us i)):=fun i hi=>#[(z1.va (X.nn hi) (uz i hi)).mono (),(z2.va (X.nn hi) (uz i hi)).mono ()]
 refine#[us.map fun t=>some (.tup [qd t,qd (mn (val cs m t) (val ds k t))]),by rw[qAa,qAa],?_,?_,?_]
 .intro i x hx
  obtain⟨t,et,rfl⟩:=Bq hx
  obtain⟨hi,eT⟩:=Nk et
  have z:=zz i hi
  rw[eT] at z
  refine#[val cs m t,val ds k t,_,_,rfl,z.1,z.2,∅,(by show 2<=1000;decide),?_]
  show(us.map _)[i]? = _
  rw[qAe,et]
  rfl
 .rw[qAa];omega
 rw[DA us (fun t=>.tup [qd t,qd (mn (val cs m t) (val ds k t))])]
 have e:us.map (fun t=>(.tup [qd t,qd (mn (val cs m t) (val ds k t))]:D))=(ocs mn cs m ds k us).map cd:=by
  unfold ocs
  rw[qBW]
  rfl
 rw[e]
 have O:=Mi KA r s X
 have zm:=z1.m r.o
 have zk:=z2.m s.o
 have LL:=VY KA r s X z1 z2 uz
 have ol:=Dh (op:=mn) (cs:=cs) (m:=m) (ds:=ds) (k:=k) (us:=us)
 have m0:0<=mn m k:=by
  have:=r.m0
  have:=s.m0
  rcases KA.or m k with e|e<;>rw[e]<;>assumption
 refine#[m,k,_,_,rfl,zm,zk,(),?_]
 refine#[_,ocs mn cs m ds k us,mn m k,rfl,Or.inl rfl,LL.szk O () (),fun _=>?_,fun z=>absurd #[O,m0] z]
 have kl:=Jq (ocs mn cs m ds k us) (mn m k) ((ocs mn cs m ds k us).length-1)
 have n0:=O.ne
 exact q _ _ (GD O m0) rfl (LL.kept O) () (fun t t0=>by rw[(ET O t).1,SR KA r s X t0])
variable (Jk:Cal P w K mg base (CXU P w) 10 "least" ["f","g"] M8)
theorem Ff:Ad ["point","slope","base"] ["point","slope"] (Ab Ej):=scN
include AS Gb in
theorem IV (F:Fun K "line_through" "line_through" Ej f fd):Az P w K mg base CX0 4 f fd ["point","slope"] (Ah K mg Ft):=by
 refine fn3 F Ff (fun ss R U h=>?_) (fun cdv A outer s H E ss R U hr h=>?_)
 .obtain⟨c,m,n,rfl,_⟩:=h;rfl
 obtain⟨c,m,n,rfl,z1,z2,zm,hn,q⟩:=h
 refine#[_,(Aa (AH 2 Ff (Aq hr AS (a2 (vK 0) (Aq hr Gb (a2 (vN 1) (vK 0))))))
  (Bf (Bs (AV (Ai Av (vK 1) (vK 2)) (a2 (Ai Av (vK 2) (vK 1)) (Ai Av (vK 1) (vK 2))))))),?_]
 refine#[m,c.1,n,n,rfl,zm,z1,(),?_]
 have zt:=zm.mul z1
 refine#[c.2,m*c.1,n,n+n,rfl,z2,zt,(),?_]
 have zb:Sz (n+(n+n)+1) (c.2-m*c.1):=z2.sub zt
 exact#[Ax zm.1 (AB zb) (),Ax zb.1 (AB zm) (),Ax (AB zm) (AB zb) (),by show 3<=1000;decide,q]
variable (CY:Cal P w K mg base (CXU P w) 4 "line_through" ["point","slope"] Ft)
theorem Hw:Ad ["f","slopes"] ["f"] (Ab EO):=scN
variable (Mk:mg "zip"=none)
include Ao CY Mk in
theorem LI (F:Fun K "pieces_of" "pieces_of" EO f fd):Az P w K mg base CX0 6 f fd ["f"] (Ah K mg HI):=by
 refine fn3 F Hw (fun ss R U h=>?_) (fun cdv A outer s H E ss R U hr h=>?_)
 .obtain⟨cs,m,a,b,c,rfl,_⟩:=h;rfl
 obtain⟨cs,m,a,b,c,rfl,o,z,hs,hl,q⟩:=h
 refine#[_,(Aa (AH 1 Hw (Aq hr Ao (a2 (vK 0) (vK 0))))
  (Bf (Uj (N:=["corner","slope"]) (idx:=[]) (Gd.mk' (Ab EO) ["f","slopes"] rfl rfl (by decide +kernel)) rfl (Wl rfl Mk (PA3.out (a2 (vK 0) (vN 1)))) (fun cl C s₀ H₀ fp=>(Bs (a2 (vK 0) (Aq hr CY (a2 (vN 0) (vN 1))))))))),?_]
 have kc:SzK 1800 cs m:=z.szk o () hs
 refine#[cs,m,rfl,o.ne,(),kc.cs.mono ∅,o.up,?_]
 refine#[_,_,cs.map cd,(JH cs m).map qd,rfl,rfl,Or.inl rfl,(EB cs m).map rpD,?_,?_,?_,q]
 .rw[qAa,qAa,qAa,BY,EJ,Nat.min_self]
 .intro n x y hx hy
  obtain⟨hn,rfl⟩:=Jc hx
  obtain⟨hn2,rfl⟩:=Pw hy
  have zl:=z.ln o n hn
  refine#[(tt cs n,vv cs n),slp cs m n,1800,rfl,(kc.cs n hn).1,(kc.cs n hn).2,zl.1.mono (),∅,by show 2<=1000;decide,?_]
  show((EB cs m).map rpD)[n]? = _
  rw[qAe,LU hn]
  rfl
 .rw[qAa,BY];omega
variable (DF:Cal P w K mg base (CXU P w) 6 "pieces_of" ["f"] HI)
theorem HC:Ad ["begin","line","value"] ["begin","line"] (Ab Gn):=scN
include Bm in
theorem Lk (F:Fun K "corner_of" "corner_of" Gn f fd):Az P w K mg base CX0 3 f fd ["begin","line"] (Ah K mg HH):=by
 refine fn3 F HC (fun ss R U h=>?_) (fun cdv A outer s H E ss R U hr h=>?_)
 .obtain⟨p,q,k,m,rfl,_⟩:=h;rfl
 obtain⟨p,q0,k,m,rfl,w,hk,q⟩:=h
 refine#[_,(Aa (AH 2 HC (Aq hr Bm (a2 (Ai AU (Ai Av (vK 1) (vK 0)) (Ai Av (vK 1) (vK 0))) (Ai Av (vK 1) (vK 0)))))
  (Bf (Bs (a2 (Aq hr Bm (a2 (vK 0) (vK 0))) (vN 2))))),?_]
 obtain⟨e1,e2⟩:=ID w
 have wa:=w.l.at_ w.t
 refine#[Ax w.l.s.la w.t.la (),Ax w.l.c.la w.t.lb (),Ax w.l.s.lb w.t.lb (),_,_,rfl,fun z=>absurd wa.pos (by rw[z];decide),Ar wa.la (),Ar wa.lb (),?_]
 refine#[_,_,rfl,fun z=>absurd w.t.pos (by rw[z];decide),Ar w.t.la (),Ar w.t.lb (),?_]
 refine#[by show 2<=1000;decide,?_]
 rw[e1,e2]
 exact q
variable (EI:Cal P w K mg base (CXU P w) 3 "corner_of" ["begin","line"] HH)
theorem Jr:Ad ["pieces","last"] ["pieces"] (Ab FN):=scN
include Bm Cq EI in
theorem Ma (F:Fun K "curve_of" "curve_of" FN f fd):Az P w K mg base CX0 7 f fd ["pieces"] (Ah K mg Iw):=by
 refine fn3 F Jr (fun ss R U h=>?_) (fun cdv A outer s H E ss R U hr h=>?_)
 .obtain⟨ps,P,k,m,rfl,_⟩:=h;rfl
 obtain⟨ps,P,k,m,rfl,pl,n0,hl,hk,zc,zm,o,m0,q⟩:=h
 refine#[_,(Aa (AH 1 Jr (AW (AW (vN 0) (Kt Ac)) Ac))
  (Bf (Aq hr Cq (a2 (GU (N:=["piece"]) (idx:=[]) (Ba.mk' (Ab FN) ["pieces","last"] rfl rfl (by decide +kernel)) rfl (BL (PE3.out (vN 0))) Dz (fun cl C s₀ H₀ fp=>Cf) (fun cl C s₀ H₀ fp=>(Aq hr EI (a2 (vK 0) (vK 0))))) (Aq hr Bm (a2 (vK 1) (vK 1))))))),?_]
 have len:=pl.len
 have hw:∀i,i<ps.length->PW1 k m (ps.getD i dfR) (bg P i,ln P i):=fun i hi=>by
  obtain⟨r,h1,h2⟩:=pl.get (BW hi)
  obtain⟨e1,e2⟩:=Jx h1
  rw[e1,e2]
  exact h2
 refine atR (Sj (ps:=ps) n0) ?_
 refine#[ps.map fun p=>some (cd (Rat.divInt p.1.1 p.1.2,Rat.divInt (p.2.1*p.1.1+p.2.2.1*p.1.2) (p.2.2.2*p.1.2))),?_,?_,?_,?_]
 .rw[qAa,qAa]
 .intro i x hx
  have hi:i<ps.length:=by have:=(qAg.mp hx).1;rw[qAa] at this;exact this
  rw[qAe,BW hi] at hx
  cases hx
  refine#[ps.getD i dfR,(bg P i,ln P i),k,m,rfl,hw i hi,(),?_]
  show(ps.map _)[i]? = _
  rw[qAe,BW hi]
  have ce:=ID (hw i hi)
  show some (some (cd (Rat.divInt (ps.getD i dfR).1.1 (ps.getD i dfR).1.2,_)))=_
  rw[ce.1,ce.2]
 .rw[qAa];omega
 have ef:(ps.map fun p=>some (cd (Rat.divInt p.1.1 p.1.2,Rat.divInt (p.2.1*p.1.1+p.2.2.1*p.1.2) (p.2.2.2*p.1.2)))).filterMap id=(Jt P).map cd:=by
  rw[Kz (f:=fun p:RP=>cd (Rat.divInt p.1.1 p.1.2,Rat.divInt (p.2.1*p.1.1+p.2.2.1*p.1.2) (p.2.2.2*p.1.2)))]
  refine List.ext_getElem? fun i=>?_
  by_cases hi:i<ps.length
  .have ce:=ID (hw i hi)
   unfold Jt
   rw[qAe,qAe,qAe,BW hi]
   have g:=qAb (show i<P.length from ())
   rw[g]
   obtain⟨e1,e2⟩:=Jx g
   show some (cd (Rat.divInt (ps.getD i dfR).1.1 (ps.getD i dfR).1.2,_))=some (cd (_,_))
   rw[ce.1,ce.2,e1,e2]
  .rw[qAO.mpr (by rw[qAa];omega),qAO.mpr (by rw[qAa,BJ];omega)]
 rw[ef]
 have wl:=hw (ps.length-1) ()
 have el:Rat.divInt (ps.getD (ps.length-1) dfR).2.1 (ps.getD (ps.length-1) dfR).2.2.2=(ln P (P.length-1)).1:=by
  rw[<-len]
  exact Np wl.l.s
 refine#[_,_,rfl,fun z=>absurd wl.l.s.pos (by rw[z];decide),Ar wl.l.s.la (),Ar wl.l.s.lb (),?_]
 rw[el]
 refine#[_,Jt P,(ln P (P.length-1)).1,rfl,Or.inr rfl,#[by rw[BJ];omega,fun i hi=>?_,zm],fun _=>?_,fun z=>absurd #[o,m0] z]
 .rw[BJ] at hi
  rw[(BB hi).1,(BB hi).2]
  exact zc i hi
 .rw[BJ];exact q
variable (FI:Cal P w K mg base (CXU P w) 7 "curve_of" ["pieces"] Iw)
theorem J6:Ad ["t","way"] ["t","way"] (Ab E8):=scN
theorem Ko (F:Fun K "moved_time" "moved_time" E8 f fd):Az P w K mg base CX0 1 f fd ["t","way"] (Ah K mg GN):=by
 refine fn3 F J6 (fun ss R U h=>?_) (fun cdv A outer s H E ss R U hr h=>?_)
 .obtain⟨a,b,wn,wd,t,w,m,n,rfl,_⟩:=h;rfl
 obtain⟨a,b,wn,wd,t,w,m,n,rfl,h,hw,hm,hn,q⟩:=h
 refine#[_,(Bf (Bs (a2 (Ai AU (Ai Av (vK 0) (vK 1)) (Ai Av (vK 1) (vK 0))) (Ai Av (vK 0) (vK 1))))),?_]
 exact#[Ax h.la hw.lb (),Ax hw.la h.lb (),Ax h.lb hw.lb (),by show 2<=1000;decide,q]
variable (D1:Cal P w K mg base (CXU P w) 1 "moved_time" ["t","way"] GN)
theorem Cu:Ad ["line","point","way","more","both","base"] ["line","point"] (Ab E5):=scN
theorem J3 (F:Fun K "moved_line" "moved_line" E5 f fd):Az P w K mg base CX0 1 f fd ["line","point"] (Ah K mg G0):=by
 refine fn3 F Cu (fun ss R U h=>?_) (fun cdv A outer s H E ss R U hr h=>?_)
 .obtain⟨l,q,wn,wd,vn,vd,w,v,k,m,rfl,_⟩:=h;rfl
 obtain⟨l,q0,wn,wd,vn,vd,w,v,k,m,rfl,h,hw,hv,hk,hm,q⟩:=h
 refine#[_,(Aa (AH 2 Cu (vK 1))
  (Aa (AH 3 Cu (vK 1))
  (Aa (AH 4 Cu (Ai Av (vK 2) (vK 3)))
  (Aa (AH 5 Cu (Ai AU (Ai DN (Ai Av (vK 0) (vN 4)) (Ai Av (Ai Av (vK 0) (vK 2)) (vK 3))) (Ai Av (Ai Av (vK 0) (vK 3)) (vK 2))))
  (Bf (Bs (AV (Ai Av (vK 0) (vN 4)) (a2 (vN 5) (Ai Av (vK 0) (vN 4)))))))))),?_]
 have b:=Aj hw.lb hv.lb
 exact#[Ax hw.lb hv.lb (),Ax h.c.la b (),Ax h.s.la hw.la (),Ax (Aj h.s.la hw.la) hv.lb (),Ax h.s.lb hv.la (),Ax (Aj h.s.lb hv.la) hw.lb (),Ax h.s.la b (),Ax h.s.lb b (),by show 3<=1000;decide,q]
variable (D8:Cal P w K mg base (CXU P w) 1 "moved_line" ["line","point"] G0)
theorem S6:Ad ["pieces","point"] ["pieces","point"] (Ab MU):=scN
include D1 D8 in
theorem UC (F:Fun K "laid" "laid" MU f fd):Az P w K mg base CX0 2 f fd ["pieces","point"] (Ah K mg PR):=by
 refine fnW (fun ss R U h=>?_) (fn3 F S6 (fun ss R U h=>?_) (fun cdv A outer s H E ss R U hr h=>?_))
 .obtain⟨x,ps,P,wn,wd,vn,vd,w,v,k,m,n,rfl,hx,h,hw,hv,hk,hm,hn,hl,q⟩:=h
  rcases hx with rfl|rfl<;>exact#[_,ps,P,wn,wd,vn,vd,w,v,k,m,n,rfl,(.inl rfl),h,hw,hv,hk,hm,hn,hl,q]
 .obtain⟨x,ps,P,wn,wd,vn,vd,w,v,k,m,n,rfl,_⟩:=h.1;rfl
 obtain⟨h,nl_⟩:=h
 obtain⟨x,ps,P,wn,wd,vn,vd,w,v,k,m,n,rfl,hx,h,hw,hv,hk,hm,hn,hl,q⟩:=h
 refine#[_,(Bf (GU (N:=["piece","point"]) (idx:=[1]) (Ba.mk' (Ab MU) ["pieces","point"] rfl rfl (by decide +kernel)) rfl (BL (PE3.out (vN 0))) Dz (fun cl C s₀ H₀ fp=>Cf) (fun cl C s₀ H₀ fp=>(Bs (a2 (Aq hr D1 (a2 (vK 0) (vK 1))) (Aq hr D8 (a2 (vK 0) (vN 1)))))))),?_]
 obtain rfl:=KH hx (nl_ _ (by simp))
 refine#[ps.map fun p=>some (rpD (mvR wn wd vn vd p)),by rw[qAa,qAa],?_,?_,?_]
 .intro i x hx
  rw[qAe] at hx
  cases hp:ps[i]? with
  |none=>rw[hp] at hx;cases hx
  |some p =>
   rw[hp] at hx
   cases hx
   obtain⟨q0,_,w0⟩:=h.get hp
   refine#[p.1.1,p.1.2,wn,wd,_,_,m,n,rfl,w0.t,hw,(),(),?_]
   refine#[p.2,_,wn,wd,vn,vd,_,_,k,n,rfl,w0.l,hw,hv,(),(),?_]
   refine#[by show 2<=1000;decide,?_]
   show(ps.map _)[i]? = _
   rw[qAe,hp]
   rfl
 .rw[qAa];exact hl
 rw[Kz]
 rw[qBW] at q
 exact q
variable (Ld:Cal P w K mg base (CXU P w) 2 "laid" ["pieces","point"] PR)
theorem Dy:Ad ["one_or_two","first","second"] ["one_or_two"] (Ab Eh):=scN
include Bo in
theorem Ih (F:Fun K "sooner_begin" "sooner_begin" Eh f fd):Az P w K mg base CX0 2 f fd ["one_or_two"] (Ah K mg Fa):=by
 refine fn3 F Dy (fun ss R U h=>?_) (fun cdv A outer s H E ss R U hr h=>?_)
 .obtain⟨xs,p,q,s,t,m,rfl,_⟩:=h;rfl
 obtain⟨xs,p,q0,s,t,m,rfl,n0,rfl,rfl,w1,w2,hm,q⟩:=h
 refine#[_,(Aa (AH 1 Dy (AW (vK 0) Ac))
  (Aa (AH 2 Dy (AW (AW (vN 0) (Kt Ac)) Ac))
  (Aa (BE (Bc (Aq hr Bo (a2 (vN 2) (vN 1)))) (Ag (C6 (pv 2))) Am)
  (Ag (C6 (pv 1)))))),?_]
 refine atR (KC (ps:=xs) (i:=0) 0 rfl n0) ?_
 refine atR (Sj (ps:=xs) n0) ?_
 refine#[_,_,_,_,t,s,m,m,rfl,w2,w1,(),(),?_]
 refine Ca (fun c=>?_) (fun c=>?_)
 .rw[if_pos c] at q;exact q
 .rw[if_neg c] at q;exact q
variable (C4:Cal P w K mg base (CXU P w) 2 "sooner_begin" ["one_or_two"] Fa)
theorem AZ:Ad ["pieces","others","first","one","other","rows","begin"] ["pieces","others"] (Ab CQ):=scN
include Bo AG AY C4 in
theorem Ja (F:Fun K "side_by_side" "side_by_side" CQ f fd){cA cT:Addr}(ht_:W.tabIn K "side_by_side"=some (cA,cT)) (hn_:rA K "side_by_side" f) (hp_:(PyProof.Rows.recsOf P).any (fun d=>d.name == "side_by_side")=true):Az P w K mg base CX0 6 f fd ["pieces","others"] (Ah K mg Fo):=by
 refine fnW (fun ss R U h=>?_) (X5 ht_ hn_ F AZ (fun ss R U h=>?_) (fun cdv A outer s H E ss R U ec hr h=>?_))
 .obtain⟨y,ps,os,P,O,k,m,c,rfl,hy,pl,ol,o0,uP,uO,hm,hl,c0,c1,b1,b2,q⟩:=h
  rcases hy with rfl|rfl<;>exact#[_,ps,os,P,O,k,m,c,rfl,(.inl rfl),pl,ol,o0,uP,uO,hm,hl,c0,c1,b1,b2,q]
 .obtain⟨y,ps,os,P,O,k,m,c,rfl,_⟩:=h.1;rfl
 subst ec
 obtain⟨h,nl_⟩:=h
 obtain⟨y,ps,os,P,O,k,m,c,rfl,hy,pl,ol,o0,uP,uO,hm,hl,c0,c1,b1,b2,q⟩:=h
 refine#[_,(Aa (AH 2 AZ (AW (vK 1) Ac))
  (Aa (AH 3 AZ (Ai DN (Km (x:="piece") AY (hr.mono ∅) rfl ht_ hp_ rfl (Ba.mk' (Ab CQ) ["pieces","others","first","one","other","rows","begin"] rfl rfl (by decide +kernel) (N:=["piece","first"]) (idx:=[2])) (vN 0) (fun cl nm a cdv A outer s H hr=>(UJ (Aq hr Bo (a2 (vN 1) (vK 0)))))) Ac))
  (Aa (AH 4 AZ Ac)
  (Aa (AH 5 AZ (F9 (a1 (Bs (AV (vN 2) (a2 (AW (AW (vN 0) (vN 3)) Ac) (AW (AW (vN 1) (vN 4)) Ac)))))))
  (Aa (G8 PassesOwn.never (PW3.pt (HM (BV HB (Ai AU (vN 3) Ac) (Co AG (vN 0))) (EL (BV HB (Ai AU (vN 4) Ac) (Co AG (vN 1)))))) (Aa (AH 6 AZ (Aq hr C4 (a1 (RJ RC (RY (vN 0) (Il (Ai AU (vN 3) Ac)) (Il (Ai AU (vN 3) Ac))) (RY (vN 1) (Il (Ai AU (vN 4) Ac)) (Il (Ai AU (vN 4) Ac)))))))
  (Dk (BE (PW3.pt (IX (BV HB (Ai AU (vN 3) Ac) (Co AG (vN 0))) (Fi (w_not (Bc (Aq hr Bo (a2 (vN 6) (AW (AW (vN 0) (Ai AU (vN 3) Ac)) Ac)))))))) (Ag (Lp (i:=3) AZ.nd rfl (Or.inl rfl) Ac)) Am)
  (Dk (BE (PW3.pt (IX (BV HB (Ai AU (vN 4) Ac) (Co AG (vN 1))) (Fi (w_not (Bc (Aq hr Bo (a2 (vN 6) (AW (AW (vN 1) (Ai AU (vN 4) Ac)) Ac)))))))) (Ag (Lp (i:=4) AZ.nd rfl (Or.inl rfl) Ac)) Am)
  (Ag (DQ (Be (DR qAu qAs qAt AF (pv 5) (AL (PE3.out (Bs (AV (vN 6) (a2 (AW (AW (vN 0) (vN 3)) Ac) (AW (AW (vN 1) (vN 4)) Ac))))) Bn)))))))))
  (Ag (C6 (pv 5)))))))),?_]
 have l1:=pl.len
 have l2:=ol.len
 have wP:∀i,i<ps.length->Wq m (ps.getD i dfR).1.1 (ps.getD i dfR).1.2 (bg P i):=fun i hi=>(pl.lnw (BW hi)).2.1
 have wO:∀i,i<os.length->Wq m (os.getD i dfR).1.1 (os.getD i dfR).1.2 (bg O i):=fun i hi=>(ol.lnw (BW hi)).2.1
 obtain rfl:=KH hy (nl_ _ (by simp))
 refine atR (KC (ps:=os) (i:=0) 0 rfl ()) ?_
 refine#[fun x=>∃i,i<ps.length/\x=rpD (ps.getD i dfR),fun x=>!decide (bg O 0<Ut x),?_,?_]
 .rintro x ⟨i,hi,rfl⟩
  refine#[_,_,_,_,bg O 0,bg P i,m,m,rfl,wO 0 (),wP i hi,(),(),?_]
  show S.d (.bl (!decide (bg O 0<bg P i)))=.d (.bl (!decide (bg O 0<Ut (rpD (ps.getD i dfR)))))
  rw[KI (wP i hi)]
 intro a
 refine#[_,ps.map rpD,c,rfl,Or.inr (Or.inl rfl),by rw[qAa];omega,by rw[qAa];omega,fun i x hx=>?_,?_]
 .have hi:i<ps.length:=by have:=(qAg.mp hx).1;rw[qAa] at this;exact this
  rw[qAe,BW hi] at hx
  cases hx
  refine#[#[i,hi,rfl],?_]
  show(!decide (bg O 0<Ut (rpD (ps.getD i dfR))))=_
  rw[KI (wP i hi)]
  by_cases z:i<c
  .have:=b1 i z
   rw[decide_eq_true z,decide_eq_false ⋯]
   rfl
  .have:=b2 i () ()
   rw[decide_eq_false z,decide_eq_true this]
   rfl
 have ec:((c:Int)-1)=((c-1:Nat):Int):=()
 refine atR (KC (ps:=ps) (i:=(c:Int)-1) (c-1) ec ()) ?_
 refine atR (KC (ps:=os) (i:=0) 0 rfl ()) ?_
 refine#[by show 3<=1000;decide,by show 1<=1000;decide,?_]
 have s1:Qb P O m [((os.getD 0 dfR).1,c-1,0)]:=Qb.one (wO 0 ()) () o0 (b1 _ ()) (fun z=>b2 _ () z) (fun z=>uO 0 z)
 refine#[fun mm τ=>∃(rw0:List R4)(i0 j0:Nat)(y6:Option S),τ=[some (.r (ps.map rpD)),some (.r (os.map rpD)),some (.d (tp (os.getD 0 dfR).1.1 (os.getD 0 dfR).1.2)),I (i0:Int),I (j0:Int),some (.l (rw0.map (Tt ps os))),y6]/\Qb P O m rw0/\iF' rw0 (rw0.length-1)=i0/\jF rw0 (rw0.length-1)=j0/\mm=(P.length-i0)+(O.length-j0),#[_,[((os.getD 0 dfR).1,c-1,0)],c-1,0,none,by rw[<-ec];rfl,s1,rfl,rfl,rfl],?_]
 rintro mm τ ⟨rw0,i0,j0,y6,rfl,sb,ei0,ej0,rfl⟩
 have hi0:i0<P.length:=by rw[<-ei0];exact sb.iP _ (by have:=sb.n0;omega)
 have hj0:j0<O.length:=by rw[<-ej0];exact sb.jO _ (by have:=sb.n0;omega)
 refine Ca (fun c1=>?_) (fun c1=>Ca (fun c2=>?_) (fun c2=>?_))
 rotate_left 2
 .rw[qAa] at c1 c2
  exact q rw0 sb (by rw[ei0];omega) (by rw[ej0];omega)
 all_goals
  have hc:i0+1<P.length\/j0+1<O.length:=by first|(rw[qAa] at c2;omega)|(rw[qAa] at c1;omega)
  obtain⟨p,q0,s,t,x,tm,x0,hp,hq,w1,w2,et,wx,x1,x2,x3⟩:=YW pl ol (i:=i0) (j:=j0) hc
  refine#[by rw[Ki (xs:=ps) (j:=i0) () (),Ki (xs:=os) (j:=j0) () (),qAa,qAa,qAQ,qAQ];omega,?_]
  refine#[(ps.drop (i0+1)).take 1++(os.drop (j0+1)).take 1,p,q0,s,t,m,by rw[Ki (xs:=ps) (j:=i0) () (),Ki (xs:=os) (j:=j0) () (),<-qAC];rfl,x0,hp,hq,w1,w2,hm,?_]
  rw[et]
  obtain⟨i',ei'⟩:∃i',i'=if i0+1<P.length/\¬x<bg P (i0+1) then i0+1 else i0:=#[_,rfl]
  obtain⟨j',ej'⟩:∃j',j'=if j0+1<O.length/\¬x<bg O (j0+1) then j0+1 else j0:=#[_,rfl]
  refine#[fun τ=>τ=[some (.r (ps.map rpD)),some (.r (os.map rpD)),some (.d (tp (os.getD 0 dfR).1.1 (os.getD 0 dfR).1.2)),I (i':Int),I (j0:Int),some (.l (rw0.map (Tt ps os))),some (.d (tp tm.1 tm.2))],?_,?_]
  .refine Ca (fun c1=>?_) (fun c1=>iF ?_)
   .rw[qAa] at c1
    refine atR (KC (ps:=ps) (i0+1) () ()) ?_
    refine#[_,_,_,_,x,bg P (i0+1),m,m,rfl,wx,(pl.lnw (BW (show i0+1<ps.length from ()))).2.1,(),(),?_]
    refine Nt (fun c2=>?_) (fun c2=>?_)
    .rw[if_pos #[(),c2]] at ei'
     rw[ei']
     rfl
    .rw[if_neg (fun z=>z.2 c2)] at ei'
     rw[ei']
     rfl
   .rw[qAa] at c1
    rw[if_neg (fun z=>c1 ())] at ei'
    rw[ei']
    rfl
  rintro τ rfl
  refine#[fun τ=>τ=[some (.r (ps.map rpD)),some (.r (os.map rpD)),some (.d (tp (os.getD 0 dfR).1.1 (os.getD 0 dfR).1.2)),I (i':Int),I (j':Int),some (.l (rw0.map (Tt ps os))),some (.d (tp tm.1 tm.2))],?_,?_]
  .refine Ca (fun c1=>?_) (fun c1=>iF ?_)
   .rw[qAa] at c1
    refine atR (KC (ps:=os) (j0+1) () ()) ?_
    refine#[_,_,_,_,x,bg O (j0+1),m,m,rfl,wx,(ol.lnw (BW (show j0+1<os.length from ()))).2.1,(),(),?_]
    refine Nt (fun c2=>?_) (fun c2=>?_)
    .rw[if_pos #[(),c2]] at ej'
     rw[ej']
     rfl
    .rw[if_neg (fun z=>z.2 c2)] at ej'
     rw[ej']
     rfl
   .rw[qAa] at c1
    rw[if_neg (fun z=>c1 ())] at ej'
    rw[ej']
    rfl
  rintro τ rfl
  have st:=sb.step uP uO (tm:=tm) (x:=x) (i':=i') (j':=j') wx (by rw[ei0];exact x1) (by rw[ej0];exact x2) (by rw[ei0,ej0];exact x3) (by rw[ei0];exact ei') (by rw[ej0];exact ej')
  have hl':(rw0++[(tm,i',j')]).length-1=rw0.length:=by simp
  have ii:=Ye (rw:=rw0) (r:=(tm,i',j'))
  have iP':=st.iP rw0.length (by simp)
  have jO':=st.jO rw0.length (by simp)
  rw[ii.2.1] at iP'
  rw[ii.2.2.1] at jO'
  have iP':i'<P.length:=iP'
  have jO':j'<O.length:=jO'
  have st':=st.cnt
  rw[hl',ii.2.1,ii.2.2.1] at st'
  have st':(rw0++[(tm,i',j')]).length+iF' (rw0++[(tm,i',j')]) 0<=i'+j'+1+iF' (rw0++[(tm,i',j')]) 0:=st'
  have dec:i0+j0<i'+j':=by
   rcases x3 with⟨z1,z2⟩|⟨z1,z2⟩
   .rw[if_pos #[z1,by rw[z2];exact qBq]] at ei'
    split at ej'<;>omega
   .rw[if_pos #[z1,by rw[z2];exact qBq]] at ej'
    split at ei'<;>omega
  refine atR (KC (ps:=ps) i' rfl ()) ?_
  refine atR (KC (ps:=os) j' rfl ()) ?_
  rw[qAn] at st'
  have st':rw0.length+1+iF' (rw0++[(tm,i',j')]) 0<=i'+j'+1+iF' (rw0++[(tm,i',j')]) 0:=st'
  refine#[by show 3<=1000;decide,by rw[qAa];omega,?_]
  refine#[(P.length-i')+(O.length-j'),(),rw0++[(tm,i',j')],i',j',_,by rw[qAC];rfl,st,by rw[hl'];exact ii.2.1,by rw[hl'];exact ii.2.2.1,rfl]
variable (CO:Cal P w K mg base (CXU P w) 6 "side_by_side" ["pieces","others"] Fo)
theorem Tv:Ad ["number"] ["number"] (Ab P7):=scN
theorem SW (F:Fun K "sign" "sign" P7 f fd):Az P w K mg base CX0 1 f fd ["number"] (Ah K mg Px):=by
 refine fn3 F Tv (fun ss R U h=>?_) (fun cdv A outer s H E ss R U hr h=>?_)
 .obtain⟨a,rfl,_⟩:=h;rfl
 obtain⟨a,rfl,q⟩:=h
 refine#[_,(Aa (BE (BV HB (vN 0) Ac) (Bf (Kt Ac)) Am)
  (Aa (BE (BV Wy (vN 0) Ac) (Bf Ac) Am)
  (Bf Ac))),?_]
 refine Ca (fun c=>?_) (fun c=>?_)
 .rw[qBN c] at q
  exact q
 refine Ca (fun c2=>?_) (fun c2=>?_)
 .rw[qB5 c2] at q
  exact q
 .have:a=0:=()
  subst this
  exact q
variable (IQ:Cal P w K mg base (CXU P w) 1 "sign" ["number"] Px)
theorem S8:Ad ["one","other","t"] ["one","other","t"] (Ab OD):=scN
include IQ in
theorem Uq (F:Fun K "side" "side" OD f fd):Az P w K mg base CX0 2 f fd ["one","other","t"] (Ah K mg O2):=by
 refine fn3 F S8 (fun ss R U h=>?_) (fun cdv A outer s H E ss R U hr h=>?_)
 .obtain⟨l1,l2,tn,td,q1,q2,t,k,m,rfl,_⟩:=h;rfl
 obtain⟨l1,l2,tn,td,q1,q2,t,k,m,rfl,h1,h2,w,hk,hm,q⟩:=h
 refine#[_,(Bf (Aq hr IQ (a1 (Ai DN (Ai Av (Ai AU (Ai Av (vK 0) (vK 2)) (Ai Av (vK 0) (vK 2))) (vK 1)) (Ai Av (Ai AU (Ai Av (vK 1) (vK 2)) (Ai Av (vK 1) (vK 2))) (vK 0)))))),?_]
 have a1:=GS (Aj h1.s.la w.la) (Aj h1.c.la w.lb)
 have a2:=GS (Aj h2.s.la w.la) (Aj h2.c.la w.lb)
 refine#[Ax h1.s.la w.la (),Ax h1.c.la w.lb (),Ax a1 h2.s.lb (),Ax h2.s.la w.la (),Ax h2.c.la w.lb (),Ax a2 h1.s.lb (),_,rfl,?_]
 rw[Uz h1 h2 w]
 exact q
variable (MM:Cal P w K mg base (CXU P w) 2 "side" ["one","other","t"] O2)
theorem TK:Ad ["one","other"] ["one","other"] (Ab Qk):=scN
include IQ in
theorem SG (F:Fun K "lean" "lean" Qk f fd):Az P w K mg base CX0 2 f fd ["one","other"] (Ah K mg O4):=by
 refine fn3 F TK (fun ss R U h=>?_) (fun cdv A outer s H E ss R U hr h=>?_)
 .obtain⟨l1,l2,q1,q2,k,rfl,_⟩:=h;rfl
 obtain⟨l1,l2,q1,q2,k,rfl,h1,h2,hk,q⟩:=h
 refine#[_,(Bf (Aq hr IQ (a1 (Ai DN (Ai Av (vK 0) (vK 1)) (Ai Av (vK 1) (vK 0)))))),?_]
 refine#[Ax h1.s.la h2.s.lb (),Ax h2.s.la h1.s.lb (),_,rfl,?_]
 rw[SU h1 h2]
 exact q
variable (NJ:Cal P w K mg base (CXU P w) 2 "lean" ["one","other"] O4)
theorem LX:Ad ["told","begin","line"] ["told","begin","line"] (Ab Gi):=scN
theorem Le (F:Fun K "add_piece" "add_piece" Gi f fd):Az P w K mg base CX0 1 f fd ["told","begin","line"] (NX K Eg):=by
 refine fnM F LX (fun xs ds R h=>?_) (fun cdv A outer s H E a xs ds R hr h=>?_)
 .obtain⟨ps,p,rfl,rfl,_⟩:=h;rfl
 obtain⟨ps,p,rfl,rfl,hl,q⟩:=h
 refine#[_,(Ag (BE (PW3.pt (HM (w_not (WW (pv 0))) (EL (BV (N8 1 (hu_ hr ∅)) (AW (AW (vN 0) (Kt Ac)) Ac) (vN 2))))) (Ag (DQ (Be (DR qAu qAs qAt AF (pv 0) (AL (PE3.out (Bs (a2 (vN 1) (vN 2)))) Bn))))) Am)),?_]
 rcases qBG ps.length with z|z
 .have z:=qAT z
  subst z
  exact#[by show 2<=1000;decide,∅,_,rfl,q _ (Or.inl #[rfl,fun q' h=>by cases h])]
 have hg:ps[ps.length-1]? = some (ps[ps.length-1]' ()):=qAb _
 have e:(List.map rpD ps).isEmpty=false:=by
  cases ps with
  |nil=>cases z
  |cons _ _=>rfl
 refine iF ?_ (congrArg (fun b=>!(!b)) e)
 refine atR (H0 hg) ?_
 refine#[rfl,rfl,?_]
 refine YH (fun c=>?_) (fun c=>?_)
 .have:=q _ (Or.inl #[rfl,fun q' h=>by rw[hg] at h;cases h;exact c])
  rw[qAC] at this
  exact#[by show 2<=1000;decide,by rw[qAa];omega,_,rfl,this]
 .exact#[_,rfl,q _ (Or.inr #[rfl,_,hg,c])]
variable (Ch:WH P w K mg base 1 "add_piece" ["told","begin","line"] Eg)
theorem Mh:Ad ["one","other"] ["one","other"] (Ab Hv):=scN
include Bm in
theorem Mx (F:Fun K "crossing" "crossing" Hv f fd):Az P w K mg base CX0 3 f fd ["one","other"] (Ah K mg IG):=by
 refine fn3 F Mh (fun ss R U h=>?_) (fun cdv A outer s H E ss R U hr h=>?_)
 .obtain⟨l1,l2,q1,q2,k,rfl,_⟩:=h;rfl
 obtain⟨l1,l2,q1,q2,k,rfl,h1,h2,hk,ne,q⟩:=h
 refine#[_,(Bf (Aq hr Bm (a2 (Ai DN (Ai Av (vK 1) (vK 0)) (Ai Av (vK 0) (vK 1))) (Ai DN (Ai Av (vK 0) (vK 1)) (Ai Av (vK 1) (vK 0)))))),?_]
 obtain⟨n,e⟩:=Na h1 h2 ne
 refine#[Ax h2.c.la h1.s.lb (),Ax h1.c.la h2.s.lb (),Ax h1.s.la h2.s.lb (),Ax h2.s.la h1.s.lb (),_,_,rfl,n,Ar (DL (Aj h2.c.la h1.s.lb) (Aj h1.c.la h2.s.lb)) (),Ar (DL (Aj h1.s.la h2.s.lb) (Aj h2.s.la h1.s.lb)) (),?_]
 rw[e]
 exact q
variable (Eu:Cal P w K mg base (CXU P w) 3 "crossing" ["one","other"] IG)
theorem Fn:Ad ["told","row","now","then","one","other"] ["told","row","now","then"] (Ab Ga):=scN
include Ch Eu in
theorem LO (F:Fun K "add_lower" "add_lower" Ga f fd):Az P w K mg base CX0 4 f fd ["told","row","now","then"] (NX K HG):=by
 refine fnM F Fn (fun xs ds R h=>?_) (fun cdv A outer s H E a xs ds R hr h=>?_)
 .obtain⟨ps,tm,l1,l2,now,thn,q1,q2,k,rfl,rfl,_⟩:=h;rfl
 obtain⟨ps,tm,l1,l2,now,thn,q1,q2,k,rfl,rfl,h1,h2,hk,hx,hl,q⟩:=h
 refine#[_,(Aa (AH 4 Fn (vK 1))
  (Aa (AH 5 Fn (vK 1))
  (Dk (BE (PW3.pt (HM (BV HB (vN 2) Ac) (EL (PW3.pt (IX (BV Kv (vN 2) Ac) (Fi (BV HB (vN 3) Ac))))))) (Ag (IB Ch (hr.mono ∅) rfl (pv 0) (a2 (vK 1) (vN 4)))) (Ag (IB Ch (hr.mono ∅) rfl (pv 0) (a2 (vK 1) (vN 5)))))
  (Dk (BE (PW3.pt (IX (BV HB (vN 2) Ac) (Fi (BV Wy (vN 3) Ac)))) (Ag (IB Ch (hr.mono ∅) rfl (pv 0) (a2 (Aq hr Eu (a2 (vN 4) (vN 5))) (vN 5)))) Am)
  (Ag (BE (PW3.pt (IX (BV Wy (vN 2) Ac) (Fi (BV HB (vN 3) Ac)))) (Ag (IB Ch (hr.mono ∅) rfl (pv 0) (a2 (Aq hr Eu (a2 (vN 4) (vN 5))) (vN 4)))) Am)))))),?_]
 refine#[fun τ=>∃ps1:List RP,τ=[some (.l (ps1.map rpD)),some (.d (.tup [.tup [.int tm.1,.int tm.2],lnD l1,lnD l2])),I now,I thn,some (.d (lnD l1)),some (.d (lnD l2))]/\(if now<0\/(now=0/\thn<0) then LZ ps (tm,l1) ps1 else LZ ps (tm,l2) ps1),?_,?_]
 .have one:(now<0\/(now=0/\thn<0))->Eg (ps.map rpD) [.tup [.int tm.1,.int tm.2],lnD l1] fun ys=>∃ps1:List RP,[some (.l ys),some (.d (.tup [.tup [.int tm.1,.int tm.2],lnD l1,lnD l2])),I now,I thn,some (.d (lnD l1)),some (.d (lnD l2))]=[some (.l (ps1.map rpD)),some (.d (.tup [.tup [.int tm.1,.int tm.2],lnD l1,lnD l2])),I now,I thn,some (.d (lnD l1)),some (.d (lnD l2))]/\(if now<0\/(now=0/\thn<0) then LZ ps (tm,l1) ps1 else LZ ps (tm,l2) ps1):=fun c=>#[ps,(tm,l1),rfl,rfl,(),fun ps' a=>#[ps',rfl,by rw[if_pos c];exact a]]
  have two:¬(now<0\/(now=0/\thn<0))->Eg (ps.map rpD) [.tup [.int tm.1,.int tm.2],lnD l2] fun ys=>∃ps1:List RP,[some (.l ys),some (.d (.tup [.tup [.int tm.1,.int tm.2],lnD l1,lnD l2])),I now,I thn,some (.d (lnD l1)),some (.d (lnD l2))]=[some (.l (ps1.map rpD)),some (.d (.tup [.tup [.int tm.1,.int tm.2],lnD l1,lnD l2])),I now,I thn,some (.d (lnD l1)),some (.d (lnD l2))]/\(if now<0\/(now=0/\thn<0) then LZ ps (tm,l1) ps1 else LZ ps (tm,l2) ps1):=fun c=>#[ps,(tm,l2),rfl,rfl,(),fun ps' a=>#[ps',rfl,by rw[if_neg c];exact a]]
  refine Ca (fun c=>one (.inl c)) (fun c=>?_)
  refine Ca (fun c2=>?_) (fun c2=>two (fun z=>z.elim c fun z=>c2 z.1))
  exact Ca (fun c3=>one (.inr #[c2,c3])) (fun c3=>two (fun z=>z.elim c fun z=>c3 z.2))
 rintro τ ⟨ps1,rfl,a1⟩
 have hl1:ps1.length<=ps.length+1:=by split at a1<;>exact a1.len
 refine#[fun τ=>∃ps2:List RP,τ=[some (.l (ps2.map rpD)),some (.d (.tup [.tup [.int tm.1,.int tm.2],lnD l1,lnD l2])),I now,I thn,some (.d (lnD l1)),some (.d (lnD l2))]/\(if now<0/\0<thn then LZ ps1 (((xg q1 q2).num,((xg q1 q2).den:Int)),l2) ps2 else ps2=ps1),?_,?_]
 .refine Ca (fun c=>?_) (fun c=>#[ps1,rfl,by rw[if_neg (fun z=>c z.1)]])
  refine Ca (fun c2=>?_) (fun c2=>#[ps1,rfl,by rw[if_neg (fun z=>c2 z.2)]])
  refine#[l1,l2,q1,q2,k,rfl,h1,h2,hk,hx (.inl #[c,c2]),?_]
  exact#[ps1,(((xg q1 q2).num,((xg q1 q2).den:Int)),l2),rfl,rfl,(),fun ps' a=>#[ps',rfl,by rw[if_pos #[c,c2]];exact a]]
 rintro τ ⟨ps2,rfl,a2⟩
 have hl2:ps2.length<=ps1.length+1:=by
  split at a2
  .exact a2.len
  .rw[a2];omega
 have fin:∀ps',(if 0<now/\thn<0 then LZ ps2 (((xg q1 q2).num,((xg q1 q2).den:Int)),l1) ps' else ps'=ps2)->RG ps tm l1 l2 now thn (xg q1 q2) ps':=fun ps' a=>by
  refine#[ps1,a1,?_]
  by_cases c:now<0/\0<thn
  .rw[if_pos c] at a2 ⊢
   rw[if_neg ()] at a
   rw[a]
   exact a2
  .rw[if_neg c] at a2 ⊢
   rw[<-a2]
   exact a
 refine Ca (fun c=>?_) (fun c=>#[_,rfl,q _ (fin _ (by rw[if_neg (fun z=>c z.1)]))])
 refine Ca (fun c2=>?_) (fun c2=>#[_,rfl,q _ (fin _ (by rw[if_neg (fun z=>c2 z.2)]))])
 refine#[l1,l2,q1,q2,k,rfl,h1,h2,hk,hx (.inr #[c,c2]),?_]
 exact#[ps2,(((xg q1 q2).num,((xg q1 q2).den:Int)),l1),rfl,rfl,(),fun ps' a=>#[_,rfl,q _ (fin _ (by rw[if_pos #[c,c2]];exact a))]]
variable (ES:WH P w K mg base 4 "add_lower" ["told","row","now","then"] HG)
theorem CJ:Ad ["pieces","others","begin","told","rows","sides","number","row"] ["pieces","others"] (Ab Fw):=scN
include Bo AY Ce CO MM NJ ES in
theorem N0 (F:Fun K "lowered" "lowered" Fw f fd){cA cT:Addr}(ht_:W.tabIn K "lowered"=some (cA,cT)) (hn_:rA K "lowered" f) (hp_:(PyProof.Rows.recsOf P).any (fun d=>d.name == "lowered")=true):Az P w K mg base CX0 7 f fd ["pieces","others"] (Ah K mg JP):=by
 refine fnW (fun ss R U h=>?_) (X5 ht_ hn_ F CJ (fun ss R U h=>?_) (fun cdv A outer s H E ss R U ec hr h=>?_))
 .obtain⟨y,ps,os,P,O,B,S0,G,V,k,m,h,g,rfl,hy,⟨rP,p0,ol,pO,o0,sO,gO,ux,hkm,hm,hb,hj,hl,hn0⟩,q⟩:=h
  rcases hy with rfl|rfl<;>exact#[_,ps,os,P,O,B,S0,G,V,k,m,h,g,rfl,(.inl rfl),#[rP,p0,ol,pO,o0,sO,gO,ux,hkm,hm,hb,hj,hl,hn0],q]
 .obtain⟨y,ps,os,P,O,B,S0,G,V,k,m,h,g,rfl,_⟩:=h.1;rfl
 subst ec
 obtain⟨h,nl_⟩:=h
 obtain⟨y,ps,os,P,O,B,S0,G,V,k,m,h,g,rfl,hy,⟨rP,p0,ol,pO,o0,sO,gO,ux,hkm,hm,hb,hj,hl,hn0⟩,q⟩:=h
 refine#[_,(Aa (AH 2 CJ (AW (vK 1) Ac))
  (Aa (AH 3 CJ (RY (vN 0) V1 (Il (Km (x:="piece") AY (hr.mono ∅) rfl ht_ hp_ rfl (Ba.mk' (Ab Fw) ["pieces","others","begin","told","rows","sides","number","row"] rfl rfl (by decide +kernel) (N:=["piece","begin"]) (idx:=[2])) (vN 0) (fun cl nm a cdv A outer s H hr=>(Aq hr Bo (a2 (vK 0) (vN 1))))))))
  (Aa (AH 4 CJ (Aq hr CO (a2 (vN 0) (vN 1))))
  (Aa (LA (i:=5) (N:=["row"]) (idx:=[]) (Ba.mk' (Ab Fw) ["pieces","others","begin","told","rows","sides","number","row"] rfl rfl (by decide +kernel)) rfl (BL (PE3.out (vN 4))) Dz (fun cl C s₀ H₀ fp=>Cf) (fun cl C s₀ H₀ fp=>(Aq hr MM (AV (vK 0) (a2 (vK 0) (vK 0))))) CJ.nd rfl (Or.inl rfl))
  (Aa (DQ (Be (DR qAu qAs qAt AF (pv 5) (AL (PE3.out (Aq hr NJ (a2 (AW (AW (vN 4) (Kt Ac)) Ac) (AW (AW (vN 4) (Kt Ac)) Ac)))) Bn))))
  (Aa (Sn (BP PassesOwn.never rfl (Pu rfl Ce (pv 4)) (Lm rfl (Cz (AR (i:=6) CJ.nd rfl (Or.inl rfl)) (Cz (AR (i:=7) CJ.nd rfl (Or.inl rfl)) IM))) (DP.out (Ag (IB ES (hr.mono ∅) rfl (pv 3) (AV (vN 7) (a2 (AW (vN 5) (vN 6)) (AW (vN 5) (Ai AU (vN 6) Ac)))))))))
  (Ag (C6 (pv 3))))))))),?_]
 have pl:=rP.pl
 have pP:=rP.pu
 have uP:=pP.up
 have uO:=pO.up
 have l1:=pl.len
 have l2:=ol.len
 have wP:∀i,i<ps.length->Wq m (ps.getD i dfR).1.1 (ps.getD i dfR).1.2 (bg P i):=fun i hi=>(pl.lnw (BW hi)).2.1
 have wO:∀i,i<os.length->Wq m (os.getD i dfR).1.1 (os.getD i dfR).1.2 (bg O i):=fun i hi=>(ol.lnw (BW hi)).2.1
 obtain⟨c,cA0,cA1,cA2⟩:=Sr uP (bg O 0)
 obtain⟨d,d1,dB1,dB2⟩:=U4 uP (bg O 0)
 have cA3:c<P.length->bg O 0<=bg P c:=fun z=>cA2 c (qAc _) z
 have d0:0<d:=by
  rcases qBG d with z|z
  .have:=dB2 0 () p0;grind
  .exact z
 have hj0:0<c->h (bg O 0)<=g (bg O 0):=fun z=>hj (cA1 0 z)
 obtain rfl:=KH hy (nl_ _ (by simp))
 refine atR (KC (ps:=os) (i:=0) 0 rfl ()) ?_
 refine#[fun x=>∃i,i<ps.length/\x=rpD (ps.getD i dfR),fun x=>decide (Ut x<bg O 0),?_,?_]
 .rintro x ⟨i,hi,rfl⟩
  refine#[_,_,_,_,bg P i,bg O 0,m,m,rfl,wP i hi,wO 0 (),(),(),?_]
  show S.d (.bl (decide (bg P i<bg O 0)))=.d (.bl (decide (Ut (rpD (ps.getD i dfR))<bg O 0)))
  rw[KI (wP i hi)]
 intro a
 refine#[_,ps.map rpD,c,rfl,Or.inr (Or.inl rfl),by rw[qAa];omega,by rw[qAa];omega,fun i x hx=>?_,?_]
 .have hi:i<ps.length:=by have:=(qAg.mp hx).1;rw[qAa] at this;exact this
  rw[qAe,BW hi] at hx
  cases hx
  refine#[#[i,hi,rfl],?_]
  show decide (Ut (rpD (ps.getD i dfR))<bg O 0)=_
  rw[KI (wP i hi)]
  refine decide_eq_decide.mpr #[fun z=>?_,fun z=>cA1 i z]
  by_cases y:i<c
  .exact y
  .have:=cA2 i () ();grind
 have ec:F0 (ps.map rpD) none (some (c:Int))=(ps.take c).map rpD:=XH ()
 refine#[_,ps,os,P,O,k,m,d,rfl,Or.inl rfl,pl,ol,o0,uP,uO,(),(),d0,d1,dB1,dB2,fun rw0 sb e1 e2=>?_]
 have sA:=sb.all e1 e2
 have nw:=sb.n0
 have cn:=sb.cnt
 have iL:=sb.iP (rw0.length-1) ()
 have jL:=sb.jO (rw0.length-1) ()
 have lw1:∀n,n<rw0.length->LW k (ps.getD (iF' rw0 n) dfR).2 (ln P (iF' rw0 n)):=fun n hn=>(pl.lnw (BW (by have:=sb.iP n hn;omega))).1
 have lw2:∀n,n<rw0.length->LW k (os.getD (jF rw0 n) dfR).2 (ln O (jF rw0 n)):=fun n hn=>(ol.lnw (BW (by have:=sb.jO n hn;omega))).1
 refine#[(List.range rw0.length).map fun n=>some (D.int (sg (ev (ln P (iF' rw0 n)) (aF rw0 n)-ev (ln O (jF rw0 n)) (aF rw0 n)))),?_,?_,?_,?_]
 .rw[qAa,qAa,qAH]
 .intro n x hx
  have hn:n<rw0.length:=by have:=(qAg.mp hx).1;rw[qAa] at this;exact this
  rw[qAe,SS hn] at hx
  cases hx
  refine#[_,_,_,_,_,_,aF rw0 n,k,m,rfl,lw1 n hn,lw2 n hn,sb.w n hn,(),(),?_]
  show((List.range rw0.length).map _)[n]? = _
  rw[qAe,qAK hn]
  rfl
 .rw[qAa];omega
 have ef:((List.range rw0.length).map fun n=>some (D.int (sg (ev (ln P (iF' rw0 n)) (aF rw0 n)-ev (ln O (jF rw0 n)) (aF rw0 n))))).filterMap id=(List.range rw0.length).map fun n=>D.int (sg (ev (ln P (iF' rw0 n)) (aF rw0 n)-ev (ln O (jF rw0 n)) (aF rw0 n))):=Kz
 rw[ef]
 have eL:atI (rw0.map (Tt ps os)) (-1)=some (Tt ps os (tmF rw0 (rw0.length-1),iF' rw0 (rw0.length-1),jF rw0 (rw0.length-1))):=H0 (SS ())
 refine atR eL ?_
 refine atR eL ?_
 refine#[_,_,_,_,k,rfl,lw1 _ (),lw2 _ (),(),?_]
 refine#[by rw[qAa,qAH];omega,?_]
 generalize eS:(List.range rw0.length).map (fun n=>D.int (sg (ev (ln P (iF' rw0 n)) (aF rw0 n)-ev (ln O (jF rw0 n)) (aF rw0 n))))++[D.int (sg ((ln P (iF' rw0 (rw0.length-1))).1-(ln O (jF rw0 (rw0.length-1))).1))]=sd
 have sl:sd.length=rw0.length+1:=by rw[<-eS];simp
 have sNow:∀n,n<rw0.length->atI sd (n:Int)=some (D.int (sg (ev (ln P (iF' rw0 n)) (aF rw0 n)-ev (ln O (jF rw0 n)) (aF rw0 n)))):=fun n hn=>by
  rw[CH.atI_nat (),<-eS,qAv (by simp;exact hn),qAe,qAK hn]
  rfl
 have sThn:∀n,n<rw0.length->atI sd ((n:Int)+1)=some (D.int (sg (Et (ln P (iF' rw0 n)) (ln O (jF rw0 n)) (TmN rw0.length (aF rw0) (n+1))))):=fun n hn=>by
  by_cases z:n+1<rw0.length
  .rw[sA.thn pP pO z,show(n:Int)+1=((n+1:Nat):Int) from ()]
   exact sNow (n+1) z
  .have en:n=rw0.length-1:=()
   rw[show(n:Int)+1=((rw0.length:Nat):Int) from (),CH.atI_nat (),<-eS,qAz (by simp),en]
   have e9:TmN rw0.length (aF rw0) (rw0.length-1+1)=none:=if_neg ()
   rw[e9]
   simp
   rfl
 refine#[fun n τ=>∃(qs:List RP)(Q:Ps)(y6 y7:Option S),τ=[some (.r (ps.map rpD)),some (.r (os.map rpD)),some (.d (tp (os.getD 0 dfR).1.1 (os.getD 0 dfR).1.2)),some (.l (qs.map rpD)),some (.r (rw0.map (Tt ps os))),some (.l sd),y6,y7]/\TV B S0 G V k m ps os P O h g rw0.length (aF rw0) (iF' rw0) (jF rw0) n qs Q/\(n=0->qs=ps.take c),#[ps.take c,P.take c,none,none,by rw[<-ec];rfl,TV.zero rP sA cA0 cA1 cA3 hj0,fun _=>rfl],?_,?_]
 .rintro n τ x hx ⟨qs,Q,y6,y7,rfl,li,z0⟩
  have hn:n<rw0.length:=by have:=(qAg.mp hx).1;rw[qAa] at this;exact this
  rw[qAe,SS hn] at hx
  cases hx
  have ql:qs.length<=90000:=by
   have q1:=li.r.cn.len
   have q2:=li.r.pl.len
   rw[qAn] at q1
   have q3:(ND O).length=O.length:=qAa _
   rw[q3] at q1
   omega
  refine atR (sNow n hn) ?_
  refine atR (sThn n hn) ?_
  refine#[qs,tmF rw0 n,(ps.getD (iF' rw0 n) dfR).2,(os.getD (jF rw0 n) dfR).2,_,_,ln P (iF' rw0 n),ln O (jF rw0 n),k,rfl,rfl,lw1 n hn,lw2 n hn,(),fun z=>?_,(),fun qs' ad=>?_]
  .rcases z with⟨z1,z2⟩|⟨z1,z2⟩
   .exact(Ij (T:=TmN rw0.length (aF rw0) (n+1)) (a:=aF rw0 n) (by have:=Qf.mp z1;grind) (Od (sA.lt hn) (O7.mp z2))).1
   .have:=(Ij (l1:=ln O (jF rw0 n)) (l2:=ln P (iF' rw0 n)) (T:=TmN rw0.length (aF rw0) (n+1)) (a:=aF rw0 n) (by have:=O7.mp z1;grind) (Od (sA.lt hn) (by rw[Hi];have:=Qf.mp z2;grind))).1
    exact Ne.symm this
  obtain⟨Q',li'⟩:=li.step rP ol pO sO gO ux hkm sA hb hn (sb.w n hn) (BW (show iF' rw0 n<ps.length by have:=sb.iP n hn;omega)) (BW (show jF rw0 n<os.length by have:=sb.jO n hn;omega)) ad (fun z y=>by
   have t0:=z0 z
   rw[y] at t0
   have c0':c=0:=by
    have:(ps.take c).length=0:=by rw[<-t0];rfl
    rw[qAQ] at this
    omega
   have:=cA2 0 () p0
   grind)
  exact#[qs',Q',_,_,rfl,li',fun z=>absurd z ()]
 rintro τ ⟨qs,Q,y6,y7,rfl,li,_⟩
 rw[qAa] at li
 have r:=li.r
 have e9:TmN rw0.length (aF rw0) rw0.length=none:=if_neg ()
 rw[e9] at r
 have lb:=li.b.2 nw
 exact q qs Q r (by rw[<-r.pl.len];exact List.length_pos_iff.mpr lb.1) lb.2
variable (Eo:Cal P w K mg base (CXU P w) 7 "lowered" ["pieces","others"] JP)
theorem AE:Ad ["f","g","ones","others","found","corner"] ["f","g"] (Ab Cg):=scN
include AM DF FI Ld Eo in
theorem FV (F:Fun K "joined_by_corners" "joined_by_corners" Cg f fd):Az P w K mg base CX0 8 f fd ["f","g"] (Ah K mg Dl):=by
 refine fn3 F AE (fun ss R U h=>?_) (fun cdv A outer s H E ss R U hr h=>?_)
 .obtain⟨fc,fm,gc,gm,a,b,c,rfl,_⟩:=h;rfl
 obtain⟨fc,fm,gc,gm,a,b,c,rfl,⟨rf,rg,zf,zg,hz,hn⟩,q⟩:=h
 refine#[_,(Aa (AH 2 AE (Aq hr DF (a1 (vN 0))))
  (Aa (AH 3 AE (Aq hr DF (a1 (vN 1))))
  (Aa (AH 4 AE (Aq hr Eo (a2 (vN 2) (vN 3))))
  (Aa (GQ (BP PassesOwn.never rfl (BL (PE3.out (Aq hr AM (a1 (vN 0))))) (AR (i:=5) AE.nd rfl (Or.inl rfl)) (DP.out (Ag (AH 4 AE (Aq hr Eo (a2 (vN 4) (Aq hr Ld (a2 (vN 3) (vN 5))))))))))
  (Aa (GQ (BP PassesOwn.never rfl (BL (PE3.out (Aq hr AM (a1 (vN 1))))) (AR (i:=5) AE.nd rfl (Or.inl rfl)) (DP.out (Ag (AH 4 AE (Aq hr Eo (a2 (vN 4) (Aq hr Ld (a2 (vN 2) (vN 5))))))))))
  (Bf (Aq hr FI (a1 (vN 4))))))))),?_]
 have of:=rf.o
 have og:=rg.o
 have f0:=of.ne
 have g0:=og.ne
 obtain⟨K,hK⟩:∃K,K=2*a+3*b+3*c+12:=#[_,rfl]
 obtain⟨Z,hZ⟩:∃Z,Z=2*(a+b+c)+5:=#[_,rfl]
 obtain⟨X,hX⟩:∃X,X=4*(a+b+c)+2*b+16:=#[_,rfl]
 obtain⟨W,hW⟩:∃W,W=2*(fc.length*gc.length)+2*fc.length+2*gc.length+3:=#[_,rfl]
 rw[<-hX,<-hZ] at q
 rw[<-hW] at hn
 have sL:=SZ (fc:=fc) (gc:=gc) (fm:=fm) (gm:=gm)
 have cnt:∀x,x<=W->x*(slJ fc fm gc gm).length<=40000:=fun x hx=>qAL (by rw[sL];exact qA2 _ hx) hn
 have WS:W<=40000:=by
  have:=cnt W (qAc _)
  rw[sL] at this
  have:=Nat.mul_le_mul_left W (show 1<=fc.length+gc.length from ())
  omega
 have fl:fc.length<=4999:=by
  refine qBz fun z=>?_
  have:10000*5000<=W*(fc.length+gc.length):=qCt () ()
  omega
 have gl:gc.length<=4999:=by
  refine qBz fun z=>?_
  have:10000*5000<=W*(fc.length+gc.length):=qCt () ()
  omega
 have ux:=Xc (b:=b) (Z:=Z) (X:=X) ()
 have st1:=Kh (cs:=fc) (m:=fm) f0
 have st2:=Kh (cs:=gc) (m:=gm) g0
 refine#[fc,fm,a,b,c,rfl,of,zf,(),(),?_]
 refine#[gc,gm,a,b,c,rfl,og,zg,(),(),?_]
 have r0:FU (ND (GJ fc fm)) (slJ fc fm gc gm) (Gz b Z) (Sz X) K (2*K+1) (val fc fm) none (EB fc fm) (GJ fc fm):=Yt of zf (fun i hi=>Wf hi) () () () ()
 have pG:PL K (2*K+1) (EB gc gm) (GJ gc gm):=(Fy og zg).mono () ()
 have bf:bg (GJ fc fm) 0=0:=by rw[(Ci f0).1];exact of.t0
 have bgg:bg (GJ gc gm) 0=0:=by rw[(Ci g0).1];exact og.t0
 have lf:=DV (cs:=fc) (m:=fm)
 have lg:=DV (cs:=gc) (m:=gm)
 have lbf:(ND (GJ fc fm)).length=fc.length:=by rw[show(ND (GJ fc fm)).length=(GJ fc fm).length from qAa _,lf]
 have lbg:(ND (GJ gc gm)).length=gc.length:=by rw[show(ND (GJ gc gm)).length=(GJ gc gm).length from qAa _,lg]
 have c0:=cnt (fc.length+gc.length+1) ()
 refine#[_,_,_,GJ fc fm,GJ gc gm,ND (GJ fc fm),slJ fc fm gc gm,Gz b Z,Sz X,K,2*K+1,val fc fm,val gc gm,rfl,Or.inl rfl,#[r0,by rw[lf];exact f0,pG,Iy og,by rw[lg];exact g0,fun x hx=>by rw[lg] at hx;rw[(Ci hx).2];exact V2 hx,fun x hx=>?_,ux,(),(),by rw[bf,bgg];exact qAi,fun z=>by rw[bf,bgg] at z;exact absurd z qBq,by rw[BY,BY];omega,by rw[lbf,lg];omega],fun qs Q r ne b0=>?_]
 .rw[lg] at hx
  rw[(Ci hx).1,(Ci hx).2]
  have z:=zg.ln og x hx
  exact#[#[z.1,z.2.mono ()],(zg.tm x hx).mono ()]
 rw[bgg] at r
 rw[bf] at b0
 have mi:JI fc fm gc gm [] [] _:=JI.start
 refine#[fc,fm,a,b,c,rfl,of,zf,(),(),?_]
 refine#[fun n τ=>∃(qs:List RP)(Q:Ps)(B:List Rat)(h:Rat->Rat)(y5:Option S),τ=[some (.d (crv fc fm)),some (.d (crv gc gm)),some (.l ((EB fc fm).map rpD)),some (.l ((EB gc gm).map rpD)),some (.l (qs.map rpD)),y5]/\FU B (slJ fc fm gc gm) (Gz b Z) (Sz X) K (2*K+1) h none qs Q/\0<Q.length/\bg Q 0=0/\JI fc fm gc gm ((stI fc fm).take n) [] h/\B.length<=fc.length+gc.length+n*gc.length,#[qs,Q,_,_,none,rfl,r,ne,b0,mi,by rw[qAn,lbf,lbg];omega],?_,?_]
 .clear r ne b0 mi
  clear qs Q
  rintro n τ x hx ⟨qs,Q,B,h,y5,rfl,r,ne,b0,mi,bl⟩
  obtain⟨k,hk,rfl⟩:=Bq hx
  have nl:n<(stI fc fm).length:=(qAg.mp hk).1
  have kl:k<fc.length:=(Fx.mp (qAE hk)).1
  have tk:=zf.tm k kl
  have t0:=Dn of kl
  have vk:Sz (b+a+c+1) (vv fc k):=by
   have:=zf.va t0 tk
   rw[CB of kl] at this
   exact this
  have w1:Wq (a+b+c+3) (tt fc k).num ((tt fc k).den:Int) (tt fc k):=Wq.of (tk.mono ())
  have w2:Wq (a+b+c+3) (vv fc k).num ((vv fc k).den:Int) (vv fc k):=Wq.of (vk.mono ())
  refine#[_,EB gc gm,GJ gc gm,_,_,_,_,_,_,b+c,a,a+b+c+3,rfl,Or.inl rfl,Fy og zg,w1,w2,(),(),(),by rw[BY];omega,?_]
  have pO:PL K (2*K+1) ((EB gc gm).map (mvR (tt fc k).num ((tt fc k).den:Int) (vv fc k).num ((vv fc k).den:Int))) (pJ gc gm (tt fc k) (vv fc k)):=((Fy og zg).moved w1 w2).mono (k':=K) (m':=2*K+1) () ()
  have lO:=OV (fc:=gc) (fm:=gm) (w:=tt fc k) (v:=vv fc k)
  have b0':bg (pJ gc gm (tt fc k) (vv fc k)) 0=tt fc k:=by rw[(N9 og.ne).1,og.t0];grind
  have gd:=VZ og zg tk vk (Z:=Z) (X:=X) () ()
  have ol:=pO.len
  have nm:(n+1)*gc.length<=fc.length*gc.length:=qA2 _ ()
  have n1:(n+1)*gc.length=n*gc.length+gc.length:=qCV _ _
  have c1':=cnt (B.length+1) ()
  have c2':=cnt (B.length+(pJ gc gm (tt fc k) (vv fc k)).length+1) ()
  have ql:qs.length<=40000:=by rw[r.pl.len];exact qAL r.cn.len c1'
  refine#[_,qs,_,Q,_,B,slJ fc fm gc gm,Gz b Z,Sz X,K,2*K+1,h,fun t=>val gc gm (t-tt fc k)+vv fc k,rfl,Or.inr rfl,#[r,ne,pO,(Iy og).move _ _,by rw[lO];exact og.ne,fun x hx=>by rw[lO] at hx;rw[(N9 hx).2];exact V2 hx,gd,ux,(),(),by rw[b0,b0'];exact t0,fun _=>?_,by rw[qAa,BY];omega,()],fun qs' Q' r' ne' b0''=>?_]
  .rw[b0',show tt fc k-tt fc k=0 from ⋯]
   have h1:=mi.f (tt fc k) t0
   rw[CB of kl] at h1
   have h2:=GK (t:=0) rg qAi
   grind
  rw[b0'] at r'
  refine#[qs',Q',_,_,_,rfl,r',ne',b0''.trans b0,?_,?_]
  .rw[qBd,hk]
   exact mi.stepA of kl
  .rw[qAn,show(ND (pJ gc gm (tt fc k) (vv fc k))).length=(pJ gc gm (tt fc k) (vv fc k)).length from qAa _]
   omega
 clear r ne b0 mi
 clear qs Q
 rintro τ ⟨qs,Q,B,h,y5,rfl,r,ne,b0,mi,bl⟩
 rw[qAa] at mi bl
 rw[qBh (qAc _)] at mi
 replace bl:B.length<=fc.length+gc.length+fc.length*gc.length:=by
  have:=qA2 gc.length (show(stI fc fm).length<=fc.length from ())
  omega
 refine#[gc,gm,a,b,c,rfl,og,zg,(),(),?_]
 refine#[fun n τ=>∃(qs:List RP)(Q:Ps)(B:List Rat)(h:Rat->Rat)(y5:Option S),τ=[some (.d (crv fc fm)),some (.d (crv gc gm)),some (.l ((EB fc fm).map rpD)),some (.l ((EB gc gm).map rpD)),some (.l (qs.map rpD)),y5]/\FU B (slJ fc fm gc gm) (Gz b Z) (Sz X) K (2*K+1) h none qs Q/\0<Q.length/\bg Q 0=0/\JI fc fm gc gm (stI fc fm) ((stI gc gm).take n) h/\B.length<=fc.length+gc.length+fc.length*gc.length+n*fc.length,#[qs,Q,B,h,_,rfl,r,ne,b0,mi,()],?_,?_]
 .clear r ne b0 mi bl
  clear qs Q B h y5
  rintro n τ x hx ⟨qs,Q,B,h,y5,rfl,r,ne,b0,mi,bl⟩
  obtain⟨k,hk,rfl⟩:=Bq hx
  have nl:n<(stI gc gm).length:=(qAg.mp hk).1
  have kl:k<gc.length:=(Fx.mp (qAE hk)).1
  have tk:=zg.tm k kl
  have t0:=Dn og kl
  have vk:Sz (b+a+c+1) (vv gc k):=by
   have:=zg.va t0 tk
   rw[CB og kl] at this
   exact this
  have w1:Wq (a+b+c+3) (tt gc k).num ((tt gc k).den:Int) (tt gc k):=Wq.of (tk.mono ())
  have w2:Wq (a+b+c+3) (vv gc k).num ((vv gc k).den:Int) (vv gc k):=Wq.of (vk.mono ())
  refine#[_,EB fc fm,GJ fc fm,_,_,_,_,_,_,b+c,a,a+b+c+3,rfl,Or.inl rfl,Fy of zf,w1,w2,(),(),(),by rw[BY];omega,?_]
  have pO:PL K (2*K+1) ((EB fc fm).map (mvR (tt gc k).num ((tt gc k).den:Int) (vv gc k).num ((vv gc k).den:Int))) (pJ fc fm (tt gc k) (vv gc k)):=((Fy of zf).moved w1 w2).mono (k':=K) (m':=2*K+1) () ()
  have lO:=OV (fc:=fc) (fm:=fm) (w:=tt gc k) (v:=vv gc k)
  have b0':bg (pJ fc fm (tt gc k) (vv gc k)) 0=tt gc k:=by rw[(N9 of.ne).1,of.t0];grind
  have gd:=VZ of zf tk vk (Z:=Z) (X:=X) () ()
  have ol:=pO.len
  have nm:(n+1)*fc.length<=gc.length*fc.length:=qA2 _ ()
  have n1:(n+1)*fc.length=n*fc.length+fc.length:=qCV _ _
  have mc:=Nat.mul_comm gc.length fc.length
  have c1':=cnt (B.length+1) ()
  have c2':=cnt (B.length+(pJ fc fm (tt gc k) (vv gc k)).length+1) ()
  have ql:qs.length<=40000:=by rw[r.pl.len];exact qAL r.cn.len c1'
  refine#[_,qs,_,Q,_,B,slJ fc fm gc gm,Gz b Z,Sz X,K,2*K+1,h,fun t=>val fc fm (t-tt gc k)+vv gc k,rfl,Or.inr rfl,#[r,ne,pO,(Iy of).move _ _,by rw[lO];exact of.ne,fun x hx=>by rw[lO] at hx;rw[(N9 hx).2];exact Wf hx,gd,ux,(),(),by rw[b0,b0'];exact t0,fun _=>?_,by rw[qAa,BY];omega,()],fun qs' Q' r' ne' b0''=>?_]
  .rw[b0',show tt gc k-tt gc k=0 from ⋯]
   have h1:=mi.g (tt gc k) t0
   rw[CB og kl] at h1
   have h2:=GK (t:=0) rf qAi
   grind
  rw[b0'] at r'
  refine#[qs',Q',_,_,_,rfl,r',ne',b0''.trans b0,?_,?_]
  .rw[qBd,hk]
   exact mi.stepB og kl
  .rw[qAn,show(ND (pJ fc fm (tt gc k) (vv gc k))).length=(pJ fc fm (tt gc k) (vv gc k)).length from qAa _]
   omega
 clear r ne b0 mi bl
 clear qs Q B h y5
 rintro τ ⟨qs,Q,B,h,y5,rfl,r,ne,b0,mi,bl⟩
 rw[qAa] at mi bl
 rw[qBh (qAc _)] at mi
 have nm:=qA2 fc.length (show(stI gc gm).length<=gc.length from ())
 have mc:=Nat.mul_comm gc.length fc.length
 have c1':=cnt (B.length+1) ()
 have ql0:Q.length<=(B.length+1)*(slJ fc fm gc gm).length:=r.cn.len
 have ql:qs.length<=40000:=by rw[r.pl.len];exact qAL ql0 c1'
 obtain⟨o,m0,eM,iv,ls⟩:=QI rf rg r ne b0 mi
 have bev:∀i,i<Q.length->Sz 2000 (bg Q i)/\Sz 2000 (ev (ln Q i) (bg Q i)):=fun i hi=>by
  have g:=r.gd i hi
  exact#[g.2.mono (),((g.1.1.mul g.2).add g.1.2).mono ()]
 have zM:=(r.gd (Q.length-1) ()).1.1
 refine#[qs,Q,K,2*K+1,rfl,r.pl,by rw[r.pl.len];exact ne,(),(),bev,zM.mono (),o,m0,?_]
 have ki:=GD o m0
 have kv:=fun t=>ET (m:=(ln Q (Q.length-1)).1) o t
 have kl':=Jq (Jt Q) (ln Q (Q.length-1)).1 ((Jt Q).length-1)
 have kls:=ls.kept o
 rw[BJ] at ki kv kl' kls
 refine q _ _ ki eM (fun t t0=>?_) kls (by have:=r.pl.len;omega)
 rw[(kv t).1];exact iv t t0
variable (BA:Cal P w K mg base (CXU P w) 8 "joined_by_corners" ["f","g"] Dl)
theorem DO:Ad ["ones","others","told","place","one"] ["ones","others"] (Ab Hm):=scN
include Aw AG in
theorem Mg (F:Fun K "by_slope" "by_slope" Hm f fd):Az P w K mg base CX0 2 f fd ["ones","others"] (Ah K mg IL):=by
 refine fn3 F DO (fun ss R U h=>?_) (fun cdv A outer s H E ss R U hr h=>?_)
 .obtain⟨fc,fm,gc,gm,last,p,q,rfl,_⟩:=h;rfl
 obtain⟨fc,fm,gc,gm,last,p,q,rfl,⟨of,og,cf,cg,pl,ql,f1,f2,g1,g2⟩,lf,lg,zf,zg,R0⟩:=h
 refine#[_,(Aa (AH 2 DO (F9 L8))
  (Aa (AH 3 DO Ac)
  (Aa (OR (BP PassesOwn.never rfl (BL (pv 0)) (AR (i:=4) DO.nd rfl (Or.inl rfl)) (DP.out (Aa (G8 PassesOwn.never (PW3.pt (IX (BV HB (vN 3) (Co AG (vN 1))) (Fi (Bc (Aq hr Aw (a2 (AW (AW (vN 1) (vN 3)) Ac) (vK 4))))))) (Aa (DQ (Be (DR qAu qAs qAt AF (pv 2) (AL (PE3.out (AW (vN 1) (vN 3))) Bn))))
  (Ag (Lp (i:=3) DO.nd rfl (Or.inl rfl) Ac))))
  (Ag (DQ (Be (DR qAu qAs qAt AF (pv 2) (AL (PE3.out (vN 4)) Bn)))))))))
  (M7 2 (Bf (RJ RC (vN 2) (RY (vN 1) (Il (vN 3)) V1))))))),?_]
 have atg:∀j,j<q->atI ((List.range q).map (stD gc gm)) (j:Int)=some (stD gc gm j):=fun j hj=>by
  rw[CH.atI_nat (by rw[qAa,qAH];exact hj),qAe,qAK hj]
  rfl
 refine#[by show 0<=1000;decide,?_]
 refine#[fun i τ=>∃(j:Nat)(W:List (Nat×Nat))(L:List D)(y4:Option S),τ=[some (.d (.lst ((List.range p).map (stD fc fm)))),some (.d (.lst ((List.range q).map (stD gc gm)))),some (.l L),some (.d (.int (j:Int))),y4]/\j<=q/\H4 fc fm gc gm i j W/\F7 fc gc W L,#[0,[(0,0)],[],none,rfl,(),H4.start of og,F7.start],?_,?_]
 .rintro i τ x hx ⟨j,W,L,y4,rfl,jq,h,s⟩
  have hi:i<p:=by have:=(qAg.mp hx).1;rw[qAa,qAH] at this;exact this
  rw[qAe,qAK hi] at hx
  cases hx
  have fi:=f1 i hi
  refine#[fun mm τ=>∃(j:Nat)(W:List (Nat×Nat))(L:List D)(y4:Option S),τ=[some (.d (.lst ((List.range p).map (stD fc fm)))),some (.d (.lst ((List.range q).map (stD gc gm)))),some (.l L),some (.d (.int (j:Int))),y4]/\y4=some (.d (stD fc fm i))/\j<=q/\H4 fc fm gc gm i j W/\F7 fc gc W L/\mm=q-j,#[_,j,W,L,_,rfl,rfl,jq,h,s,rfl],?_]
  clear h s jq
  rintro mm τ ⟨j,W,L,y4,rfl,e4,jq,h,s,rfl⟩
  subst e4
  have wl:=h.wl
  have sl:=s.1
  have il:=h.il
  have jl:=h.jl
  have fin:(∀l,j<=l->l<gc.length->slp fc fm i<=slp gc gm l)->_:=fun hs=>h.fS s cf () hs
  refine Ca (fun c=>?_) (fun c=>?_)
  .have jq':j<q:=by rw[qAa,qAH] at c;omega
   refine atR (atg j jq') ?_
   refine#[_,_,_,_,rfl,zg j (),zf i (),∅,?_]
   refine Ca (fun c2=>?_) (fun c2=>?_)
   .refine atR (atg j jq') ?_
    obtain⟨h',s'⟩:=h.gS s cg () (fun l l1 l2=>by have:=cf.mono l1 l2;grind)
    exact#[(),q-(j+1),(),j+1,_,_,_,rfl,rfl,(),h',s',rfl]
   .obtain⟨h',s'⟩:=fin (fun l l1 l2=>by have:=cg.mono l1 l2;grind)
    exact#[(),j,_,_,_,rfl,jq,h',s']
  .have jq':j=q:=by rw[qAa,qAH] at c;omega
   obtain⟨h',s'⟩:=fin (fun l l1 l2=>by have:=g2 l () l2;grind)
   exact#[(),j,_,_,_,rfl,jq,h',s']
 rintro τ ⟨j,W,L,y4,rfl,jq,h,s⟩
 rw[qAa,qAH] at h
 obtain⟨W',h',s'⟩:=Nl cg ql g1 f2 (q-j) j W L () h s
 have rr:F0 ((List.range q).map (stD gc gm)) (some (j:Int)) none=((List.range q).drop j).map (stD gc gm):=by
  rw[SN (f:=stD gc gm) (h:=j) (by rw[qAH];omega)]
 show WE (.lst L) (.lst (F0 ((List.range q).map (stD gc gm)) (some (j:Int)) none)) (fun d=>R (.d d))
 rw[rr]
 have wl:=h.wl
 have sl:=s.1
 refine#[by rw[qAa,qAZ,qAH];omega,?_]
 exact R0 W' _ h' s'
variable (FH:Cal P w K mg base (CXU P w) 2 "by_slope" ["ones","others"] IL)
theorem Br:Ad ["f","last","told","slope","one","other"] ["f","last"] (Ab CI):=scN
include AS Aw Ao Mk in
theorem G2 (F:Fun K "stretches_under" "stretches_under" CI f fd):Az P w K mg base CX0 6 f fd ["f","last"] (Ah K mg Ee):=by
 refine fn3 F Br (fun ss R U h=>?_) (fun cdv A outer s H E ss R U hr h=>?_)
 .obtain⟨cs,m,last,p,n,rfl,_⟩:=h;rfl
 obtain⟨cs,m,last,p,n,rfl,n0,up,hl,zc,hn,zs,zl,pl,h1,h2,q⟩:=h
 refine#[_,(Aa (AH 2 Br (F9 L8))
  (Aa (TJ (BP PassesOwn.never rfl (T2 rfl Mk (AL (PE3.out (Aq hr Ao (a2 (vK 0) (vK 0)))) (AL (PE3.out (vK 0)) (AL (PE3.out (RY (vK 0) (Il Ac) V1)) Bn)))) (Lm rfl (Cz (AR (i:=3) Br.nd rfl (Or.inl rfl)) (Cz (AR (i:=4) Br.nd rfl (Or.inl rfl)) (Cz (AR (i:=5) Br.nd rfl (Or.inl rfl)) IM)))) (DP.out (Ag (BE (Bc (Aq hr Aw (a2 (vN 3) (vN 1)))) (Ag (DQ (Be (DR qAu qAs qAt AF (pv 2) (AL (PE3.out (Bs (AV (vN 3) (a2 (Aq hr AS (a2 (vK 5) (vK 4))) (Aq hr AS (a2 (vK 5) (vK 4))))))) Bn))))) Am)))))
  (Ag (C6 (pv 2))))),?_]
 refine#[by show 0<=1000;decide,?_]
 refine#[cs,m,rfl,n0,(),zc.mono (),up,?_]
 refine#[_,rfl,?_]
 refine#[_,rfl,?_]
 have cut1:F0 (cs.map cd) (some 1) none=(cs.drop 1).map cd:=SN (f:=cd) (h:=1) ()
 refine#[fun z=>?_,_,rfl,?_]
 .have z1:min 1 (cs.map cd).length=0:=(HT.sIx_nat _ 0 1).symm.trans z.1
  rw[qAa] at z1
  omega
 refine#[fun i τ=>∃(y3 y4 y5:Option S),τ=[some (.d (crv cs m)),some (.d (qd last)),some (.l ((List.range (min i p)).map (stD cs m))),y3,y4,y5]/\i<=1000,#[_,_,_,rfl,()],?_,?_]
 .rintro i τ x y z hx hy hz ⟨y3,y4,y5,rfl,il⟩
  obtain⟨hi,rfl⟩:=Pw hx
  obtain⟨_,rfl⟩:=Jc hy
  have hz:((F0 (cs.map cd) (some 1) none))[i]? = some z:=hz
  rw[cut1] at hz
  obtain⟨c',hc,rfl⟩:=Bq hz
  rw[qBV,qBU 1 i] at hc
  have hi':i+1<cs.length:=(qAg.mp hc).1
  have ec:c'=(tt cs (i+1),vv cs (i+1)):=by
   rw[qAb hi'] at hc
   have:=qAl hc
   rw[(FW hi').1,(FW hi').2,this]
  subst ec
  refine#[slp cs m i,last,_,_,rfl,zs i hi,zl,∅,?_]
  refine Ca (fun c=>?_) (fun c=>?_)
  .have ip:i<p:=by
    refine Nat.lt_of_not_le fun z=>?_
    have:=h2 i z hi
    grind
   refine#[_,_,_,_,rfl,(zc _ hi').1,(zc _ hi).1,(),?_]
   refine#[_,_,_,_,rfl,(zc _ hi').2,(zc _ hi).2,(),?_]
   refine#[by show 3<=1000;decide,?_]
   refine#[by rw[qAa,qAH];omega,some (.d (qd (slp cs m i))),some (.d (cd (tt cs i,vv cs i))),some (.d (cd (tt cs (i+1),vv cs (i+1)))),?_,()]
   rw[show min (i+1) p=min i p+1 from (),List.range_succ,qAC,show min i p=i from ()]
   rfl
  .have ip:p<=i:=qBz fun z=>c (h1 i z)
   refine#[some (.d (qd (slp cs m i))),some (.d (cd (tt cs i,vv cs i))),some (.d (cd (tt cs (i+1),vv cs (i+1)))),?_,()]
   rw[show min (i+1) p=min i p from ()]
   rfl
 rintro τ ⟨y3,y4,y5,rfl,_⟩
 have e1:(F0 (cs.map cd) (some 1) none).length=cs.length-1:=by rw[cut1,qAa,qAZ]
 have e2:min (min ((JH cs m).map qd).length (min (cs.map cd).length (F0 (cs.map cd) (some 1) none).length)) p=p:=by
  rw[e1,qAa,qAa,EJ];omega
 rw[e2]
 exact q
variable (Bu:Cal P w K mg base (CXU P w) 6 "stretches_under" ["f","last"] Ee)
theorem Bv:Ad ["f","g","last","corners","stretch","ahead"] ["f","g"] (Ab Dg):=scN
include DK DZ gc_NOUGHT Cq FH Bu in
theorem Hl (F:Fun K "flattest_first" "flattest_first" Dg f fd):Az P w K mg base CX0 7 f fd ["f","g"] (Ah K mg Ew):=by
 refine fn3 F Bv (fun ss R U h=>?_) (fun cdv A outer s H E ss R U hr h=>?_)
 .obtain⟨fc,fm,gc,gm,a,b,c,rfl,_⟩:=h;rfl
 obtain⟨fc,fm,gc,gm,a,b,c,rfl,⟨rf,rg,cf,cg,zf,zg,lf,lg,hz,hn⟩,q0⟩:=h
 refine#[_,(Aa (AH 2 Bv (Aq hr DZ (a2 (vK 0) (vK 1))))
  (Aa (AH 3 Bv (F9 (a1 (Bs (a2 (UP rfl gc_NOUGHT) (Aq hr DK (a2 (AW (AW (vK 0) Ac) Ac) (AW (AW (vK 1) Ac) Ac))))))))
  (Aa (GQ (BP PassesOwn.never rfl (BL (PE3.out (Aq hr FH (a2 (Aq hr Bu (a2 (vN 0) (vN 2))) (Aq hr Bu (a2 (vN 1) (vN 2))))))) (AR (i:=4) Bv.nd rfl (Or.inl rfl)) (DP.out (Aa (AH 5 Bv (AW (vN 3) (Kt Ac)))
  (Ag (DQ (Be (DR qAu qAs qAt AF (pv 3) (AL (PE3.out (Bs (a2 (Aq hr DK (a2 (vK 5) (vK 4))) (Aq hr DK (a2 (vK 5) (vK 4)))))) Bn)))))))))
  (Bf (Aq hr Cq (a2 (vN 3) (vN 2))))))),?_]
 have of:=rf.o
 have og:=rg.o
 have f0:=of.ne
 have g0:=og.ne
 have sf:∀k,k<fc.length->Sz b (slp fc fm k):=fun k hk=>(lf.ln of k hk).1
 have sg:∀k,k<gc.length->Sz b (slp gc gm k):=fun k hk=>(lg.ln og k hk).1
 have zfm:=lf.m of
 have zgm:=lg.m og
 refine#[fm,gm,b,b,rfl,zfm,zgm,(),?_]
 generalize eL:(if gm<fm then gm else fm)=last at q0 ⊢
 have zl:Sz b last:=by rw[<-eL];split<;>assumption
 have l1:last<=fm:=by rw[<-eL];split<;>grind
 have l2:last<=gm:=by rw[<-eL];split<;>grind
 have l3:last=fm\/last=gm:=by rw[<-eL];split<;>simp
 have m0:0<=last:=by
  have:=rf.m0
  have:=rg.m0
  grind
 obtain⟨p,pl,p1,p2⟩:=Qi of cf l1
 obtain⟨q,ql,q1,q2⟩:=Qi og cg l2
 refine atR (BM (cs:=fc) (i:=0) 0 rfl f0) ?_
 refine atR (BM (cs:=gc) (i:=0) 0 rfl g0) ?_
 refine#[_,_,_,_,rfl,(zf 0 f0).2,(zg 0 g0).2,(),?_]
 refine#[by show 2<=1000;decide,by show 1<=1000;decide,?_]
 refine#[fc,fm,last,p,a,rfl,f0,of.up,(),zf,(),fun k hk=>(sf k hk).mono (),zl.mono (),pl,p1,p2,?_]
 refine#[gc,gm,last,q,a,rfl,g0,og.up,(),zg,(),fun k hk=>(sg k hk).mono (),zl.mono (),ql,q1,q2,?_]
 refine#[fc,fm,gc,gm,last,p,q,rfl,#[of,og,cf,cg,pl,ql,p1,p2,q1,q2],(),(),fun k hk=>(sf k hk).mono (),fun k hk=>(sg k hk).mono (),fun W L h s=>?_]
 have y:RI fc fm gc gm last W:=h.fin p1 p2 q1 q2
 have wl:=h.wl
 have sl:=s.1
 have ml:=EH (fc:=fc) (gc:=gc) (W:=W)
 have O:=y.ord of og
 have ls:=Tx y of og zf zg sf sg zl h.wb
 have zk:=ls.szk O (n:=2000) () ()
 have at0:∀n,n<W.length->(mcs fc gc W)[n]? = some (tt (mcs fc gc W) n,vv (mcs fc gc W) n):=fun n hn=>by
  have hn':n<(mcs fc gc W).length:=()
  rw[(FW hn').1,(FW hn').2,qAb hn']
 have e0:(mcs fc gc W).take 1=[(0,vv fc 0+vv gc 0)]:=by
  have h0:=at0 0 ()
  have a0:=BK (fc:=fc) (gc:=gc) (W:=W) (n:=0) ()
  rw[y.z0.1,y.z0.2,of.t0,og.t0] at a0
  rw[a0.1,a0.2] at h0
  rw[show(1:Nat)=0+1 from rfl,qBd,h0,List.take_zero]
  show [((0:Rat)+0,_)]=_
  rw[show(0:Rat)+0=0 from ⋯]
 refine#[fun n τ=>∃(y4 y5:Option S),τ=[some (.d (crv fc fm)),some (.d (crv gc gm)),some (.d (qd last)),some (.l (((mcs fc gc W).take (n+1)).map cd)),y4,y5],#[none,none,by rw[e0];rfl],?_,?_]
 .rintro n τ x hx ⟨y4,y5,rfl⟩
  have hn:n<L.length:=(qAg.mp hx).1
  obtain⟨s',e⟩:=s.2 n ()
  rw[e] at hx
  cases hx
  have la:atI (((mcs fc gc W).take (n+1)).map cd) (-1)=some (cd (tt (mcs fc gc W) n,vv (mcs fc gc W) n)):=by
   refine H0 ?_
   rw[qAQ,show min (n+1) (mcs fc gc W).length-1=n from (),qBy (),at0 n ()]
  refine atR la ?_
  have k1:=zk.cs n ()
  have k2:=zk.cs (n+1) ()
  have d1:=k2.1.sub k1.1
  have d2:=k2.2.sub k1.2
  refine#[_,_,_,_,rfl,k1.1,d1,(),?_]
  refine#[_,_,_,_,rfl,k1.2,d2,(),?_]
  refine#[by show 2<=1000;decide,by rw[qAa,qAQ];omega,some (.d (.tup [s',qd (tt (mcs fc gc W) (n+1)-tt (mcs fc gc W) n),qd (vv (mcs fc gc W) (n+1)-vv (mcs fc gc W) n)])),some (.d (cd (tt (mcs fc gc W) n,vv (mcs fc gc W) n))),?_]
  have eT:((mcs fc gc W).take (n+1+1)).map cd=((mcs fc gc W).take (n+1)).map cd++[cd (tt (mcs fc gc W) (n+1),vv (mcs fc gc W) (n+1))]:=by
   rw[qBd (i:=n+1),at0 (n+1) (),qAC]
   rfl
  have s1:tt (mcs fc gc W) n+(tt (mcs fc gc W) (n+1)-tt (mcs fc gc W) n)=tt (mcs fc gc W) (n+1):=⋯
  have s2:vv (mcs fc gc W) n+(vv (mcs fc gc W) (n+1)-vv (mcs fc gc W) n)=vv (mcs fc gc W) (n+1):=⋯
  dsimp only
  rw[s1,s2,eT]
  rfl
 rintro τ ⟨y4,y5,rfl⟩
 rw[qBh ()]
 refine#[_,mcs fc gc W,last,rfl,Or.inl rfl,#[(),zk.cs,zk.m],fun _=>?_,fun z=>absurd #[O,m0] z]
 have kl:=Jq (mcs fc gc W) last ((mcs fc gc W).length-1)
 refine q0 _ _ (GD O m0) rfl (fun t t0=>?_) (ls.kept O) ()
 rw[(ET O t).1]
 exact y.val of og cf cg l3 t0
variable (B8:Cal P w K mg base (CXU P w) 7 "flattest_first" ["f","g"] Ew)
theorem OE:Ad ["f","g"] ["f","g"] (Ab KY):=scN
include Bw Jk BA B8 in
theorem PM (F:Fun K "joined" "joined" KY f fd):Az P w K mg base CX0 11 f fd ["f","g"] (Ah K mg Ls):=by
 refine fn3 F OE (fun ss R U h=>?_) (fun cdv A outer s H E ss R U hr h=>?_)
 .obtain⟨fc,fm,gc,gm,a,b,c,rfl,_⟩:=h;rfl
 obtain⟨fc,fm,gc,gm,a,b,c,rfl,⟨rf,rg,zf,zg,hz,hn,sf,sg,hac,hca,hz2,hl⟩,q⟩:=h
 refine#[_,(Gh (BE (PW3.pt (IX (w_not (Sw (Aq hr Bw (a1 (vN 0))))) (Fi (w_not (Sw (Aq hr Bw (a1 (vN 1)))))))) (Bf (Aq hr Jk (a2 (Aq hr Jk (a2 (vN 0) (vN 1))) (Aq hr B8 (a2 (vN 0) (vN 1)))))) Am)
  (Bf (Aq hr BA (a2 (vN 0) (vN 1))))),?_]
 have of:=rf.o
 have og:=rg.o
 refine#[?_,?_]
 .refine#[fc,fm,a,b,c,rfl,of,zf,(),(),?_]
  refine#[_,rfl,?_]
  cases e1:flI fc fm with
  |cons=>rfl
  |nil =>
  refine#[gc,gm,a,b,c,rfl,og,zg,(),(),?_]
  refine#[_,rfl,?_]
  cases e2:flI gc gm with
  |cons=>rfl
  |nil =>
  have cf:=Se e1
  have cg:=Se e2
  refine#[fc,fm,gc,gm,8*a+6*b+8,b,4*a+2*b+3,rfl,rf,rg,zf.mono () (qAc _) hca,zg.mono () (qAc _) hca,(),(),(),fun C1 M1 k1 e1 z1 l1 v1=>?_]
  refine#[fc,fm,gc,gm,a,b,c,rfl,#[rf,rg,cf,cg,sf,sg,zf,zg,hz2,hl],fun C2 M2 k2 e2 v2 z2 l2=>?_]
  refine#[C1,M1,C2,M2,8*a+6*b+8,b,4*a+2*b+3,rfl,#[#[k1.ne,k1.t0,k1.v0,k1.up,k1.vu],k1.m0],#[#[k2.ne,k2.t0,k2.v0,k2.up,k2.vu],k2.m0],z1,z2.mono () (qAc _) (qAc _),(),(),(),fun C M k3 e3 z3 l3 v3=>?_]
  refine q C M k3 ?_ (fun t t0=>?_) (z3.mono () (qAc _) ()) ()
  .rw[e3,e1,e2]
   unfold mn
   split<;>split<;>grind
  .rw[v3 t t0,v1 t t0]
   obtain⟨w1,s,s0,s1,w2⟩:=v2 t t0
   have m1:∀x y:Rat,mn x y<=x/\mn x y<=y/\(mn x y=x\/mn x y=y):=fun x y=>by
    unfold mn
    split<;>grind
   have a1:=m1 (val fc fm t) (val gc gm t)
   have a2:=m1 (mn (val fc fm t) (val gc gm t)) (val C2 M2 t)
   refine#[#[⋯,⋯,fun r r0 r1=>qAy a2.2.1 (w1 r r0 r1)],?_]
   rcases a2.2.2 with e|e
   .rcases a1.2.2 with e'|e'
    .exact .inl (e.trans e')
    .exact .inr (.inl (e.trans e'))
   .exact .inr (.inr #[s,s0,s1,e.trans w2])
 exact#[fc,fm,gc,gm,a,b,c,rfl,#[rf,rg,zf,zg,hz,hn],q]
variable (HY:Cal P w K mg base (CXU P w) 11 "joined" ["f","g"] Ls)
theorem QP:Ad ["f","g","parted"] ["f","g","parted"] (Ab Ml):=scN
include DK A9 in
theorem Ru (F:Fun K "given" "given" Ml f fd):Az P w K mg base (CXU P w) 8 f fd ["f","g","parted"] (Ah K mg MR):=by
 refine fnU F QP (fun ss R U h=>?_) (fun cdv A outer s H E ss R U hr h xo=>?_)
 .obtain⟨fc,fm,gc,gm,t,p,a,b,c,n,rfl,_⟩:=h;rfl
 obtain⟨fc,fm,gc,gm,t,p,a,b,c,n,rfl,⟨of,og,zf,zg,hs,lf,lg,hn⟩,q,qu⟩:=h
 refine#[_,(Aa (BE (BV Mc (vK 2) FR) (Bf (Iz xo hr A9 (a2 (vN 0) (vK 2)))) Am)
  (Aa (BE (BV Mc (vK 2) FR) (Bf (Iz xo hr A9 (a2 (vN 1) (vK 2)))) Am)
  (Bf (Iz xo hr DK (a2 (Iz xo hr A9 (a2 (vN 0) (vK 2))) (Iz xo hr A9 (a2 (vN 1) (vK 2)))))))),?_]
 by_cases hp:Prt n t p
 .have q:=q hp
  clear qu
  cases hp with
  |a h h0 =>
   refine#[fc,fm,t,1800,rfl,of.ne,of.t0,of.up,∅,zf.szk of () (),h.mono (),fun _=>?_,fun z=>absurd h0 z]
   exact q ((zf.va h0 h).mono ())
  |b h h0 =>
   refine#[gc,gm,t,1800,rfl,og.ne,og.t0,og.up,∅,zg.szk og () (),h.mono (),fun _=>?_,fun z=>absurd h0 z]
   exact q ((zg.va h0 h).mono ())
  |@c s r h1 h2 s0 r0 e =>
   refine#[fc,fm,s,1800,rfl,of.ne,of.t0,of.up,∅,zf.szk of () (),h1.mono (),fun _=>?_,fun z=>absurd s0 z]
   refine#[gc,gm,r,1800,rfl,og.ne,og.t0,og.up,∅,zg.szk og () (),h2.mono (),fun _=>?_,fun z=>absurd r0 z]
   have k1:=zf.va s0 h1
   have k2:=zg.va r0 h2
   exact#[_,_,_,_,rfl,k1,k2,(),q (k1.add k2)]
 obtain⟨rfl,tl,st,u⟩:=qu hp
 exact#[fc,fm,t,1800,rfl,of.ne,of.t0,of.up,∅,zf.szk of () (),st.mono (),fun z=>absurd z ⋯,fun _=>u]
variable (IP:Cal P w K mg base (CXU P w) 8 "given" ["f","g","parted"] MR)
theorem BR:Ad ["f","g","t","told","corner"] ["f","g","t"] (Ab Dj):=scN
include AS Aw AM in
theorem Hg (F:Fun K "other_partings" "other_partings" Dj f fd):Az P w K mg base CX0 7 f fd ["f","g","t"] (Ah K mg EA):=by
 refine fn3 F BR (fun ss R U h=>?_) (fun cdv A outer s H E ss R U hr h=>?_)
 .obtain⟨fc,fm,gc,gm,t,a,b,c,n,rfl,_⟩:=h;rfl
 obtain⟨fc,fm,gc,gm,t,a,b,c,n,rfl,⟨of,og,zf,zg,hs,lf,lg,hn⟩,t0,zt,q⟩:=h
 refine#[_,(Aa (AH 3 BR (F9 (a1 (Bs (a2 FR (vN 2))))))
  (Aa (GQ (BP PassesOwn.never rfl (BL (PE3.out (Aq hr AM (a1 (vN 0))))) (AR (i:=4) BR.nd rfl (Or.inl rfl)) (DP.out (Ag (BE (w_not (Bc (Aq hr Aw (a2 (vN 2) (vK 4))))) (Ag (DQ (Be (DR qAu qAs qAt AF (pv 3) (AL (PE3.out (Bs (a2 (vK 4) (Aq hr AS (a2 (vN 2) (vK 4)))))) Bn))))) Am)))))
  (Aa (GQ (BP PassesOwn.never rfl (BL (PE3.out (Aq hr AM (a1 (vN 1))))) (AR (i:=4) BR.nd rfl (Or.inl rfl)) (DP.out (Ag (BE (w_not (Bc (Aq hr Aw (a2 (vN 2) (vK 4))))) (Ag (DQ (Be (DR qAu qAs qAt AF (pv 3) (AL (PE3.out (Bs (a2 (Aq hr AS (a2 (vN 2) (vK 4))) (vK 4)))) Bn))))) Am)))))
  (Ag (C6 (pv 3)))))),?_]
 have st1:=Kh (cs:=fc) (m:=fm) of.ne
 have st2:=Kh (cs:=gc) (m:=gm) og.ne
 refine#[by show 2<=1000;decide,by show 1<=1000;decide,?_]
 refine#[fc,fm,a,b,c,rfl,of,zf,hs,lf,?_]
 refine#[fun i τ=>∃(L:List (Option Rat×Option Rat))(y4:Option S),τ=[some (.d (crv fc fm)),some (.d (crv gc gm)),some (.d (qd t)),some (.l (L.map ptD)),y4]/\L.length<=1+i/\(∀p∈L,Prt (a+n+1) t p)/\(none,some t)∈L/\∀x y,x<i->(stI fc fm)[x]? = some y->tt fc y<=t->(some (tt fc y),some (t-tt fc y))∈L,#[[(none,some t)],none,rfl,qAc _,fun p hp=>by rw[qAF.mp hp];exact .b (zt.mono ()) t0,by simp,fun x y hx=>absurd hx (qA9 x)],?_,?_]
 .rintro i τ x hx ⟨L,y4,rfl,ll,lp,hb,lm⟩
  obtain⟨j,hk,rfl⟩:=Bq hx
  have nl:i<(stI fc fm).length:=(qAg.mp hk).1
  have kl:j<fc.length:=(Fx.mp (qAE hk)).1
  have tk:=zf.tm j kl
  have k0:=Dn of kl
  have ext:∀{M:List (Option Rat×Option Rat)},(∀p∈L,p∈M)->(tt fc j<=t->(some (tt fc j),some (t-tt fc j))∈M)->∀x y,x<i+1->(stI fc fm)[x]? = some y->tt fc y<=t->(some (tt fc y),some (t-tt fc y))∈M:=fun {M} e1 e2 x y hx hy ht=>by
   by_cases z:x<i
   .exact e1 _ (lm x y z hy ht)
   .have:x=i:=()
    subst this
    rw[hk] at hy
    cases hy
    exact e2 ht
  refine#[_,_,_,_,rfl,zt,tk,(),?_]
  refine Nt (fun c=>?_) (fun c=>?_)
  .have ht:tt fc j<=t:=⋯
   have zr:=zt.sub tk
   refine#[_,_,_,_,rfl,zt,tk,(),?_]
   refine#[by show 2<=1000;decide,by rw[qAa];omega,L++[(some (tt fc j),some (t-tt fc j))],_,by rw[qAC];rfl,by rw[qAn];show L.length+1<=_;omega,fun p hp=>?_,qAJ _ hb,ext (fun p hp=>qAJ _ hp) (fun _=>by simp)]
   rcases qAA.mp hp with z|z
   .exact lp p z
   .rw[qAF.mp z]
    exact .c (tk.mono ()) (zr.mono ()) k0 ⋯ ⋯
  .exact#[L,_,rfl,(),lp,hb,ext (fun p hp=>hp) (fun z=>absurd z ⋯)]
 rintro τ ⟨L,y4,rfl,ll,lp,hb,lm⟩
 rw[qAa] at ll lm
 have lk:∀k∈stI fc fm,tt fc k<=t->(some (tt fc k),some (t-tt fc k))∈L:=fun k hk ht=>by
  obtain⟨x,hx,e⟩:=qBm.mp hk
  exact lm x k hx (by rw[qAb hx,e]) ht
 clear lm
 refine#[gc,gm,a,b,c,rfl,og,zg,hs,lg,?_]
 refine#[fun i τ=>∃(L:List (Option Rat×Option Rat))(y4:Option S),τ=[some (.d (crv fc fm)),some (.d (crv gc gm)),some (.d (qd t)),some (.l (L.map ptD)),y4]/\L.length<=5001+i/\(∀p∈L,Prt (a+n+1) t p)/\(none,some t)∈L/\(∀k∈stI fc fm,tt fc k<=t->(some (tt fc k),some (t-tt fc k))∈L)/\∀x y,x<i->(stI gc gm)[x]? = some y->tt gc y<=t->(some (t-tt gc y),some (tt gc y))∈L,#[L,_,rfl,(),lp,hb,lk,fun x y hx=>absurd hx (qA9 x)],?_,?_]
 .clear ll lp hb lk
  clear L y4
  rintro i τ x hx ⟨L,y4,rfl,ll,lp,hb,lk,lm⟩
  obtain⟨j,hk,rfl⟩:=Bq hx
  have nl:i<(stI gc gm).length:=(qAg.mp hk).1
  have kl:j<gc.length:=(Fx.mp (qAE hk)).1
  have tk:=zg.tm j kl
  have k0:=Dn og kl
  have ext:∀{M:List (Option Rat×Option Rat)},(∀p∈L,p∈M)->(tt gc j<=t->(some (t-tt gc j),some (tt gc j))∈M)->∀x y,x<i+1->(stI gc gm)[x]? = some y->tt gc y<=t->(some (t-tt gc y),some (tt gc y))∈M:=fun {M} e1 e2 x y hx hy ht=>by
   by_cases z:x<i
   .exact e1 _ (lm x y z hy ht)
   .have:x=i:=()
    subst this
    rw[hk] at hy
    cases hy
    exact e2 ht
  refine#[_,_,_,_,rfl,zt,tk,(),?_]
  refine Nt (fun c=>?_) (fun c=>?_)
  .have ht:tt gc j<=t:=⋯
   have zr:=zt.sub tk
   refine#[_,_,_,_,rfl,zt,tk,(),?_]
   refine#[by show 2<=1000;decide,by rw[qAa];omega,L++[(some (t-tt gc j),some (tt gc j))],_,by rw[qAC];rfl,by rw[qAn];show L.length+1<=_;omega,fun p hp=>?_,qAJ _ hb,fun k hk ht=>qAJ _ (lk k hk ht),ext (fun p hp=>qAJ _ hp) (fun _=>by simp)]
   rcases qAA.mp hp with z|z
   .exact lp p z
   .rw[qAF.mp z]
    exact .c (zr.mono ()) (tk.mono ()) ⋯ k0 ⋯
  .exact#[L,_,rfl,(),lp,hb,lk,ext (fun p hp=>hp) (fun z=>absurd z ⋯)]
 clear ll lp hb lk
 clear L y4
 rintro τ ⟨L,y4,rfl,ll,lp,hb,lk,lm⟩
 rw[qAa] at ll lm
 refine q L () lp hb lk (fun k hk ht=>?_)
 obtain⟨x,hx,e⟩:=qBm.mp hk
 exact lm x k hx (by rw[qAb hx,e]) ht
variable (Cb:Cal P w K mg base (CXU P w) 7 "other_partings" ["f","g","t"] EA)
theorem CN:Ad ["f","g","t","best","worth","parted","value"] ["f","g","t"] (Ab IC):=scN
include Aw IP Cb in
theorem NR (F:Fun K "parting" "parting" IC f fd):Az P w K mg base (CXU P w) 9 f fd ["f","g","t"] (Ah K mg JV):=by
 refine fnU F CN (fun ss R U h=>?_) (fun cdv A outer s H E ss R U hr h xo=>?_)
 .obtain⟨fc,fm,gc,gm,t,a,b,c,n,rfl,_⟩:=h;rfl
 obtain⟨fc,fm,gc,gm,t,a,b,c,n,rfl,⟨of,og,zf,zg,hs,lf,lg,hn⟩,zt,q,qu⟩:=h
 refine#[_,(Aa (AH 3 CN (Bs (a2 (vN 2) FR)))
  (Aa (AH 4 CN (Iz xo hr IP (AV (vN 0) (a2 (vN 1) (vN 3)))))
  (Aa (GQ (BP PassesOwn.leaving rfl (BL (PE3.out (Iz xo hr Cb (AV (vN 0) (a2 (vN 1) (vN 2)))))) (AR (i:=5) CN.nd rfl (Or.inl rfl)) (DP.out (Aa (AH 6 CN (Iz xo hr IP (AV (vN 0) (a2 (vN 1) (vN 5)))))
  (Ag (BE (Bc (Iz xo hr Aw (a2 (vN 6) (vN 4)))) (Aa (AH 3 CN (vN 5))
  (Ag (AH 4 CN (vN 6)))) Am))))))
  (Ag (C6 (pv 3)))))),?_]
 refine#[by show 2<=1000;decide,?_]
 refine#[fc,fm,gc,gm,t,(some t,none),a,b,c,a+n+1,rfl,#[of,og,zf,zg,hs,lf,lg,hn],fun h zv=>?_,fun z=>?_]
 rotate_left
 .by_cases t0:0<=t
  .exact absurd (Prt.a (zt.mono ()) t0) z
  .exact#[rfl,⋯,zt.mono (),qu t0]
 have t0:0<=t:=by cases h;assumption
 have q:=q t0
 clear qu
 refine#[fc,fm,gc,gm,t,a,b,c,n,rfl,#[of,og,zf,zg,hs,lf,lg,()],t0,zt,fun L ll lp hb lk lk2=>?_]
 refine#[fun i τ=>∃(p:Option Rat×Option Rat)(y5 y6:Option S),τ=[some (.d (crv fc fm)),some (.d (crv gc gm)),some (.d (qd t)),some (.d (ptD p)),some (.d (qd (gv fc fm gc gm p))),y5,y6]/\Prt (a+n+1) t p/\Sz (b+(a+n+1)+c+1+(b+(a+n+1)+c+1)+1) (gv fc fm gc gm p)/\gv fc fm gc gm p<=val fc fm t/\∀x r,x<i->L[x]? = some r->gv fc fm gc gm p<=gv fc fm gc gm r,#[(some t,none),none,none,rfl,h,zv,qAi,fun x r hx=>absurd hx (qA9 x)],?_,?_]
 .rintro i τ x hx ⟨p,y5,y6,rfl,pp,zp,pf,pm⟩
  obtain⟨r,hr,rfl⟩:=Bq hx
  have pr:=lp r (qAE hr)
  refine#[fc,fm,gc,gm,t,r,a,b,c,a+n+1,rfl,#[of,og,zf,zg,hs,lf,lg,hn],fun _ zr=>?_,fun z=>absurd pr z]
  refine#[_,_,_,_,rfl,zr,zp,(),?_]
  have ext:∀{u:Rat},u<=gv fc fm gc gm p->u<=gv fc fm gc gm r->∀x s,x<i+1->L[x]? = some s->u<=gv fc fm gc gm s:=fun {u} e1 e2 x s hx hs=>by
   by_cases z:x<i
   .exact qAy e1 (pm x s z hs)
   .have:x=i:=()
    subst this
    rw[hr] at hs
    cases hs
    exact e2
  refine Ca (fun c=>?_) (fun c=>?_)
  .exact#[r,_,_,rfl,pr,zr,⋯,ext ⋯ qAi]
  .exact#[p,_,_,rfl,pp,zp,pf,ext qAi ⋯]
 rintro τ ⟨p,y5,y6,rfl,pp,zp,pf,pm⟩
 rw[qAa] at pm
 have all:∀r∈L,gv fc fm gc gm p<=gv fc fm gc gm r:=fun r hr=>by
  obtain⟨x,hx,e⟩:=qBm.mp hr
  exact pm x r hx (by rw[qAb hx,e])
 refine q p pp (Sq of og t0 pf (all _ hb) (fun k k0 kl z ht=>?_) (fun k k0 kl z ht=>?_) ?_)
 .have:=all _ (lk k (Fx.mpr #[kl,k0,z]) ht)
  have e:gv fc fm gc gm (some (tt fc k),some (t-tt fc k))=val fc fm (tt fc k)+val gc gm (t-tt fc k):=rfl
  rw[e,CB of kl] at this
  exact this
 .have:=all _ (lk2 k (Fx.mpr #[kl,k0,z]) ht)
  have e:gv fc fm gc gm (some (t-tt gc k),some (tt gc k))=val fc fm (t-tt gc k)+val gc gm (tt gc k):=rfl
  rw[e,CB og kl] at this
  grind
 .cases pp with
  |a=>exact .inl rfl
  |b=>exact .inr (.inl rfl)
  |@c s r h1 h2 s0 r0 e=>exact .inr (.inr #[s,s0,⋯,by rw[show t-s=r from ⋯];rfl])
variable (DB:Cal P w K mg base (CXU P w) 9 "parting" ["f","g","t"] JV)
theorem Jh:Ad ["_law_script","_law_k"] ["_law_script","_law_k"] (Ab Ei):=scN
include AG in
theorem IZ (F:Fun K "_law_cell_at" "_law_cell_at" Ei f fd):Az P w K mg base CX0 1 f fd ["_law_script","_law_k"] (Ah K mg Fp):=by
 refine fn3 F Jh (fun ss R U h=>?_) (fun cdv A outer s H E ss R U hr h=>?_)
 .obtain⟨ns,k,rfl,_⟩:=h;rfl
 obtain⟨ns,k,rfl,h0,q⟩:=h
 refine#[_,(Aa (BE (BV HB (vN 1) (Co AG (vN 0))) (Bf (AW (vN 0) (vN 1))) Am)
  (Bf Ac)),?_]
 refine Ca (fun c=>?_) (fun c=>?_)
 .rw[qAa] at c
  show(match atI (ns.map D.int) k with|some d=>R (.d d)|none=>False)
  rw[MV h0 c]
  exact q
 .rw[qAa] at c
  rw[QF h0 c] at q
  exact q
variable (As:Cal P w K mg base (CXU P w) 1 "_law_cell_at" ["_law_script","_law_k"] Fp)
theorem BG:Ad ["_law_top","_law_bottom","_law_one","_law_other","_law_rest"] ["_law_top","_law_bottom"] (Ab ER):=scN
include K6 in
theorem JD (F:Fun K "_law_lowest" "_law_lowest" ER f fd):Az P w K mg base CX0 1 f fd ["_law_top","_law_bottom"] (Ah K mg F5):=by
 refine fn3 F BG (fun ss R U h=>?_) (fun cdv A outer s H E ss R U hr h=>?_)
 .obtain⟨a,b,rfl,_⟩:=h;rfl
 obtain⟨a,b,rfl,hb,h1,h2,q⟩:=h
 refine#[_,(Aa (AH 2 BG (Hs TR rfl K6 qCd (a1 (vN 0))))
  (Aa (AH 3 BG (vN 1))
  (Aa (G8 PassesOwn.never (BV Qu (vN 3) Ac) (Aa (AH 4 BG (Ai A7 (vN 2) (vN 3)))
  (Aa (AH 2 BG (vN 3))
  (Ag (AH 3 BG (vN 4))))))
  (Bf (Bs (a2 (Ai A8 (vN 0) (vN 2)) (Ai A8 (vN 1) (vN 2)))))))),?_]
 have hb0:b≠0:=by clear h1 h2;omega
 have hp:=IA (a:=a) hb0
 have hc:=NO (a:=a) hb0
 have e:cm a b=g a b:=if_neg (by clear h1 h2;omega)
 rw[e] at hp hc
 have ga:=Vv a b
 rw[if_neg (show ¬b<0 by clear h1 h2;omega)] at ga
 refine#[fun m τ=>∃x y z,τ=[I a,I b,I x,I y,z]/\0<=x/\0<=y/\g x y=g a b/\m=y.toNat,#[_,_,_,_,rfl,Oo a,qCm hb,ga,rfl],?_]
 rintro m τ ⟨x,y,z,rfl,k1,k2,k3,rfl⟩
 refine Nt (fun c=>?_) (fun c=>?_)
 .clear h1 h2
  refine#[c,(x.fmod y).toNat,?_,_,_,_,rfl,k2,?_,?_,rfl]
  .have:=qCy x (show 0<y from ())
   omega
  .exact qB6 x ()
  .rw[<-k3,qCB x k2]
   exact Sf ()
 .subst c
  rw[Va k1] at k3
  subst k3
  refine#[#[hc,WG h1],#[hc,WG h2],(by show 2<=1000;decide),?_]
  show R (.d (.tup [.int (a.fdiv (g a b)),.int (b.fdiv (g a b))]))
  rw[hp.1,hp.2]
  exact q
variable (Ae:Cal P w K mg base (CXU P w) 1 "_law_lowest" ["_law_top","_law_bottom"] F5)
theorem LQ:Ad ["_law_one","_law_other"] ["_law_one","_law_other"] (Ab Gj):=scN
theorem K5 (F:Fun K "_law_less" "_law_less" Gj f fd):Az P w K mg base CX0 1 f fd ["_law_one","_law_other"] (Ah K mg Hx):=by
 refine fn3 F LQ (fun ss R U h=>?_) (fun cdv A outer s H E ss R U hr h=>?_)
 .obtain⟨a,b,c,d,rfl,_⟩:=h;rfl
 obtain⟨a,b,c,d,rfl,⟨h1,h2,h3,h4⟩,q⟩:=h
 refine#[_,(Bf (Me HB (Ai Av (vK 0) (vK 1)) (Ai Av (vK 1) (vK 0)) (HF _))),?_]
 exact#[Ax h1 h4 ∅,Ax h3 h2 ∅,q]
variable (Bl:Cal P w K mg base (CXU P w) 1 "_law_less" ["_law_one","_law_other"] Hx)
theorem Kn:Ad ["_law_one","_law_other"] ["_law_one","_law_other"] (Ab Fh):=scN
theorem Kl (F:Fun K "_law_minus" "_law_minus" Fh f fd):Az P w K mg base CX0 1 f fd ["_law_one","_law_other"] (Ah K mg GP):=by
 refine fn3 F Kn (fun ss R U h=>?_) (fun cdv A outer s H E ss R U hr h=>?_)
 .obtain⟨a,b,c,d,rfl,_⟩:=h;rfl
 obtain⟨a,b,c,d,rfl,⟨h1,h2,h3,h4⟩,q⟩:=h
 refine#[_,(Bf (Bs (a2 (Ai DN (Ai Av (vK 0) (vK 1)) (Ai Av (vK 1) (vK 0))) (Ai Av (vK 0) (vK 1))))),?_]
 exact#[Ax h1 h4 ∅,Ax h3 h2 ∅,Ax h2 h4 ∅,(by show 2<=1000;decide),q]
variable (AJ:Cal P w K mg base (CXU P w) 1 "_law_minus" ["_law_one","_law_other"] GP)
theorem Lf:Ad ["_law_one","_law_other"] ["_law_one","_law_other"] (Ab Gm):=scN
theorem Ll (F:Fun K "_law_plus" "_law_plus" Gm f fd):Az P w K mg base CX0 1 f fd ["_law_one","_law_other"] (Ah K mg Hy):=by
 refine fn3 F Lf (fun ss R U h=>?_) (fun cdv A outer s H E ss R U hr h=>?_)
 .obtain⟨a,b,c,d,rfl,_⟩:=h;rfl
 obtain⟨a,b,c,d,rfl,⟨h1,h2,h3,h4⟩,q⟩:=h
 refine#[_,(Bf (Bs (a2 (Ai AU (Ai Av (vK 0) (vK 1)) (Ai Av (vK 1) (vK 0))) (Ai Av (vK 0) (vK 1))))),?_]
 exact#[Ax h1 h4 ∅,Ax h3 h2 ∅,Ax h2 h4 ∅,(by show 2<=1000;decide),q]
variable (Bz:Cal P w K mg base (CXU P w) 1 "_law_plus" ["_law_one","_law_other"] Hy)
theorem HS:Ad ["_law_cell","_law_low"] ["_law_cell","_law_low"] (Ab Dx):=scN
include Ae in
theorem HR (F:Fun K "_law_slope_by" "_law_slope_by" Dx f fd):Az P w K mg base CX0 2 f fd ["_law_cell","_law_low"] (Ah K mg EW):=by
 refine fn3 F HS (fun ss R U h=>?_) (fun cdv A outer s H E ss R U hr h=>?_)
 .obtain⟨c,lo,rfl,_⟩:=h;rfl
 obtain⟨c,lo,rfl,l0,l1,q⟩:=h
 refine#[_,(Aa (BE (BV Kv (Ai A7 (vN 0) Ac) Ac) (Bf (Bs (a2 Ac Ac))) Am)
  (Aa (BE (BV Kv (Ai A7 (vN 0) Ac) Ac) (Bf (Bs (a2 (Ai A7 (Ai A8 (vN 0) Ac) Ac) Ac))) Am)
  (Aa (BE (BV Kv (Ai A7 (vN 0) Ac) Ac) (Bf (Aq hr Ae (a2 (Ai A7 (Ai A8 (vN 0) Ac) Ac) (vN 1)))) Am)
  (Bf (Aq hr Ae (a2 (Ai A7 (Ai A8 (vN 0) Ac) (Ai KZ Ac Ac)) (vN 1))))))),?_]
 have f3:=fm (a:=c.fdiv 4) (show(0:Int)<3 from ∅)
 have f20:=fm (a:=c.fdiv 4) (show(0:Int)<20 from ∅)
 have f18:=fm (a:=c.fdiv 4) (show(0:Int)<10^(18:Int).toNat from ∅)
 rw[p18] at f18
 have one:∀x:Int,0<=x->x<1000000000000000000->R (.d (tp x 1)):=fun x x0 x1=>by
  have:=q x 1 x0 x1 ∅ ∅
  rw[UL,V7] at this
  exact this
 refine#[∅,?_]
 refine Ca (fun _=>#[(by show 2<=1000;decide),one 0 ∅ ∅]) (fun _=>?_)
 refine#[∅,?_]
 refine Ca (fun _=>#[#[∅,Cn ∅],∅,(by show 2<=1000;decide),one _ f3.1 ()]) (fun _=>?_)
 refine#[∅,?_]
 refine Ca (fun _=>?_) (fun _=>?_)
 .exact#[#[∅,Cn ∅],∅,_,_,rfl,l0,Ar (k:=60) () ∅,Ar (k:=4) () ∅,q _ _ f20.1 () l0 l1]
 .exact#[#[∅,Cn ∅],#[∅,∅,∅],∅,_,_,rfl,l0,Ar (k:=60) (by rw[p18];omega) ∅,Ar (k:=4) () ∅,q _ _ (by rw[p18];exact f18.1) (by rw[p18];exact f18.2) l0 l1]
variable (Cw:Cal P w K mg base (CXU P w) 2 "_law_slope_by" ["_law_cell","_law_low"] EW)
theorem Ak:Ad ["_law_cells_here","_law_many","_law_low","_law_high","_law_at","_law_value_here","_law_corners","_law_k","_law_cell","_law_other","_law_gap","_law_rise"] ["_law_cells_here","_law_many"] (Ab DD):=scN
include Ay Ae Cw in
theorem HK (F:Fun K "_law_curve_by" "_law_curve_by" DD f fd):Az P w K mg base CX0 3 f fd ["_law_cells_here","_law_many"] (Ah K mg EX):=by
 refine fn3 F Ak (fun ss R U h=>?_) (fun cdv A outer s H E ss R U hr h=>?_)
 .obtain⟨ms,n,rfl,_⟩:=h;rfl
 obtain⟨ms,n,rfl,n0,n1,hl,q⟩:=h
 refine#[_,(Aa (AH 2 Ak (Ai AU Ac (Ai A7 (vK 0) Ac)))
  (Aa (AH 3 Ak (Ai AU Ac (Ai A7 (Ai A8 (vK 0) Ac) Ac)))
  (Aa (AH 4 Ak Ac)
  (Aa (AH 5 Ak Ac)
  (Dk (BE (BV Qu (Ai A7 (vK 0) Ac) Ac) (Ag (AH 5 Ak (Ai A7 (Ai A8 (vK 0) Ac) (Ai KZ Ac Ac)))) Am)
  (Aa (AH 6 Ak (F9 (a1 (Bs (a2 (Bs (a2 Ac Ac)) (Aq hr Ae (a2 (vN 5) (vN 3))))))))
  (Aa (Qs (BP PassesOwn.never rfl (Fj rfl Ay (PA3.out (a1 (vN 1)))) (AR (i:=7) Ak.nd rfl (Or.inl rfl)) (DP.out (Aa (AH 8 Ak (AW (vN 0) (Ai AU Ac (Ai Av Ac (vN 7)))))
  (Aa (AH 9 Ak (AW (vN 0) (Ai AU Ac (Ai Av Ac (vN 7)))))
  (Aa (AH 10 Ak (Ai AU Ac (Ai A7 (Ai A8 (vN 8) Ac) Ac)))
  (Dk (BE (BV Kv (Ai A7 (vN 8) Ac) Ac) (Ag (AH 10 Ak (Ai AU Ac (Ai A7 (Ai A8 (vN 8) Ac) (Ai KZ Ac Ac))))) Am)
  (Aa (AH 11 Ak (Ai Av (vN 10) (Ai A7 (Ai A8 (vN 9) Ac) Ac)))
  (Dk (BE (BV Kv (Ai A7 (vN 9) Ac) Ac) (Ag (AH 11 Ak Ac)) Am)
  (Dk (BE (BV Kv (Ai A7 (vN 9) Ac) Ac) (Ag (AH 11 Ak (Ai A7 (Ai A8 (vN 9) Ac) Ac))) Am)
  (Dk (BE (BV Kv (Ai A7 (vN 9) Ac) Ac) (Ag (AH 11 Ak (Ai A7 (Ai A8 (vN 9) Ac) (Ai KZ Ac Ac)))) Am)
  (Aa (AH 4 Ak (Ai AU (vN 4) (vN 10)))
  (Aa (AH 5 Ak (Ai AU (vN 5) (vN 11)))
  (Ag (DQ (Be (DR qAu qAs qAt AF (pv 6) (AL (PE3.out (Bs (a2 (Aq hr Ae (a2 (vN 4) (vN 2))) (Aq hr Ae (a2 (vN 5) (vN 3)))))) Bn))))))))))))))))))
  (M7 6 (Bf (Bs (a2 (vN 6) (Aq hr Cw (a2 (vK 0) (vN 2)))))))))))))),?_]
 have b0:=FC (ms:=ms) (i:=0) 0 rfl ()
 have b1:=FC (ms:=ms) (i:=1) 1 rfl ()
 have b2:=FC (ms:=ms) (i:=2) 2 rfl ()
 have g1:=fm (a:=cell ms 0) (show(0:Int)<12 from ∅)
 have g2:=fm (a:=(cell ms 0).fdiv 12) (show(0:Int)<12 from ∅)
 refine atR b0 ?_
 refine#[∅,?_]
 refine atR b0 ?_
 refine#[#[∅,Cn ∅],∅,?_]
 obtain⟨lo,elo⟩:∃lo,lo=1+(cell ms 0).fmod 12:=#[_,rfl]
 obtain⟨hi,ehi⟩:∃hi,hi=1+((cell ms 0).fdiv 12).fmod 12:=#[_,rfl]
 have lo0:0<lo/\lo<=12:=()
 have hi0:0<hi/\hi<=12:=()
 have elo':1+(cell ms ((0:Nat):Int)).fmod 12=lo:=elo.symm
 have ehi':1+((cell ms ((0:Nat):Int)).fdiv 12).fmod 12=hi:=ehi.symm
 have u13:∀{x:Nat},x<2^66->x<2^13000:=fun h=>Ar h ∅
 refine#[fun τ=>∃v:Int,τ=[some (.d (.lst (ms.map D.int))),I n,I lo,I hi,I 0,I v,none,none,none,none,none,none]/\0<=v/\v<1000000000000000000,?_,?_]
 .refine atR b1 ?_
  refine#[∅,?_]
  have f18:=fm (a:=(cell ms ((1:Nat):Int)).fdiv 3) (show(0:Int)<10^(18:Int).toNat from ∅)
  rw[p18] at f18
  refine Nt (fun _=>?_) (fun _=>#[0,by rw[<-elo',<-ehi'];rfl,∅,∅])
  refine atR b1 ?_
  exact#[#[∅,Cn ∅],#[∅,∅,∅],∅,_,by rw[<-elo',<-ehi'];rfl,by rw[p18];exact f18.1,by rw[p18];exact f18.2]
 rintro τ ⟨v0,rfl,v00,v01⟩
 refine#[(by show 2<=1000;decide),v0,hi,rfl,hi0.1,u13 (),u13 (),(by show 2<=1000;decide),(by show 1<=1000;decide),?_]
 refine#[#[(),()],?_]
 refine#[fun j τ=>∃(l:List (Int×Int))(at' v:Int)(y7 y8 y9 y10 y11:Option S),τ=[some (.d (.lst (ms.map D.int))),I n,I lo,I hi,I at',I v,some (.l ((rcs l lo hi).map cd)),y7,y8,y9,y10,y11]/\MX 65 l/\l.length=j+1/\ia l j=at'/\iv l j=v/\0<=at'/\at'<=j*1000000000000000001/\0<=v/\v<=1000000000000000000+j*2000000000000000002,#[[(0,v0)],0,v0,none,none,none,none,none,?_,MX.one v00 (),rfl,rfl,rfl,∅,∅,v00,()],?_,?_]
 .have:(rcs [(0,v0)] lo hi).map cd=[.tup [tp 0 1,qd (Rat.divInt v0 hi)]]:=by
   unfold rcs
   rw[qBp,qBS,qBp,qBS,qCl]
   rfl
  rw[this]
  rfl
 .rintro j τ hj ⟨l,at',v,y7,y8,y9,y10,y11,rfl,hr,hll,ea,ev,a0,a1,v0',v1⟩
  have j12:(j:Int)<n:=()
  have c3:=FC (ms:=ms) (i:=3+2*(0+(j:Int)*1)) (3+2*j) () ()
  have c4:=FC (ms:=ms) (i:=4+2*(0+(j:Int)*1)) (4+2*j) () ()
  refine#[Ax (m:=10) (n:=10) ∅ () ∅,?_]
  refine atR c3 ?_
  refine#[Ax (m:=10) (n:=10) ∅ () ∅,?_]
  refine atR c4 ?_
  generalize cell ms ((3+2*j:Nat):Int)=x
  generalize cell ms ((4+2*j:Nat):Int)=y
  have f5:=fm (a:=x.fdiv 2) (show(0:Int)<5 from ∅)
  have f18:=fm (a:=x.fdiv 2) (show(0:Int)<10^(18:Int).toNat from ∅)
  have h3:=fm (a:=y.fdiv 4) (show(0:Int)<3 from ∅)
  have h10:=fm (a:=y.fdiv 4) (show(0:Int)<10 from ∅)
  have h18:=fm (a:=y.fdiv 4) (show(0:Int)<10^(18:Int).toNat from ∅)
  rw[p18] at f18 h18
  refine#[#[∅,Cn ∅],∅,?_]
  refine#[fun τ=>∃g:Int,τ=[some (.d (.lst (ms.map D.int))),I n,I lo,I hi,I at',I v,some (.l ((rcs l lo hi).map cd)),I (0+(j:Int)*1),I x,I y,I g,y11]/\1<=g/\g<=1000000000000000001,?_,?_]
  .refine#[∅,?_]
   exact Ca (fun _=>#[#[∅,Cn ∅],#[∅,∅,∅],∅,_,rfl,by rw[p18];omega,by rw[p18];omega]) (fun _=>#[_,rfl,(),()])
  rintro τ ⟨g,rfl,g0,g1⟩
  have gr0:0<=g*(y.fdiv 4).fmod 3:=qBZ () h3.1
  have gr1:g*(y.fdiv 4).fmod 3<=1000000000000000001*2:=Int.mul_le_mul g1 () h3.1 ∅
  refine#[#[∅,Cn ∅],∅,Ax (m:=62) (n:=4) () () ∅,?_]
  refine#[fun τ=>∃r:Int,τ=[some (.d (.lst (ms.map D.int))),I n,I lo,I hi,I at',I v,some (.l ((rcs l lo hi).map cd)),I (0+(j:Int)*1),I x,I y,I g,I r]/\0<=r/\r<=2000000000000000002,?_,?_]
  .refine#[∅,?_]
   exact Ca (fun _=>#[0,rfl,∅,∅]) (fun _=>#[_,rfl,gr0,()])
  rintro τ ⟨r1,rfl,r10,r11⟩
  refine#[fun τ=>∃r:Int,τ=[some (.d (.lst (ms.map D.int))),I n,I lo,I hi,I at',I v,some (.l ((rcs l lo hi).map cd)),I (0+(j:Int)*1),I x,I y,I g,I r]/\0<=r/\r<=2000000000000000002,?_,?_]
  .refine#[∅,?_]
   exact Ca (fun _=>#[#[∅,Cn ∅],∅,_,rfl,(),()]) (fun _=>#[_,rfl,r10,r11])
  rintro τ ⟨r2,rfl,r20,r21⟩
  refine#[fun τ=>∃r:Int,τ=[some (.d (.lst (ms.map D.int))),I n,I lo,I hi,I at',I v,some (.l ((rcs l lo hi).map cd)),I (0+(j:Int)*1),I x,I y,I g,I r]/\0<=r/\r<=2000000000000000002,?_,?_]
  .refine#[∅,?_]
   exact Ca (fun _=>#[#[∅,Cn ∅],#[∅,∅,∅],∅,_,rfl,by rw[p18];omega,by rw[p18];omega]) (fun _=>#[_,rfl,r20,r21])
  rintro τ ⟨r,rfl,r0,r1⟩
  have jj:(j:Int)<=11:=()
  have zb:(at'+g).natAbs<2^65:=()
  have zv:(v+r).natAbs<2^65:=()
  refine#[at'+g,lo,rfl,lo0.1,u13 (Ar zb ∅),u13 (),v+r,hi,rfl,hi0.1,u13 (Ar zv ∅),u13 (),(by show 2<=1000;decide),by rw[qAa,Dd];omega,?_]
  have la:l.length-1=j:=()
  refine#[l++[(at'+g,v+r)],at'+g,v+r,_,_,_,_,_,by rw[Nz,qAC];rfl,hr.snoc () (by rw[la,ea];omega) (by rw[la,ev];omega) zb zv,by rw[qAn];simp;omega,?_,?_,(),(),(),()]
  .rw[<-hll];exact Sk.1
  .rw[<-hll];exact Sk.2
 rintro τ ⟨l,at',v,y7,y8,y9,y10,y11,rfl,hr,hll,_⟩
 refine atR b2 ?_
 refine#[_,lo,rfl,lo0.1,lo0.2,fun p q0 p0 p1 q00 q01=>?_]
 refine#[(by show 2<=1000;decide),?_]
 exact q _ _ #[l,lo,hi,p,q0,hr,lo0,hi0,#[p0,()],#[q00,q01],rfl,rfl,()]
variable (Bx:Cal P w K mg base (CXU P w) 3 "_law_curve_by" ["_law_cells_here","_law_many"] EX)
theorem Kg:Ad ["_law_script","_law_begin","_law_many"] ["_law_script","_law_begin","_law_many"] (Ab DU):=scN
include Ay As in
theorem JX (F:Fun K "_law_cells" "_law_cells" DU f fd):Az P w K mg base CX0 2 f fd ["_law_script","_law_begin","_law_many"] (Ah K mg GV):=by
 refine fn3 F Kg (fun ss R U h=>?_) (fun cdv A outer s H E ss R U hr h=>?_)
 .obtain⟨ns,b,n,rfl,_⟩:=h;rfl
 obtain⟨ns,b,n,rfl,b0,b1,n0,n1,q⟩:=h
 refine#[_,(Bf (OB (N:=["_law_k","_law_script","_law_begin"]) (idx:=[0,1]) (Ba.mk' (Ab DU) ["_law_script","_law_begin","_law_many"] rfl rfl (by decide +kernel)) rfl (Fj rfl Ay (PA3.out (a1 (Ai AU Ac (Ai Av Ac (vN 2)))))) Nr (fun cl C s₀ H₀ fp=>Cf) (fun cl C s₀ H₀ fp=>(Aq hr As (a2 (vN 1) (Ai AU (vN 2) (vN 0))))))),?_]
 refine#[Ax (m:=10) (n:=10) ∅ () ∅,#[(),()],?_]
 refine#[fun j ds=>∃ms:List Int,ds=ms.map D.int/\ms.length=j,#[[],rfl,rfl],?_,?_,?_,?_]
 .rintro j ds ⟨ms,rfl,l⟩
  rw[qAa];omega
 .rintro j x ds hx ⟨ms,rfl,l⟩
  obtain⟨hn,rfl⟩:=Em hx
  refine#[ns,_,rfl,(),?_]
  exact#[ms++[_],by rw[qAC];rfl,by rw[qAn,l];rfl]
 .rw[Bp];omega
 .rintro ds ⟨ms,rfl,l⟩
  rw[Bp] at l
  exact q ms ()
variable (C9:Cal P w K mg base (CXU P w) 2 "_law_cells" ["_law_script","_law_begin","_law_many"] GV)
theorem G5:Ad ["_law_seed","_law_many","_law_some"] ["_law_seed","_law_many"] (Ab C8):=scN
include Ay in
theorem KR (F:Fun K "_law_mixed" "_law_mixed" C8 f fd):Az P w K mg base CX0 1 f fd ["_law_seed","_law_many"] (Ah K mg G6):=by
 refine fn3 F G5 (fun ss R U h=>?_) (fun cdv A outer s H E ss R U hr h=>?_)
 .obtain⟨s,n,rfl,_⟩:=h;rfl
 obtain⟨s,n,rfl,n0,n1,q⟩:=h
 refine#[_,(Aa (Tb (i:=2) (N:=["_law_k","_law_seed"]) (idx:=[0]) (Ba.mk' (Ab C8) ["_law_seed","_law_many","_law_some"] rfl rfl (by decide +kernel)) rfl (Fj rfl Ay (PA3.out (a1 (Ai AU Ac (Ai Av Ac (vN 1)))))) Nr (fun cl C s₀ H₀ fp=>Cf) (fun cl C s₀ H₀ fp=>(Ai A7 (Ai Av (Ai AU (Ai AU (Ai A7 (vN 1) (Ai KZ Ac Ac)) (Ai Av Ac (vN 0))) (Ai Av (vN 0) (vN 0))) Ac) Ac)) G5.nd rfl (Or.inl rfl))
  (Bf (OB (N:=["_law_one"]) (idx:=[]) (Ba.mk' (Ab C8) ["_law_seed","_law_many","_law_some"] rfl rfl (by decide +kernel)) rfl (BL (PE3.out (vN 2))) Dz (fun cl C s₀ H₀ fp=>Cf) (fun cl C s₀ H₀ fp=>(Ai A7 (Ai Av (vN 0) Ac) Ac))))),?_]
 refine#[Ax (m:=10) (n:=10) ∅ () ∅,#[(),()],?_]
 refine#[fun j ds=>∃ms:List Int,ds=ms.map D.int/\ms.length=j,#[[],rfl,rfl],?_,?_,?_,?_]
 .rintro j ds ⟨ms,rfl,l⟩
  rw[qAa];omega
 .rintro j x ds hx ⟨ms,rfl,l⟩
  obtain⟨hn,rfl⟩:=Em hx
  have j30:(j:Int)<30:=()
  refine#[#[∅,∅,∅],∅,Ax (m:=10) (n:=10) ∅ () ∅,Ax (m:=10) (n:=10) () () ∅,PySem.IntMulOk.of_right ∅,∅,?_]
  exact#[ms++[_],by rw[qAC];rfl,by rw[qAn,l];rfl]
 .rw[Bp];omega
 rintro ds ⟨ms,rfl,l⟩
 rw[Bp] at l
 refine#[fun j ds=>∃ms:List Int,ds=ms.map D.int/\ms.length=j,#[[],rfl,rfl],?_,?_,?_,?_]
 .rintro j ds ⟨ms,rfl,l⟩
  rw[qAa];omega
 .rintro j x ds hx ⟨ms2,rfl,l2⟩
  obtain⟨c,_,rfl⟩:=Bq hx
  refine#[PySem.IntMulOk.of_right ∅,∅,?_]
  exact#[ms2++[_],by rw[qAC];rfl,by rw[qAn,l2];rfl]
 .rw[qAa];omega
 .rintro ds ⟨ms2,rfl,l2⟩
  rw[qAa] at l2
  exact q ms2 ()
variable (D4:Cal P w K mg base (CXU P w) 1 "_law_mixed" ["_law_seed","_law_many"] G6)
theorem An:Ad ["_law_cell","_law_room","_law_low","_law_high","_law_value_here","_law_many","_law_at","_law_corners","_law_k"] ["_law_cell","_law_room"] (Ab Cj):=scN
include Ay Ae in
theorem FQ (F:Fun K "_law_digits_curve" "_law_digits_curve" Cj f fd):Az P w K mg base CX0 2 f fd ["_law_cell","_law_room"] (Ah K mg Dm):=by
 refine fn3 F An (fun ss R U h=>?_) (fun cdv A outer s H E ss R U hr h=>?_)
 .obtain⟨c,r,rfl,_⟩:=h;rfl
 obtain⟨c0,r,rfl,r0,r1,q⟩:=h
 refine#[_,(Aa (AH 2 An (Ai AU Ac (Ai A7 (vN 0) Ac)))
  (Aa (AH 3 An (Ai AU Ac (Ai A7 (Ai A8 (vN 0) Ac) Ac)))
  (Aa (AH 4 An (Ai A7 (Ai A8 (vN 0) Ac) Ac))
  (Aa (AH 5 An (Ai A7 (Ai A8 (vN 0) Ac) (vN 1)))
  (Aa (AH 0 An (Ai A8 (Ai A8 (vN 0) Ac) (vN 1)))
  (Aa (AH 6 An Ac)
  (Aa (AH 7 An (F9 (a1 (Bs (a2 (Bs (a2 Ac Ac)) (Aq hr Ae (a2 (vN 4) (vN 3))))))))
  (Aa (Qs (BP PassesOwn.never rfl (Fj rfl Ay (PA3.out (a1 (vN 5)))) (AR (i:=8) An.nd rfl (Or.inl rfl)) (DP.out (Aa (AH 6 An (Ai AU (Ai AU (vN 6) Ac) (Ai A7 (vN 0) Ac)))
  (Aa (AH 4 An (Ai AU (vN 4) (Ai A7 (Ai A8 (vN 0) Ac) Ac)))
  (Aa (AH 0 An (Ai A8 (vN 0) Ac))
  (Ag (DQ (Be (DR qAu qAs qAt AF (pv 7) (AL (PE3.out (Bs (a2 (Aq hr Ae (a2 (vN 6) (vN 2))) (Aq hr Ae (a2 (vN 4) (vN 3)))))) Bn)))))))))))
  (M7 7 (Bf (Bs (a2 (vN 7) (Aq hr Ae (a2 (Ai A7 (vN 0) Ac) (Ai AU Ac (Ai A7 (Ai A8 (vN 0) Ac) Ac)))))))))))))))),?_]
 have g1:=fm (a:=c0) (show(0:Int)<12 from ∅)
 have g2:=fm (a:=c0.fdiv 12) (show(0:Int)<12 from ∅)
 have g3:=fm (a:=c0.fdiv 144) (show(0:Int)<1000 from ∅)
 have g4:=fm (a:=c0.fdiv 144000) r0
 refine#[∅,#[∅,Cn ∅],∅,#[∅,Cn ∅],∅,#[∅,Cn ∅],qBn r0,#[∅,Cn ∅],#[qBn r0,Cn ()],?_]
 obtain⟨lo,elo⟩:∃lo,lo=1+c0.fmod 12:=#[_,rfl]
 obtain⟨hi,ehi⟩:∃hi,hi=1+(c0.fdiv 12).fmod 12:=#[_,rfl]
 obtain⟨n,en⟩:∃n,n=(c0.fdiv 144000).fmod r:=#[_,rfl]
 obtain⟨v0,ev0⟩:∃v0,v0=(c0.fdiv 144).fmod 1000:=#[_,rfl]
 have lo0:0<lo/\lo<=12:=()
 have hi0:0<hi/\hi<=12:=()
 have u13:∀{x:Nat},x<2^66->x<2^13000:=fun h=>Ar h ∅
 rw[<-elo,<-ehi,<-en,<-ev0]
 refine#[(by show 2<=1000;decide),v0,hi,rfl,hi0.1,u13 (),u13 (),(by show 2<=1000;decide),(by show 1<=1000;decide),?_]
 refine#[#[(),()],?_]
 refine#[fun j τ=>∃(l:List (Int×Int))(c at' v:Int)(y8:Option S),τ=[I c,I r,I lo,I hi,I v,I n,I at',some (.l ((rcs l lo hi).map cd)),y8]/\MX 65 l/\l.length=j+1/\ia l j=at'/\iv l j=v/\0<=at'/\at'<=j*100/\0<=v/\v<=1000+j*100,#[[(0,v0)],(c0.fdiv 144000).fdiv r,0,v0,none,?_,MX.one () (),rfl,rfl,rfl,∅,∅,(),()],?_,?_]
 .have:(rcs [(0,v0)] lo hi).map cd=[.tup [tp 0 1,qd (Rat.divInt v0 hi)]]:=by
   unfold rcs
   rw[qBp,qBS,qBp,qBS,qCl]
   rfl
  rw[this]
  rfl
 .rintro j τ hj ⟨l,c,at',v,y8,rfl,hr,hll,ea,ev,a0,a1,v0',v1⟩
  have jn:(j:Int)<n:=()
  have f1:=fm (a:=c) (show(0:Int)<100 from ∅)
  have f2:=fm (a:=c.fdiv 100) (show(0:Int)<100 from ∅)
  have jj:(j:Int)<=12:=()
  have zb:(at'+1+c.fmod 100).natAbs<2^65:=()
  have zv:(v+(c.fdiv 100).fmod 100).natAbs<2^65:=()
  refine#[∅,#[∅,Cn ∅],∅,#[∅,Cn ∅],?_]
  refine#[at'+1+c.fmod 100,lo,rfl,lo0.1,u13 (Ar zb ∅),u13 (),v+(c.fdiv 100).fmod 100,hi,rfl,hi0.1,u13 (Ar zv ∅),u13 (),(by show 2<=1000;decide),by rw[qAa,Dd];omega,?_]
  have la:l.length-1=j:=()
  refine#[l++[(at'+1+c.fmod 100,v+(c.fdiv 100).fmod 100)],_,_,_,_,by rw[Nz,qAC];rfl,hr.snoc () (by rw[la,ea];omega) (by rw[la,ev];omega) zb zv,by rw[qAn];simp;omega,?_,?_,(),(),(),()]
  .rw[<-hll];exact Sk.1
  .rw[<-hll];exact Sk.2
 rintro τ ⟨l,c,at',v,y8,rfl,hr,hll,_⟩
 have f1:=fm (a:=c) (show(0:Int)<100 from ∅)
 have f2:=fm (a:=c.fdiv 100) (show(0:Int)<12 from ∅)
 refine#[∅,#[∅,Cn ∅],∅,_,_,rfl,(),u13 (),u13 (),(by show 2<=1000;decide),?_]
 exact q _ _ #[l,lo,hi,_,_,hr,lo0,hi0,#[f1.1,()],#[(),()],rfl,rfl,()]
variable (Bk:Cal P w K mg base (CXU P w) 2 "_law_digits_curve" ["_law_cell","_law_room"] Dm)
theorem CG:Ad ["_law_script","_law_some","_law_many","_law_f"] ["_law_script"] (Ab Hf):=scN
include As Bx C9 D4 Bk in
theorem Mn (F:Fun K "_law_two" "_law_two" Hf f fd):Az P w K mg base CX0 4 f fd ["_law_script"] (Ah K mg Jo):=by
 refine fn3 F CG (fun ss R U h=>?_) (fun cdv A outer s H E ss R U hr h=>?_)
 .obtain⟨ns,rfl,_⟩:=h;rfl
 obtain⟨ns,rfl,q⟩:=h
 refine#[_,(Aa (AH 1 CG (Ai A8 (Aq hr As (a2 (vN 0) Ac)) Ac))
  (Aa (BE (BV Kv (Ai A7 (Aq hr As (a2 (vN 0) Ac)) Ac) Ac) (Bf (F9 (a2 (Aq hr Bk (a2 (Aq hr As (a2 (vN 0) Ac)) Ac)) (Aq hr Bk (a2 (Aq hr As (a2 (vN 0) Ac)) Ac))))) Am)
  (Aa (AH 2 CG (Ai A7 (Ai A8 (vN 1) Ac) Ac))
  (Aa (AH 3 CG (Aq hr Bx (a2 (Aq hr C9 (AV (vN 0) (a2 Ac (Ai A7 (vN 1) Ac)))) (Ai A7 (vN 1) Ac))))
  (Dk (BE (BV Kv (Ai A7 (Ai A8 (vN 1) Ac) Ac) Ac) (Aa (AH 2 CG (Ai A7 (vN 2) Ac))
  (Ag (AH 3 CG (Aq hr Bx (a2 (Aq hr D4 (a2 (Aq hr As (a2 (vN 0) Ac)) Ac)) (Ai AU Ac (Ai A7 (Aq hr As (a2 (vN 0) Ac)) Ac))))))) Am)
  (Bf (F9 (a2 (vN 3) (Aq hr Bx (a2 (Aq hr C9 (AV (vN 0) (a2 Ac (vN 2)))) (vN 2))))))))))),?_]
 refine#[ns,0,rfl,∅,#[∅,Cn ∅],?_]
 generalize (cell ns 0).fdiv 2=s
 refine#[ns,0,rfl,∅,∅,?_]
 refine Ca (fun _=>?_) (fun _=>?_)
 .refine#[ns,2,rfl,∅,_,7,rfl,∅,∅,fun cs m h1=>?_]
  refine#[ns,3,rfl,∅,_,7,rfl,∅,∅,fun ds k h2=>?_]
  exact#[(by show 2<=1000;decide),q cs m ds k h1 h2]
 have f4:=fm (a:=s.fdiv 4) (show(0:Int)<4 from ∅)
 have g4:=fm (a:=s) (show(0:Int)<4 from ∅)
 refine#[#[∅,Cn ∅],∅,?_]
 refine#[∅,ns,2,_,rfl,∅,∅,(),(),fun ms hms=>?_]
 refine#[∅,ms,_,rfl,(),(),(),fun cs m h1=>?_]
 refine#[fun τ=>∃(n:Int)(cs:Cs)(m:Rat),τ=[some (.r (ns.map D.int)),I s,I n,some (.d (.tup [.lst (cs.map cd),qd m]))]/\0<=n/\n<4/\CC cs m,?_,?_]
 .refine#[#[∅,Cn ∅],∅,?_]
  refine Ca (fun _=>?_) (fun _=>#[_,cs,m,rfl,f4.1,f4.2,h1])
  have f2:=fm (a:=(s.fdiv 4).fmod 4) (show(0:Int)<2 from ∅)
  have f9:=fm (a:=cell ns 1) (show(0:Int)<9 from ∅)
  refine#[∅,ns,1,rfl,∅,_,12,rfl,∅,∅,fun ms2 h2=>?_]
  refine#[ns,1,rfl,∅,∅,?_]
  refine#[ms2,_,rfl,(),(),(),fun cs2 m2 h3=>?_]
  exact#[_,cs2,m2,rfl,f2.1,(),h3]
 clear h1 hms
 clear cs m ms
 rintro τ ⟨n,cs,m,rfl,n0,n1,h1⟩
 refine#[ns,11,_,rfl,∅,∅,(),(),fun ms hms=>?_]
 refine#[ms,_,rfl,(),(),(),fun ds k h2=>?_]
 exact#[(by show 2<=1000;decide),q cs m ds k h1 h2]
variable (FO:Cal P w K mg base (CXU P w) 4 "_law_two" ["_law_script"] Jo)
theorem AQ:Ad ["_law_corners","_law_last","_law_t","_law_place","_law_k","_law_at","_law_gone","_law_rise","_law_span","_law_top","_law_bottom"] ["_law_corners","_law_last","_law_t"] (Ab Fm):=scN
include AG Ay Bl AJ in
theorem KS (F:Fun K "_law_value" "_law_value" Fm f fd):Az P w K mg base CX0 2 f fd ["_law_corners","_law_last","_law_t"] (Ah K mg G3):=by
 refine fnW (fun ss R U h=>?_) (fn3 F AQ (fun ss R U h=>?_) (fun cdv A outer s H E ss R U hr h=>?_))
 .obtain⟨x,cs,m,t,mn,md,tn,td,n,rfl,hx,c0,cl,hn,hz,hm,ht,up,q⟩:=h
  rcases hx with rfl|rfl|rfl
  .exact#[_,cs,m,t,mn,md,tn,td,n,rfl,(.inl rfl),c0,cl,hn,hz,hm,ht,up,q]
  all_goals exact#[_,cs,m,t,mn,md,tn,td,n,rfl,(.inr (.inr rfl)),c0,cl,hn,hz,hm,ht,up,q]
 .obtain⟨x,cs,m,t,mn,md,tn,td,n,rfl,_⟩:=h.1;rfl
 obtain⟨h,nl_⟩:=h
 obtain⟨x,cs,m,t,mn,md,tn,td,n,rfl,hx,c0,cl,hn,hz,hm,ht,up,q⟩:=h
 refine#[_,(Aa (AH 3 AQ Ac)
  (Aa (Qs (BP PassesOwn.never rfl (Fj rfl Ay (PA3.out (a1 (Co AG (vN 0))))) (AR (i:=4) AQ.nd rfl (Or.inl rfl)) (DP.out (Ag (BE (w_not (Bc (Aq hr Bl (a2 (vN 2) (AW (AW (vN 0) (vN 4)) Ac))))) (Ag (AH 3 AQ (vN 4))) Am)))))
  (Aa (AH 5 AQ (AW (vN 0) (vN 3)))
  (Aa (AH 6 AQ (Aq hr AJ (a2 (vN 2) (vK 5))))
  (Aa (AH 7 AQ (vN 1))
  (Aa (AH 8 AQ (Bs (a2 Ac Ac)))
  (Dk (BE (BV HB (Ai AU (vN 3) Ac) (Co AG (vN 0))) (Aa (AH 7 AQ (Aq hr AJ (a2 (AW (AW (vN 0) (Ai AU (vN 3) Ac)) Ac) (vK 5))))
  (Ag (AH 8 AQ (Aq hr AJ (a2 (AW (AW (vN 0) (Ai AU (vN 3) Ac)) Ac) (vK 5)))))) Am)
  (Aa (AH 9 AQ (Ai Av (Ai Av (vK 7) (vK 6)) (vK 8)))
  (Aa (AH 10 AQ (Ai Av (Ai Av (vK 7) (vK 6)) (vK 8)))
  (Bf (Bs (a2 (Ai AU (Ai Av (AW (vK 5) Ac) (vN 10)) (Ai Av (vN 9) (AW (vK 5) Ac))) (Ai Av (AW (vK 5) Ac) (vN 10)))))))))))))),?_]
 have hl:plc cs t cs.length<cs.length:=JQ c0 _ (qAc _)
 replace hx:=hx.imp_right fun z=>KH z.symm (nl_ _ (by simp))
 rcases hx with rfl|rfl
 all_goals
  refine#[#[by rw[qAa];omega,by rw[qAa];omega],?_]
  first|refine#[fun j τ=>∃(p:Int)(y:Option S),τ=[some (.d (.tup (cs.map cd))),some (.d (tp mn md)),some (.d (tp tn td)),I p,y,none,none,none,none,none,none]/\p=(plc cs t j:Nat),#[0,_,rfl,rfl],?_,?_]|refine#[fun j τ=>∃(p:Int)(y:Option S),τ=[some (.r (cs.map cd)),some (.d (tp mn md)),some (.d (tp tn td)),I p,y,none,none,none,none,none,none]/\p=(plc cs t j:Nat),#[0,_,rfl,rfl],?_,?_]
  .rintro j τ hj ⟨p,y,rfl,hp⟩
   rw[qAa] at hj
   have jl:j<cs.length:=()
   have b:=BM (cs:=cs) (i:=0+j*1) j (XS j) jl
   have zj:=hz j jl
   have wj:=Wq.of zj.1
   refine atR b ?_
   refine#[_,_,_,_,rfl,ht.l4 wj (),?_]
   refine Nt (fun c=>?_) (fun c=>?_)
   .rw[ht.lt_iff wj] at c
    exact#[_,_,rfl,by rw[LH c];exact XS j]
   .rw[ht.lt_iff wj] at c
    exact#[_,_,rfl,by rw[P6 c];exact hp]
  rintro τ ⟨p,y,rfl,hp⟩
  rw[qAa,qB2] at hp
  generalize ek:plc cs t cs.length=k at hp hl
  have b:=BM (cs:=cs) (i:=p) k hp hl
  have zk:=hz k hl
  have wt:=Wq.of zk.1
  have wv:=Wq.of zk.2
  refine atR b ?_
  refine#[_,_,_,_,rfl,ht.l4 wt (),?_]
  have wg:=ht.minus wt
  generalize eg1:tn*((tt cs k).den:Int)-(tt cs k).num*td=gn at wg ⊢
  generalize eg2:td*((tt cs k).den:Int)=gd at wg ⊢
  refine#[(by show 2<=1000;decide),?_]
  refine#[fun τ=>∃(rn rd sn sd:Int)(r s:Rat),(∃y0 y1 y2 y3 y4,τ=[y0,y1,y2,y3,y4,some (.d (.tup [qd (tt cs k),qd (vv cs k)])),some (.d (tp gn gd)),some (.d (tp rn rd)),some (.d (tp sn sd)),none,none])/\Wq (n+n+1) rn rd r/\Wq (n+n+1) sn sd s/\0<s/\slp cs m k=r/s,?_,?_]
  .refine Ca (fun c=>?_) (fun c=>?_)
   .have c':k+1<cs.length:=by rw[qAa] at c;omega
    have b2:=BM (cs:=cs) (i:=p+1) (k+1) () c'
    have z2:=hz (k+1) c'
    refine atR b2 ?_
    refine#[_,_,_,_,rfl,(Wq.of z2.2).l4 wv (),?_]
    refine atR b2 ?_
    refine#[_,_,_,_,rfl,(Wq.of z2.1).l4 wt (),?_]
    exact#[_,_,_,_,_,_,#[_,_,_,_,_,rfl],(Wq.of z2.2).minus wv,(Wq.of z2.1).minus wt,Rx (up k c'),BX c']
   .have c':¬k+1<cs.length:=by rw[qAa] at c;omega
    exact#[_,_,1,1,m,1,#[_,_,_,_,_,rfl],hm.mono (),Wq.one.mono (),∅,(Bb c').trans (NC m)]
  rintro τ ⟨rn,rd,sn,sd,r,s,⟨y0,y1,y2,y3,y4,rfl⟩,wr,ws,s0,hs⟩
  have wi:=(ws.inv s0).2
  have w1:=wr.mul wg
  have w2:=w1.mul wi
  have w3:=(wv.plus w2).cast (U3.trans (show _=val cs m t by unfold val;rw[ek,hs]))
  refine#[Ax wr.la wg.la (),Ax w1.la wi.la (),Ax wr.lb wg.lb (),Ax w1.lb wi.lb (),?_]
  refine#[Ax wv.la w2.lb (),Ax w2.la wv.lb (),Ax wv.lb w2.lb (),(by show 2<=1000;decide),?_]
  exact q _ _ (w3.mono ())
variable (AA:Cal P w K mg base (CXU P w) 2 "_law_value" ["_law_corners","_law_last","_law_t"] G3)
theorem EY:Ad ["_law_found","_law_number"] ["_law_found"] (Ab DE):=scN
include Af Mu IT AG Cd Ae in
theorem HQ (F:Fun K "_law_is_ratio" "_law_is_ratio" DE f fd):Az P w K mg base CX0 2 f fd ["_law_found"] (Ah K mg EU):=by
 refine fn3 F EY (fun ss R U h=>?_) (fun cdv A outer s H E ss R U hr h=>?_)
 .obtain⟨q0,rfl,_⟩:=h;rfl
 obtain⟨q0,rfl,hz,q⟩:=h
 refine#[_,(Gh (BE (PW3.pt (HM (w_not (Bc (KG .tuple (vN 0) rfl Af rfl Cd qBc))) (EL (BV Qu (Co AG (vN 0)) Ac)))) (Bf K3) Am)
  (Aa (OR (BP PassesOwn.never rfl (BL (pv 0)) (AR (i:=1) EY.nd rfl (Or.inl rfl)) (DP.out (Ag (BE (PW3.pt (HM (w_not (Bc (KG .int (vN 1) rfl Af rfl Mu qCT))) (EL (Bc (KG .bool (vN 1) rfl Af rfl IT qCM))))) (Bf K3) Am)))))
  (Bf (UB (Me Wy (vK 0) Ac (HF _)) (Us (Me (SI 1 (hu_ hr ∅)) (Aq hr Ae (a2 (vK 0) (vK 0))) (vN 0) (HF _))))))),?_]
 have hd:=den_pos q0
 refine#[#[trivial,rfl],?_]
 refine#[fun n τ=>∃z,τ=[some (.d (qd q0)),z],#[_,rfl],?_,?_]
 .rintro n τ x hx ⟨z,rfl⟩
  have ex:∃i,x=.int i:=by
   match n,hx with
   |0,hx=>exact#[_,(qAl hx).symm]
   |1,hx=>exact#[_,(qAl hx).symm]
  obtain⟨i,rfl⟩:=ex
  exact#[trivial,#[trivial,#[_,rfl]]]
 rintro τ ⟨z,rfl⟩
 refine Ca (fun _=>?_) (fun c=>absurd (show(0:Int)<q0.den from ()) c)
 refine#[q0.num,q0.den,rfl,(),hz.1,AB hz,rfl,rfl,?_]
 rw[qBT]
 have e:eqN 1 (qd q0) (qd q0)=true:=HX 1 _ rfl
 show R (.d (.bl (eqN 1 (qd q0) (qd q0))))
 rw[e]
 exact q
variable (AI:Cal P w K mg base (CXU P w) 2 "_law_is_ratio" ["_law_found"] EU)
theorem Bd:Ad ["_law_found","_law_k","_law_corners","_law_rise","_law_span","_law_behind","_law_wide","_law_ahead"] ["_law_found","_law_k"] (Ab Fe):=scN
include AG AJ in
theorem Kj (F:Fun K "_law_bends" "_law_bends" Fe f fd):Az P w K mg base CX0 2 f fd ["_law_found","_law_k"] (Ah K mg GI):=by
 refine fn3 F Bd (fun ss R U h=>?_) (fun cdv A outer s H E ss R U hr h=>?_)
 .obtain⟨x,cs,m,k,rfl,_⟩:=h;rfl
 obtain⟨x,cs,m,k,rfl,hx,k0,kl,hz,hm,up,q⟩:=h
 refine#[_,(Aa (AH 2 Bd (vK 0))
  (Aa (AH 3 Bd (Aq hr AJ (a2 (AW (AW (vN 2) (vN 1)) Ac) (AW (AW (vN 2) (Ai DN (vN 1) Ac)) Ac))))
  (Aa (AH 4 Bd (Aq hr AJ (a2 (AW (AW (vN 2) (vN 1)) Ac) (AW (AW (vN 2) (Ai DN (vN 1) Ac)) Ac))))
  (Aa (AH 5 Bd (vK 0))
  (Aa (AH 6 Bd (Bs (a2 Ac Ac)))
  (Dk (BE (BV HB (Ai AU (vN 1) Ac) (Co AG (vN 2))) (Aa (AH 5 Bd (Aq hr AJ (a2 (AW (AW (vN 2) (Ai AU (vN 1) Ac)) Ac) (AW (AW (vN 2) (vN 1)) Ac))))
  (Ag (AH 6 Bd (Aq hr AJ (a2 (AW (AW (vN 2) (Ai AU (vN 1) Ac)) Ac) (AW (AW (vN 2) (vN 1)) Ac)))))) Am)
  (Aa (AH 7 Bd (Ai Av (Ai Av (Ai Av (vK 3) (vK 4)) (vK 5)) (vK 6)))
  (Bf (Me Qu (vN 7) (Ai Av (Ai Av (Ai Av (vK 5) (vK 6)) (vK 3)) (vK 4)) (HF _)))))))))),?_]
 have z1:=hz k kl
 have z0:=hz (k-1) ()
 have ek:k-1+1=k:=()
 have s1:=BX (cs:=cs) (m:=m) (k:=k-1) ()
 have u1:=up (k-1) ()
 rw[ek] at s1 u1
 have lv:=l4 z1.2 z0.2 (k:=30000) ∅
 have lt:=l4 z1.1 z0.1 (k:=30000) ∅
 have bv:=l4m lv
 have bt:=l4m lt
 have a1:=OC kl
 have a0:=BM (cs:=cs) (i:=(k:Int)-1) (k-1) () ()
 rcases hx with rfl|rfl
 all_goals
  refine atR a1 ?_
  refine atR a0 ?_
  refine#[_,_,_,_,rfl,lv.up,?_]
  refine atR a1 ?_
  refine atR a0 ?_
  refine#[_,_,_,_,rfl,lt.up,?_]
  refine#[(by show 2<=1000;decide),?_]
  generalize ern:(vv cs k).num*((vv cs (k-1)).den:Int)-(vv cs (k-1)).num*((vv cs k).den:Int)=rn at bv ⊢
  generalize erd:((vv cs k).den:Int)*((vv cs (k-1)).den:Int)=rd at bv ⊢
  generalize esn:(tt cs k).num*((tt cs (k-1)).den:Int)-(tt cs (k-1)).num*((tt cs k).den:Int)=sn at bt ⊢
  generalize esd:((tt cs k).den:Int)*((tt cs (k-1)).den:Int)=sd at bt ⊢
  have crv:=FD (vv cs k) (vv cs (k-1))
  have crt:=FD (tt cs k) (tt cs (k-1))
  rw[ern,erd] at crv
  rw[esn,esd] at crt
  have rd0:rd≠0:=erd ▸ Ju _ _
  have sd0:sd≠0:=esd ▸ Ju _ _
  refine#[fun τ=>∃(bn bd wn wd:Int)(b w:Rat),(∃y0 y1 y2,τ=[y0,y1,y2,some (.d (tp rn rd)),some (.d (tp sn sd)),some (.d (tp bn bd)),some (.d (tp wn wd)),none])/\(bn:Rat)=b*bd/\(wn:Rat)=w*wd/\bd≠0/\wd≠0/\w≠0/\slp cs m k=b/w/\L4 60001 bn bd wn wd,?_,?_]
  .refine Ca (fun c=>?_) (fun c=>?_)
   .have c':k+1<cs.length:=by rw[qAa] at c;omega
    have z2:=hz (k+1) c'
    have a2:=BM (cs:=cs) (i:=(k:Int)+1) (k+1) () c'
    refine atR a2 ?_
    refine atR a1 ?_
    have l2:=l4 z2.2 z1.2 (k:=30000) ∅
    have l3:=l4 z2.1 z1.1 (k:=30000) ∅
    refine#[_,_,_,_,rfl,l2.up,?_]
    refine atR a2 ?_
    refine atR a1 ?_
    refine#[_,_,_,_,rfl,l3.up,?_]
    have b2:=l4m l2
    have b3:=l4m l3
    exact#[_,_,_,_,_,_,#[_,_,_,rfl],FD _ _,FD _ _,Ju _ _,Ju _ _,E6 (up k c'),BX c',b2.1,b2.2,b3.1,b3.2]
   .have c':¬k+1<cs.length:=by rw[qAa] at c;omega
    exact#[m.num,m.den,1,1,m,1,#[_,_,_,rfl],PK m,VE,dne m,∅,∅,(Bb c').trans (NC m),Ar hm.1 ∅,Ar (AB hm) ∅,MK ∅,MK ∅]
  rintro τ ⟨bn,bd,wn,wd,b,w,⟨y0,y1,y2,rfl⟩,hb,hw,bd0,wd0,w0,hs,lb1,lb2,lw1,lw2⟩
  have P1:=Aj bv.1 bt.2
  have P2:=Aj P1 lb2
  have Q1:=Aj lb1 lw2
  have Q2:=Aj Q1 bv.2
  refine#[Ax bv.1 bt.2 ∅,Ax P1 lb2 ∅,Ax P2 lw1 ∅,?_]
  refine#[Ax lb1 lw2 ∅,Ax Q1 bv.2 ∅,Ax Q2 bt.1 ∅,?_]
  have e:=Qo crv crt hb hw rd0 sd0 bd0 wd0 (E6 u1) w0
  rw[<-s1,<-hs] at e
  show R (.d (.bl (!decide (rn*sd*bd*wn=bn*wd*rd*sn))))
  rw[decide_eq_decide.mpr e]
  exact q
variable (DT:Cal P w K mg base (CXU P w) 2 "_law_bends" ["_law_found","_law_k"] GI)
theorem Df:Ad ["_law_found","_law_corner","_law_k"] ["_law_found"] (Ab DM):=scN
include Af AG Ay Cd Bl AI DT in
theorem HP (F:Fun K "_law_is_curve" "_law_is_curve" DM f fd):Az P w K mg base CX0 3 f fd ["_law_found"] (Ah K mg EZ):=by
 refine fn3 F Df (fun ss R U h=>?_) (fun cdv A outer s H E ss R U hr h=>?_)
 .obtain⟨cs,m,rfl,_⟩:=h;rfl
 obtain⟨cs,m,rfl,hc,hz,q⟩:=h
 refine#[_,(Gh (BE (PW3.pt (HM (w_not (Bc (KG .tuple (vN 0) rfl Af rfl Cd qBc))) (HM (BV Qu (Co AG (vN 0)) Ac) (EL (w_not (Bc (KG .tuple (vK 0) rfl Af rfl Cd qBc))))))) (Bf K3) Am)
  (Gh (BE (PW3.pt (HM (w_not (Bc (Aq hr AI (a1 (vK 0))))) (HM (BV HB (AW (vK 0) Ac) Ac) (EL (BV Kv (Co AG (vK 0)) Ac))))) (Bf K3) Am)
  (Aa (GQ (BP PassesOwn.never rfl (BL (PE3.out (vK 0))) (AR (i:=1) Df.nd rfl (Or.inl rfl)) (DP.out (Gh (BE (PW3.pt (HM (w_not (Bc (KG .tuple (vN 1) rfl Af rfl Cd qBc))) (EL (BV Qu (Co AG (vN 1)) Ac)))) (Bf K3) Am)
  (Ag (BE (PW3.pt (HM (w_not (Bc (Aq hr AI (a1 (vK 1))))) (EL (w_not (Bc (Aq hr AI (a1 (vK 1)))))))) (Bf K3) Am))))))
  (Gh (BE (PW3.pt (HM (BV (N8 1 (hu_ hr ∅)) (AW (AW (vK 0) Ac) Ac) (Bs (a2 Ac Ac))) (EL (BV HB (AW (AW (AW (vK 0) Ac) Ac) Ac) Ac)))) (Bf K3) Am)
  (Aa (Qt (BP PassesOwn.never rfl (DG rfl Ay (PA3.out (a2 Ac (Co AG (vK 0))))) (AR (i:=2) Df.nd rfl (Or.inl rfl)) (DP.out (Aa (BE (w_not (Bc (Aq hr Bl (a2 (AW (AW (vK 0) (Ai DN (vN 2) Ac)) Ac) (AW (AW (vK 0) (vN 2)) Ac))))) (Bf K3) Am)
  (Ag (BE (PW3.pt (HM (Bc (Aq hr Bl (a2 (AW (AW (vK 0) (vN 2)) Ac) (AW (AW (vK 0) (Ai DN (vN 2) Ac)) Ac)))) (EL (w_not (Bc (Aq hr DT (a2 (vN 0) (vN 2)))))))) (Bf K3) Am))))))
  (Bf K3)))))),?_]
 have hl:=hz.len
 have c0:=hc.ne
 have a0:=BM (cs:=cs) (i:=0) 0 rfl c0
 refine#[#[trivial,#[trivial,rfl]],?_]
 refine#[?_,?_]
 .refine#[m,rfl,hz.m,?_]
  refine Ca (fun c=>absurd c (LC hc.m0)) (fun _=>?_)
  refine Ca (fun c=>?_) (fun _=>rfl)
  rw[qAa] at c
  omega
 refine#[fun n τ=>∃z,τ=[some (.d (crv cs m)),z,none],#[_,rfl],?_,?_]
 .rintro n τ x hx ⟨z,rfl⟩
  obtain⟨nl,rfl⟩:=Jc hx
  refine#[#[trivial,rfl],?_]
  exact#[_,rfl,(hz.cs n nl).1,_,rfl,(hz.cs n nl).2,_,rfl]
 rintro τ ⟨z,rfl⟩
 refine#[?_,?_]
 .refine atR a0 ?_
  refine#[(by show 2<=1000;decide),rfl,rfl,?_]
  rw[hc.t0]
  refine atR a0 ?_
  exact Ca (fun c=>absurd c (LC hc.v0)) (fun _=>rfl)
 refine#[#[∅,∅,?_,?_],?_]
 .rw[qAa];omega
 .rw[qAa];omega
 refine#[fun n τ=>∃y,τ=[some (.d (crv cs m)),z,y],#[_,rfl],?_,?_]
 .rintro n τ hn ⟨y,rfl⟩
  rw[qAa] at hn
  have n1:n+1<cs.length:=()
  have b0:=BM (cs:=cs) (i:=1+n*1-1) n () ()
  have b1:=BM (cs:=cs) (i:=1+n*1) (n+1) () n1
  have z0:=hz.cs n ()
  have z1:=hz.cs (n+1) n1
  refine atR b0 ?_
  refine atR b1 ?_
  refine#[_,_,_,_,rfl,l4 z0.1 z1.1 ∅,?_]
  refine Nt (fun c=>absurd (V8 (hc.up n n1)) c) (fun _=>?_)
  refine atR b1 ?_
  refine atR b0 ?_
  refine#[_,_,_,_,rfl,l4 z1.2 z0.2 ∅,?_]
  refine Ca (fun c=>absurd c (Oe (hc.vu n n1))) (fun _=>?_)
  refine#[_,cs,m,n+1,?_,Or.inl rfl,(),n1,hz.cs,hz.m,hc.up,?_]
  .rw[show(1+(n:Int)*1)=((n+1:Nat):Int) from ()]
   rfl
  rw[show n+1-1=n from rfl,decide_eq_false (hc.bend n n1)]
  exact#[_,rfl]
 rintro τ ⟨y,rfl⟩
 exact q
variable (Ct:Cal P w K mg base (CXU P w) 3 "_law_is_curve" ["_law_found"] EZ)
theorem Lq:Ad ["_law_script","_law_k"] ["_law_script","_law_k"] (Ab Gp):=scN
include AG in
theorem K7 (F:Fun K "_law_back" "_law_back" Gp f fd):Az P w K mg base CX0 1 f fd ["_law_script","_law_k"] (Ah K mg HA):=by
 refine fn3 F Lq (fun ss R U h=>?_) (fun cdv A outer s H E ss R U hr h=>?_)
 .obtain⟨ns,k,rfl,_⟩:=h;rfl
 obtain⟨ns,k,rfl,k0,q⟩:=h
 refine#[_,(Aa (BE (BV HB (vN 1) (Co AG (vN 0))) (Bf (AW (vN 0) (Ai DN (Ai DN (Co AG (vN 0)) Ac) (vN 1)))) Am)
  (Bf Ac)),?_]
 refine Ca (fun c=>?_) (fun _=>q 0)
 rw[qAa] at c
 refine atR (FC (ms:=ns) (ns.length-1-k.toNat) (by rw[qAa];omega) ()) ?_
 exact q _
variable (BN:Cal P w K mg base (CXU P w) 1 "_law_back" ["_law_script","_law_k"] HA)
theorem C5:Ad ["_law_cell","_law_other","_law_rows","_law_way","_law_at","_law_many"] ["_law_cell","_law_other","_law_rows"] (Ab EK):=scN
include AG Ae in
theorem JF (F:Fun K "_law_moment" "_law_moment" EK f fd):Az P w K mg base CX0 2 f fd ["_law_cell","_law_other","_law_rows"] (Ah K mg F3):=by
 refine fn3 F C5 (fun ss R U h=>?_) (fun cdv A outer s H E ss R U hr h=>?_)
 .obtain⟨c,o,x,ps,n,rfl,_⟩:=h;rfl
 obtain⟨c,o,x,ps,n,rfl,hx,p0,p1,n0,n1,hp,q⟩:=h
 refine#[_,(Aa (AH 3 C5 (Ai A7 (vN 0) Ac))
  (Aa (AH 4 C5 (AW (vN 2) (Ai A7 (Ai A8 (vN 0) Ac) (Co AG (vN 2)))))
  (Aa (BE (BV Kv (vN 3) Ac) (Ag (C6 (pv 4))) Am)
  (Aa (AH 5 C5 (Ai AU Ac (Ai A7 (Ai A8 (vN 1) Ac) (Ai KZ Ac Ac))))
  (Gh (BE (PW3.pt (IX (BV Kv (vN 3) Ac) (Fi (BV Kv (Ai A7 (vN 1) Ac) Ac)))) (Bf (Aq hr Ae (a2 (Ai AU (Ai Av (vK 4) (vN 5)) (vK 4)) (Ai Av (vK 4) (vN 5))))) Am)
  (Aa (BE (BV Kv (vN 3) Ac) (Bf (Aq hr Ae (a2 (Ai Av (vK 4) (Ai A7 (vN 5) Ac)) (Ai Av (vK 4) Ac)))) Am)
  (Bf (Aq hr Ae (a2 (Ai A7 (Ai A8 (vN 0) Ac) (Ai KZ Ac Ac)) (vN 5)))))))))),?_]
 rcases hx with rfl|z
 rotate_left
 .exact z.elim
 have lN:(((ps.map pD).length:Nat):Int)≠0:=by rw[qAa];omega
 have f:=fm (a:=c.fdiv 3) (m:=(((ps.map pD).length:Nat):Int)) (by rw[qAa];omega)
 obtain⟨x,ex,mx⟩:=VB f.1 f.2
 obtain⟨p,pm,rfl⟩:=qA5.mp mx
 obtain⟨wp,p00⟩:=hp p pm
 have pn:=wp.nn p00
 refine#[∅,#[∅,Cn ∅],lN,?_]
 refine atR ex ?_
 refine Ca (fun _=>?_) (fun _=>?_)
 .exact q p (wp.mono ()) p00 (fun h=>h p pm)
 have h9:(0:Int)<10^(9:Int).toNat:=∅
 have h91:(10:Int)^(9:Int).toNat<2^30:=∅
 have h30:(0:Int)<10^(30:Int).toNat:=∅
 have h31:(10:Int)^(30:Int).toNat<2^100:=∅
 have f9:=fm (a:=o.fdiv 2) h9
 have f30:=fm (a:=c.fdiv 3) h30
 refine#[#[∅,Cn ∅],#[∅,∅,∅],qBn h9,?_]
 generalize (o.fdiv 2).fmod (10^(9:Int).toNat)=y at f9 ⊢
 have y0:0<1+y:=()
 have y1:(1+y).natAbs<2^31:=()
 have low:∀A B:Int,0<B->0<=A->A.natAbs<2^(n+40)->B.natAbs<2^(n+40)->R (.d (qd (Rat.divInt A B))):=fun A B b0 a0 a1 b1=>by
  have s:=Jd b0 a1 b1
  exact q ((Rat.divInt A B).num,((Rat.divInt A B).den:Int),Rat.divInt A B) (Wq.of s) (GB b0 a0) (fun _=>rfl)
 have up13:∀{x:Nat},x<2^(n+40)->x<2^13000:=fun h=>Ar h ()
 have m1:=Aj wp.la y1
 have m2:=Aj wp.lb y1
 have P0:=wp.pos
 refine#[Ca (fun _=>#[∅,Ca (fun _=>?_) (fun _=>rfl)]) (fun _=>rfl),?_]
 .have A0:0<=p.1*(1+y)+p.2.1:=Int.add_nonneg (qBZ pn (qCm y0)) (qCm P0)
  have A1:(p.1*(1+y)+p.2.1).natAbs<2^(n+40):=Ar (GS m1 (Ar wp.lb ())) ()
  have B1:(p.2.1*(1+y)).natAbs<2^(n+40):=Ar m2 ()
  exact#[Ax wp.la y1 (),Ax wp.lb y1 (),_,_,rfl,qAU P0 y0,up13 A1,up13 B1,low _ _ (qAU P0 y0) A0 A1 B1]
 refine Ca (fun _=>?_) (fun _=>?_)
 .have f100:=fm (a:=1+y) (show(0:Int)<100 from ∅)
  have z1:((1+y).fmod 100).natAbs<2^31:=()
  have A1:(p.1*(1+y).fmod 100).natAbs<2^(n+40):=Ar (Aj wp.la z1) ()
  have B1:(p.2.1*100).natAbs<2^(n+40):=Ar (Aj (m:=31) wp.lb ∅) ()
  exact#[∅,Ax wp.la z1 (),Ax (n:=31) wp.lb ∅ (),_,_,rfl,qAU P0 ∅,up13 A1,up13 B1,low _ _ (qAU P0 ∅) (qBZ pn f100.1) A1 B1]
 have c1:((c.fdiv 3).fmod (10^(30:Int).toNat)).natAbs<2^101:=()
 have A1:((c.fdiv 3).fmod (10^(30:Int).toNat)).natAbs<2^(n+40):=Ar c1 ()
 have B1:(1+y).natAbs<2^(n+40):=Ar y1 ()
 exact#[#[∅,Cn ∅],#[∅,∅,∅],qBn h30,_,_,rfl,y0,up13 A1,up13 B1,low _ _ y0 f30.1 A1 B1]
variable (Du:Cal P w K mg base (CXU P w) 2 "_law_moment" ["_law_cell","_law_other","_law_rows"] F3)
theorem GG:Ad ["_law_f","_law_g","_law_part","_law_t","_law_whole"] ["_law_f","_law_g","_law_part","_law_t"] (Ab Fg):=scN
include Af AG Cd Bz AA AI in
theorem J9 (F:Fun K "_law_gives" "_law_gives" Fg f fd):Az P w K mg base CX0 3 f fd ["_law_f","_law_g","_law_part","_law_t"] (Ah K mg GO):=by
 refine fn3 F GG (fun ss R U h=>?_) (fun cdv A outer s H E ss R U hr h=>?_)
 .obtain⟨cs,m,ds,k,t,p,rfl,_⟩:=h;rfl
 obtain⟨cs,m,ds,k,t,p,rfl,h1,h2,pp,q⟩:=h
 refine#[_,(Gh (BE (PW3.pt (HM (w_not (Bc (KG .tuple (vN 2) rfl Af rfl Cd qBc))) (EL (BV Qu (Co AG (vN 2)) Ac)))) (Bf FR) Am)
  (Gh (BE (PW3.pt (IX (BV Mc (vK 2) FR) (Fi (BV Mc (vK 2) FR)))) (Bf FR) Am)
  (Aa (BE (BV Mc (vK 2) FR) (Gh (BE (PW3.pt (HM (w_not (Bc (Aq hr AI (a1 (vK 2))))) (EL (BV (N8 1 (hu_ hr ∅)) (vK 2) (vN 3))))) (Bf FR) Am)
  (Bf (Aq hr AA (AV (vK 1) (a2 (vK 1) (vN 3)))))) Am)
  (Gh (BE (PW3.pt (HM (w_not (Bc (Aq hr AI (a1 (vK 2))))) (EL (BV HB (AW (vK 2) Ac) Ac)))) (Bf FR) Am)
  (Aa (BE (BV Mc (vK 2) FR) (Aa (BE (BV (N8 1 (hu_ hr ∅)) (vK 2) (vN 3)) (Bf FR) Am)
  (Bf (Aq hr AA (AV (vK 0) (a2 (vK 0) (vN 3)))))) Am)
  (Gh (BE (PW3.pt (HM (w_not (Bc (Aq hr AI (a1 (vK 2))))) (EL (BV HB (AW (vK 2) Ac) Ac)))) (Bf FR) Am)
  (Aa (AH 4 GG (Aq hr Bz (a2 (vK 2) (vK 2))))
  (Aa (BE (BV Qu (Ai Av (vK 4) (vK 3)) (Ai Av (vK 3) (vK 4))) (Bf FR) Am)
  (Bf (Aq hr Bz (a2 (Aq hr AA (AV (vK 0) (a2 (vK 0) (vK 2)))) (Aq hr AA (AV (vK 1) (a2 (vK 1) (vK 2))))))))))))))),?_]
 have c1:=h1.f
 have c2:=h2.f
 have oc:=c1.r.o
 have od:=c2.r.o
 have lc:=c1.n
 have ld:=c2.n
 cases pp with
 |a h h0 =>
  refine#[#[trivial,rfl],rfl,?_]
  refine#[?_,?_]
  .refine#[t,rfl,h.mono ∅,?_]
   exact Ca (fun c=>absurd c (LC h0)) (fun _=>rfl)
  refine#[rfl,rfl,neT t t (fun c=>absurd rfl c) (fun _=>?_)]
  refine#[_,cs,m,t,_,_,_,_,1400,rfl,Or.inr (Or.inl rfl),oc.ne,(),∅,c1.z.mono ∅,(Wq.of c1.zm).mono ∅,Wq.of h,oc.up,fun A1 B1 w1=>?_]
  exact q A1 B1 (w1.mono ∅)
 |b h h0 =>
  refine#[#[trivial,rfl],rfl,?_]
  refine#[?_,?_]
  .refine#[t,rfl,h.mono ∅,?_]
   exact#[rfl,rfl,neT t t (fun c=>absurd rfl c) (fun _=>rfl)]
  refine#[_,ds,k,t,_,_,_,_,1400,rfl,Or.inr (Or.inl rfl),od.ne,(),∅,c2.z.mono ∅,(Wq.of c2.zm).mono ∅,Wq.of h,od.up,fun A1 B1 w1=>?_]
  exact q A1 B1 (w1.mono ∅)
 |@c s r z1 z2 s0 r0 e =>
  refine#[#[trivial,rfl],rfl,?_]
  refine#[?_,?_]
  .refine#[s,rfl,z1.mono ∅,?_]
   exact Ca (fun c=>absurd c (LC s0)) (fun _=>rfl)
  refine#[?_,?_]
  .refine#[r,rfl,z2.mono ∅,?_]
   exact Ca (fun c=>absurd c (LC r0)) (fun _=>rfl)
  have ws:=Wq.of z1
  have wr:=Wq.of z2
  refine#[_,_,_,_,rfl,ws.l4 wr ∅,?_]
  have w0:=ws.plus wr
  rw[e] at w0
  have wt:Wq 2801 t.num (t.den:Int) t:=by
   rw[<-e]
   exact Wq.of ((z1.add z2).mono ∅)
  refine#[Ax w0.la wt.lb ∅,Ax wt.la w0.lb ∅,?_]
  refine Nt (fun ne=>absurd (w0.cross wt) ne) (fun _=>?_)
  refine#[_,cs,m,s,_,_,_,_,1400,rfl,Or.inr (Or.inl rfl),oc.ne,(),∅,c1.z.mono ∅,(Wq.of c1.zm).mono ∅,Wq.of z1,oc.up,fun A1 B1 w1=>?_]
  refine#[_,ds,k,r,_,_,_,_,1400,rfl,Or.inr (Or.inl rfl),od.ne,(),∅,c2.z.mono ∅,(Wq.of c2.zm).mono ∅,Wq.of z2,od.up,fun A2 B2 w2=>?_]
  have w1:=w1.mono (show 7*1400+4<=20000 from ∅)
  have w2:=w2.mono (show 7*1400+4<=20000 from ∅)
  refine#[_,_,_,_,rfl,w1.l4 w2 ∅,?_]
  exact q _ _ ((w1.plus w2).mono ∅)
variable (D9:Cal P w K mg base (CXU P w) 3 "_law_gives" ["_law_f","_law_g","_law_part","_law_t"] GO)
theorem Fv:Ad ["_law_f","_law_g","_law_t","e"] ["_law_f","_law_g","_law_t"] (Ab Ek):=scN
variable (z_ValueError:mg "ValueError"=none)
variable (m_CurveError:mg "CurveError"=some (.ref K_CurveError))
variable (hn_CurveError:HnC K K_CurveError)
variable (mr_NoTime_CurveError:W.mroIn K K_NoTime (.ref K_CurveError)=some true)
variable (kT_NoTime_ValueError:W.kitOne K (.ref K_NoTime) (.type "ValueError")=some true)
variable (xi_NoTime:ExI K K_NoTime)
variable (kt_NoTime_NoTime:W.kitOne K (.ref K_NoTime) (.ref K_NoTime)=some true)
variable (m_NoRow:mg "NoRow"=some (.ref K_NoRow))
variable (kt_NoTime_NoRow:W.kitOne K (.ref K_NoTime) (.ref K_NoRow)=some false)
variable (m_NoEnd:mg "NoEnd"=some (.ref K_NoEnd))
variable (kt_NoTime_NoEnd:W.kitOne K (.ref K_NoTime) (.ref K_NoEnd)=some false)
variable (m_NoName:mg "NoName"=some (.ref K_NoName))
variable (kt_NoTime_NoName:W.kitOne K (.ref K_NoTime) (.ref K_NoName)=some false)
variable (m_NoText:mg "NoText"=some (.ref K_NoText))
variable (kt_NoTime_NoText:W.kitOne K (.ref K_NoTime) (.ref K_NoText)=some false)
variable (m_NoHouse:mg "NoHouse"=some (.ref K_NoHouse))
variable (kt_NoTime_NoHouse:W.kitOne K (.ref K_NoTime) (.ref K_NoHouse)=some false)
variable (m_NoRatio:mg "NoRatio"=some (.ref K_NoRatio))
variable (kt_NoTime_NoRatio:W.kitOne K (.ref K_NoTime) (.ref K_NoRatio)=some false)
variable (m_NoWay:mg "NoWay"=some (.ref K_NoWay))
variable (kt_NoTime_NoWay:W.kitOne K (.ref K_NoTime) (.ref K_NoWay)=some false)
variable (kt_NoTime_NoCurve:W.kitOne K (.ref K_NoTime) (.ref K_NoCurve)=some false)
include Af m_NoCurve m_NoTime DB z_ValueError m_CurveError hn_CurveError mr_NoTime_CurveError kT_NoTime_ValueError xi_NoTime kt_NoTime_NoTime m_NoRow kt_NoTime_NoRow m_NoEnd kt_NoTime_NoEnd m_NoName kt_NoTime_NoName m_NoText kt_NoTime_NoText m_NoHouse kt_NoTime_NoHouse m_NoRatio kt_NoTime_NoRatio m_NoWay kt_NoTime_NoWay kt_NoTime_NoCurve in
theorem Ji (F:Fun K "_law_refused" "_law_refused" Ek f fd):Az P w K mg base CX0 10 f fd ["_law_f","_law_g","_law_t"] (Ah K mg Fd):=by
 refine fn3 F Fv (fun ss R U h=>?_) (fun cdv A outer s H E ss R U hr h=>?_)
 .obtain⟨fc,fm,gc,gm,t,a,b,c,n,rfl,_⟩:=h;rfl
 obtain⟨fc,fm,gc,gm,t,a,b,c,n,rfl,bth,zt,t0,q⟩:=h
 refine#[_,(Dk (T1 (i:=3) (y0:="NoTime") rfl rfl (fun _ _ z=>z) DB (hr.mono ∅) rfl (AV (vN 0) (a2 (vN 1) (vN 2))) Fv.nd rfl (Or.inl rfl) rfl rfl m_CurveError hn_CurveError (YB m_NoTime mr_NoTime_CurveError) m_NoTime (fun ea oe hO=>(Gh (BE (PW3.pt (HM (Bc (KT hO xi_NoTime kt_NoTime_NoCurve (pv 3) rfl m_NoCurve rfl Af)) (HM (Bc (KT hO xi_NoTime kt_NoTime_NoWay (pv 3) rfl m_NoWay rfl Af)) (HM (Bc (KT hO xi_NoTime kt_NoTime_NoRatio (pv 3) rfl m_NoRatio rfl Af)) (EL (Bc (KT hO xi_NoTime kt_NoTime_NoHouse (pv 3) rfl m_NoHouse rfl Af))))))) (Bf K3) Am)
  (Gh (BE (PW3.pt (HM (Bc (KT hO xi_NoTime kt_NoTime_NoText (pv 3) rfl m_NoText rfl Af)) (HM (Bc (KT hO xi_NoTime kt_NoTime_NoName (pv 3) rfl m_NoName rfl Af)) (HM (Bc (KT hO xi_NoTime kt_NoTime_NoEnd (pv 3) rfl m_NoEnd rfl Af)) (EL (Bc (KT hO xi_NoTime kt_NoTime_NoRow (pv 3) rfl m_NoRow rfl Af))))))) (Bf K3) Am)
  (Bf (UB (KT hO xi_NoTime kt_NoTime_NoTime (pv 3) rfl m_NoTime rfl Af) (Us (VL (T:="ValueError") hO xi_NoTime kT_NoTime_ValueError (pv 3) rfl z_ValueError Iv rfl Af))))))))
  (Bf K3)),?_]
 refine#[fun _=>False,?_,fun _ z=>z.elim]
 refine#[fc,fm,gc,gm,t,a,b,c,n,rfl,bth,zt,fun z=>absurd t0 (qAM.mpr z),fun _=>#[rfl,fun ea=>?_]]
 refine#[#[rfl,rfl,rfl,rfl,rfl],#[rfl,rfl,rfl,rfl,rfl],?_]
 exact#[rfl,rfl,q]
variable (CZ:Cal P w K mg base (CXU P w) 10 "_law_refused" ["_law_f","_law_g","_law_t"] Fd)
theorem AX:Ad ["_law_script","_law_some","_law_pairs_here","_law_k","_law_cell","_law_t","_law_many","_law_part"] ["_law_script","_law_some"] (Ab E7):=scN
variable (Ri:mg "max"=none)
variable (QD:mg "min"=none)
include AG Ay As Ae BN Du Ri QD in
theorem Ku (F:Fun K "_law_pairs" "_law_pairs" E7 f fd):Az P w K mg base CX0 3 f fd ["_law_script","_law_some"] (Ah K mg Gr):=by
 refine fn3 F AX (fun ss R U h=>?_) (fun cdv A outer s H E ss R U hr h=>?_)
 .obtain⟨ns,ps,rfl,_⟩:=h;rfl
 obtain⟨ns,ps,rfl,p0,pl,nl,g,q⟩:=h
 refine#[_,(Aa (AH 2 AX (F9 (a1 (Bs (a2 (Bs (a2 Ac Ac)) (Bs (a2 Ac Ac)))))))
  (Aa (BE (BV Kv (Ai A7 (Aq hr As (a2 (vN 0) Ac)) Ac) Ac) (Aa (GQ (BP PassesOwn.never rfl (BL (PE3.out (RY (vN 0) (Il Ac) (Il Ac)))) (AR (i:=4) AX.nd rfl (Or.inl rfl)) (DP.out (Aa (AH 5 AX (Aq hr Ae (a2 (Ai A7 (vN 4) Ac) (Ai AU Ac (Ai A7 (Ai A8 (vN 4) Ac) Ac)))))
  (Aa (AH 6 AX (Ai AU Ac (Ai A7 (Ai A8 (vN 4) Ac) Ac)))
  (Aa (AH 7 AX (Ai A7 (Ai A8 (vN 4) Ac) (Ai AU (vN 6) Ac)))
  (Ag (DQ (Be (DR qAu qAs qAt AF (pv 2) (AL (PE3.out (Bs (a2 (vN 5) (Aq hr Ae (a2 (Ai Av (vK 5) (vN 7)) (Ai Av (vK 5) (vN 6))))))) Bn)))))))))))
  (Ag (C6 (pv 2)))) Am)
  (Aa (UT (BP PassesOwn.never rfl (Oq rfl Ay (PA3.out (AV Ac (a2 (Hs (XJ rfl) rfl Ri L3.boot_max (a2 Ac (Hs (XA rfl) rfl QD L3.boot_min (a2 (Co AG (vN 0)) Ac)))) Ac)))) (AR (i:=3) AX.nd rfl (Or.inl rfl)) (DP.out (Aa (AH 4 AX (Aq hr BN (a2 (vN 0) (vN 3))))
  (Aa (AH 5 AX (Aq hr Du (AV (Aq hr BN (a2 (vN 0) (Ai AU (vN 3) Ac))) (a2 (vN 4) (vN 1)))))
  (Aa (AH 6 AX (Ai AU Ac (Ai A7 (Ai A8 (vN 4) Ac) (Ai KZ Ac Ac))))
  (Ag (DQ (Be (DR qAu qAs qAt AF (pv 2) (AL (PE3.out (Bs (a2 (vN 5) (Aq hr Ae (a2 (Ai Av (vK 5) (Ai A7 (Ai A8 (vN 4) Ac) (Ai AU (vN 6) Ac))) (Ai Av (vK 5) (vN 6))))))) Bn)))))))))))
  (Ag (C6 (pv 2)))))),?_]
 have u13:∀{x:Nat},x<2^200->x<2^13000:=fun h=>Ar h ∅
 have g0:∀p∈[((0:Rat),(0:Rat))],Pr p:=fun p hp=>by
  rw[qAF.mp hp]
  exact#[qAi,qAi,Sz.zero.mono ∅,Sz.zero.mono ∅]
 have key:∀(t:Rat)(x m:Int),0<=t->Sz 160 t->0<=x->x<=m->0<m->m.natAbs<2^31->0<(t.den:Int)*m/\(t.num*x).natAbs<2^200/\((t.den:Int)*m).natAbs<2^200/\Pr (t,Rat.divInt (t.num*x) ((t.den:Int)*m)):=fun t x m t0 z x0 xm m0 mb=>by
  have h:=UX t0 x0 xm m0
  have b0:0<(t.den:Int)*m:=qAU (by have:=t.den_pos;omega) m0
  have a1:(t.num*x).natAbs<2^(160+31):=Aj z.1 (show x.natAbs<2^31 from ())
  have a2:((t.den:Int)*m).natAbs<2^(160+31):=Aj (AB z) mb
  exact#[b0,Ar a1 ∅,Ar a2 ∅,h.1,h.2,z.mono ∅,(Jd b0 a1 a2).mono ∅]
 refine#[(by show 2<=1000;decide),(by show 2<=1000;decide),(by show 2<=1000;decide),by show 1<=1000;decide,?_]
 refine#[ns,0,rfl,∅,∅,?_]
 refine Ca (fun _=>?_) (fun _=>?_)
 .obtain⟨ms,em,ml⟩:=QV ns (b:=4) (c:=24) ∅ ∅
  show Je _ (F0 (ns.map D.int) (some 4) (some 24)) _ _ _
  rw[em]
  refine#[fun i τ=>∃(L:List (Rat×Rat))(y3 y4 y5 y6 y7:Option S),τ=[some (.r (ns.map D.int)),some (.r (ps.map pD)),some (.l (L.map prD)),y3,y4,y5,y6,y7]/\L.length<=1+i/\(∀p∈L,Pr p)/\i<=20,#[[(0,0)],_,_,_,_,_,rfl,qAc _,g0,∅],?_,?_]
  .rintro i τ x hx ⟨L,y3,y4,y5,y6,y7,rfl,ll,lp,il⟩
   obtain⟨c,hc,rfl⟩:=Bq hx
   have ci:=(qAg.mp hc).1
   have f1:=fm (a:=c) (show(0:Int)<2000 from ∅)
   have f2:=fm (a:=c.fdiv 2000) (show(0:Int)<144 from ∅)
   have f3:=fm (a:=c.fdiv 288000) (show(0:Int)<100 from ∅)
   have f4:=fm (a:=c.fdiv 28800000) (show(0:Int)<1+(c.fdiv 288000).fmod 100+1 from ())
   refine#[∅,#[∅,Cn ∅],∅,_,_,rfl,(),u13 (Ar (show _<2^11 from ()) ∅),u13 (Ar (show _<2^9 from ()) ∅),?_]
   have zt:Sz 160 (Rat.divInt (c.fmod 2000) (1+(c.fdiv 2000).fmod 144)):=(Jd (k:=11) () () ()).mono ∅
   have t0:=GB (show 0<1+(c.fdiv 2000).fmod 144 from ()) f1.1
   generalize Rat.divInt (c.fmod 2000) (1+(c.fdiv 2000).fmod 144)=t at zt t0
   refine#[#[∅,Cn ∅],∅,?_]
   refine#[#[∅,Cn ∅],(),?_]
   obtain⟨k1,k2,k3,k4⟩:=key t ((c.fdiv 28800000).fmod (1+(c.fdiv 288000).fmod 100+1)) (1+(c.fdiv 288000).fmod 100) t0 zt f4.1 () () ()
   refine#[Ax zt.1 (show _<2^31 from ()) ∅,Ax (AB zt) (show _<2^31 from ()) ∅,_,_,rfl,k1,u13 k2,u13 k3,(by show 2<=1000;decide),?_]
   refine#[by rw[qAa];omega,L++[(t,_)],_,_,_,_,_,by rw[qAC];rfl,by rw[qAn];show L.length+1<=_;omega,fun p hp=>?_,()]
   rcases qAA.mp hp with z|z
   .exact lp p z
   .rw[qAF.mp z];exact k4
  rintro τ ⟨L,y3,y4,y5,y6,y7,rfl,ll,lp,il⟩
  exact q L () lp
 have st:∃M:Int,(if (if (16:Int)<(((ns.map D.int).length:Nat):Int) then (16:Int) else (((ns.map D.int).length:Nat):Int))>2 then (if (16:Int)<(((ns.map D.int).length:Nat):Int) then (16:Int) else (((ns.map D.int).length:Nat):Int)) else 2)=M/\0<=M/\M<=16:=#[_,rfl,by split<;>split<;>omega,by split<;>split<;>omega]
 obtain⟨M,eM,M0,M1⟩:=st
 have r2:=U1 (M:=M) () ()
 have rl:(Builtin.Range.rangeSize 0 M 2).toNat<=16:=by
  refine qBz fun z=>?_
  have:=r2.2 16 z
  omega
 rw[<-eM] at r2 rl
 refine#[r2.1,?_]
 refine#[fun i τ=>∃(L:List (Rat×Rat))(y3 y4 y5 y6 y7:Option S),τ=[some (.r (ns.map D.int)),some (.r (ps.map pD)),some (.l (L.map prD)),y3,y4,y5,y6,y7]/\L.length<=1+i/\(∀p∈L,Pr p),#[[(0,0)],_,_,_,_,_,rfl,qAc _,g0],?_,?_]
 .rintro i τ hn ⟨L,y3,y4,y5,y6,y7,rfl,ll,lp⟩
  have hn:=r2.2 i hn
  rw[eM] at hn
  refine#[ns,0+i*2,rfl,(),fun c=>?_]
  refine#[ns,0+i*2+1,rfl,(),fun w=>?_]
  refine#[w,c,_,ps,110,rfl,Or.inl rfl,p0,pl,∅,∅,fun p hp=>#[(g p hp).1,(g p hp).2.1],fun p wp t0 ep=>?_]
  rw[ep (fun p hp=>(g p hp).2.2)]
  have zt:Sz 160 p.2.2:=by
   have e:=ep (fun p hp=>(g p hp).2.2)
   have e1:p.1=p.2.2.num/\p.2.1=(p.2.2.den:Int):=by
    have e:D.tup [.int p.1,.int p.2.1]=D.tup [.int p.2.2.num,.int (p.2.2.den:Int)]:=e
    simp at e
    exact e
   have la:=wp.la
   have lb:=wp.lb
   rw[e1.1] at la
   rw[e1.2] at lb
   exact Sz.mono #[la,lb] ∅
  have f3:=fm (a:=c.fdiv 3) (show(0:Int)<10^(9:Int).toNat from ∅)
  have f4:=fm (a:=c.fdiv 2) (show(0:Int)<1+(c.fdiv 3).fmod (10^(9:Int).toNat)+1 from ())
  have h91:(10:Int)^(9:Int).toNat<2^30:=∅
  refine#[#[∅,Cn ∅],#[∅,∅,∅],∅,?_]
  refine#[#[∅,Cn ∅],(),?_]
  obtain⟨k1,k2,k3,k4⟩:=key p.2.2 ((c.fdiv 2).fmod (1+(c.fdiv 3).fmod (10^(9:Int).toNat)+1)) (1+(c.fdiv 3).fmod (10^(9:Int).toNat)) t0 zt f4.1 () () ()
  refine#[Ax zt.1 (show _<2^31 from ()) ∅,Ax (AB zt) (show _<2^31 from ()) ∅,_,_,rfl,k1,u13 k2,u13 k3,(by show 2<=1000;decide),?_]
  refine#[by rw[qAa];omega,L++[(p.2.2,_)],_,_,_,_,_,by rw[qAC];rfl,by rw[qAn];show L.length+1<=_;omega,fun p hp=>?_]
  rcases qAA.mp hp with z|z
  .exact lp p z
  .rw[qAF.mp z];exact k4
 rintro τ ⟨L,y3,y4,y5,y6,y7,rfl,ll,lp⟩
 exact q L (qAL ll ()) lp
variable (DY:Cal P w K mg base (CXU P w) 3 "_law_pairs" ["_law_script","_law_some"] Gr)
theorem DJ:Ad ["_law_script","_law_both","_law_f","_law_g","_law_one","_law_other","_law_found","_law_some","_law_t","_law_s","_law_rest","_law_worth","_law_dues","_law_due","_law_given"] ["_law_script"] (Ab KP):=scN
variable (LB:mg "list"=none)
include Cq HY DB Ae Bl AJ Bz FO AA Ct BN D9 CZ DY LB in
theorem VA (F:Fun K "law" "law" KP f fd):Az P w K mg base CX0 12 f fd ["_law_script"] (Ah K mg VH):=by
 refine fn3 F DJ (fun ss R U h=>?_) (fun cdv A outer s H E ss R U hr h=>?_)
 .obtain⟨ns,rfl,_⟩:=h;rfl
 obtain⟨ns,rfl,hl,q⟩:=h
 refine#[_,(Aa (AH 1 DJ (Aq hr FO (a1 (vN 0))))
  (Aa (AH 2 DJ (vK 1))
  (Aa (AH 3 DJ (vK 1))
  (Aa (AH 4 DJ (Aq hr Cq (a2 (MZ (vK 2) rfl LB) (vK 2))))
  (Aa (AH 5 DJ (Aq hr Cq (a2 (MZ (vK 3) rfl LB) (vK 3))))
  (Aa (AH 6 DJ (Aq hr HY (a2 (vN 4) (vN 5))))
  (Aa (BE (w_not (Bc (Aq hr Ct (a1 (vN 6))))) (Bf K3) Am)
  (Aa (BE (w_not (Bc (Aq hr CZ (AV (vN 4) (a2 (vN 5) (Aq hr Ae (a2 (Ai DN (Kt Ac) (Ai A7 (Aq hr BN (a2 (vN 0) Ac)) (Ai KZ Ac Ac))) Ac))))))) (Bf K3) Am)
  (Aa (AH 7 DJ (Vk (GU (N:=["_law_corner"]) (idx:=[]) (Ba.mk' (Ab KP) ["_law_script","_law_both","_law_f","_law_g","_law_one","_law_other","_law_found","_law_some","_law_t","_law_s","_law_rest","_law_worth","_law_dues","_law_due","_law_given"] rfl rfl (by decide +kernel)) rfl (BL (PE3.out (vK 2))) Dz (fun cl C s₀ H₀ fp=>Cf) (fun cl C s₀ H₀ fp=>(vK 0))) (GU (N:=["_law_corner"]) (idx:=[]) (Ba.mk' (Ab KP) ["_law_script","_law_both","_law_f","_law_g","_law_one","_law_other","_law_found","_law_some","_law_t","_law_s","_law_rest","_law_worth","_law_dues","_law_due","_law_given"] rfl rfl (by decide +kernel)) rfl (BL (PE3.out (vK 3))) Dz (fun cl C s₀ H₀ fp=>Cf) (fun cl C s₀ H₀ fp=>(vK 0)))))
  (Aa (Vw (BP PassesOwn.never rfl (BL (PE3.out (Aq hr DY (a2 (vN 0) (vN 7))))) (Lm rfl (Cz (AR (i:=8) DJ.nd rfl (Or.inl rfl)) (Cz (AR (i:=9) DJ.nd rfl (Or.inl rfl)) IM))) (DP.out (Aa (AH 10 DJ (Aq hr AJ (a2 (vN 8) (vN 9))))
  (Aa (AH 11 DJ (Aq hr AA (AV (vK 6) (a2 (vK 6) (vN 8)))))
  (Aa (AH 12 DJ (F9 (a2 (Aq hr AA (AV (vK 2) (a2 (vK 2) (vN 8)))) (Aq hr AA (AV (vK 3) (a2 (vK 3) (vN 8)))))))
  (Aa (DQ (Be (DR qAu qAs qAt AF (pv 12) (AL (PE3.out (Aq hr Bz (a2 (Aq hr AA (AV (vK 2) (a2 (vK 2) (vN 9)))) (Aq hr AA (AV (vK 3) (a2 (vK 3) (vN 10))))))) Bn))))
  (Aa (DQ (Be (DR qAu qAs qAt AF (pv 12) (AL (PE3.out (Aq hr Bz (a2 (Aq hr AA (AV (vK 3) (a2 (vK 3) (vN 9)))) (Aq hr AA (AV (vK 2) (a2 (vK 2) (vN 10))))))) Bn))))
  (Aa (OR (BP PassesOwn.never rfl (BL (pv 12)) (AR (i:=13) DJ.nd rfl (Or.inl rfl)) (DP.out (Ag (BE (Bc (Aq hr Bl (a2 (vN 13) (vN 11)))) (Bf K3) Am)))))
  (Aa (AH 14 DJ (Aq hr D9 (AV (vN 2) (AV (vN 3) (a2 (Aq hr DB (AV (vN 4) (a2 (vN 5) (vN 8)))) (vN 8))))))
  (Ag (BE (PW3.pt (HM (BV Mc (vN 14) FR) (EL (BV Qu (Ai Av (vK 14) (vK 11)) (Ai Av (vK 11) (vK 14)))))) (Bf K3) Am))))))))))))
  (Bf K3))))))))))),?_]
 refine#[ns,rfl,fun cs m ds k h1 h2=>?_]
 have c1:=h1.f
 have c2:=h2.f
 have oc:=c1.r.o
 have od:=c2.r.o
 have lc:=c1.n
 have ld:=c2.n
 refine#[_,cs,m,rfl,Or.inr rfl,#[(),c1.z.mono ∅,c1.zm.mono ∅],fun _=>?_,fun z=>absurd #[oc,c1.r.m0] z]
 refine#[_,ds,k,rfl,Or.inr rfl,#[(),c2.z.mono ∅,c2.zm.mono ∅],fun _=>?_,fun z=>absurd #[od,c2.r.m0] z]
 have hc:=GD oc c1.r.m0
 have hd:=GD od c2.r.m0
 have n1:=Jq cs m (cs.length-1)
 have n2:=Jq ds k (ds.length-1)
 have n3:=oc.ne
 have n4:=od.ne
 have wm:Wq 60 m.num (m.den:Int) m:=Wq.of c1.zm
 have wk:Wq 60 k.num (k.den:Int) k:=Wq.of c2.zm
 have okc:Ord (kp cs m (cs.length-1)):=#[hc.ne,hc.t0,hc.v0,hc.up,hc.vu]
 have okd:Ord (kp ds k (ds.length-1)):=#[hd.ne,hd.t0,hd.v0,hd.up,hd.vu]
 have bnd:(2*((kp cs m (cs.length-1)).length*(kp ds k (ds.length-1)).length)+2*(kp cs m (cs.length-1)).length+2*(kp ds k (ds.length-1)).length+3)*((kp cs m (cs.length-1)).length+(kp ds k (ds.length-1)).length)<=40000:=by
  have:=qCt (show(kp cs m (cs.length-1)).length<=13 from ()) (show(kp ds k (ds.length-1)).length<=13 from ())
  exact qAL (qCt (show _<=400 from ()) (show _<=27 from ())) ∅
 refine#[_,m,_,k,65,70,132,rfl,#[#[okc,c1.r.m0],#[okd,c2.r.m0],c1.ls.kept oc,c2.ls.kept od,∅,bnd,Ti c1.z _ (),Ti c2.z _ (),∅,∅,∅,()],fun C M hC eM iC zC lC=>?_]
 have oC:Ord C:=#[hC.ne,hC.t0,hC.v0,hC.up,hC.vu]
 have zK:=zC.szk oC () (qAc _)
 refine#[C,M,rfl,hC,#[zK.len,zK.cs.mono ∅,zK.m.mono ∅],?_]
 refine#[ns,0,rfl,∅,fun v=>?_]
 have h20:(0:Int)<10^(20:Int).toNat:=∅
 have h21:(10:Int)^(20:Int).toNat<2^100:=∅
 have f:=fm (a:=v) h20
 refine#[#[∅,∅,∅],qBn h20,?_]
 have x1:(-1-v.fmod (10^(20:Int).toNat)).natAbs<2^101:=()
 have ng:Rat.divInt (-1-v.fmod (10^(20:Int).toNat)) 7<0:=by
  have:=Jb (a:=(-1-v.fmod (10^(20:Int).toNat))) (b:=0) (show(0:Int)<7 from ∅) ()
  rw[qCl] at this
  exact this
 refine#[(-1-v.fmod (10^(20:Int).toNat)),7,rfl,∅,Ar x1 ∅,Ar (k:=4) ∅ ∅,?_]
 have zz:Sz 120 (Rat.divInt (-1-v.fmod (10^(20:Int).toNat)) 7):=Jd ∅ (Ar x1 ∅) (Ar (k:=4) ∅ ∅)
 have ph:∀n,n<=1600->_:=fun n (hn:n<=1600)=>(#[okc,okd,c1.ls.kept oc,c2.ls.kept od,∅,(),(),()]:Ord (kp cs m (cs.length-1))/\Ord (kp ds k (ds.length-1))/\LS 65 70 132 (kp cs m (cs.length-1)) m/\LS 65 70 132 (kp ds k (ds.length-1)) k/\65+70+132+1<=1800/\(kp cs m (cs.length-1)).length<=5000/\(kp ds k (ds.length-1)).length<=5000/\65+n+1<=1700)
 refine#[_,m,_,k,_,65,70,132,120,rfl,ph 120 ∅,zz,ng,?_]
 clear zz ng x1
 have item:∀(cs:Cs)(i:Nat)(x:D),(cs.map cd)[i]? = some x->∃c:Rat×Rat,cs[i]? = some c/\x=cd c:=fun cs i x hx=>Bq hx
 have tqd:∀cs:Cs,(cs.map fun c=>qd c.1)=(tq cs).map pD:=fun cs=>by
  unfold tq
  rw[qBW]
  rfl
 have gq:∀(n:Nat)(cs:Cs),Ord cs->(∀i,i<cs.length->Sz n (tt cs i))->∀p∈tq cs,Wq n p.1 p.2.1 p.2.2/\0<=p.2.2/\pD p=qd p.2.2:=fun n cs o z p hp=>by
  obtain⟨c,hc,rfl⟩:=qA5.mp hp
  obtain⟨k,hk,rfl⟩:=qBm.mp hc
  have:=Dn o hk
  have z:=z k hk
  rw[(FW hk).1] at z this
  exact#[Wq.of z,this,rfl]
 have tl:∀cs:Cs,(tq cs).length=cs.length:=fun cs=>by unfold tq;rw[qAa]
 refine#[cs.map fun c=>some (qd c.1),by rw[qAa,qAa],?_,?_,?_]
 .intro i x hx
  obtain⟨c,hc,rfl⟩:=item cs i x hx
  show(cs.map _)[i]? = _
  rw[qAe,hc]
  rfl
 .rw[qAa];omega
 refine#[ds.map fun c=>some (qd c.1),by rw[qAa,qAa],?_,?_,?_]
 .intro i x hx
  obtain⟨c,hc,rfl⟩:=item ds i x hx
  show(ds.map _)[i]? = _
  rw[qAe,hc]
  rfl
 .rw[qAa];omega
 rw[DA cs (fun c=>qd c.1),DA ds (fun c=>qd c.1)]
 refine#[by rw[qAa,qAa];omega,?_]
 rw[tqd cs,tqd ds,<-qAC]
 generalize eP:tq cs++tq ds=ps
 have pl:ps.length=cs.length+ds.length:=by rw[<-eP,qAn,tl,tl]
 have g0:∀p∈ps,Wq 110 p.1 p.2.1 p.2.2/\0<=p.2.2/\pD p=qd p.2.2:=fun p hp=>by
  rw[<-eP] at hp
  rcases qAA.mp hp with hp|hp
  .have:=gq 65 cs oc (fun i hi=>(c1.z i hi).1) p hp
   exact#[this.1.mono ∅,this.2]
  .have:=gq 65 ds od (fun i hi=>(c2.z i hi).1) p hp
   exact#[this.1.mono ∅,this.2]
 refine#[ns,ps,rfl,(),(),(),g0,fun L ll lp=>?_]
 refine#[_,rfl,fun n τ=>∃(y8 y9 y10 y11 y12 y13 y14:Option S),τ=[some (.r (ns.map D.int)),some (.l [.tup [.lst (cs.map cd),qd m],.tup [.lst (ds.map cd),qd k]]),some (.d (.tup [.lst (cs.map cd),qd m])),some (.d (.tup [.lst (ds.map cd),qd k])),some (.d (crv (kp cs m (cs.length-1)) m)),some (.d (crv (kp ds k (ds.length-1)) k)),some (.d (crv C M)),some (.l (ps.map pD)),y8,y9,y10,y11,y12,y13,y14],#[_,_,_,_,_,_,_,rfl],?_,?_]
 .rintro n τ x hx ⟨y8,y9,y10,y11,y12,y13,y14,rfl⟩
  obtain⟨p,hp,rfl⟩:=Bq hx
  obtain⟨s0,st,z1,z2⟩:=lp p (qAE hp)
  obtain⟨t,s⟩:=p
  have t0:0<=t:=qAy s0 st
  refine#[qd t,qd s,rfl,?_]
  have w1:Wq 200 t.num (t.den:Int) t:=Wq.of z1
  have w2:Wq 200 s.num (s.den:Int) s:=Wq.of z2
  refine#[_,_,_,_,rfl,w1.l4 w2 ∅,?_]
  have wr:=w1.minus w2
  refine#[_,C,M,t,_,_,_,_,2000,rfl,Or.inl rfl,hC.ne,(),∅,zK.cs.mono ∅,(Wq.of zK.m).mono ∅,w1.mono ∅,hC.up,fun A0 B0 x0=>?_]
  have x0:=x0.mono (show 7*2000+4<=60000 from ∅)
  have IJ:IsJ cs m ds k t (val C M t):=(iC t t0).cong t0 (fun x _=>(ET oc x).1) (fun x _=>(ET od x).1)
  refine#[_,cs,m,t,_,_,_,_,1400,rfl,Or.inr (Or.inl rfl),oc.ne,(),∅,c1.z.mono ∅,(Wq.of c1.zm).mono ∅,w1.mono ∅,oc.up,fun A1 B1 x1=>?_]
  refine#[_,ds,k,t,_,_,_,_,1400,rfl,Or.inr (Or.inl rfl),od.ne,(),∅,c2.z.mono ∅,(Wq.of c2.zm).mono ∅,w1.mono ∅,od.up,fun A2 B2 x2=>?_]
  refine#[by show 2<=1000;decide,?_]
  refine#[_,cs,m,s,_,_,_,_,1400,rfl,Or.inr (Or.inl rfl),oc.ne,(),∅,c1.z.mono ∅,(Wq.of c1.zm).mono ∅,w2.mono ∅,oc.up,fun A3 B3 x3=>?_]
  refine#[_,ds,k,(t-s),_,_,_,_,1400,rfl,Or.inr (Or.inl rfl),od.ne,(),∅,c2.z.mono ∅,(Wq.of c2.zm).mono ∅,wr.mono ∅,od.up,fun A4 B4 x4=>?_]
  have x3:=x3.mono (show 7*1400+4<=20000 from ∅)
  have x4:=x4.mono (show 7*1400+4<=20000 from ∅)
  refine#[_,_,_,_,rfl,x3.l4 x4 ∅,?_]
  refine#[by show 2<1000000;decide,?_]
  refine#[_,ds,k,s,_,_,_,_,1400,rfl,Or.inr (Or.inl rfl),od.ne,(),∅,c2.z.mono ∅,(Wq.of c2.zm).mono ∅,w2.mono ∅,od.up,fun A5 B5 x5=>?_]
  refine#[_,cs,m,(t-s),_,_,_,_,1400,rfl,Or.inr (Or.inl rfl),oc.ne,(),∅,c1.z.mono ∅,(Wq.of c1.zm).mono ∅,wr.mono ∅,oc.up,fun A6 B6 x6=>?_]
  have x5:=x5.mono (show 7*1400+4<=20000 from ∅)
  have x6:=x6.mono (show 7*1400+4<=20000 from ∅)
  refine#[_,_,_,_,rfl,x5.l4 x6 ∅,?_]
  refine#[by show 3<1000000;decide,?_]
  have y1:=x3.plus x4
  have y2:=x5.plus x6
  obtain⟨us,eu,gu⟩:∃us:List (Int×Int×Rat),[tp A1 B1,tp A2 B2]++[tp (A3*B4+A4*B3) (B3*B4)]++[tp (A5*B6+A6*B5) (B5*B6)]=us.map pD/\∀u∈us,Wq 60000 u.1 u.2.1 u.2.2/\val C M t<=u.2.2:=by
   refine#[[(A1,B1,val cs m t),(A2,B2,val ds k t),(A3*B4+A4*B3,B3*B4,val cs m s+val ds k (t-s)),(A5*B6+A6*B5,B5*B6,val ds k s+val cs m (t-s))],rfl,fun u hu=>?_]
   simp only[qAo,qBb,or_false] at hu
   rcases hu with rfl|rfl|rfl|rfl
   .exact#[x1.mono ∅,IJ.1.1]
   .exact#[x2.mono ∅,IJ.1.2.1]
   .exact#[y1.mono ∅,IJ.1.2.2 s s0 st]
   .refine#[y2.mono ∅,?_]
    have:=IJ.1.2.2 (t-s) ⋯ ⋯
    rw[show t-(t-s)=s from ⋯] at this
    show _<=val ds k s+val cs m (t-s)
    grind
  rw[eu]
  refine#[fun n τ=>∃(y13:Option S),τ=[some (.r (ns.map D.int)),some (.l [.tup [.lst (cs.map cd),qd m],.tup [.lst (ds.map cd),qd k]]),some (.d (.tup [.lst (cs.map cd),qd m])),some (.d (.tup [.lst (ds.map cd),qd k])),some (.d (crv (kp cs m (cs.length-1)) m)),some (.d (crv (kp ds k (ds.length-1)) k)),some (.d (crv C M)),some (.l (ps.map pD)),some (.d (qd t)),some (.d (qd s)),some (.d (tp (t.num*(s.den:Int)-s.num*(t.den:Int)) ((t.den:Int)*(s.den:Int)))),some (.d (tp A0 B0)),some (.r (us.map pD)),y13,y14],#[_,rfl],?_,?_]
  .rintro n τ x hx ⟨y13,rfl⟩
   obtain⟨u,hu,rfl⟩:=Bq hx
   obtain⟨wu,le⟩:=gu u (qAE hu)
   refine#[_,_,_,_,rfl,wu.l4 x0 ∅,?_]
   exact Ca (fun c=>absurd ((wu.lt_iff x0).mp c) ⋯) (fun _=>#[_,rfl])
  rintro τ ⟨y13,rfl⟩
  refine#[_,m,_,k,t,65,70,132,200,rfl,ph 200 ∅,z1,fun _ pt pp ij=>?_,fun z=>absurd t0 z]
  refine#[cs,m,ds,k,t,pt,rfl,h1,h2,pp.mono ∅,fun A B w=>?_]
  have eg:gv (kp cs m (cs.length-1)) m (kp ds k (ds.length-1)) k pt=gv cs m ds k pt:=by
   cases pp with
   |a=>exact(ET oc _).1
   |b=>exact(ET od _).1
   |@c s r =>
    show val (kp cs m (cs.length-1)) m s+val (kp ds k (ds.length-1)) k r=val cs m s+val ds k r
    rw[(ET oc _).1,(ET od _).1]
  have e:=(iC t t0).uniq ij
  rw[eg] at e
  rw[<-e] at w
  refine#[Ax w.la x0.lb ∅,Ax x0.la w.lb ∅,?_]
  exact Nt (fun ne=>absurd (w.cross x0) ne) (fun _=>#[_,_,_,_,_,_,_,rfl])
 rintro τ ⟨y8,y9,y10,y11,y12,y13,y14,rfl⟩
 exact q
end
abbrev Due (l:W.OpenLaw)(w:World)(K:W.Frag)(mg:Str->Option Value)(fa:Addr):Prop:=∃fd:FuncData,(∀(s:Shared)(v:Value),BindsTo s fd #[[v],[]] [("_law_script",v)])/\∀base:Heap,K.In base->base.Ns mainGlobals mg->∃mg',Az l.prog w K mg base CX0 12 fa fd ["_law_script"] (Ah K mg' Nh)
theorem all_mk {l:W.OpenLaw}{w:World}{K:W.Frag}{h:Heap}{mg:Str->Option Value}{fa:Addr}(X:K.In h) (G:h.Ns mainGlobals mg) (hfa:mg "law"=some (.ref fa)) (fx:Facts l K):Due l w K mg fa:=by
 obtain @⟨kV,dc,pm,cd,ct,oc,od,an,sl,fL,K_CurveError,K_NoRatio,K_NoCurve,K_NoTime,K_NoHouse,K_NoWay,K_NoText,K_NoName,K_NoEnd,K_NoRow,gt_NOUGHT_0,gt_NOUGHT_1,ga_NOUGHT_2,gd_NOUGHT_3,gn_NOUGHT_3,gs_NOUGHT_3,r0,r1,r2,r3,r4,r5,r6,r7,r8,r9,r10,r11,r12,r13,r14,r15,r16,r17,r18,r19,r20,r21,r22,r23,r24,r25,r26,r27,r28,r29,r30,r31,r32,r33,r34,r35,r36,r37,r38,r39,r40,r41,r42,r43,r44,r45,r46,r47,r48,r49,r50,r51,r52,r53,r54,r55,r56,r57,r58,r59,r60,r61,r62,r63,r64,r65,r66,r67,r68,r69,r70,r71,aL,lL,cL,kL,z0,z1,z2,z3,z4,z5,z6,z7,z8,z9,z10,z11,z12,n_CurveError,n_NoRatio,n_NoCurve,n_NoTime,n_NoHouse,n_NoWay,n_NoText,n_NoName,n_NoEnd,n_NoRow,n_NOUGHT,n_gl_NOUGHT_6,x_NoCurve,x_NoTime,h0_CurveError,h1_CurveError,h2_CurveError,mr_NoTime_CurveError,kT_NoTime_ValueError,i0_NoTime,i1_NoTime,i2_NoTime,i3_NoTime,i4_NoTime,i5_NoTime,i6_NoTime,i7_NoTime,kt_NoTime_NoTime,kt_NoTime_NoRow,kt_NoTime_NoEnd,kt_NoTime_NoName,kt_NoTime_NoText,kt_NoTime_NoHouse,kt_NoTime_NoRatio,kt_NoTime_NoWay,kt_NoTime_NoCurve,ht_piece_at,hp_piece_at,ht_side_by_side,hp_side_by_side,ht_lowered,hp_lowered⟩:=fx
 have e:=hfa.symm.trans (qAX X G aL)
 cases e
 have Af:=qAS X G z0
 have Mu:=qAS X G z1
 have IT:=qAS X G z2
 have K6:=qAS X G z3
 have AG:=qAS X G z4
 have Ay:=qAS X G z5
 have Cd:=qAS X G z6
 have Ce:=qAS X G z7
 have Mk:=qAS X G z8
 have z_ValueError:=qAS X G z9
 have Ri:=qAS X G z10
 have QD:=qAS X G z11
 have LB:=qAS X G z12
 have gc_NOUGHT:GC K mg "NOUGHT" (.tup [(.int 0),(.int 1)]):=KD.of (qAX X G n_NOUGHT) (KD.tup n_gl_NOUGHT_6 (Nat.le_of_ble_eq_true rfl) (.cons KD.int (.cons KD.int .nil)))
 have ec_NoCurve:ExC K "NoCurve" K_NoCurve:=#[n_NoCurve,x_NoCurve]
 have m_NoCurve:=qAX X G n_NoCurve
 have ec_NoTime:ExC K "NoTime" K_NoTime:=#[n_NoTime,x_NoTime]
 have m_NoTime:=qAX X G n_NoTime
 have m_CurveError:=qAX X G n_CurveError
 have hn_CurveError:HnC K K_CurveError:=#[h0_CurveError,h1_CurveError,h2_CurveError]
 have xi_NoTime:ExI K K_NoTime:=#[i0_NoTime,i1_NoTime,i2_NoTime,i3_NoTime,i4_NoTime,i5_NoTime,i6_NoTime,i7_NoTime]
 have m_NoRow:=qAX X G n_NoRow
 have m_NoEnd:=qAX X G n_NoEnd
 have m_NoName:=qAX X G n_NoName
 have m_NoText:=qAX X G n_NoText
 have m_NoHouse:=qAX X G n_NoHouse
 have m_NoRatio:=qAX X G n_NoRatio
 have m_NoWay:=qAX X G n_NoWay
 obtain⟨⟨cA_piece_at,cT_piece_at⟩,n_ht_piece_at⟩:=qBa.mp ht_piece_at
 obtain⟨⟨cA_side_by_side,cT_side_by_side⟩,n_ht_side_by_side⟩:=qBa.mp ht_side_by_side
 obtain⟨⟨cA_lowered,cT_lowered⟩,n_ht_lowered⟩:=qBa.mp ht_lowered
 refine#[W.fnOf "law" "law" (Gg KP) (Cp KP) (Ab KP) .none kV dc pm an cd ct,fun s v=>.of_eq rfl,fun base _ _=>#[mg,?_]]
 have M:=@mkC l.prog w K mg base h X G
 have Ep:=M r0 (fun F _=>Az.anyCX (Ms Af Mu IT F))
 have GF:=M r1 (fun F _=>Az.anyCX (Og K6 F))
 have Bm:=M r2 (fun F _=>Az.anyCX (Rh Ep GF F))
 have DK:=M r3 (fun F _=>Az.anyCX (Uu Bm F))
 have AS:=M r4 (fun F _=>Az.anyCX (Q6 Bm F))
 have Gb:=M r5 (fun F _=>Az.anyCX (RO Bm F))
 have Jm:=M r6 (fun F _=>Az.anyCX (T8 Bm F))
 have Aw:=M r7 (fun F _=>Az.anyCX (Rv F))
 have Bo:=M r7 (fun F _=>Az.anyCX (Mo F))
 have DZ:=M r8 (fun F _=>Az.anyCX (Ov Aw F))
 have Dt:=M r9 (fun F _=>JC Aw AG gc_NOUGHT ec_NoCurve m_NoCurve F)
 have Ed:=M r10 (fun F _=>Kc Aw AG ec_NoCurve m_NoCurve Ay F)
 have AO:=M r11 (fun F _=>Az.anyCX (HN AS Jm F))
 have Bg:=M r12 (fun F _=>Az.anyCX (HV AG Ay AO F))
 have Ao:=M r12 (fun F _=>Az.anyCX (Gk AG Ay AO F))
 have Cq:=M r13 (fun F _=>Rk Aw AG gc_NOUGHT ec_NoCurve m_NoCurve Dt Ay Ed Bg Cd F)
 have Ea:=M r14 (fun F _=>J7 Aw gc_NOUGHT ec_NoTime m_NoTime F)
 have AY:=mkL (P:=l.prog) (w:=w) (base:=base) X G r15 (fun F _=>Jy AG F)
 have FG:=M r16 (fun F a=>Mj Aw Ea AY F n_ht_piece_at a hp_piece_at)
 have B9:=M r17 (fun F _=>Az.anyCX (Hh AG AO F))
 have A9:=M r18 (fun F _=>MC DK AS Gb FG B9 F)
 have AM:=M r19 (fun F _=>Az.anyCX (Gs Aw AG Ay Ao F))
 have Bw:=M r20 (fun F _=>Az.anyCX (Gv Aw AG Ay Ao F))
 have GA:=M r21 (fun F _=>Az.anyCX (NM DK AS Jm F))
 have CP:=M r22 (fun F _=>Az.anyCX (II Aw AG F))
 have Dp:=M r23 (fun F _=>Az.anyCX (JE A9 CP F))
 have DX:=M r24 (fun F _=>Az.anyCX (KM AS F))
 have FP:=M r25 (fun F _=>Az.anyCX (Mt F))
 have CU:=M r26 (fun F _=>Az.anyCX (Jg AS gc_NOUGHT Bg A9 GA Dp DX FP Ce F))
 have Jk:=M r27 (fun F _=>Az.anyCX (RS DZ Cq CU F))
 have CY:=M r28 (fun F _=>Az.anyCX (IV AS Gb F))
 have DF:=M r29 (fun F _=>Az.anyCX (LI Ao CY Mk F))
 have EI:=M r30 (fun F _=>Az.anyCX (Lk Bm F))
 have FI:=M r31 (fun F _=>Az.anyCX (Ma Bm Cq EI F))
 have D1:=M r32 (fun F _=>Az.anyCX (Ko F))
 have D8:=M r33 (fun F _=>Az.anyCX (J3 F))
 have Ld:=M r34 (fun F _=>Az.anyCX (UC D1 D8 F))
 have C4:=M r35 (fun F _=>Az.anyCX (Ih Bo F))
 have CO:=M r36 (fun F a=>Az.anyCX (Ja Bo AG AY C4 F n_ht_side_by_side a hp_side_by_side))
 have IQ:=M r37 (fun F _=>Az.anyCX (SW F))
 have MM:=M r38 (fun F _=>Az.anyCX (Uq IQ F))
 have NJ:=M r39 (fun F _=>Az.anyCX (SG IQ F))
 have Ch:=mkM (P:=l.prog) (w:=w) (base:=base) X G r40 (fun F _=>Le F)
 have Eu:=M r41 (fun F _=>Az.anyCX (Mx Bm F))
 have ES:=mkM (P:=l.prog) (w:=w) (base:=base) X G r42 (fun F _=>LO Ch Eu F)
 have Eo:=M r43 (fun F a=>Az.anyCX (N0 Bo AY Ce CO MM NJ ES F n_ht_lowered a hp_lowered))
 have BA:=M r44 (fun F _=>Az.anyCX (FV AM DF FI Ld Eo F))
 have FH:=M r45 (fun F _=>Az.anyCX (Mg Aw AG F))
 have Bu:=M r46 (fun F _=>Az.anyCX (G2 AS Aw Ao Mk F))
 have B8:=M r47 (fun F _=>Az.anyCX (Hl DK DZ gc_NOUGHT Cq FH Bu F))
 have HY:=M r48 (fun F _=>Az.anyCX (PM Bw Jk BA B8 F))
 have IP:=M r49 (fun F _=>Ru DK A9 F)
 have Cb:=M r50 (fun F _=>Az.anyCX (Hg AS Aw AM F))
 have DB:=M r51 (fun F _=>NR Aw IP Cb F)
 have As:=M r52 (fun F _=>Az.anyCX (IZ AG F))
 have Ae:=M r53 (fun F _=>Az.anyCX (JD K6 F))
 have Bl:=M r54 (fun F _=>Az.anyCX (K5 F))
 have AJ:=M r55 (fun F _=>Az.anyCX (Kl F))
 have Bz:=M r56 (fun F _=>Az.anyCX (Ll F))
 have Cw:=M r57 (fun F _=>Az.anyCX (HR Ae F))
 have Bx:=M r58 (fun F _=>Az.anyCX (HK Ay Ae Cw F))
 have C9:=M r59 (fun F _=>Az.anyCX (JX Ay As F))
 have D4:=M r60 (fun F _=>Az.anyCX (KR Ay F))
 have Bk:=M r61 (fun F _=>Az.anyCX (FQ Ay Ae F))
 have FO:=M r62 (fun F _=>Az.anyCX (Mn As Bx C9 D4 Bk F))
 have AA:=M r63 (fun F _=>Az.anyCX (KS AG Ay Bl AJ F))
 have AI:=M r64 (fun F _=>Az.anyCX (HQ Af Mu IT AG Cd Ae F))
 have DT:=M r65 (fun F _=>Az.anyCX (Kj AG AJ F))
 have Ct:=M r66 (fun F _=>Az.anyCX (HP Af AG Ay Cd Bl AI DT F))
 have BN:=M r67 (fun F _=>Az.anyCX (K7 AG F))
 have Du:=M r68 (fun F _=>Az.anyCX (JF AG Ae F))
 have D9:=M r69 (fun F _=>Az.anyCX (J9 Af AG Cd Bz AA AI F))
 have CZ:=M r70 (fun F _=>Az.anyCX (Ji Af m_NoCurve m_NoTime DB z_ValueError m_CurveError hn_CurveError mr_NoTime_CurveError kT_NoTime_ValueError xi_NoTime kt_NoTime_NoTime m_NoRow kt_NoTime_NoRow m_NoEnd kt_NoTime_NoEnd m_NoName kt_NoTime_NoName m_NoText kt_NoTime_NoText m_NoHouse kt_NoTime_NoHouse m_NoRatio kt_NoTime_NoRatio m_NoWay kt_NoTime_NoWay kt_NoTime_NoCurve F))
 have DY:=M r71 (fun F _=>Az.anyCX (Ku AG Ay As Ae BN Du Ri QD F))
 exact VA Cq HY DB Ae Bl AJ Bz FO AA Ct BN D9 CZ DY LB (MH (st:=KP) lL cL kL)
end CL
theorem PySem.Challenge.cw_curvehouse_k18_whole_least_of_partings_holds : PySem.Challenge.rw_curvehouse_k18_whole_least_of_partings.Holds := by
 exact CL.front fun e1 e2 e3 e4 e5 fx=>L3.walk3 (l:=PySem.Challenge.rw_curvehouse_k18_whole_least_of_partings) (k:=12) (x:="_law_script") rfl e1 #[rfl,∅,∅] e2 e3 e4 fun w mg fa h X G hg=>CL.all_mk X G (e5 ▸ hg) (fx w)
