import PyProof.Rows.All
import PySem.Challenge.RW_curvehouse_k40_a_burst
import KE.KItem
import KE.KLam
import KE.KNestM
import KE.KIsAll
import KE.KLcPair
import KE.RegMulBits
import KE.KFromBytes
set_option Elab.async false
set_option linter.all false
set_option maxRecDepth 100000
set_option genSizeOfSpec false
local macro_rules|`(())=>`(by omega)
local macro_rules|`(∅)=>`(by decide)
local macro_rules|`(⋯)=>`(by grind)
section
open PySem
def qAa:=@List.length_map
def qAb:=@List.getElem?_eq_getElem
def qAc:=@Rat.le_refl
def qAd:=@List.getElem?_map
def qAe:=@List.getElem?_eq_some_iff
def qAf:=@List.getD_eq_getElem?_getD
def qAg:=@Nat.le_refl
def qAh:=@Heap.get?_push_of_some
def qAi:=@List.mem_cons
def qAj:=@Heap.lt_size
def qAk:=@Rat.mul_nonneg
def qAl:=@Nat.lt_of_lt_of_le
def qAm:=@Rat.le_of_lt
def qAn:=@Option.some.inj
def qAo:=@List.mem_append
def qAp:=@Rat.intCast_mul
def qAq:=@Bool.false_ne_true
def qAr:=@List.length_append
def qAs:=@Nat.ne_of_lt
def qAt:=@List.size_toArray
def qAu:=@List.getElem?_append_left
def qAv:=@Rat.le_trans
def qAw:=@List.getElem?_append_right
def qAx:=@List.length_range
def qAy:=@Heap.get?_push_size
def qAz:=@PySem.F.slot_list_append
def qAA:=@PySem.F.type_list_append
def qAB:=@Rat.divInt_eq_div
def qAC:=@PySem.F.plainAttrs_list
def qAD:=@List.mem_cons_of_mem
def qAE:=@List.mem_of_getElem?
def qAF:=@List.mem_append_right
def qAG:=@List.mem_singleton
def qAH:=@List.mem_range
def qAI:=@List.mem_map
def qAJ:=@List.getElem?_range
def qAK:=@List.all_eq_true
def qAL:=@List.mem_cons_self
def qAM:=@List.map_append
def qAN:=@Rat.not_lt
def qAO:=@Nat.le_trans
def qAP:=@List.length_take
def qAQ:=@List.getElem?_eq_none_iff
def qAR:=@List.mem_append_left
def qAS:=@W.kia_one
def qAT:=@List.length_drop
def qAU:=@List.length_cons
def qAV:=@List.eq_nil_of_length_eq_zero
def qAW:=@Nat.not_lt_zero
def qAX:=@W.mg_none_of
def qAY:=@Nat.lt_irrefl
def qAZ:=@Bool.and_eq_true
def qA0:=@Rat.intCast_pos
def qA1:=@Rat.not_le
def qA2:=@List.append_nil
def qA3:=@List.mem_filter
def qA4:=@List.filter_cons
def qA5:=@Rat.lt_irrefl
def qA6:=@Option.isSome_iff_exists
def qA7:=@List.length_filter_le
def qA8:=@List.mem_iff_getElem
def qA9:=@Nat.zero_le
def qBa:=@Rat.div_mul_cancel
def qBb:=@Int.mul_pos
def qBc:=@Nat.mul_le_mul_right
def qBd:=@PyProof.Rows.boot_tuple
def qBe:=@Rat.mul_eq_zero
def qBf:=@List.filterMap_cons
def qBg:=@Nat.ne_of_gt
def qBh:=@Nat.lt_trans
def qBi:=@List.map_map
def qBj:=@Rat.intCast_lt_intCast
def qBk:=@List.take_of_length_le
def qBl:=@Int.ne_of_gt
def qBm:=@Int.fdiv_eq_ediv_of_nonneg
def qBn:=@W.mg_of
def qBo:=@List.lookup_cons
def qBp:=@List.getElem_mem
def qBq:=@Heap.get?_update_self
def qBr:=@Nat.eq_zero_or_pos
def qBs:=@List.getElem?_zip_eq_some
def qBt:=@Nat.le_of_lt
def qBu:=@Rat.intCast_add
def qBv:=@Rat.intCast_sub
def qBw:=@List.length_dropLast
def qBx:=@List.take_add_one
def qBy:=@Rat.intCast_eq_zero_iff
def qBz:=@List.length_reverse
def qBA:=@List.getElem?_set_self
def qBB:=@Rat.mul_pos
def qBC:=@PyProof.Rows.callWith_type1
def qBD:=@List.filterMap_map
def qBE:=@List.getElem?_drop
def qBF:=@Nat.add_sub_cancel
def qBG:=@List.getElem?_toArray
def qBH:=@List.getElem?_reverse
def qBI:=@F.slot_tuple_iterator_next
def qBJ:=@List.getElem?_take_of_lt
def qBK:=@List.not_mem_nil
def qBL:=@W.looks_mroIn
def qBM:=@Heap.get?_update_ne
def qBN:=@List.getElem?_cons_succ
def qBO:=@List.map_cons
def qBP:=@List.mem_filterMap
def qBQ:=@Bool.eq_iff_iff
def qBR:=@W.callWith_K
def qBS:=@Bool.false_eq_true
def qBT:=@W.cellsFrom_some
def qBU:=@W.kitx_list
def qBV:=@Int.toNat_natCast
def qBW:=@Heap.size_push
def qBX:=@List.mem_iff_getElem?
def qBY:=@List.getElem?_set_ne
def qBZ:=@Nat.le_add_right
def qB0:=@Int.sign_eq_neg_one_of_neg
def qB1:=@PySem.F.excBase_ValueError
def qB2:=@Nat.le_succ
def qB3:=@List.of_mem_zip
def qB4:=@List.forIn_cons
def qB5:=@List.pairwise_iff_getElem
def qB6:=@Nat.min_eq_left
def qB7:=@List.length_filterMap_le
def qB8:=@Int.fmod_lt_of_pos
def qB9:=@Rat.add_nonneg
def qCa:=@List.getElem?_replicate
def qCb:=@Int.sign_eq_one_of_pos
def qCc:=@Int.fmod_nonneg_of_pos
def qCd:=@Nat.lt_succ_self
def qCe:=@List.filterMap_eq_map
def qCf:=@PyProof.Rows.boot_abs
def qCg:=@PyProof.Rows.slot_tuple_getitem
def qCh:=@List.nodup_cons
def qCi:=@Nat.pow_le_pow_right
def qCj:=@Nat.add_comm
def qCk:=@List.getElem?_of_mem
def qCl:=@W.looks_findIn
def qCm:=@List.pairwise_append
def qCn:=@F.slot_zip_next
def qCo:=@Rat.intCast_inj
def qCp:=@W.hideAll_get
def qCq:=@Int.mul_fdiv_cancel
def qCr:=@Nat.mul_le_mul_left
def qCs:=@PyProof.Rows.boot_isinstance
def qCt:=@W.kla_fn
def qCu:=@List.take_zero
def qCv:=@F.args_tuple_iterator_next_1
def qCw:=@W.of_hideAll
def qCx:=@W.codeRec_of
def qCy:=@Rat.num_divInt_den
def qCz:=@Rat.lt_of_le_of_ne
def qCA:=@F.entry_tuple_iterator_next
def qCB:=@Bool.and_true
def qCC:=@List.map_drop
def qCD:=@Int.fmod_eq_emod_of_nonneg
def qCE:=@List.ext_getElem?
def qCF:=@W.own_of_in
def qCG:=@PySem.F.args_tuple_add_2
def qCH:=@PyProof.Rows.boot_sorted
def qCI:=@PySem.F.entry_tuple_add
def qCJ:=@PyProof.Rows.intBits_le
def qCK:=@List.pairwise_singleton
def qCL:=@PySem.F.slot_tuple_add
def qCM:=@Heap.get?_update_other
def qCN:=@W.funFrames_hide
def qCO:=@List.length_pos_of_mem
def qCP:=@Rat.div_def
def qCQ:=@List.drop_eq_nil_of_le
def qCR:=@PyProof.Rows.boot_bool
def qCS:=@List.take_append_drop
def qCT:=@List.length_replicate
def qCU:=@List.forIn_nil
def qCV:=@List.filterMap_append
def qCW:=@List.drop_zero
def qCX:=@PyProof.Rows.boot_int
def qCY:=@Int.mul_nonneg
def qCZ:=@List.map_take
def qC0:=@Nat.sub_self
end
namespace L2
open PySem
def Gr (s:Stmt):Arguments:=match s with
 |.FunctionDef _ a _ _ _ _ _ _ _ _=>a
 |_=>{ posonlyargs:=[],args:=[],vararg:=none,kwonlyargs:=[],kw_defaults:=[],kwarg:=none,defaults:=[] }
def BV (s:Stmt):List Stmt:=match s with
 |.FunctionDef _ _ b _ _ _ _ _ _ _=>b
 |_=>[]
def Aa (s:Stmt):Scope:=match s with
 |.FunctionDef _ _ _ _ _ _ sc _ _ _=>sc
 |_=>{ kind:=.function,names:=[],isGenerator:=false,isCoroutine:=false }
end L2
namespace L3
open PySem L2
abbrev rA (K:W.Frag)(n:Str)(f:Addr):Prop:=W.nsIn K mainGlobals n=some (some (.ref f))
abbrev rL (K:W.Frag)(f:Addr)(n:Str)(st:Stmt)(oc:Value)(od:Option Addr)(kV dc pm:Value)(an:Option Addr)(cd ct:Value)(sl:Array (Option Value)):Prop:=K.lookup f=some ⟨oc,od,.func (W.fnOf n n (Gr st) (BV st) (Aa st) .none kV dc pm an cd ct),sl⟩
abbrev rC (K:W.Frag)(cd:Value)(n:Str):Prop:=W.codeIn K cd n=true
abbrev rK (K:W.Frag)(f:Addr):Prop:=W.keepIn K (.ref f)=true
inductive Rw (K:W.Frag)(n:Str)(st:Stmt):Prop
 |mk {f:Addr}{oc:Value}{od:Option Addr}{kV dc pm:Value}{an:Option Addr}{cd ct:Value}{sl:Array (Option Value)}(a:rA K n f) (l:rL K f n st oc od kV dc pm an cd ct sl) (c:rC K cd n) (k:rK K f)
end L3
namespace CL
open PySem L2 L3
def top (i:Nat):Stmt:=PySem.Challenge.pw_curvehouse_k40_a_burst.main.body.getD i (.Pass ⟨0,0,0,0⟩)
abbrev HH:Stmt:=top 6
abbrev JJ:Stmt:=top 7
abbrev NN:Stmt:=top 10
abbrev QI:Stmt:=top 11
abbrev Nl:Stmt:=top 12
abbrev NB:Stmt:=top 13
abbrev Rn:Stmt:=top 14
abbrev Jp:Stmt:=top 15
abbrev Ju:Stmt:=top 16
abbrev Nx:Stmt:=top 18
abbrev Et:Stmt:=top 19
abbrev Fb:Stmt:=top 20
abbrev Qo:Stmt:=top 21
abbrev HS:Stmt:=top 22
abbrev FH:Stmt:=top 23
abbrev Fj:Stmt:=top 24
abbrev Dc:Stmt:=top 25
abbrev Dw:Stmt:=top 26
abbrev Bv:Stmt:=top 27
abbrev BW:Stmt:=top 28
abbrev BY:Stmt:=top 29
abbrev CT:Stmt:=top 30
abbrev HG:Stmt:=top 31
abbrev JV:Stmt:=top 32
abbrev Ei:Stmt:=top 33
abbrev Rp:Stmt:=top 35
abbrev NU:Stmt:=top 36
abbrev Dn:Stmt:=top 37
abbrev CQ:Stmt:=top 38
abbrev DH:Stmt:=top 39
abbrev Ep:Stmt:=top 41
abbrev DY:Stmt:=top 42
abbrev FD:Stmt:=top 43
abbrev Gv:Stmt:=top 44
abbrev N8:Stmt:=top 45
abbrev Fq:Stmt:=top 46
abbrev Ft:Stmt:=top 47
abbrev GD:Stmt:=top 48
abbrev GX:Stmt:=top 49
abbrev Dr:Stmt:=top 50
abbrev Fx:Stmt:=top 51
abbrev CW:Stmt:=top 52
abbrev DU:Stmt:=top 53
abbrev Rq:Stmt:=top 54
abbrev QF:Stmt:=top 55
abbrev QX:Stmt:=top 56
abbrev Gf:Stmt:=top 57
abbrev Gi:Stmt:=top 58
abbrev HQ:Stmt:=top 59
abbrev GO:Stmt:=top 61
abbrev LX:Stmt:=top 63
abbrev Rv:Stmt:=top 64
abbrev Cj:Stmt:=top 65
abbrev Cc:Stmt:=top 66
abbrev HK:Stmt:=top 67
abbrev Lc:Stmt:=top 69
abbrev P5:Stmt:=top 70
abbrev K1:Stmt:=top 71
abbrev K8:Stmt:=top 72
abbrev Jt:Stmt:=top 73
abbrev HP:Stmt:=top 74
abbrev Jz:Stmt:=top 76
abbrev JI:Stmt:=top 77
abbrev Rb:Stmt:=top 79
abbrev Er:Stmt:=top 80
abbrev K6:Stmt:=top 82
abbrev LU:Stmt:=top 83
abbrev DS:Stmt:=top 85
abbrev HJ:Stmt:=top 86
abbrev HB:Stmt:=top 87
abbrev Gs:Stmt:=top 88
abbrev EU:Stmt:=top 89
abbrev Fu:Stmt:=top 90
abbrev JN:Stmt:=top 91
abbrev E8:Stmt:=top 92
abbrev Fv:Stmt:=top 93
abbrev Ew:Stmt:=top 94
abbrev E4:Stmt:=top 95
abbrev FG:Stmt:=top 96
abbrev Fc:Stmt:=top 97
abbrev Fw:Stmt:=top 98
abbrev Eh:Stmt:=top 99
abbrev EY:Stmt:=top 100
abbrev Gg:Stmt:=top 101
abbrev ET:Stmt:=top 102
abbrev Dv:Stmt:=top 103
abbrev DV:Stmt:=top 104
abbrev BN:Stmt:=top 105
abbrev Ef:Stmt:=top 106
abbrev Gq:Stmt:=top 107
abbrev NT:Stmt:=top 108
inductive Facts (l:W.OpenLaw)(K:W.Frag):Prop
 |mk {kV dc pm cd ct oc:Value}{od an:Option Addr}{sl:Array (Option Value)}{fL K_CurveError K_NoCurve K_NoTime:Addr}{gt_NOUGHT_0:Tok}{gt_NOUGHT_1:Tok}{ga_NOUGHT_2:Addr}{gd_NOUGHT_3:Option Addr}{gn_NOUGHT_3:Nat}{gs_NOUGHT_3:Array (Option Value)}
  (r0:Rw K "is_whole" HH)
  (r1:Rw K "divisor" JJ)
  (r2:Rw K "ratio" NN)
  (r3:Rw K "plus" QI)
  (r4:Rw K "minus" Nl)
  (r5:Rw K "times" NB)
  (r6:Rw K "over" Rn)
  (r7:Rw K "under" Jp)
  (r8:Rw K "greater" Ju)
  (r9:Rw K "check_begin" Et)
  (r10:Rw K "check_rise" Fb)
  (r11:Rw K "slope_between" Dw)
  (r12:Rw K "slopes_behind" Bv)
  (r13:Rw K "curve" Nx)
  (r14:Rw K "heap" Qo)
  (r15:Rw K "check_time" Fj)
  (r16:Rw K "count_while" Ei)
  (r17:Rw K "piece_at" FH)
  (r18:Rw K "slope_of_piece" Dc)
  (r19:Rw K "value_at" HS)
  (r20:Rw K "steeper_corners" BW)
  (r21:Rw K "flatter_corners" BY)
  (r22:Rw K "steep_enough" CT)
  (r23:Rw K "outgrows" HG)
  (r24:Rw K "time_of" JV)
  (r25:Rw K "gap_points" DH)
  (r26:Rw K "corner_times" CQ)
  (r27:Rw K "corner_rows" Dn)
  (r28:Rw K "less" Rp)
  (r29:Rw K "above" NU)
  (r30:Rw K "line_through" DY)
  (r31:Rw K "pieces_of" Ep)
  (r32:Rw K "corner_of" Gv)
  (r33:Rw K "curve_of" FD)
  (r34:Rw K "moved_time" Fq)
  (r35:Rw K "moved_line" Ft)
  (r36:Rw K "laid" N8)
  (r37:Rw K "flipped" GD)
  (r38:Rw K "turned" GX)
  (r39:Rw K "from_nought" Dr)
  (r40:Rw K "sooner_begin" DU)
  (r41:Rw K "side_by_side" CW)
  (r42:Rw K "sign" QX)
  (r43:Rw K "side" Rq)
  (r44:Rw K "lean" QF)
  (r45:Rw K "add_piece" Gi)
  (r46:Rw K "crossing" HQ)
  (r47:Rw K "add_lower" Gf)
  (r48:Rw K "lowered" Fx)
  (r49:Rw K "spliced" GO)
  (r50:Rw K "begin_and_steeper" Cj)
  (r51:Rw K "undone" LX)
  (r52:Rw K "ahead_by" HK)
  (r53:Rw K "possible_leads" Cc)
  (r54:Rw K "lead" Rv)
  (r55:Rw K "place_of" HP)
  (r56:Rw K "growth" K8)
  (r57:Rw K "breach" Lc)
  (r58:Rw K "missing" Jt)
  (r59:Rw K "surest" K1)
  (r60:Rw K "lack" P5)
  (r61:Rw K "hurried" JI)
  (r62:Rw K "burst" Jz)
  (r63:Rw K "comes_above" Er)
  (r64:Rw K "left" Rb)
  (r65:Rw K "unused" LU)
  (r66:Rw K "served" K6)
  (r67:Rw K "_law_cell_at" DS)
  (r68:Rw K "_law_low" HJ)
  (r69:Rw K "_law_add" HB)
  (r70:Rw K "_law_take" Gs)
  (r71:Rw K "_law_up_to" EU)
  (r72:Rw K "_law_slope" Fu)
  (r73:Rw K "_law_at" JN)
  (r74:Rw K "_law_ratio" E8)
  (r75:Rw K "_law_curve" Fv)
  (r76:Rw K "_law_slopes" Ew)
  (r77:Rw K "_law_drawn" E4)
  (r78:Rw K "_law_few" FG)
  (r79:Rw K "_law_ended" Fc)
  (r80:Rw K "_law_grown" Fw)
  (r81:Rw K "_law_places" Eh)
  (r82:Rw K "_law_keeps" EY)
  (r83:Rw K "_law_sure" Gg)
  (r84:Rw K "_law_alike" ET)
  (r85:Rw K "_law_is_place" Dv)
  (r86:Rw K "_law_refused_by_any" BN)
  (r87:Rw K "_law_refused" DV)
  (r88:Rw K "_law_bursts" Ef)
  (r89:Rw K "_law_told" Gq)
  (aL:rA K "law" fL) (lL:rL K fL "law" NT oc od kV dc pm an cd ct sl) (cL:rC K cd "law") (kL:rK K fL)
  (z0:W.nsIn K mainGlobals "isinstance"=some none)
  (z1:W.nsIn K mainGlobals "int"=some none)
  (z2:W.nsIn K mainGlobals "bool"=some none)
  (z3:W.nsIn K mainGlobals "abs"=some none)
  (z4:W.nsIn K mainGlobals "len"=some none)
  (z5:W.nsIn K mainGlobals "range"=some none)
  (z6:W.nsIn K mainGlobals "tuple"=some none)
  (z7:W.nsIn K mainGlobals "max"=some none)
  (z8:W.nsIn K mainGlobals "zip"=some none)
  (z9:W.nsIn K mainGlobals "enumerate"=some none)
  (z10:W.nsIn K mainGlobals "sorted"=some none)
  (z11:W.nsIn K mainGlobals "ValueError"=some none)
  (n_CurveError:rA K "CurveError" K_CurveError)
  (n_NoCurve:rA K "NoCurve" K_NoCurve)
  (n_NoTime:rA K "NoTime" K_NoTime)
  (n_NOUGHT:W.nsIn K mainGlobals "NOUGHT"=some (some (.ref ga_NOUGHT_2)))
  (n_gl_NOUGHT_6:K.lookup ga_NOUGHT_2=some ⟨.type "tuple",gd_NOUGHT_3,.seq #[(.int 0 gt_NOUGHT_0),(.int 1 gt_NOUGHT_1)] gn_NOUGHT_3,gs_NOUGHT_3⟩)
  (x_NoCurve:W.excIn K K_NoCurve [.type "ValueError",.type "Exception",.type "BaseException",.type "object"] "ValueError.__new__"=true)
  (x_NoTime:W.excIn K K_NoTime [.type "ValueError",.type "Exception",.type "BaseException",.type "object"] "ValueError.__new__"=true)
  (h0_CurveError:W.instIn K (.ref K_CurveError) (.type "tuple")=some false)
  (h1_CurveError:(W.clsIn K K_CurveError).isSome=true)
  (h2_CurveError:W.mroIn K K_CurveError (.type "BaseException")=some true)
  (mr_NoTime_CurveError:W.mroIn K K_NoTime (.ref K_CurveError)=some true)
  (kT_NoTime_ValueError:W.kitOne K (.ref K_NoTime) (.type "ValueError")=some true)
  (i0_NoTime:W.findIn K (.ref K_NoTime) "__getattribute__"=some (some (.builtin "BaseException.__getattribute__")))
  (i1_NoTime:W.findIn K (.ref K_NoTime) "__getattr__"=some none)
  (i2_NoTime:(W.clsIn K K_NoTime).isSome=true)
  (i3_NoTime:W.findIn K (.ref K_NoTime) "__class__"=some (some (.builtin "object.__class__")))
  (i4_NoTime:W.specialIn K (.builtin "object.__class__") "__get__"=some (some (.builtin "getset_descriptor.__get__")))
  (i5_NoTime:W.takesIn K (.builtin "object.__class__")=some true)
  (i6_NoTime:W.mroIn K K_NoTime (.type "object")=some true)
  (i7_NoTime:W.mroIn K K_NoTime (.type "BaseException")=some true)
  (h0_NoTime:W.instIn K (.ref K_NoTime) (.type "tuple")=some false)
  (h1_NoTime:(W.clsIn K K_NoTime).isSome=true)
  (h2_NoTime:W.mroIn K K_NoTime (.type "BaseException")=some true)
  (mr_NoTime_NoTime:W.mroIn K K_NoTime (.ref K_NoTime)=some true)
  (kp_NoTime:W.keepIn K (.ref K_NoTime)=true)
  (ht_piece_at:(W.tabIn K "piece_at").isSome=true)
  (hp_piece_at:(PyProof.Rows.recsOf l.prog).any (fun d=>d.name == "piece_at")=true)
  (ht_from_nought:(W.tabIn K "from_nought").isSome=true)
  (hp_from_nought:(PyProof.Rows.recsOf l.prog).any (fun d=>d.name == "from_nought")=true)
  (ht_side_by_side:(W.tabIn K "side_by_side").isSome=true)
  (hp_side_by_side:(PyProof.Rows.recsOf l.prog).any (fun d=>d.name == "side_by_side")=true)
  (ht_lowered:(W.tabIn K "lowered").isSome=true)
  (hp_lowered:(PyProof.Rows.recsOf l.prog).any (fun d=>d.name == "lowered")=true)
end CL
section
set_option maxRecDepth 100000
set_option maxHeartbeats 0
open PySem PySem.W PyProof.Rows
theorem HD.ws:OpenLaw.wellSaid PySem.Challenge.rw_curvehouse_k40_a_burst=true:=by kernel_rfl
noncomputable abbrev HD.pr:Program:=(OpenLaw.row PySem.Challenge.rw_curvehouse_k40_a_burst).toRowW.prog
noncomputable def HD.qv:Program:={ PySem.Challenge.pw_curvehouse_k40_a_burst with main:={ PySem.Challenge.pw_curvehouse_k40_a_burst.main with body:=[CL.top 1,CL.top 2,CL.top 3,CL.top 4,CL.top 6,CL.top 7,CL.top 9,CL.top 10,CL.top 11,CL.top 12,CL.top 13,CL.top 14,CL.top 15,CL.top 16,CL.top 18,CL.top 19,CL.top 20,CL.top 21,CL.top 22,CL.top 23,CL.top 24,CL.top 25,CL.top 26,CL.top 27,CL.top 28,CL.top 29,CL.top 30,CL.top 31,CL.top 32,CL.top 33,CL.top 35,CL.top 36,CL.top 37,CL.top 38,CL.top 39,CL.top 41,CL.top 42,CL.top 43,CL.top 44,CL.top 45,CL.top 46,CL.top 47,CL.top 48,CL.top 49,CL.top 50,CL.top 51,CL.top 52,CL.top 53,CL.top 54,CL.top 55,CL.top 56,CL.top 57,CL.top 58,CL.top 59,CL.top 61,CL.top 63,CL.top 64,CL.top 65,CL.top 66,CL.top 67,CL.top 69,CL.top 70,CL.top 71,CL.top 72,CL.top 73,CL.top 74,CL.top 76,CL.top 77,CL.top 79,CL.top 80,CL.top 82,CL.top 83,CL.top 85,CL.top 86,CL.top 87,CL.top 88,CL.top 89,CL.top 90,CL.top 91,CL.top 92,CL.top 93,CL.top 94,CL.top 95,CL.top 96,CL.top 97,CL.top 98,CL.top 99,CL.top 100,CL.top 101,CL.top 102,CL.top 103,CL.top 104,CL.top 105,CL.top 106,CL.top 107,CL.top 108] } }
structure HD.R where
 o:List Obj
 e:List DictEntry
 p:List Value
 s:List Value
 n:Nat
 k:Nat
 m:Value
def HD.tx:List Str->Nat->List Value
 |[],_=>[]
 |x::l,k=>.str x k::HD.tx l (k+1)
def HD.tu (l:List Value):Obj:=⟨.type "tuple",none,.seq l.toArray 0,#[]⟩
def HD.fo (c:Value)(l:List Value):Obj:=⟨c,none,.fields l.toArray,#[]⟩
def HD.co (x:Str)(k i j f:Nat)(a:Value)(b:Bool)(c d e t:Value)(k':Nat):Obj :=
 HD.fo (.type "code") [.str x k,.str x (k+1),.str "/claim/cut.py" (k+2),.int i 0,.int j 0,.int 0 0,.int 0 0,.int f 0,a,.bool b,.int 181 0,c,.none,d,e,t,.int k' 0,.int i 0,.str "/claim/cut.py" (k'+1)]
def HD.fd (x:Str)(p:Arguments)(b:List Stmt)(s:Scope)(g:Addr)(m c:Value):Data:=.func ⟨x,x,p,.stmts b,s,g,[],.none,.none,.none,m,none,c,.none,0⟩
def HD.en (P:Params)(x:Str)(k:Nat)(v:Value):DictEntry:=⟨PyData.keyHash P x,.str x k,v⟩
def HD.cl (P:Params)(x:Str)(q:Pos)(a k:Nat)(m:Value)(b:List Value)(mro:List Value)(s:List Value)(r:Bool):List Obj :=
 let u (j:Nat):Value:=.ref (a+j)
 let f:=HD.en P "__firstlineno__" (k+11) (.int q.line (k+10))
 let g:=HD.en P "__static_attributes__" (k+12) (u 7)
 let n:=HD.en P "__module__" (k+7) m
 [HD.tu b,HD.fo (.type "builtin_function_or_method") [.builtin "type.__prepare__",.type "type"],
  ⟨.type "dict",none,.dict [n,HD.en P "__qualname__" (k+9) (.str x (k+8)),f,g].toArray 4,#[]⟩,HD.tu [],HD.fo .none [],
  HD.co x (k+2) q.line 0 0 (u 3) false (u 4) .none .none .none (k+5),
  ⟨.type "frame",none,.plain,#[some (u 5),some (.ref 3),some (u 2),none,some m,none,some (.ref 0)]⟩,HD.tu [],
  ⟨.type "dict",none,.dict ([n,f,g]++(match r with|true=>[HD.en P "__weakref__" (k+14) (u 10),HD.en P "__doc__" (k+15) .none]|false=>[HD.en P "__doc__" (k+13) .none])).toArray (match r with|true=>3|false=>2),#[]⟩,
  ⟨.type "type",none,.cls ⟨x,b,u 9::mro,a+8,x,true,[],s,false,none,false⟩,#[some (u 0),none,some (.str x k),some (.str x (k+8)),some (.builtin "ValueError.__new__"),some (.bool true)]⟩] ++
 (match r with|true=>[HD.fo (.type "getset_descriptor") [.str "__weakref__" (k+13),u 9,.builtin "ExceptionGroup.__weakref__",.none]]|false=>[]) ++
 [HD.fo (.type "super") [u 9,u 9,u 9],HD.fo (.type "builtin_function_or_method") [.builtin "object.__init_subclass__",u 9]]
def HD.ve:List Value:=[.type "ValueError",.type "Exception",.type "BaseException",.type "object"]
def HD.cs:List PySem.Expr->Nat->List Value
 |.Constant (.int i) _ _::l,k=>.int i k::HD.cs l (k+1)
 |_,_=>[]
def HD.one (P:Params)(t:Stmt)(a k:Nat)(m:Value)(r:Nat->Nat->Value->HD.R):HD.R:=match t with
 |.FunctionDef x p b _ _ _ s _ _ q=>match localNames p s (.stmts b) with
  |some (y,z)=>match r (a+7) (k+3+y.length+z.length+3) m with
   |⟨o,e,l,u,n,i,j⟩=>⟨HD.tu []::HD.fo .none []::HD.tu (HD.tx y (k+3))::HD.tu (HD.tx z (k+3+y.length)) :: ⟨.none,none,HD.fd x p b s 0 .none .none,#[]⟩ ::
    HD.co x k q.line p.args.length 3 (.ref a) true (.ref (a+1)) (.ref (a+2)) (.ref (a+3)) (.ref (a+4)) (k+3+y.length+z.length) :: ⟨.type "function",none,HD.fd x p b s 3 m (.ref (a+5)),#[]⟩::o,
    HD.en P x (k+3+y.length+z.length+2) (.ref (a+6))::e,.int q.line 0 :: .int q.col 0 :: .ref (a+5)::l,u,n,i,j⟩
  |none=>match r (a+5) (k+6) m with
   |⟨o,e,l,u,n,i,j⟩=>⟨HD.tu []::HD.fo .none [] :: ⟨.none,none,HD.fd x p b s 0 .none .none,#[]⟩ ::
    HD.co x k q.line p.args.length 3 (.ref a) true (.ref (a+1)) .none .none (.ref (a+2)) (k+3) :: ⟨.type "function",none,HD.fd x p b s 3 m (.ref (a+3)),#[]⟩::o,
    HD.en P x (k+5) (.ref (a+4))::e,.int q.line 0 :: .int q.col 0 :: .ref (a+3)::l,u,n,i,j⟩
 |.ClassDef x _ _ _ _ _ _ _ _ _ q=>match Nat.beq a 15 with
  |true=>match r (a+13) (k+18) m with
   |⟨o,e,l,u,n,i,j⟩=>⟨HD.cl P x q a k m [.type "ValueError"] HD.ve u true++o,HD.en P x (k+17) (.ref (a+9))::e,.int q.line 0 :: .int q.col 0 :: .ref (a+5)::l,u,n,i,j⟩
  |false=>match r (a+12) (k+16) m with
   |⟨o,e,l,u,n,i,j⟩=>⟨HD.cl P x q a k m [.ref 24] (.ref 24::HD.ve) [] false++o,HD.en P x (k+15) (.ref (a+9))::e,.int q.line 0 :: .int q.col 0 :: .ref (a+5)::l,.ref (a+9)::u,n,i,j⟩
 |.Assign _ (.Constant (.str x) _ _) _=>r a (k+2) (.str x k)
 |.Assign [.Name x _] (.Tuple b _ _) _=>match r (a+1) (k+b.length+1) m with
  |⟨o,e,l,u,n,i,j⟩=>⟨HD.tu (HD.cs b k)::o,HD.en P x (k+b.length) (.ref a)::e,l,u,n,i,j⟩
 |_=>r a k m
def HD.go (P:Params):List Stmt->Nat->Nat->Value->HD.R
 |[],a,k,m=>⟨[],[],[],[],a,k,m⟩
 |t::l,a,k,m=>HD.one P t a k m (fun a k m=>HD.go P l a k m)
def HD.alt:List Obj->List Obj
 |x::_::l=>x::HD.alt l
 |l=>l
def HD.bt:Nat->List Obj->BT
 |n+1,x::l=>.node x (HD.bt n (HD.alt l)) (HD.bt n (HD.alt l.tail))
 |_,_=>.nil
def HD.bu:Nat->List Obj->BT
 |n+1,x::l=>.node x (HD.bu n (HD.alt l)) (HD.bu n (HD.alt l.tail))
 |_,_=>.nil
noncomputable def HD.ob (P:Params)(r:HD.R):List Obj :=
 boot_o_0 P::boot_o_1 P::boot_o_2 P::(match boot_o_3 P with
  |⟨c,d,.dict es n,s⟩=>(match es.toList with
   |x::l=>⟨c,d,.dict (⟨x.hash,x.key,r.m⟩::(l++r.e)).toArray (n+r.e.length),s⟩
   |[]=>default)
  |o=>o)::boot_o_4 P::boot_o_5 P::boot_o_6 P::boot_o_7 P::boot_o_8 P::boot_o_9 P::boot_o_10 P::HD.tu []::HD.fo .none r.p ::
 HD.co "<module>" 182 1 0 0 (.ref 11) false (.ref 12) .none .none .none 185 :: ⟨.type "frame",none,.plain,#[some (.ref 13),some (.ref 3),some (.ref 3),none,some (.str "__main__" 164),none,some (.ref 0)]⟩::r.o
noncomputable def HD.S (f:Nat->List Obj->BT)(l:List Stmt)(P:Params)(os:OsState):SharedT :=
 match HD.go P l 15 187 (.str "__main__" 164) with
 |r=>⟨f 12 (HD.ob P r),r.n,(boot_heap P).life,Array.mk [],boot_drawn,r.k,os⟩
theorem HD.ap {tb:String->Option Builtin}{p:Program}{w:World}{n₀:Nat}{ann:Option Value}{env:Env}{q:Pos}{n N:Nat}{s s':SharedT}{r:Shared}{l:List Stmt}{c:Code}{pos p':Pos}(i:Nat) (h:segRunT tb p w n₀ ann 1 n s (piecesOf (l.take i) env c pos [topFrame q])=some (.next,s',c,p'))
 (k:topRun tb p w n₀ ann N s'.abs (restOf (l.drop i) env c p' [topFrame q])=some r):topRun tb p w n₀ ann (n+N) s.abs (restOf l env c pos [topFrame q])=some r:=by
 have:=piece_app (segRun_of h) k
 rwa [qCS] at this
theorem HD.ae {tb:String->Option Builtin}{p:Program}{w:World}{n₀:Nat}{ann:Option Value}{env:Env}{q:Pos}{n N:Nat}{s s':SharedT}{r:Shared}{l:List Stmt}{c:Code}{pos p':Pos}(h:segRunT tb p w n₀ ann 1 n s (piecesOf l env c pos [topFrame q])=some (.next,s',c,p'))
 (k:topRun tb p w n₀ ann N s'.abs ⟨doneF .next,c,p',[topFrame q]⟩=some r):topRun tb p w n₀ ann (n+N) s.abs (restOf l env c pos [topFrame q])=some r:=by
 have:=piece_app (rest:=[]) (segRun_of h) (piece_nil k)
 rwa [qA2] at this
noncomputable def HD.ok (p:Program)(w:World)(s:Shared):Bool :=
 staticsOk (importedModules p.main.body) (boot_heap w.params) s.heap&&namesBound p s.heap &&
 gensDone s&&laidKept (boot_heap w.params) s.heap
theorem HD.lo {p q:Program}{Xt:Shared->Bool}{α:Type}{Yf:Shared->α}{Ya:World->α}{N M k:Nat}{H:Params->Heap}(le:Nat.ble M N=true)
 (o:∀w:World,(fencedOpening treeTable p w N).map (fun s=>(s.heap,s.gens,s.drawn,s.toks))=some (boot_heap w.params,Array.mk [],boot_drawn,boot_toks))
 (r:∀(w:World)(os:OsState),topRun treeTable p w 11 (some (.ref 6)) M ⟨boot_heap w.params,Array.mk [],boot_drawn,boot_toks,os⟩ (topStub p)=some ⟨H w.params,Array.mk [],boot_drawn,k,os⟩)
 (a:∀(w:World)(os:OsState),(HD.ok p w ⟨H w.params,Array.mk [],boot_drawn,k,os⟩,openSeen q [] (importedModules p.main.body) Xt true ⟨H w.params,Array.mk [],boot_drawn,k,os⟩)=(true,openGood q []))
 (b:∀(w:World)(os:OsState),Yf ⟨H w.params,Array.mk [],boot_drawn,k,os⟩=Ya w):LeftO p q [] Xt Yf Ya N true :=
 LeftO.of_pieces o (fun w=>by kernel_rfl) r le fun w=>funext fun os=>by
  obtain⟨e,f⟩:=Prod.mk.inj (a w os)
  exact looks_pair e (looks_pair f (b w os))
theorem HD.tri {β γ δ ε ζ η θ ι κ:Type}{b:Bool}{x y:β×γ×δ×ε×ζ×η×θ×ι×κ}(h0:b=true) (h1:x.1=y.1) (h2:x.2.1=y.2.1) (h3:x.2.2.1=y.2.2.1) (h4:x.2.2.2.1=y.2.2.2.1) (h5:x.2.2.2.2.1=y.2.2.2.2.1) (h6:x.2.2.2.2.2.1=y.2.2.2.2.2.1) (h7:x.2.2.2.2.2.2.1=y.2.2.2.2.2.2.1) (h8:x.2.2.2.2.2.2.2.1=y.2.2.2.2.2.2.2.1) (h9:x.2.2.2.2.2.2.2.2=y.2.2.2.2.2.2.2.2):(b,x)=(true,y) :=
 Prod.ext h0 (Prod.ext h1 (Prod.ext h2 (Prod.ext h3 (Prod.ext h4 (Prod.ext h5 (Prod.ext h6 (Prod.ext h7 (Prod.ext h8 h9))))))))
theorem HD.op (w:World):(fencedOpening treeTable HD.pr w 7668).map (fun s=>(s.heap,s.gens,s.drawn,s.toks))=some (boot_heap w.params,Array.mk [],boot_drawn,boot_toks):=boot_open (by kernel_rfl) (by decide +kernel) (fun s=>by kernel_rfl) w
noncomputable def HD.bd:List Stmt:=behindTheImports HD.pr
noncomputable def HD.ev:Env:={ scope:=HD.pr.main.scope,locals:=3,globals:=3,cells:=[],code:=.ref 13,frame:=some 14 }
noncomputable def HD.cE:Code:=.body HD.bd HD.ev
noncomputable def HD.H (P:Params):Heap:=absHeap (HD.S HD.bt HD.bd P default).tree 670 (boot_heap P).life
noncomputable def HD.Z (w:World)(os:OsState):Shared:=⟨HD.H w.params,Array.mk [],boot_drawn,1092,os⟩
theorem HD.pre (w:World)(os:OsState):topGo treeTable HD.pr w 11 (some (.ref 6)) 12 ⟨boot_heap w.params,Array.mk [],boot_drawn,boot_toks,os⟩ (topStub HD.pr)=some ((HD.S HD.bt [] w.params os).abs,⟨denote treeTable HD.cE,HD.cE,⟨0,0,0,0⟩,[topFrame ⟨0,0,0,0⟩]⟩):=by kernel_rfl
theorem HD.blk (w:World)(os:OsState):segRun treeTable HD.pr w 11 (some (.ref 6)) 1 1 (HD.S HD.bt [] w.params os).abs (blockOf HD.bd HD.ev HD.cE ⟨0,0,0,0⟩ [topFrame ⟨0,0,0,0⟩])=some (.next,(HD.S HD.bt [] w.params os).abs,HD.cE,⟨0,0,0,0⟩):=by kernel_rfl
theorem HD.q0 (w:World)(os:OsState):segRunT treeTable HD.pr w 11 (some (.ref 6)) 1 958 (HD.S HD.bt [] w.params os) (piecesOf (HD.bd.take 11) HD.ev HD.cE ⟨0,0,0,0⟩ [topFrame ⟨0,0,0,0⟩])=some (.next,(HD.S HD.bu (HD.bd.take 11) w.params os),HD.cE,⟨23,0,31,44⟩):=by kernel_rfl
theorem HD.q1 (w:World)(os:OsState):segRunT treeTable HD.pr w 11 (some (.ref 6)) 1 938 (HD.S HD.bu (HD.bd.take 11) w.params os) (piecesOf ((HD.bd.drop 11).take 34) HD.ev HD.cE ⟨23,0,31,44⟩ [topFrame ⟨0,0,0,0⟩])=some (.next,(HD.S HD.bt (HD.bd.take 45) w.params os),HD.cE,⟨158,0,160,45⟩):=by kernel_rfl
theorem HD.q2 (w:World)(os:OsState):segRunT treeTable HD.pr w 11 (some (.ref 6)) 1 914 (HD.S HD.bt (HD.bd.take 45) w.params os) (piecesOf (((HD.bd.drop 11).drop 34).take 33) HD.ev HD.cE ⟨158,0,160,45⟩ [topFrame ⟨0,0,0,0⟩])=some (.next,(HD.S HD.bu (HD.bd.take 78) w.params os),HD.cE,⟨310,0,313,53⟩):=by kernel_rfl
theorem HD.q3 (w:World)(os:OsState):segRunT treeTable HD.pr w 11 (some (.ref 6)) 1 928 (HD.S HD.bu (HD.bd.take 78) w.params os) (piecesOf (((HD.bd.drop 11).drop 34).drop 33) HD.ev HD.cE ⟨310,0,313,53⟩ [topFrame ⟨0,0,0,0⟩])=some (.next,(HD.S HD.bt HD.bd w.params os),HD.cE,⟨518,0,544,53⟩):=by kernel_rfl
theorem HD.fn (w:World)(os:OsState):topRun treeTable HD.pr w 11 (some (.ref 6)) 2 (HD.S HD.bt HD.bd w.params os).abs ⟨doneF .next,HD.cE,⟨518,0,544,53⟩,[topFrame ⟨0,0,0,0⟩]⟩=some (HD.Z w os):=by kernel_rfl
theorem HD.run (w:World)(os:OsState):topRun treeTable HD.pr w 11 (some (.ref 6)) (12+(1+(958+(938+(914+(928+2)))))) ⟨boot_heap w.params,Array.mk [],boot_drawn,boot_toks,os⟩ (topStub HD.pr)=some (HD.Z w os):=go_top (HD.pre w os) (piece_block (HD.blk w os) (HD.ap 11 (HD.q0 w os) (HD.ap 34 (HD.q1 w os) (HD.ap 33 (HD.q2 w os) (HD.ae (HD.q3 w os) (HD.fn w os))))))
noncomputable abbrev HD.xt:Shared->Bool:=fun s=>xlAt HD.qv [] s&&recOk (RowW.records (OpenRow.toRowW (OpenLaw.row PySem.Challenge.rw_curvehouse_k40_a_burst))) s
noncomputable abbrev HD.sn (w:World)(os:OsState):=openSeen HD.qv [] (importedModules HD.pr.main.body) HD.xt true (HD.Z w os)
theorem HD.l0 (w:World)(os:OsState):HD.ok HD.pr w (HD.Z w os)=true:=by kernel_rfl
theorem HD.l1 (w:World)(os:OsState):(HD.sn w os).1=expectedOf HD.qv:=by kernel_rfl
theorem HD.l2 (w:World)(os:OsState):(HD.sn w os).2.1=bltViewBooted:=by kernel_rfl
theorem HD.l3 (w:World)(os:OsState):(HD.sn w os).2.2.1=true:=by kernel_rfl
theorem HD.l4 (w:World)(os:OsState):(HD.sn w os).2.2.2.1=true:=by kernel_rfl
theorem HD.l5 (w:World)(os:OsState):(HD.sn w os).2.2.2.2.1=pinGoodD (drecsOf HD.qv):=by kernel_rfl
theorem HD.l6 (w:World)(os:OsState):(HD.sn w os).2.2.2.2.2.1=plainGoodE HD.qv (looseW HD.qv []):=by kernel_rfl
theorem HD.l7 (w:World)(os:OsState):(HD.sn w os).2.2.2.2.2.2.1=plainGoodD HD.qv []:=by kernel_rfl
theorem HD.l8 (w:World)(os:OsState):(HD.sn w os).2.2.2.2.2.2.2.1=wideGood HD.qv:=by kernel_rfl
theorem HD.l9 (w:World)(os:OsState):(HD.sn w os).2.2.2.2.2.2.2.2=clsGoodW HD.qv []:=by kernel_rfl
theorem HD.lA (w:World)(os:OsState):(HD.ok HD.pr w (HD.Z w os),HD.sn w os)=(true,openGood HD.qv []):=HD.tri (HD.l0 w os) (HD.l1 w os) (HD.l2 w os) (HD.l3 w os) (HD.l4 w os) (HD.l5 w os) (HD.l6 w os) (HD.l7 w os) (HD.l8 w os) (HD.l9 w os)
end
section
open PySem PySem.W PyProof.Rows
local macro_rules|`(tactic| o_head $H)=>`(tactic| (
 refine holds_open (q:=HD.qv) (loose:=[]) (N:=7668)
  (Xt:=(fun s=>xlAt HD.qv [] s&&recOk (RowW.records (OpenRow.toRowW (OpenLaw.row PySem.Challenge.rw_curvehouse_k40_a_burst))) s))
  (XP:=XL HD.qv []) (Yf:=Hook.obs $H) (Ya:=Hook.val $H)
  (YP:=Hook.says $H) ?hl (Hook.of $H) (Hook.keeps $H)
  (fun s e=>xl_of s (Bool.and_eq_true_iff.mp e).1) XL.keeps (by rfl) (by rfl) (by rfl)
  (fun s e=>recFacts_of (Bool.and_eq_true_iff.mp e).2) (by rfl) (by first|assumption|decide +kernel)
  (by decide +kernel) ⟨rfl,rfl,rfl,rfl,rfl,by decide +kernel⟩ ?hw ?hc
 case hl =>
  refine HD.lo (by decide +kernel) HD.op HD.run HD.lA ?_
  intro w os
  kernel_rfl))
set_option maxRecDepth 100000 in
set_option maxHeartbeats 0 in
theorem CL.front (hF:∀{q:Program}{loose:List Str}{XP:(Str->Option Value)->Heap->Prop}{YP:World->Heap->Prop}{d:DefRec}{K:Params->W.Frag},d.params.defaults=[]->(∀y:Str,(recsOf PySem.Challenge.rw_curvehouse_k40_a_burst.prog).any (fun d=>d.name==y)=true->(recsOf q).any (fun d=>d.name==y)=true)->(∀(w:World)(h:Heap),YP w h->(K w.params).In h)->(∀w:World,W.noTabs (K w.params)=true)->d.name="law"->(∀w:World,CL.Facts PySem.Challenge.rw_curvehouse_k40_a_burst (K w.params))->W.WalkO q loose XP YP PySem.Challenge.rw_curvehouse_k40_a_burst.row.toRowW d [] (fun f vs=>PySem.call f vs)):PySem.Challenge.rw_curvehouse_k40_a_burst.Holds:=by
 w_on;refine holds_law HD.ws fun said=>?_;k_head;(case hw=>w_witness2)
 k_fill
 refine hF rfl (fun _ h=>h) (fun w h Y=>W.km_in_of Y) (fun w=>?nt) rfl (fun w=>?F)
 case nt=>kernel_rfl
 case F =>
  refine' CL.Facts.mk (.mk ?a0 ?l0 ?c0 ?k0) (.mk ?a1 ?l1 ?c1 ?k1) (.mk ?a2 ?l2 ?c2 ?k2) (.mk ?a3 ?l3 ?c3 ?k3) (.mk ?a4 ?l4 ?c4 ?k4) (.mk ?a5 ?l5 ?c5 ?k5) (.mk ?a6 ?l6 ?c6 ?k6) (.mk ?a7 ?l7 ?c7 ?k7) (.mk ?a8 ?l8 ?c8 ?k8) (.mk ?a9 ?l9 ?c9 ?k9) (.mk ?a10 ?l10 ?c10 ?k10) (.mk ?a11 ?l11 ?c11 ?k11) (.mk ?a12 ?l12 ?c12 ?k12) (.mk ?a13 ?l13 ?c13 ?k13) (.mk ?a14 ?l14 ?c14 ?k14) (.mk ?a15 ?l15 ?c15 ?k15) (.mk ?a16 ?l16 ?c16 ?k16) (.mk ?a17 ?l17 ?c17 ?k17) (.mk ?a18 ?l18 ?c18 ?k18) (.mk ?a19 ?l19 ?c19 ?k19) (.mk ?a20 ?l20 ?c20 ?k20) (.mk ?a21 ?l21 ?c21 ?k21) (.mk ?a22 ?l22 ?c22 ?k22) (.mk ?a23 ?l23 ?c23 ?k23) (.mk ?a24 ?l24 ?c24 ?k24) (.mk ?a25 ?l25 ?c25 ?k25) (.mk ?a26 ?l26 ?c26 ?k26) (.mk ?a27 ?l27 ?c27 ?k27) (.mk ?a28 ?l28 ?c28 ?k28) (.mk ?a29 ?l29 ?c29 ?k29) (.mk ?a30 ?l30 ?c30 ?k30) (.mk ?a31 ?l31 ?c31 ?k31) (.mk ?a32 ?l32 ?c32 ?k32) (.mk ?a33 ?l33 ?c33 ?k33) (.mk ?a34 ?l34 ?c34 ?k34) (.mk ?a35 ?l35 ?c35 ?k35) (.mk ?a36 ?l36 ?c36 ?k36) (.mk ?a37 ?l37 ?c37 ?k37) (.mk ?a38 ?l38 ?c38 ?k38) (.mk ?a39 ?l39 ?c39 ?k39) (.mk ?a40 ?l40 ?c40 ?k40) (.mk ?a41 ?l41 ?c41 ?k41) (.mk ?a42 ?l42 ?c42 ?k42) (.mk ?a43 ?l43 ?c43 ?k43) (.mk ?a44 ?l44 ?c44 ?k44) (.mk ?a45 ?l45 ?c45 ?k45) (.mk ?a46 ?l46 ?c46 ?k46) (.mk ?a47 ?l47 ?c47 ?k47) (.mk ?a48 ?l48 ?c48 ?k48) (.mk ?a49 ?l49 ?c49 ?k49) (.mk ?a50 ?l50 ?c50 ?k50) (.mk ?a51 ?l51 ?c51 ?k51) (.mk ?a52 ?l52 ?c52 ?k52) (.mk ?a53 ?l53 ?c53 ?k53) (.mk ?a54 ?l54 ?c54 ?k54) (.mk ?a55 ?l55 ?c55 ?k55) (.mk ?a56 ?l56 ?c56 ?k56) (.mk ?a57 ?l57 ?c57 ?k57) (.mk ?a58 ?l58 ?c58 ?k58) (.mk ?a59 ?l59 ?c59 ?k59) (.mk ?a60 ?l60 ?c60 ?k60) (.mk ?a61 ?l61 ?c61 ?k61) (.mk ?a62 ?l62 ?c62 ?k62) (.mk ?a63 ?l63 ?c63 ?k63) (.mk ?a64 ?l64 ?c64 ?k64) (.mk ?a65 ?l65 ?c65 ?k65) (.mk ?a66 ?l66 ?c66 ?k66) (.mk ?a67 ?l67 ?c67 ?k67) (.mk ?a68 ?l68 ?c68 ?k68) (.mk ?a69 ?l69 ?c69 ?k69) (.mk ?a70 ?l70 ?c70 ?k70) (.mk ?a71 ?l71 ?c71 ?k71) (.mk ?a72 ?l72 ?c72 ?k72) (.mk ?a73 ?l73 ?c73 ?k73) (.mk ?a74 ?l74 ?c74 ?k74) (.mk ?a75 ?l75 ?c75 ?k75) (.mk ?a76 ?l76 ?c76 ?k76) (.mk ?a77 ?l77 ?c77 ?k77) (.mk ?a78 ?l78 ?c78 ?k78) (.mk ?a79 ?l79 ?c79 ?k79) (.mk ?a80 ?l80 ?c80 ?k80) (.mk ?a81 ?l81 ?c81 ?k81) (.mk ?a82 ?l82 ?c82 ?k82) (.mk ?a83 ?l83 ?c83 ?k83) (.mk ?a84 ?l84 ?c84 ?k84) (.mk ?a85 ?l85 ?c85 ?k85) (.mk ?a86 ?l86 ?c86 ?k86) (.mk ?a87 ?l87 ?c87 ?k87) (.mk ?a88 ?l88 ?c88 ?k88) (.mk ?a89 ?l89 ?c89 ?k89) ?aL ?lL ?cL ?kL ?z0 ?z1 ?z2 ?z3 ?z4 ?z5 ?z6 ?z7 ?z8 ?z9 ?z10 ?z11 ?n_CurveError ?n_NoCurve ?n_NoTime ?n_NOUGHT ?n_gl_NOUGHT_6 ?x_NoCurve ?x_NoTime ?h0_CurveError ?h1_CurveError ?h2_CurveError ?mr_NoTime_CurveError ?kT_NoTime_ValueError ?i0_NoTime ?i1_NoTime ?i2_NoTime ?i3_NoTime ?i4_NoTime ?i5_NoTime ?i6_NoTime ?i7_NoTime ?h0_NoTime ?h1_NoTime ?h2_NoTime ?mr_NoTime_NoTime ?kp_NoTime ?ht_piece_at ?hp_piece_at ?ht_from_nought ?hp_from_nought ?ht_side_by_side ?hp_side_by_side ?ht_lowered ?hp_lowered
  case a0|l0|c0|k0|a1|l1|c1|k1|a2|l2|c2|k2|a3|l3|c3|k3|a4|l4|c4|k4|a5|l5|c5|k5|a6|l6|c6|k6|a7|l7|c7|k7|a8|l8|c8|k8|a9|l9|c9|k9|a10|l10|c10|k10|a11|l11|c11|k11|a12|l12|c12|k12|a13|l13|c13|k13|a14|l14|c14|k14|a15|l15|c15|k15|a16|l16|c16|k16|a17|l17|c17|k17|a18|l18|c18|k18|a19|l19|c19|k19|a20|l20|c20|k20|a21|l21|c21|k21|a22|l22|c22|k22|a23|l23|c23|k23|a24|l24|c24|k24|a25|l25|c25|k25|a26|l26|c26|k26|a27|l27|c27|k27|a28|l28|c28|k28|a29|l29|c29|k29|a30|l30|c30|k30|a31|l31|c31|k31|a32|l32|c32|k32|a33|l33|c33|k33|a34|l34|c34|k34|a35|l35|c35|k35|a36|l36|c36|k36|a37|l37|c37|k37|a38|l38|c38|k38|a39|l39|c39|k39|a40|l40|c40|k40|a41|l41|c41|k41|a42|l42|c42|k42|a43|l43|c43|k43|a44|l44|c44|k44|a45|l45|c45|k45|a46|l46|c46|k46|a47|l47|c47|k47|a48|l48|c48|k48|a49|l49|c49|k49|a50|l50|c50|k50|a51|l51|c51|k51|a52|l52|c52|k52|a53|l53|c53|k53|a54|l54|c54|k54|a55|l55|c55|k55|a56|l56|c56|k56|a57|l57|c57|k57|a58|l58|c58|k58|a59|l59|c59|k59|a60|l60|c60|k60|a61|l61|c61|k61|a62|l62|c62|k62|a63|l63|c63|k63|a64|l64|c64|k64|a65|l65|c65|k65|a66|l66|c66|k66|a67|l67|c67|k67|a68|l68|c68|k68|a69|l69|c69|k69|a70|l70|c70|k70|a71|l71|c71|k71|a72|l72|c72|k72|a73|l73|c73|k73|a74|l74|c74|k74|a75|l75|c75|k75|a76|l76|c76|k76|a77|l77|c77|k77|a78|l78|c78|k78|a79|l79|c79|k79|a80|l80|c80|k80|a81|l81|c81|k81|a82|l82|c82|k82|a83|l83|c83|k83|a84|l84|c84|k84|a85|l85|c85|k85|a86|l86|c86|k86|a87|l87|c87|k87|a88|l88|c88|k88|a89|l89|c89|k89|aL|lL|cL|kL|z0|z1|z2|z3|z4|z5|z6|z7|z8|z9|z10|z11|n_CurveError|n_NoCurve|n_NoTime|n_NOUGHT|n_gl_NOUGHT_6=>(show _=_;k_is)
  case x_NoCurve|x_NoTime|h0_CurveError|h1_CurveError|h2_CurveError|mr_NoTime_CurveError|kT_NoTime_ValueError|i0_NoTime|i1_NoTime|i2_NoTime|i3_NoTime|i4_NoTime|i5_NoTime|i6_NoTime|i7_NoTime|h0_NoTime|h1_NoTime|h2_NoTime|mr_NoTime_NoTime|kp_NoTime|ht_piece_at|hp_piece_at|ht_from_nought|hp_from_nought|ht_side_by_side|hp_side_by_side|ht_lowered|hp_lowered=>kernel_rfl
end
local macro_rules|`(#[$xs,*])=>`(⟨$xs,*⟩)
local macro_rules|`(↥$x)=>`(($x).length)
section
open PySem PySem.Spec PyProof.Rows
abbrev qC1:=@wpAny_bind
abbrev qC2:=@wpAny_pure
abbrev qC3:=@wpAny_mono
abbrev qC4:=@wpAny_field
abbrev qC5:=@if_neg
abbrev qC6:=@if_pos
abbrev qC7:=@decide_eq_true
abbrev qC8:=@decide_eq_false
end
namespace L2
open PySem PySem.Spec PyProof.Rows
abbrev Key:=Sum Int Str
def Xz:Key->Value->Bool
 |.inl k,v=>Value.isInt k v
 |.inr x,v=>Value.isStrOf x v
def dI (w:World):Key->Int
 |.inl k=>hashInt k
 |.inr x=>hashStr w x
def BA:∀{k:Key}{v:Value},Xz k v=true->(∃i t,k=Sum.inl i/\v=Value.int i t)\/(∃x t,k=Sum.inr x/\v=Value.str x t)
 |.inl i,v,h=>by
  obtain⟨t,e⟩:=Value.isInt_shape (k:=i) (v:=v) h;exact .inl #[i,t,rfl,e]
 |.inr x,v,h=>by
  obtain⟨t,e⟩:=Value.isStrOf_shape (x:=x) (v:=v) h;exact .inr #[x,t,rfl,e]
def Yw (a b:Int):decide ((Sum.inl a:Key)=Sum.inl b)=(a==b):=by
 by_cases e:a=b
 .subst e;simp
 .have h:¬(Sum.inl a:Key)=Sum.inl b:=λq=>e (Sum.inl.inj q);rw[qC8 h];exact(beq_eq_false_iff_ne.mpr e).symm
def Yr (a b:Str):decide ((Sum.inr a:Key)=Sum.inr b)=decide (a=b):=by
 by_cases e:a=b
 .subst e;simp
 .have h:¬(Sum.inr a:Key)=Sum.inr b:=λq=>e (Sum.inr.inj q);rw[qC8 h,qC8 e]
def Ye (a:Int)(b:Str):decide ((Sum.inl a:Key)=Sum.inr b)=false:=qC8 (λq=>nomatch q)
def XD (a:Str)(b:Int):decide ((Sum.inr a:Key)=Sum.inl b)=false:=qC8 (λq=>nomatch q)
def NI (prog:Program)(w:World):PySem.KeyKind prog w Key where
 is:=Xz
 hash:=dI w
 inj:=λv a b ha hb=>by
  rcases BA ha with⟨i,t,rfl,rfl⟩|⟨x,t,rfl,rfl⟩
  .rcases BA hb with⟨j,u,rfl,e⟩|⟨y,u,rfl,e⟩
   .injection e with e1 _;rw[e1]
   .exact nomatch e
  .rcases BA hb with⟨j,u,rfl,e⟩|⟨y,u,rfl,e⟩
   .exact nomatch e
   .injection e with e1 _;rw[e1]
 byValue:=λk v h=>by
  rcases BA h with⟨i,t,rfl,rfl⟩|⟨x,t,rfl,rfl⟩<;>rfl
 pyHash:=λhv h=>by
  rcases BA hv with⟨i,t,rfl,rfl⟩|⟨x,t,rfl,rfl⟩
  .exact wpAny_pyHash_int h
  .exact wpAny_pyHash_str h
 eqBool:=λhu hv h=>by
  rcases BA hu with⟨i,t,rfl,rfl⟩|⟨x,t,rfl,rfl⟩
  .rcases BA hv with⟨j,u,rfl,rfl⟩|⟨y,u,rfl,rfl⟩
   .rw[Yw]at h;exact wpAny_eqBool_int h
   .rw[Ye]at h;exact SeqAt.EqAt.int_str i t y u _ _ _ _ h
  .rcases BA hv with⟨j,u,rfl,rfl⟩|⟨y,u,rfl,rfl⟩
   .rw[XD]at h;exact SeqAt.EqAt.str_int x t j u _ _ _ _ h
   .rw[Yr]at h;exact wpAny_eqBool_str h
 «strs»:=λk x t v h=>by
  rcases BA h with⟨i,u,rfl,e⟩|⟨y,u,rfl,e⟩
  .exact nomatch e
  .injection e with e1 _
   subst e1;cases v<;>rfl
inductive V where
 |non|bl (b:Bool)|int (i:Int)|str (x:Str)|byt (b:Array UInt8)|flt (b:UInt64)|ref (a:Addr)|ty (n:String)
 deriving DecidableEq
def Cq:V->Value->Prop
 |.non,u=>u=Value.none
 |.bl b,u=>u=Value.bool b
 |.int i,u=>∃t,u=Value.int i t
 |.str x,u=>∃t,u=Value.str x t
 |.byt b,u=>∃t,u=Value.bytes b t
 |.flt b,u=>∃t,u=Value.float b t
 |.ref a,u=>u=Value.ref a
 |.ty n,u=>u=Value.type n
abbrev B4:List V->List Value->Prop:=Paired Cq
def B4.length {xs:List V}{us:List Value}(r:B4 xs us):↥xs=↥us:=Paired.length r
def B4.get:∀{xs:List V}{us:List Value}{i:Nat}{x:V},B4 xs us->xs[i]? = some x->∃u,us[i]? = some u/\Cq x u
 |_,_,_,_,.nil,e=>by simp at e
 |_,_,0,_,.cons r _,e=>by simp at e;subst e;exact#[_,rfl,r]
 |_,_,i+1,x,.cons _ t,e=>by
  obtain⟨u,h1,h2⟩:=B4.get (i:=i) (x:=x) t (by simpa using e);exact#[u,by simpa using h1,h2]
def B4.set {x:V}{u:Value}(r:Cq x u):∀{xs:List V}{us:List Value}(i:Nat),B4 xs us->B4 (xs.set i x) (us.set i u)
 |_,_,_,.nil=>.nil
 |_,_,0,.cons _ t=>.cons r t
 |_,_,i+1,.cons q t=>.cons q (B4.set r i t)
def B4.append:∀{xs ys:List V}{us ws:List Value},B4 xs us->B4 ys ws->B4 (xs++ys) (us++ws)
 |_,_,_,_,.nil,s=>s
 |_,_,_,_,.cons r t,s=>.cons r (B4.append t s)
def B4.take:∀{xs:List V}{us:List Value}(n:Nat),B4 xs us->B4 (xs.take n) (us.take n)
 |_,_,0,_=>.nil
 |_,_,_+1,.nil=>.nil
 |_,_,n+1,.cons r t=>.cons r (B4.take n t)
def B4.drop:∀{xs:List V}{us:List Value}(n:Nat),B4 xs us->B4 (xs.drop n) (us.drop n)
 |_,_,0,r=>r
 |_,_,_+1,.nil=>.nil
 |_,_,n+1,.cons _ t=>B4.drop n t
def Z9:Option V->Option Value->Prop
 |some v,some u=>Cq v u
 |none,none=>True
 |_,_=>False
def KV {κ:Type}:List (κ×V)->List (κ×Value)->Prop:=Paired fun(p:κ×V)(q:κ×Value)=>p.1=q.1/\Cq p.2 q.2
def kV:Key->V
 |.inl i=>.int i
 |.inr x=>.str x
inductive HO where
 |lst (xs:List V)
 |tup (xs:List V)
 |dK (kvs:List (Key×V))|dT (kvs:List (List Key×V))
 |set (S:Int->Bool) (n:Nat)
 |ins (C dx:Addr) (fs:List (Str×V))
 |own (x:Addr)
 |xd (fs:List (Str×V))
 |met (f x:Addr)
 |rng (lo hi:Int)
 |frz (o:Obj) (u:HO)
 |tbl (ps:Array Value)
 |ext (φ:Heap->Prop)
abbrev Hp:=Addr->Option HO
def upd (H:Hp)(a:Addr)(o:HO):Hp:=λb=>if b=a then some o else H b
def As {H:Hp}{a:Addr}{o:HO}:upd H a o a=some o:=by unfold upd;rw[qC6 rfl]
def An {H:Hp}{a b:Addr}{o:HO}(h:b≠a):upd H a o b=H b:=by unfold upd;rw[qC5 h]
def AG {H:Hp}{a b:Addr}{o:HO}(h:H a=some o)(h':H b=none):a≠b:=by
 intro e;subst e;rw[h]at h';cases h'
def ND (H:Hp)(h:Heap)(a:Addr):Prop:=∃tab:Array Value,h.get? a=some { cls:=.none,data:=.fields tab }/\TriplesOk tab.toList /\
 ∀(pos:Pos)(cv:Value),codeAmong pos tab.toList=some cv->∃(c:Addr)(oc:Obj)(fs:Array Value)(nm:Str)(t:Nat),cv=.ref c/\H c=some (.frz oc (.own a))/\oc.data=.fields fs/\fs[1]? = some (.str nm t)
def ND.stay {H H':Hp}{h h':Heap}{a:Addr}(x:ND H h a)(k:∀o,h.get? a=some o->h'.get? a=some o)(hf:∀b o u,H b=some (.frz o u)->H' b=some (.frz o u)):ND H' h' a:=by
 obtain⟨tab,e,tr,q⟩:=x;refine#[tab,k _ e,tr,λpos cv z=>?_];obtain⟨c,oc,fs,nm,t,z1,z2,z3⟩:=q pos cv z;exact#[c,oc,fs,nm,t,z1,hf _ _ _ z2,z3]
section
variable (P:Program)(w:World)
def Dm (H:Hp)(h:Heap)(a:Addr):HO->Prop
 |.lst xs=>↥xs<=sizeLine/\∃(its:List Value)(n:Nat),B4 xs its/\h.get? a=some { cls:=.type "list",data:=.seq its.toArray n }
 |.tup xs=>↥xs<=sizeLine/\∃its:List Value,B4 xs its/\IsTup h a its.toArray
 |.dK kvs=>↥kvs<=sizeLine/\(a==sysModules)=false/\∃vs,KV kvs vs/\h.DictOf (NI P w) a vs
 |.dT kvs=>↥kvs<=sizeLine/\(a==sysModules)=false/\∃xs:List (List Key×Addr×Value),
  Paired (fun(p:List Key×V)(q:List Key×Addr×Value)=>p.1=q.1/\H q.2.1=some (.tup (p.1.map kV))/\Cq p.2 q.2.2) kvs xs /\
  ∃o es ep,h.get? a=some o/\o.ExactDict/\o.data=.dict es ep/\es.toList=xs.map (entryOfKey (tupleKind (NI P w)))/\(xs.map (·.1)).Nodup
 |.set S n=>h.SetOf (intKind P w) a S n
 |.ins C dx fs=>H dx=some (.own a)/\↥fs<=1000/\dx≠a/\h.get? a=some (W.instObj C dx) /\
  ∃mA,h.Ns1 dx mA/\(∀f,Z9 (fs.lookup f) (mA f))/\PySem.Within mA (fs.map (·.1))
 |.own _=>∃o,h.get? a=some o
 |.xd fs=>∃mA,h.Ns1 a mA/\∀f,Z9 (fs.lookup f) (mA f)
 |.rng lo hi=>∃t u v,h.get? a=some { cls:=.type "range",data:=.fields (List.toArray [.int lo t,.int hi u,.int 1 v]) }
 |.frz o u=>h.get? a=some o/\Dm H h a u
 |.tbl _=>ND H h a
 |.met f x=>h.get? a=some (W.methodObj (.ref f) (.ref x))
 |.ext φ=>φ h/\(∃o,h.get? a=some o)/\∀h1 h2:Heap,φ h1->(∀o,h1.get? a=some o->h2.get? a=some o)->φ h2
def HOk (H:Hp)(h:Heap):Prop:=∀a o,H a=some o->Dm P w H h a o
end
section
variable {P:Program}{w:World}{H H':Hp}{h h':Heap}{a:Addr}{o:HO}
def Dm.lt (x:Dm P w H h a o):a<h.objs.size:=by
 cases o with
 |lst xs=>obtain⟨_,_,_,_,e⟩:=x;exact qAj e
 |tup xs=>obtain⟨_,_,_,p⟩:=x;exact p.lt
 |dK kvs=>obtain⟨_,_,_,_,o,_,_,e,_⟩:=x;exact qAj e
 |dT kvs=>obtain⟨_,_,_,_,o,_,_,e,_⟩:=x;exact qAj e
 |set S n=>obtain⟨o,_,_,_,e,_⟩:=x;exact qAj e
 |ins C dx fs=>obtain⟨_,_,_,e,_⟩:=x;exact qAj e
 |own y=>obtain⟨_,e⟩:=x;exact qAj e
 |xd fs=>obtain⟨_,⟨_,_,_,e,_⟩,_⟩:=x;exact qAj e
 |rng lo hi=>obtain⟨_,_,_,e⟩:=x;exact qAj e
 |frz ob u=>obtain⟨e,_⟩:=x;exact qAj e
 |tbl ps=>obtain⟨_,e,_⟩:=x;exact qAj e
 |met f y=>exact qAj (show h.get? a=some _ from x)
 |ext φ=>obtain⟨_,⟨_,e⟩,_⟩:=x;exact qAj e
def Paired.mapP {α β:Type}{F G:α->β->Prop}:∀{l₁:List α}{l₂:List β},Paired F l₁ l₂->(∀a b,F a b->G a b)->Paired G l₁ l₂
 |_,_,.nil,_=>.nil
 |_,_,.cons r t,f=>.cons (f _ _ r) (Paired.mapP t f)
def Dm.stay (x:Dm P w H h a o)(k:∀b u,(b=a\/H b=some (.own a))->h.get? b=some u->h'.get? b=some u)
 (ho:∀b,H b=some (.own a)->H' b=some (.own a))(ht:∀b xs,H b=some (.tup xs)->H' b=some (.tup xs))(hf:∀b o u,H b=some (.frz o u)->H' b=some (.frz o u):=by intro _ _ _ q;exact q):Dm P w H' h' a o:=by
 induction o with
 |lst xs=>obtain⟨z,its,n,r,e⟩:=x;exact#[z,its,n,r,k _ _ (.inl rfl) e]
 |tup xs=>obtain⟨z,its,r,ob,e,c⟩:=x;exact#[z,its,r,ob,k _ _ (.inl rfl) e,c]
 |dK kvs=>obtain⟨z,y,vs,r,ob,es,ep,e,c⟩:=x;exact#[z,y,vs,r,ob,es,ep,k _ _ (.inl rfl) e,c]
 |dT kvs=>
  obtain⟨z,y,xs,r,ob,es,ep,e,c⟩:=x;exact#[z,y,xs,Paired.mapP r λp q z=>#[z.1,ht _ _ z.2.1,z.2.2],ob,es,ep,k _ _ (.inl rfl) e,c]
 |set S n=>obtain⟨ob,es,ep,t,e,c⟩:=x;exact#[ob,es,ep,t,k _ _ (.inl rfl) e,c]
 |ins C dx fs=>
  obtain⟨d,z,ne,e,mA,⟨od,es,ep,e2,c⟩,r⟩:=x;exact#[ho _ d,z,ne,k _ _ (.inl rfl) e,mA,#[od,es,ep,k _ _ (.inr d) e2,c],r]
 |own y=>obtain⟨ob,e⟩:=x;exact#[ob,k _ _ (.inl rfl) e]
 |xd fs=>obtain⟨mA,⟨od,es,ep,e,c⟩,r⟩:=x;exact#[mA,#[od,es,ep,k _ _ (.inl rfl) e,c],r]
 |rng lo hi=>obtain⟨t,u,v,e⟩:=x;exact#[t,u,v,k _ _ (.inl rfl) e]
 |frz ob u ih=>obtain⟨e,q⟩:=x;exact#[k _ _ (.inl rfl) e,ih q]
 |tbl ps=>exact ND.stay x (λu q=>k _ _ (.inl rfl) q) hf
 |met f y=>
  have e:h.get? a=some (W.methodObj (.ref f) (.ref y)):=x;show h'.get? a=some (W.methodObj (.ref f) (.ref y));exact k a _ (.inl rfl) e
 |ext φ=>obtain⟨p,⟨o,e⟩,st⟩:=x;exact#[st _ _ p λo q=>k _ _ (.inl rfl) q,#[o,k _ _ (.inl rfl) e],st]
def HOk.lt (x:HOk P w H h)(e:H a=some o):a<h.objs.size:=(x a o e).lt
def HOk.fresh (x:HOk P w H h)(e:h.objs.size<=a):H a=none:=by
 cases q:H a with
 |none=>rfl
 |some u=>exact absurd (qAl (x.lt q) e) (qAY _)
def HOk.kept (x:HOk P w H h)(k:∀b u,h.get? b=some u->h'.get? b=some u):HOk P w H h':=λa o e=>
 (x a o e).stay (λb u _ q=>k b u q) (λ_ q=>q) λ_ _ q=>q
def HOk.laid (x:HOk P w H h)(k:∀b u,h.get? b=some u->h'.get? b=some u)(hp:h.objs.size<=a)(new:Dm P w (upd H a o) h' a o):HOk P w (upd H a o) h':=λb u e=>by
 have hn:=x.fresh hp;by_cases hb:b=a
 .subst hb;rw[As]at e;cases e;exact new
 .rw[An hb]at e;exact(x b u e).stay (hf:=λc w1 w2 q=>by rw[An (AG q hn)];exact q) (λc v _ q=>k c v q) (λc q=>by rw[An (AG q hn)];exact q) λc xs q=>by rw[An (AG q hn)];exact q
end
def Rd (H:Hp)(a:Addr)(u:HO):Prop:=H a=some u\/∃o,H a=some (.frz o u)
def Rd.ok {P:Program}{w:World}{H:Hp}{h:Heap}{a:Addr}{u:HO}(r:Rd H a u)(x:HOk P w H h):Dm P w H h a u:=by
 rcases r with r|⟨o,r⟩
 .exact x a u r
 .obtain⟨_,q⟩:=x a _ r;exact q
def Mut:Option HO->Prop
 |some (.lst _)=>True
 |some (.dK _)=>True
 |some (.dT _)=>True
 |some (.set _ _)=>True
 |some (.ins _ _ _)=>True
 |some (.ext _)=>True
 |_=>False
section
variable {P:Program}{w:World}{H:Hp}{h h':Heap}{x e:Addr}{o':HO}
def HOk.write (ok:HOk P w H h)(mu:Mut (H x))(he:e=x\/H e=some (.own x))(k:∀b u,b≠e->h.get? b=some u->h'.get? b=some u)(heo:∃u,h'.get? e=some u)
 (new:Dm P w (upd H x o') h' x o'):HOk P w (upd H x o') h':=λb u q=>by
 have nown:∀c y,H c=some (.own y)->c≠x:=λc y r z=>by subst z;rw[r]at mu;exact mu
 have ntup:∀c xs,H c=some (.tup xs)->c≠x:=λc xs r z=>by subst z;rw[r]at mu;exact mu
 by_cases hb:b=x
 .subst hb;rw[As]at q;cases q;exact new
 .rw[An hb]at q;by_cases hbe:b=e
  .have q':H b=some (.own x):=by
    rcases he with z|z
    .exact absurd (hbe.trans z) hb
    .rw[hbe];exact z
   rw[q]at q';cases q';obtain⟨v,hv⟩:=heo;exact#[v,by rw[hbe];exact hv]
  .refine(ok b u q).stay (hf:=λc w1 w2 r=>by rw[An (λz=>by subst z;rw[r]at mu;exact mu)];exact r) (λc v hc r=>k c v ?_ r) (λc r=>by rw[An (nown c b r)];exact r) λc xs r=>by rw[An (ntup c xs r)];exact r
   rcases hc with rfl|hc
   .exact hbe
   .rintro rfl;rcases he with z|z
    .exact nown c b hc z
    .rw[hc]at z;cases z;exact hb rfl
end
structure Un (fs ex:List Addr)(H H':Hp)(h h':Heap):Prop where
 keep:∀b o,h.get? b=some o->H b=none->b∉fs->b∉ex->h'.get? b=some o
 slot:∀b o,h.get? b=some o->H b=none->b∈fs->b∉ex->∃sl,h'.get? b=some { o with slots:=sl }
 free:∀b o,h.get? b=some o->H b=none->b∉ex->H' b=none
 there:∀b o,h.get? b=some o->b∉ex->∃o',h'.get? b=some o'
 tups:∀b xs,H b=some (.tup xs)->H' b=some (.tup xs)
 frzs:∀b o u,H b=some (.frz o u)->H' b=some (.frz o u)
 tbls:∀b ps,H b=some (.tbl ps)->∃more,H' b=some (.tbl (ps++more))
section
variable {fs fs' ex ex':List Addr}{H H1 H2:Hp}{h h1 h2 h':Heap}{a x e:Addr}{o:HO}
def Un.any (u:Un fs ex H H1 h h1){b:Addr}{ob:Obj}(q:h.get? b=some ob)(n:H b=none)(hx:b∉ex):∃sl,h1.get? b=some { ob with slots:=sl }:=by
 by_cases hb:b∈fs
 .exact u.slot b ob q n hb hx
 .exact#[ob.slots,u.keep b ob q n hb hx]
def Un.kept (k:∀b u,h.get? b=some u->h'.get? b=some u):Un fs ex H H h h':=
 #[λb ob q _ _ _=>k b ob q,λb ob q _ _ _=>#[ob.slots,k b ob q],λ_ _ _ n _=>n,λb ob q _=>#[ob,k b ob q],λ_ _ q=>q,λ_ _ _ q=>q,λ_ ps q=>#[(List.toArray []),by rw[q];simp]]
def Un.refl:Un fs ex H H h h:=Un.kept λ_ _ q=>q
def Un.laid (k:∀b u,h.get? b=some u->h'.get? b=some u)(hp:h.objs.size<=a)(hn:H a=none):Un fs ex H (upd H a o) h h' where
 keep:=λb u q _ _ _=>k b u q
 slot:=λb u q _ _ _=>#[u.slots,k b u q]
 free:=λb u q n _=>by rw[An (qAs (qAl (qAj q) hp))];exact n
 there:=λb u q _=>#[u,k b u q]
 tups:=λb xs q=>by rw[An (AG q hn)];exact q
 frzs:=λb u xs q=>by rw[An (AG q hn)];exact q
 tbls:=λb ps q=>#[(List.toArray []),by rw[An (AG q hn),q];simp]
def Un.write (mu:Mut (H x))(he:e=x\/H e=some (.own x))(k:∀b u,b≠e->h.get? b=some u->h'.get? b=some u)(heo:∃u,h'.get? e=some u):Un fs ex H (upd H x o) h h':=by
 have hx:∀b,H b=none->b≠x:=λb n z=>by subst z;rw[n]at mu;exact mu
 have hb:∀b,H b=none->b≠e:=λb n z=>by
  subst z;rcases he with r|r
  .exact hx b n r
  .rw[n]at r;cases r
 have hm:∀b u,H b=some u->¬Mut (some u)->b≠x:=λb u q nm z=>by subst z;rw[q]at mu;exact nm mu
 refine#[λb u q n _ _=>k b u (hb b n) q,λb u q n _ _=>#[u.slots,k b u (hb b n) q],λb u q n _=>by rw[An (hx b n)];exact n,λb u q _=>?_,
  λb xs q=>by rw[An (hm b _ q λz=>z)];exact q,λb u xs q=>by rw[An (hm b _ q λz=>z)];exact q,λb ps q=>#[(List.toArray []),by rw[An (hm b _ q λz=>z),q];simp]]
 by_cases hbe:b=e
 .subst hbe;exact heo
 .exact#[u,k b u hbe q]
end
def trk (h:Heap)(H:Hp):List Addr:=(List.range h.objs.size).filter λa=>(H a).isSome
def SO (h:Heap)(H:Hp):Heap:=W.hideAll h (trk h H)
def Sj (h:Heap)(H:Hp):(SO h H).objs.size=h.objs.size:=W.hideAll_size _ _
def Uo {h:Heap}{H:Hp}{b:Addr}{o:Obj}(e:h.get? b=some o)(n:H b=none):(SO h H).get? b=some o:=
 qCp _ e λhm=>by
  have q:(H b).isSome=true:=(qA3.mp hm).2;rw[n]at q;simp at q
def WT {h:Heap}{H:Hp}{b:Addr}{o:Obj}(e:(SO h H).get? b=some o):h.get? b=some o/\H b=none:=by
 have e':h.get? b=some o:=qCw (trk h H) e;refine#[e',?_];cases q:H b with
 |none=>rfl
 |some x=>
  have hm:b∈trk h H:=qA3.mpr #[qAH.mpr (qAj e'),by simp[q]];have z:(SO h H).get? b=none:=W.hideAll_none (trk h H) hm;rw[z]at e;cases e
structure Mod (K:W.Frag)(mg:Str->Option Value)(base:Heap):Prop where
 kin:K.In base
 glob:base.Ns mainGlobals mg
 blt:∃mb,base.Ns builtinsNs mb/\∀x:Str,x≠"__name__"->mb x=bootBuiltins x
 nolimit:base.NoLimit
structure Cx where
 prog:Program
 w:World
 K:W.Frag
 mg:Str->Option Value
 base:Heap
 A:Around
 N:List Str
 s₀:Shared
 H₀:Hp
 env:Env
 outer:List Env
 stack:List Env
 ex:List Addr
 fn:Str->Bool
 calm:Bool
 pn:List (Addr×Obj)
 xe:Value->Shared->Prop
 lent:Option (Nat×Addr):=none
def frs (l:List Env):List Addr:=l.filterMap (·.frame)
abbrev Cx.fs (X:Cx):List Addr:=frs X.outer
def Vis (sc:Scope)(x:Str):Prop:=sc.names.lookup x=some .local\/sc.names.lookup x=some .cell\/sc.names.lookup x=some .free
def Loc (sc:Scope)(x:Str):Prop:=sc.names.lookup x=some .local\/sc.names.lookup x=some .cell
def eD (env:Env)(h:Heap)(m:Str->Option Value)(x:Str)(u:Value):Prop:=
 (env.kindOf x=some .local/\m x=some u)\/((env.kindOf x=some .cell\/env.kindOf x=some .free)/\∃c,env.cells.lookup x=some c/\h.IsCell c (some u))
structure TB (P:Program)(K:W.Frag)(mg:Str->Option Value)(base:Heap)(H:Hp):Prop where
 bm:∃(b:Addr)(o:Obj),mg "__builtins__"=some (.ref b)/\b≠builtinsNs/\base.get? b=some o/\o.cls=.type "module"/\o.dict=some builtinsNs/\o.data=.plain
 tab:∀(x:Str)(c T:Addr),W.tabIn K x=some (c,T)->(recsOf P).any (λd=>d.name==x)=true->W.CodeHd base c T/\∃ps,H T=some (.tbl ps)
structure Cx.Ok (X:Cx):Prop where
 mod:Mod X.K X.mg X.base
 kind:X.env.scope.kind=.function
 glob:X.env.globals=mainGlobals
 blt:X.env.builtins=builtinsNs
 above:X.s₀.heap.objs.size<=X.env.locals
 inj:∀x y c,X.env.cells.lookup x=some c->X.env.cells.lookup y=some c->x=y
 has:∀x,(X.env.kindOf x=some .cell\/X.env.kindOf x=some .free)->∃c,X.env.cells.lookup x=some c
 cab:∀x c,X.fn x=true->X.env.cells.lookup x=some c->X.s₀.heap.objs.size<=c
 hd:X.calm=true->X.A.handled=none
 frames:X.A.frames=some X.stack
 stk:X.stack=X.outer\/(X.stack=X.env::X.outer/\X.env.frame=some X.env.locals)
 exf:∀b∈X.ex,b≠X.env.locals/\∀x c,X.env.cells.lookup x=some c->c≠b
 bs:∀b o,X.base.get? b=some o->X.s₀.heap.get? b=some o/\X.H₀ b=none
 bsz:X.base.objs.size<=X.s₀.heap.objs.size
 noex:∀b o,X.base.get? b=some o->b∉X.ex
 exfs:∀b∈X.ex,b∉X.fs
 funs:X.s₀.heap.FunFrames X.base X.outer
 frf:∀b∈X.fs,X.H₀ b=none
 tb:TB X.prog X.K X.mg X.base X.H₀
structure Inv (X:Cx)(pins:List (Addr×Obj))(σ:List (Option V))(H:Hp)(s:Shared):Prop where
 ok:X.Ok
 os:s.os=X.s₀.os
 bare:AllBare s.gens
 base:Un X.fs X.ex X.H₀ H X.s₀.heap s.heap
 loc:∃m,s.heap.Ns X.env.locals m/\∀(i:Nat)(x:Str)(v:V),X.N[i]? = some x->σ[i]? = some (some v)->Vis X.env.scope x->∃u,Cq v u/\eD X.env s.heap m x u
 cell:∀x c,X.env.cells.lookup x=some c->∃v,s.heap.IsCell c v
 free:H X.env.locals=none
 freeC:∀x c,X.env.cells.lookup x=some c->H c=none
 pin:∀p∈X.pn++pins,s.heap.get? p.1=some p.2/\H p.1=none/\p.1≠X.env.locals/\p.1∉X.fs/\∀v,p.2.data≠.cell v
 hok:HOk X.prog X.w H s.heap
 len:↥σ=X.N.length
section
variable {X:Cx}{pins:List (Addr×Obj)}{σ:List (Option V)}{H H':Hp}{s:Shared}{h':Heap}
def Cx.Ok.nofr (ok:X.Ok){b:Addr}{o:Obj}(e:X.base.get? b=some o):b∉X.fs:=λhb=>by
 have:=(ok.funs.mem hb).1;rw[e]at this;cases this
def Inv.bs (I:Inv X pins σ H s):∀b o,X.base.get? b=some o->s.heap.get? b=some o/\H b=none:=λb o e=>
 #[I.base.keep b o (I.ok.bs b o e).1 (I.ok.bs b o e).2 (I.ok.nofr e) (I.ok.noex b o e),I.base.free b o (I.ok.bs b o e).1 (I.ok.bs b o e).2 (I.ok.noex b o e)]
def Inv.bk (I:Inv X pins σ H s):∀b o,X.base.get? b=some o->s.heap.get? b=some o:=λb o e=>(I.bs b o e).1
def Inv.tb (I:Inv X pins σ H s):TB X.prog X.K X.mg X.base H:=#[I.ok.tb.bm,λx c T h1 h2=>by
 obtain⟨z,ps,e⟩:=I.ok.tb.tab x c T h1 h2;obtain⟨more,e'⟩:=I.base.tbls T ps e;exact#[z,_,e']]
def Inv.mod (I:Inv X pins σ H s):Mod X.K X.mg X.base:=I.ok.mod
def Inv.kIn (I:Inv X pins σ H s):X.K.In s.heap:=I.ok.mod.kin.keeps I.bk
def Inv.lt (I:Inv X pins σ H s):X.env.locals<s.heap.objs.size:=let #[_,hn,_]:=I.loc;hn.lt
def Inv.sz (I:Inv X pins σ H s):X.s₀.heap.objs.size<=s.heap.objs.size:=qAO I.ok.above (qBt I.lt)
def Inv.nofs (I:Inv X pins σ H s){a:Addr}(h:s.heap.objs.size<=a):a∉X.fs:=λhb=>by
 obtain⟨_,o,ho,_⟩:=I.ok.funs.mem hb;exact absurd (qAl (qAj ho) (qAO I.sz h)) (qAY _)
def Inv.cne (I:Inv X pins σ H s):∀x c,X.env.cells.lookup x=some c->c≠X.env.locals:=λx c e z=>by
 obtain⟨v,o,ho,hd⟩:=I.cell x c e;obtain⟨m,⟨o',es,ep,ho',hd',_⟩,_⟩:=I.loc;rw[z,ho']at ho;cases ho;rw[hd']at hd;cases hd
def Inv.funs (I:Inv X pins σ H s):s.heap.FunFrames X.base X.outer:=by
 have all:∀(l:List Env),(∀b∈frs l,b∈X.fs)->X.s₀.heap.FunFrames X.base l->s.heap.FunFrames X.base l:=by
  intro l
  induction l with
  |nil=>intro _ _;trivial
  |cons env r ih=>
   intro hs hl;obtain⟨hk,⟨L,o,hf,hn,ho,hd⟩,hr⟩:=hl;have hL:L∈X.fs:=hs L (by unfold frs;rw[qBf,hf];exact qAL);obtain⟨sl,e⟩:=I.base.slot L o ho (I.ok.frf L hL) hL λz=>I.ok.exfs L z hL;exact#[hk,#[L,_,hf,hn,e,hd],ih (λb hb=>hs b (by unfold frs;rw[qBf,hf];exact qAD _ hb)) hr]
 exact all X.outer (λ_ hb=>hb) I.ok.funs
def Inv.stack (I:Inv X pins σ H s):s.heap.FunFrames X.base X.stack:=by
 rcases I.ok.stk with e|⟨e,hf⟩
 .rw[e];exact I.funs
 .rw[e];obtain⟨m,hn,_⟩:=I.loc;refine .cons (by rw[I.ok.kind];decide) hf hn ?_ I.funs;exact Heap.get?_none_of_le (qAO I.ok.bsz I.ok.above)
def Inv.stkSub (I:Inv X pins σ H s):∀b∈frs X.stack,b∈X.env.locals::X.fs:=λb hb=>by
 rcases I.ok.stk with e|⟨e,hf⟩
 .rw[e]at hb;exact qAD _ hb
 .rw[e]at hb;unfold frs at hb;rw[qBf,hf]at hb;exact hb
def Inv.stkFree (I:Inv X pins σ H s):∀b∈frs X.stack,H b=none:=λb hb=>by
 rcases qAi.mp (I.stkSub b hb) with e|hb
 .rw[e];exact I.free
 .obtain⟨_,o,ho,_⟩:=I.ok.funs.mem hb;exact I.base.free b o ho (I.ok.frf b hb) λz=>I.ok.exfs b z hb
def Inv.step {g':Array GenState}{t':Nat}{d':Drawn}{ch:List Addr}(I:Inv X pins σ H s)
 (hch:∀b∈ch,(b∈X.ex\/X.s₀.heap.objs.size<=b)/\b≠X.env.locals/\(∀x c,X.env.cells.lookup x=some c->c≠b)/\∀p∈X.pn++pins,p.1≠b)
 (keep:∀b o,b≠X.env.locals->b∉X.fs->b∉ch->s.heap.get? b=some o->H b=none->h'.get? b=some o)
 (slot:∀b o,b≠X.env.locals->b∈X.fs->b∉ch->s.heap.get? b=some o->H b=none->∃sl,h'.get? b=some { o with slots:=sl }) (free:∀b o,b∉ch->s.heap.get? b=some o->H b=none->H' b=none)
 (there:∀b o,b∉ch->s.heap.get? b=some o->∃o',h'.get? b=some o')
 (tups:∀b xs,H b=some (.tup xs)->H' b=some (.tup xs)) (frzs:∀b o u,H b=some (.frz o u)->H' b=some (.frz o u)) (tbls:∀b ps,H b=some (.tbl ps)->∃more,H' b=some (.tbl (ps++more)))
 (ns:∀m,s.heap.Ns X.env.locals m->h'.Ns X.env.locals m) (hok:HOk X.prog X.w H' h') (hg:AllBare g') :
 Inv X pins σ H' { s with heap:=h',gens:=g',drawn:=d',toks:=t' }:=by
 have neL:∀b o,X.s₀.heap.get? b=some o->b≠X.env.locals:=λb o e=>qAs (qAl (qAj e) I.ok.above);have neC:∀b o,X.s₀.heap.get? b=some o->b∉X.ex->b∉ch:=λb o e hx hb=>by
  rcases(hch b hb).1 with z|z
  .exact hx z
  .exact absurd (qAl (qAj e) z) (qAY _)
 have cellK:∀x c,X.env.cells.lookup x=some c->∀v,s.heap.IsCell c v->h'.IsCell c v:=λx c e v hh=>by
  obtain⟨o,ho,hd⟩:=hh;have nch:c∉ch:=λz=>(hch c z).2.2.1 x c e rfl;by_cases hc:c∈X.fs
  .obtain⟨sl,q⟩:=slot c o (I.cne x c e) hc nch ho (I.freeC x c e);exact#[_,q,hd]
  .exact#[o,keep c o (I.cne x c e) hc nch ho (I.freeC x c e),hd]
 refine#[I.ok,I.os,hg,#[λb o e n hb hx=>?_,λb o e n hb hx=>?_,λb o e n hx=>?_,λb o e hx=>?_,λb xs e=>tups b xs (I.base.tups b xs e),λb o xs e=>frzs b o xs (I.base.frzs b o xs e),λb ps e=>?_],?_,λx c e=>?_,?_,λx c e=>?_,λp hp=>?_,hok,I.len]
 .exact keep b o (neL b o e) hb (neC b o e hx) (I.base.keep b o e n hb hx) (I.base.free b o e n hx)
 .obtain⟨sl,e1⟩:=I.base.slot b o e n hb hx;obtain⟨sl',e2⟩:=slot b _ (neL b o e) hb (neC b o e hx) e1 (I.base.free b o e n hx);exact#[sl',e2]
 .obtain⟨o',e1⟩:=I.base.there b o e hx;exact free b o' (neC b o e hx) e1 (I.base.free b o e n hx)
 .obtain⟨o',e1⟩:=I.base.there b o e hx;exact there b o' (neC b o e hx) e1
 .obtain⟨m1,e1⟩:=I.base.tbls b ps e;obtain⟨m2,e2⟩:=tbls b _ e1;exact#[m1++m2,by rw[e2,Array.append_assoc]]
 .obtain⟨m,hn,hl⟩:=I.loc;refine#[m,ns m hn,λi x v e1 e2 e3=>?_];obtain⟨u,r,l⟩:=hl i x v e1 e2 e3;refine#[u,r,?_];rcases l with l|⟨k,c,e,z⟩
  .exact .inl l
  .exact .inr #[k,c,e,cellK x c e _ z]
 .obtain⟨v,z⟩:=I.cell x c e;exact#[v,cellK x c e v z]
 .obtain⟨m,⟨o,_,_,ho,_⟩,_⟩:=I.loc;exact free _ o (λz=>(hch _ z).2.1 rfl) ho I.free
 .obtain⟨v,o,ho,hd⟩:=I.cell x c e;exact free c o (λz=>(hch c z).2.2.1 x c e rfl) ho (I.freeC x c e)
 .obtain⟨e,n,ne,nf,d⟩:=I.pin p hp;have nch:p.1∉ch:=λz=>(hch p.1 z).2.2.2 p hp rfl;exact#[keep p.1 p.2 ne nf nch e n,free p.1 p.2 nch e n,ne,nf,d]
def Inv.un {t':Nat}(I:Inv X pins σ H s)(u:Un X.fs [] H H' s.heap h')(hok:HOk X.prog X.w H' h'):Inv X pins σ H' { s with heap:=h',toks:=t' }:=by
 obtain⟨m,⟨o,es,ep,ho,r⟩,_⟩:=id I.loc;obtain⟨sl,hL⟩:=u.any ho I.free (by simp);exact I.step (g':=s.gens) (d':=s.drawn) (ch:=[]) (λ_ z=>nomatch z) (λb o _ hb _ e n=>u.keep b o e n hb (by simp)) (λb o _ hb _ e n=>u.slot b o e n hb (by simp)) (λb o _ e n=>u.free b o e n (by simp)) (λb o _ e=>u.there b o e (by simp)) u.tups u.frzs u.tbls (λm' hm=>by
  obtain⟨o',es',ep',ho',r'⟩:=hm;rw[ho]at ho';cases ho';exact#[_,es',ep',hL,r']) hok I.bare
def Inv.call {g':Array GenState}{t':Nat}{d':Drawn}{ch:List Addr}(I:Inv X pins σ H s)(u:Un (frs X.stack) ch H H' s.heap h')(hok:HOk X.prog X.w H' h')(hg:AllBare g')
 (hch:∀b∈ch,(b∈X.ex\/X.s₀.heap.objs.size<=b)/\b≠X.env.locals/\(∀x c,X.env.cells.lookup x=some c->c≠b)/\∀p∈X.pn++pins,p.1≠b) :
 Inv X pins σ H' { s with heap:=h',gens:=g',drawn:=d',toks:=t' }:=by
 obtain⟨m,⟨o,es,ep,ho,r⟩,_⟩:=id I.loc;obtain⟨sl,hL⟩:=u.any ho I.free λz=>(hch _ z).2.1 rfl;exact I.step (ch:=ch) hch (λb o hL hb hc e n=>u.keep b o e n (λz=>(qAi.mp (I.stkSub b z)).elim hL hb) hc) (λb o _ _ hc e n=>u.any e n hc) (λb o hc e n=>u.free b o e n hc) (λb o hc e=>u.there b o e hc) u.tups u.frzs u.tbls (λm' hm=>by
  obtain⟨o',es',ep',ho',r'⟩:=hm;rw[ho]at ho';cases ho';exact#[_,es',ep',hL,r']) hok hg
def Inv.turned {t':Nat}{it:Addr}(I:Inv X pins σ H s)(k:∀b o,b≠it->s.heap.get? b=some o->h'.get? b=some o)(hn:H it=none)(hL:it≠X.env.locals)
 (h1:it∈X.ex\/X.s₀.heap.objs.size<=it)(h2:∀x c,X.env.cells.lookup x=some c->c≠it)(h3:∀p∈X.pn++pins,p.1≠it):Inv X pins σ H { s with heap:=h',toks:=t' }:=by
 have nit:∀b u,H b=some u->b≠it:=λb u e z=>by rw[z,hn]at e;cases e
 refine I.step (g':=s.gens) (d':=s.drawn) (ch:=[it]) (λb hb=>?_) (λb o _ _ hc e _=>k b o (λz=>hc (by simp[z])) e) (λb o _ _ hc e _=>#[o.slots,k b o (λz=>hc (by simp[z])) e]) (λ_ _ _ _ n=>n)
  (λb o hc e=>#[o,k b o (λz=>hc (by simp[z])) e]) (λ_ _ e=>e) (λ_ _ _ e=>e) (λb ps e=>#[(List.toArray []),by rw[e];simp]) (λm hm=>?_) (λb u e=>?_) I.bare
 .have e:b=it:=by simpa using hb
  subst e;exact#[h1,hL,h2,h3]
 .obtain⟨o,es,ep,ho,r⟩:=hm;exact#[o,es,ep,k _ o (Ne.symm hL) ho,r]
 .refine(I.hok b u e).stay (λc v hc q=>k c v ?_ q) (λ_ q=>q) λ_ _ q=>q;rcases hc with z|z
  .rw[z];exact nit b u e
  .exact nit c _ z
def Inv.tok (I:Inv X pins σ H s)(t:Nat):Inv X pins σ H { s with toks:=t }:=I.un (h':=s.heap) (t':=t) Un.refl I.hok
def Inv.kept {t':Nat}(I:Inv X pins σ H s)(k:∀b u,s.heap.get? b=some u->h'.get? b=some u):Inv X pins σ H { s with heap:=h',toks:=t' }:=I.un (Un.kept k) (I.hok.kept k)
def Inv.laid {a:Addr}{o:HO}{t':Nat}(I:Inv X pins σ H s)(k:∀b u,s.heap.get? b=some u->h'.get? b=some u)(hp:s.heap.objs.size<=a)(new:Dm X.prog X.w (upd H a o) h' a o) :
 Inv X pins σ (upd H a o) { s with heap:=h',toks:=t' }:=I.un (Un.laid k hp (I.hok.fresh hp)) (I.hok.laid k hp new)
def Inv.write {x e:Addr}{o:HO}{t':Nat}(I:Inv X pins σ H s)(mu:Mut (H x))(he:e=x\/H e=some (.own x))(k:∀b u,b≠e->s.heap.get? b=some u->h'.get? b=some u)(heo:∃u,h'.get? e=some u)
 (new:Dm X.prog X.w (upd H x o) h' x o):Inv X pins σ (upd H x o) { s with heap:=h',toks:=t' }:=I.un (Un.write mu he k heo) (I.hok.write mu he k heo new)
def Inv.pins_of {pins':List (Addr×Obj)}(I:Inv X pins σ H s)(h:∀p∈pins',s.heap.get? p.1=some p.2/\H p.1=none/\p.1≠X.env.locals/\p.1∉X.fs/\∀v,p.2.data≠.cell v):Inv X pins' σ H s:=
 #[I.ok,I.os,I.bare,I.base,I.loc,I.cell,I.free,I.freeC,λp hp=>(qAo.mp hp).elim (λz=>I.pin p (qAR _ z)) (h p),I.hok,I.len]
def Ou {N:List Str}(hN:N.Nodup){i j:Nat}{x:Str}(a:N[i]? = some x)(b:N[j]? = some x):i=j:=by
 obtain⟨h1,e1⟩:=qAe.mp a;obtain⟨h2,e2⟩:=qAe.mp b;exact(List.getElem_inj hN).mp (e1.trans e2.symm)
def JL {M:Model}{A:Around}{E:Value->Shared->Prop}{i:Nat}{x:Str}{v:V}{u:Value}{Q:Unit->Shared->Prop}(I:Inv X pins σ H s)(hN:X.N.Nodup)(hi:X.N[i]? = some x)(hx:Loc X.env.scope x)(r:Cq v u)
 (h:∀s',Inv X pins (σ.set i (some v)) H s'->(∃a,Heap.SameBut a s.heap s'.heap/\(a=X.env.locals\/X.env.cells.lookup x=some a))->Q Unit.unit s')(hf:X.fn x=true\/X.env.scope.names.lookup x=some .local:=by first|exact .inl rfl|exact .inr rfl|assumption):wpAny M A (storeName X.env x u) Q E s:=by
 obtain⟨m,hn,hl⟩:=id I.loc;have hcls:(X.env.scope.kind == .class||(X.env.scope.kind == .module&&X.env.locals != X.env.globals))=false:=by rw[I.ok.kind];rfl
 have hiσ:i<↥σ:=by rw[I.len];exact(qAe.mp hi).1
 have cne:=I.cne;have tracked:∀{a:Addr}{h':Heap},(∃o,s.heap.get? a=some o/\H a=none)->Heap.SameBut a s.heap h'->HOk X.prog X.w H h':=λ{a h'} ha hs b ob e=>by
  obtain⟨_,_,hfree⟩:=ha;refine(I.hok b ob e).stay (λc w' hc q=>(hs.2 c ?_).trans q) (λ_ q=>q) λ_ _ q=>q;rintro rfl;rcases hc with rfl|hc
  .rw[hfree]at e;cases e
  .rw[hfree]at hc;cases hc
 rcases hx with hk|hk
 .refine wpAny_storeName_local hk hn (λh' hn' hs=>?_) hcls;obtain⟨oL,_,_,hoL,_⟩:=id hn;refine h _ #[I.ok,I.os,I.bare,#[λb o e n hb hx=>?_,λb o e n hb hx=>?_,I.base.free,λb o e hx=>?_,I.base.tups,I.base.frzs,I.base.tbls],#[_,hn',λj y v' e1 e2 e3=>?_],λy c e=>?_,I.free,I.freeC,λp hp=>?_,tracked #[oL,hoL,I.free] hs,by simpa using I.len] #[_,hs,.inl rfl]
  .exact(hs.2 b (qAs (qAl (qAj e) I.ok.above))).trans (I.base.keep b o e n hb hx)
  .obtain⟨sl,e1⟩:=I.base.slot b o e n hb hx;exact#[sl,(hs.2 b (qAs (qAl (qAj e) I.ok.above))).trans e1]
  .obtain⟨o',e1⟩:=I.base.there b o e hx;exact#[o',(hs.2 b (qAs (qAl (qAj e) I.ok.above))).trans e1]
  .by_cases hj:j=i
   .subst hj;rw[hi]at e1;cases e1;rw[qBA hiσ]at e2;cases e2;exact#[u,r,.inl #[hk,by simp]]
   .rw[qBY (Ne.symm hj)]at e2;obtain⟨u',r',q⟩:=hl j y v' e1 e2 e3;refine#[u',r',?_];rcases q with⟨k,e⟩|⟨k,c,e,z⟩
    .refine .inl #[k,?_];have:y≠x:=λe=>hj (Ou hN e1 (e ▸ hi));simp[this,e]
    .exact .inr #[k,c,e,z.sameBut hs (cne y c e)]
  .obtain⟨w',z⟩:=I.cell y c e;exact#[w',z.sameBut hs (cne y c e)]
  .obtain⟨e,n,ne,nf,d⟩:=I.pin p hp;exact#[(hs.2 p.1 ne).trans e,n,ne,nf,d]
 .have hfn:X.fn x=true:=by
   rcases hf with z|z
   .exact z
   .rw[z]at hk;cases hk
  obtain⟨c,hc⟩:=I.ok.has x (.inl hk);obtain⟨w',z⟩:=I.cell x c hc;refine wpAny_storeName_cell I.ok.kind hk hc z (λh' hc' hs=>?_);obtain⟨oc,hoc,hocd⟩:=id z;refine h { s with heap:=h' } #[I.ok,I.os,I.bare,#[λb o e n hb hx=>?_,λb o e n hb hx=>?_,I.base.free,λb o e hx=>?_,I.base.tups,I.base.frzs,I.base.tbls],#[m,hn.sameBut hs (Ne.symm (cne x c hc)),λj y v' e1 e2 e3=>?_],λy c' e=>?_,I.free,I.freeC,λp hp=>?_,tracked #[oc,hoc,I.freeC x c hc] hs,by simpa using I.len] #[c,hs,.inr hc]
  .exact(hs.2 b (qAs (qAl (qAj e) (I.ok.cab x c hfn hc)))).trans (I.base.keep b o e n hb hx)
  .obtain⟨sl,e1⟩:=I.base.slot b o e n hb hx;exact#[sl,(hs.2 b (qAs (qAl (qAj e) (I.ok.cab x c hfn hc)))).trans e1]
  .obtain⟨o',e1⟩:=I.base.there b o e hx;exact#[o',(hs.2 b (qAs (qAl (qAj e) (I.ok.cab x c hfn hc)))).trans e1]
  .by_cases hj:j=i
   .subst hj;rw[hi]at e1;cases e1;rw[qBA hiσ]at e2;cases e2;exact#[u,r,.inr #[.inl hk,c,hc,hc']]
   .rw[qBY (Ne.symm hj)]at e2;obtain⟨u',r',q⟩:=hl j y v' e1 e2 e3;refine#[u',r',?_];rcases q with q|⟨k,c',e,z'⟩
    .exact .inl q
    .refine .inr #[k,c',e,z'.sameBut hs ?_];rintro rfl;exact hj (Ou hN e1 (I.ok.inj _ _ _ e hc ▸ hi))
  .by_cases hcc:c'=c
   .subst hcc;exact#[_,hc']
   .obtain⟨w2,z2⟩:=I.cell y c' e;exact#[w2,z2.sameBut hs hcc]
  .obtain⟨e,n,ne,nf,d⟩:=I.pin p hp;refine#[(hs.2 p.1 ?_).trans e,n,ne,nf,d];intro q;rw[q,hoc]at e;have q':oc=p.2:=qAn e;exact d w' (by rw[<-q'];exact hocd)
def Hb {M:Model}{A:Around}{E:Value->Shared->Prop}{i:Nat}{x:Str}{v:V}{u:Value}{Q:Unit->Shared->Prop}(I:Inv X pins σ H s)(hN:X.N.Nodup)(hi:X.N[i]? = some x)(hx:Loc X.env.scope x)(r:Cq v u)
 (h:∀s',Inv X pins (σ.set i (some v)) H s'->Q Unit.unit s')(hf:X.fn x=true\/X.env.scope.names.lookup x=some .local:=by first|exact .inl rfl|exact .inr rfl|assumption):wpAny M A (storeName X.env x u) Q E s:=
 JL I hN hi hx r (λs' I' _=>h s' I') hf
def Inv.call' {s':Shared}{ch:List Addr}(I:Inv X pins σ H s)(ho:s'.os=s.os)(u:Un (frs X.stack) ch H H' s.heap s'.heap)(hok:HOk X.prog X.w H' s'.heap)(hg:AllBare s'.gens)
 (hch:∀b∈ch,(b∈X.ex\/X.s₀.heap.objs.size<=b)/\b≠X.env.locals/\(∀x c,X.env.cells.lookup x=some c->c≠b)/\∀p∈X.pn++pins,p.1≠b):Inv X pins σ H' s':=by
 obtain⟨h',g',d',t',o'⟩:=s';have e:o'=s.os:=ho;subst e;exact I.call (g':=g') (t':=t') (d':=d') u hok hg hch
end
abbrev XK:=Value->Option Addr->Hp->Prop
abbrev St:=List (Option V)
abbrev VK:=V->Hp->Prop
abbrev TE:=St->Hp->VK->Prop
abbrev TT:=St->Hp->(Bool->Hp->Prop)->Prop
abbrev TA:=St->Hp->(List V->Hp->Prop)->Prop
structure Nu where
 nx:St->Hp->Prop
 rt:VK
 bk:St->Hp->Prop:=λ_ _=>False
 ct:St->Hp->Prop:=λ_ _=>False
abbrev TS:=Nu->St->Hp->Prop
def EP (X:Cx)(pins:List (Addr×Obj))(σ:St)(Q:VK)(u:Value)(s':Shared):Prop:=∃v H',Inv X pins σ H' s'/\Cq v u/\Q v H'
def TP (X:Cx)(pins:List (Addr×Obj))(σ:St)(Q:Bool->Hp->Prop)(b:Bool)(s':Shared):Prop:=∃H',Inv X pins σ H' s'/\Q b H'
def AP (X:Cx)(pins:List (Addr×Obj))(σ:St)(Q:List V->Hp->Prop)(us:List Value)(s':Shared):Prop:=∃vs H',Inv X pins σ H' s'/\B4 vs us/\Q vs H'
def SP (X:Cx)(pins:List (Addr×Obj))(D:Nu)(f:Flow)(s':Shared):Prop:=
 match f with
 |.next=>∃σ' H',Inv X pins σ' H' s'/\D.nx σ' H'
 |.brk=>∃σ' H',Inv X pins σ' H' s'/\D.bk σ' H'
 |.cont=>∃σ' H',Inv X pins σ' H' s'/\D.ct σ' H'
 |.ret u=>∃v σ' H',Inv X pins σ' H' s'/\Cq v u/\D.rt v H'
def PE (X:Cx)(e:Expr)(t:TE):Prop:=
 ∀(pins:List (Addr×Obj))(s:Shared)(σ:St)(H:Hp)(Q:VK),Inv X pins σ H s->t σ H Q->wpAny (model X.prog X.w) X.A (eval e X.env) (EP X pins σ Q) X.xe s
def PT (X:Cx)(e:Expr)(t:TT):Prop:=
 ∀(pins:List (Addr×Obj))(s:Shared)(σ:St)(H:Hp)(Q:Bool->Hp->Prop),Inv X pins σ H s->t σ H Q->wpAny (model X.prog X.w) X.A (isTrue e X.env (eval e X.env)) (TP X pins σ Q) X.xe s
def PW (X:Cx)(e:Expr)(t:TT):Prop:=
 ∀(whole:Sem Value)(pins:List (Addr×Obj))(s:Shared)(σ:St)(H:Hp)(Q:Bool->Hp->Prop),Inv X pins σ H s->t σ H Q->wpAny (model X.prog X.w) X.A (isTrue e X.env whole) (TP X pins σ Q) X.xe s
def PA (X:Cx)(es:List Expr)(t:TA):Prop:=
 ∀(pos:Pos)(pins:List (Addr×Obj))(s:Shared)(σ:St)(H:Hp)(Q:List V->Hp->Prop),Inv X pins σ H s->t σ H Q->wpAny (model X.prog X.w) X.A (spliced (backTo pos (starEach es X.env))) (AP X pins σ Q) X.xe s
def PS (X:Cx)(st:Stmt)(t:TS):Prop:=
 ∀(pins:List (Addr×Obj))(s:Shared)(σ:St)(H:Hp)(D:Nu),Inv X pins σ H s->t D σ H->wpAny (model X.prog X.w) X.A (exec st X.env) (SP X pins D) X.xe s
def PSs (X:Cx)(st:List Stmt)(t:TS):Prop:=
 ∀(pins:List (Addr×Obj))(s:Shared)(σ:St)(H:Hp)(D:Nu),Inv X pins σ H s->t D σ H->wpAny (model X.prog X.w) X.A (execs st X.env) (SP X pins D) X.xe s
def thn {α:Type}{t:Sem α}{Q Q':α->Shared->Prop}{M:Model}{A:Around}{E:Value->Shared->Prop}{s:Shared}(h:wpAny M A t Q E s)(hQ:∀a s,Q a s->Q' a s):wpAny M A t Q' E s:=qC3 h hQ λ_ _ x=>x
section
variable {X:Cx}
def O1 (i:Nat):TE:=λσ H Q=>∃v,σ[i]? = some (some v)/\Q v H
def tC (v:V):TE:=λ_ H Q=>Q v H
def YV {i:Nat}{x:Str}{pos:Pos}(hN:X.N[i]? = some x)(hv:Vis X.env.scope x)(hd:(x==("__debug__":Str))=false:=by decide)(hcd:(x==("__classdict__":Str))=false:=by decide):PE X (.Name x pos) (O1 i):=by
 intro pins s σ H Q I h;obtain⟨v,e,h⟩:=h;obtain⟨m,hn,hl⟩:=I.loc;obtain⟨u,r,l⟩:=hl i x v hN e hv;have fin:EP X pins σ Q u s:=#[v,H,I,r,h];rcases l with⟨hk,hm⟩|⟨hk,c,hc,hcell⟩
 .exact wpAny_Name (wpAny_loadName_local I.ok.kind hk hn hm fin) hd
 .rcases hk with hk|hk
  .exact wpAny_Name (wpAny_loadName_cell I.ok.kind hk hc hcell fin) hd
  .exact wpAny_Name (wpAny_loadName_free I.ok.kind hk hc hcell fin hcd) hd
def Yu {i j pos}:PE X (.Constant (.int i) j pos) (tC (.int i)):=λ_ _ _ H _ I h=>wpAny_Constant_int #[.int i,H,I.tok _,#[_,rfl],h]
def Y2 {b j pos}:PE X (.Constant (.bool b) j pos) (tC (.bl b)):=λ_ _ _ H _ I h=>Constant_bool #[.bl b,H,I,rfl,h]
def XB {j pos}:PE X (.Constant .none j pos) (tC .non):=λ_ _ _ H _ I h=>Constant_none #[.non,H,I,rfl,h]
def Xi {x j pos}:PE X (.Constant (.str x) j pos) (tC (.str x)):=λ_ _ _ H _ I h=>Calls.Constant_str #[.str x,H,I.tok _,#[_,rfl],h]
def Gl (X:Cx)(x:Str):Prop:=X.env.kindOf x=some .globalImplicit
def DT {E:Value->Shared->Prop}{pins:List (Addr×Obj)}{s:Shared}{σ:St}{H:Hp}{x:Str}{u:Value}{pos:Pos}{Q:Value->Shared->Prop}(I:Inv X pins σ H s)(hg:Gl X x)(hm:X.mg x=some u)(h:Q u s)
 (hd:(x==("__debug__":Str))=false:=by decide):wpAny (model X.prog X.w) X.A (eval (.Name x pos) X.env) Q E s:=
 Calls.Name_function_global I.ok.kind hg (Calls.loadGlobal_global (by rw[I.ok.glob];exact I.mod.glob.keeps I.bk) hm h) hd
def JO {E:Value->Shared->Prop}{pins:List (Addr×Obj)}{s:Shared}{σ:St}{H:Hp}{x:Str}{u:Value}{pos:Pos}{Q:Value->Shared->Prop}(I:Inv X pins σ H s)(hg:Gl X x)(hm:X.mg x=none)(hv:bootBuiltins x=some u)(h:Q u s)
 (hn:x≠"__name__":=by decide)(hd:(x==("__debug__":Str))=false:=by decide):wpAny (model X.prog X.w) X.A (eval (.Name x pos) X.env) Q E s:=by
 obtain⟨mb,h1,h2⟩:=I.mod.blt;exact Calls.Name_function_global I.ok.kind hg (Calls.loadGlobal_builtin (by rw[I.ok.glob];exact I.mod.glob.keeps I.bk) hm (by rw[I.ok.blt];exact h1.keeps I.bk) ((h2 x hn).trans hv) h) hd
def Wm {x:Str}{v:V}{u:Value}{pos:Pos}(hg:Gl X x)(hm:X.mg x=some u)(r:Cq v u)(hd:(x==("__debug__":Str))=false:=by decide):PE X (.Name x pos) (tC v):=
 λ_ _ _ H _ I h=>DT I hg hm #[v,H,I,r,h] hd
def RG {x:Str}{v:V}{u:Value}{pos:Pos}(hg:Gl X x)(hm:X.mg x=none)(hv:bootBuiltins x=some u)(r:Cq v u)(hn:x≠"__name__":=by decide)(hd:(x==("__debug__":Str))=false:=by decide):PE X (.Name x pos) (tC v):=
 λ_ _ _ H _ I h=>JO I hg hm hv #[v,H,I,r,h] hn hd
variable {a b:Expr}{ta tb:TE}{pos:Pos}
def tB (t:TE):TT:=λσ H Q=>t σ H λx H1=>∃c,x=.bl c/\Q c H1
def X7 {e:Expr}{t:TE}(h:PE X e t)(he:∀whole,isTrue e X.env whole=(do let v <-whole;standAt e.pos;holding [v] (truthy v)):=by intro _;rfl):PT X e (tB t):=by
 intro pins s σ H Q I hw;refine isTrue_plain (thn (h pins s σ H _ I hw) λv s1 #[x,H1,I1,r1,q1]=>?_) (he _);obtain⟨d,rfl,q⟩:=q1;cases r1;exact wpAny_truthy_bool #[H1,I1,q]
variable {tA tB':TT}{rest:List Expr}
def eZ (t u:TT):TT:=λσ H Q=>t σ H λc H1=>if c=true then u σ H1 Q else Q false H1
def tOr (t u:TT):TT:=λσ H Q=>t σ H λc H1=>if c=true then Q true H1 else u σ H1 Q
def dR (t:TT):TT:=λσ H Q=>t σ H λc H1=>Q (!c) H1
def Wy (ha:PT X a tA):PW X (.BoolOp .And [a] pos) tA:=by
 intro wh pins s σ H Q I h;refine isTrue_and (thn (ha pins s σ H Q I h) λc s1 e=>?_);cases c with
 |true=>exact isTrue_and_nil e
 |false=>exact e
def Yn (ha:PT X a tA):PW X (.BoolOp .Or [a] pos) tA:=by
 intro wh pins s σ H Q I h;refine isTrue_or (thn (ha pins s σ H Q I h) λc s1 e=>?_);cases c with
 |false=>exact isTrue_or_nil e
 |true=>exact e
def XE (ha:PT X a tA)(hb:PW X (.BoolOp .And (b::rest) pos) tB'):PW X (.BoolOp .And (a::b::rest) pos) (eZ tA tB'):=by
 intro wh pins s σ H Q I h;refine isTrue_and (thn (ha pins s σ H _ I h) λc s1 hh=>?_);obtain⟨H1,I1,q1⟩:=hh;cases c with
 |true=>exact hb wh pins s1 σ H1 Q I1 q1
 |false=>exact#[H1,I1,q1]
def ZH (ha:PT X a tA)(hb:PW X (.BoolOp .Or (b::rest) pos) tB'):PW X (.BoolOp .Or (a::b::rest) pos) (tOr tA tB'):=by
 intro wh pins s σ H Q I h;refine isTrue_or (thn (ha pins s σ H _ I h) λc s1 hh=>?_);obtain⟨H1,I1,q1⟩:=hh;cases c with
 |true=>exact#[H1,I1,q1]
 |false=>exact hb wh pins s1 σ H1 Q I1 q1
def YL (ha:PT X a tA):PT X (.UnaryOp .Not a pos) (dR tA):=by
 intro pins s σ H Q I h;exact isTrue_not (ha pins s σ H (λc H1=>Q (!c) H1) I h)
def aH (ta tb:TE):TE:=λσ H Q=>ta σ H λx H1=>∃c,x=.bl c/\if c=true then tb σ H1 Q else Q (.bl false) H1
def aQ (ta:TE):TE:=λσ H Q=>ta σ H λx H1=>∃c,x=.bl c/\Q (.bl (!c)) H1
def Xn {op}{t:TE}(h:PE X a t):PE X (.BoolOp op [a] pos) t:=λpins s σ H Q I hw=>BoolOp_one (h pins s σ H Q I hw)
def YN (ha:PE X a ta)(hb:PE X (.BoolOp .And (b::rest) pos) tb):PE X (.BoolOp .And (a::b::rest) pos) (aH ta tb):=by
 intro pins s σ H Q I h;refine BoolOp_and (thn (ha pins s σ H _ I h) λv s1 hh=>?_);obtain⟨x,H1,I1,r1,q1⟩:=hh;obtain⟨c,rfl,q1⟩:=q1;cases r1;refine wpAny_truthy_bool ?_;cases c with
 |true=>exact hb pins s1 σ H1 Q I1 q1
 |false=>exact#[.bl false,H1,I1,rfl,q1]
def Zc (ha:PE X a ta):PE X (.UnaryOp .Not a pos) (aQ ta):=by
 intro pins s σ H Q I h;refine UnaryOp_ (thn (ha pins s σ H _ I h) λv s1 hh=>?_);obtain⟨x,H1,I1,r1,q1⟩:=hh;obtain⟨c,rfl,q1⟩:=q1;cases r1;exact not_of (wpAny_truthy_bool #[.bl (!c),H1,I1,rfl,q1])
end
def SqL (K:W.Frag)(H:Hp)(a:Addr)(xs:List V):Prop:=
 Rd H a (.lst xs) \/
  ∃(o:Obj)(its:Array Value)(n:Nat),K.lookup a=some o/\o.cls=.type "list"/\o.dict=none/\o.data=.seq its n/\its.size<=sizeLine/\B4 xs its.toList
def SqT (K:W.Frag)(H:Hp)(a:Addr)(xs:List V):Prop:=
 Rd H a (.tup xs) \/
  ∃(o:Obj)(its:Array Value)(n:Nat),K.lookup a=some o/\o.cls=.type "tuple"/\o.data=.seq its n/\its.size<=sizeLine/\B4 xs its.toList
def cR:Value->Option V
 |.none=>some .non
 |.bool b=>some (.bl b)
 |.int i _=>some (.int i)
 |.str x _=>some (.str x)
 |.bytes b _=>some (.byt b)
 |.float b _=>some (.flt b)
 |.ref a=>some (.ref a)
 |.type n=>some (.ty n)
 |_=>none
def Cq.abs {x:V}{u:Value}(r:Cq x u):cR u=some x:=by
 cases x with
 |non=>cases r;rfl
 |bl _=>cases r;rfl
 |int _=>obtain⟨t,rfl⟩:=r;rfl
 |str _=>obtain⟨t,rfl⟩:=r;rfl
 |byt _=>obtain⟨t,rfl⟩:=r;rfl
 |flt _=>obtain⟨t,rfl⟩:=r;rfl
 |ref _=>cases r;rfl
 |ty _=>cases r;rfl
def Cq.inj {x y:V}{u:Value}(r:Cq x u)(q:Cq y u):x=y:=qAn (r.abs.symm.trans q.abs)
def B4.inj:∀{xs ys:List V}{us:List Value},B4 xs us->B4 ys us->xs=ys
 |_,_,_,.nil,.nil=>rfl
 |_,_,_,.cons r t,.cons r' t'=>by rw[r.inj r',B4.inj t t']
section
variable {X:Cx}{pins:List (Addr×Obj)}{σ:St}{H:Hp}{s:Shared}{a:Addr}{xs ys:List V}
def SqL.of {K:W.Frag}(h:H a=some (.lst xs)):SqL K H a xs:=.inl (.inl h)
def SqT.of {K:W.Frag}(h:H a=some (.tup xs)):SqT K H a xs:=.inl (.inl h)
def Inv.list (I:Inv X pins σ H s)(h:SqL X.K H a xs):∃its:List Value,B4 xs its/\PlainL s.heap a its.toArray/\↥xs<=sizeLine:=by
 rcases h with h|⟨o,its,n,hk,hc,hd,hs,hz,r⟩
 .obtain⟨z,its,n,r,e⟩:=h.ok I.hok;exact#[its,r,#[_,n,e,rfl,rfl,rfl],z]
 .refine#[its.toList,r,#[o,n,I.kIn a o hk,hc,hd,by simpa using hs],?_];have e:=↥r;simp only[Array.length_toList]at e;omega
def Inv.tuple (I:Inv X pins σ H s)(h:SqT X.K H a xs):∃its:List Value,B4 xs its/\IsTup s.heap a its.toArray/\↥xs<=sizeLine:=by
 rcases h with h|⟨o,its,n,hk,hc,hs,hz,r⟩
 .obtain⟨z,its,r,p⟩:=h.ok I.hok;exact#[its,r,p,z]
 .refine#[its.toList,r,#[o,I.kIn a o hk,hc,n,by simpa using hs],?_];have e:=↥r;simp only[Array.length_toList]at e;omega
def Inv.list_inj (I:Inv X pins σ H s)(h:SqL X.K H a xs)(h':SqL X.K H a ys):xs=ys:=by
 obtain⟨its,r,⟨o,n,e,_,_,d⟩,_⟩:=I.list h;obtain⟨its',r',⟨o',n',e',_,_,d'⟩,_⟩:=I.list h';rw[e]at e';cases e';rw[d]at d';injection d' with d1 _
 have:its=its':=by simpa using congrArg Array.toList d1
 subst this;exact r.inj r'
def Inv.tuple_inj (I:Inv X pins σ H s)(h:SqT X.K H a xs)(h':SqT X.K H a ys):xs=ys:=by
 obtain⟨its,r,⟨o,e,_,n,d⟩,_⟩:=I.tuple h;obtain⟨its',r',⟨o',e',_,n',d'⟩,_⟩:=I.tuple h';rw[e]at e';cases e';rw[d]at d';injection d' with d1 _
 have:its=its':=by simpa using congrArg Array.toList d1
 subst this;exact r.inj r'
end
abbrev Cx.wish (X:Cx)(E:Value->Shared->Prop):Cx:={ X with xe:=E }
abbrev Cx.nox (X:Cx):Cx:=X.wish λ_ _=>False
def Cx.Ok.wish {X:Cx}(ok:X.Ok)(E:Value->Shared->Prop):(X.wish E).Ok:=
 #[ok.mod,ok.kind,ok.glob,ok.blt,ok.above,ok.inj,ok.has,ok.cab,ok.hd,ok.frames,ok.stk,ok.exf,ok.bs,ok.bsz,ok.noex,ok.exfs,ok.funs,ok.frf,ok.tb]
def Cx.Ok.unwish {X:Cx}{E:Value->Shared->Prop}(ok:(X.wish E).Ok):X.Ok:=
 #[ok.mod,ok.kind,ok.glob,ok.blt,ok.above,ok.inj,ok.has,ok.cab,ok.hd,ok.frames,ok.stk,ok.exf,ok.bs,ok.bsz,ok.noex,ok.exfs,ok.funs,ok.frf,ok.tb]
section
variable {X:Cx}{pins:List (Addr×Obj)}{σ:St}{H:Hp}{s:Shared}{E:Value->Shared->Prop}
def Inv.wish (I:Inv X pins σ H s)(E:Value->Shared->Prop):Inv (X.wish E) pins σ H s:=#[I.ok.wish E,I.os,I.bare,I.base,I.loc,I.cell,I.free,I.freeC,I.pin,I.hok,I.len]
def Inv.unwish (I:Inv (X.wish E) pins σ H s):Inv X pins σ H s:=#[I.ok.unwish,I.os,I.bare,I.base,I.loc,I.cell,I.free,I.freeC,I.pin,I.hok,I.len]
def SP.unwish {D:Nu}{f:Flow}{s':Shared}(h:SP (X.wish E) pins D f s'):SP X pins D f s':=by
 cases f with
 |next=>obtain⟨σ',H',I,q⟩:=h;exact#[σ',H',I.unwish,q]
 |brk=>obtain⟨σ',H',I,q⟩:=h;exact#[σ',H',I.unwish,q]
 |cont=>obtain⟨σ',H',I,q⟩:=h;exact#[σ',H',I.unwish,q]
 |ret u=>obtain⟨v,σ',H',I,r,q⟩:=h;exact#[v,σ',H',I.unwish,r,q]
def PSs.nox {st:List Stmt}{t:TS}(h:PSs X.nox st t):PSs X st t:=λpins s σ H D I hw=>
 qC3 (h pins s σ H D (I.wish _) hw) (λ_ _ q=>q.unwish) λ_ _ z=>False.elim z
end
section
variable {X:Cx}{st:Stmt}{rest:List Stmt}{t u:TS}{e:Expr}{te:TE}{pos:Pos}
def aA:TS:=λD σ H=>D.nx σ H
def fC (t u:TS):TS:=λD σ H=>t { D with nx:=u D } σ H
def WJ:PSs X [] aA:=λ_ _ σ H _ I h=>wpAny_execs_nil #[σ,H,I,h]
def Od (h1:PS X st t)(h2:PSs X rest u):PSs X (st::rest) (fC t u):=by
 intro pins s σ H D I h;refine wpAny_execs_cons (thn (h1 pins s σ H { D with nx:=u D } I h) λf s1 q=>?_);cases f with
 |next=>
  obtain⟨σ',H',I',q⟩:=q;exact h2 pins s1 σ' H' D I' q
 |ret v=>exact q
 |brk=>exact q
 |cont=>exact q
def WC (h1:PS X st t):PSs X [st] t:=by
 intro pins s σ H D I h;refine wpAny_execs_cons (thn (h1 pins s σ H D I h) λf s1 q=>?_);cases f with
 |next=>exact wpAny_execs_nil q
 |ret v=>exact q
 |brk=>exact q
 |cont=>exact q
def Inv.quiet {pins:List (Addr×Obj)}{σ:St}{H:Hp}{s:Shared}(I:Inv X pins σ H s):interactive X.env=false:=by simp[interactive,I.ok.kind]
def Xk (te:TE):TS:=λD σ H=>te σ H λ_ H1=>D.nx σ H1
def Bx (he:PE X e te)(hs:swapsWith e none pos.line X.env=pure false:=by rfl):PS X (.Expr e pos) (Xk te):=by
 intro pins s σ H D I h;exact wpAny_Expr_any (thn (he pins s σ H _ I h) λv s1 #[x,H1,I1,r1,q1]=>#[σ,H1,I1,q1]) I.quiet hs
def dG (te:TE):TS:=λD σ H=>te σ H D.rt
def UQ (he:PE X e te):PS X (.Return (some e) pos) (dG te):=by
 intro pins s σ H D I h;exact wpAny_Return_some (thn (he pins s σ H _ I h) λv s1 #[x,H1,I1,r1,q1]=>#[x,σ,H1,I1,r1,q1])
def dN (c:TT)(t u:TS):TS:=λD σ H=>c σ H λb H1=>if b=true then t D σ H1 else u D σ H1
def ZT {c:Expr}{a b:List Stmt}{tc:TT}(hc:PT X c tc)(ha:PSs X a t)(hb:PSs X b u):PS X (.If c a b pos) (dN tc t u):=by
 intro pins s σ H D I h;refine wpAny_If (thn (hc pins s σ H _ I h) λd s1 hh=>?_);obtain⟨H1,I1,q1⟩:=hh;cases d with
 |true=>exact ha pins s1 σ H1 D I1 q1
 |false=>exact hb pins s1 σ H1 D I1 q1
def U4:TS:=λ_ _ _=>False
def T6:PS X st U4:=λ_ _ _ _ _ _ h=>h.elim
def RQ {sts:List Stmt}:PSs X sts U4:=λ_ _ _ _ _ _ h=>h.elim
end
abbrev TG:=V->St->Hp->(St->Hp->Prop)->Prop
abbrev TGs:=List V->St->Hp->(St->Hp->Prop)->Prop
def PG (X:Cx)(target:Expr)(t:TG):Prop:=
 ∀(pins:List (Addr×Obj))(s:Shared)(σ:St)(H:Hp)(v:V)(u:Value)(Q:St->Hp->Prop),Inv X pins σ H s->Cq v u->t v σ H Q ->
  wpAny (model X.prog X.w) X.A (assign target X.env u) (λ_ s'=>∃σ' H',Inv X pins σ' H' s'/\Q σ' H') X.xe s
def PGs (X:Cx)(ts:List Expr)(t:TGs):Prop:=
 ∀(pins:List (Addr×Obj))(s:Shared)(σ:St)(H:Hp)(vs:List V)(us:List Value)(Q:St->Hp->Prop),Inv X pins σ H s->B4 vs us->t vs σ H Q ->
  wpAny (model X.prog X.w) X.A (assignInOrder ((assignEach ts X.env).map (·.2)) us) (λ_ s'=>∃σ' H',Inv X pins σ' H' s'/\Q σ' H') X.xe s
abbrev Z4:=V->V->V->Hp->(Hp->Prop)->Prop
def aY (X:Cx)(t:Z4):Prop:=
 ∀(pins:List (Addr×Obj))(s:Shared)(σ:St)(H:Hp)(o i v:V)(ov iv u:Value)(Q:Hp->Prop),Inv X pins σ H s->Cq o ov->Cq i iv->Cq v u->t o i v H Q ->
  wpAny (model X.prog X.w) X.A (setItem ov iv u) (λ_ s'=>∃H',Inv X pins σ H' s'/\Q H') X.xe s
abbrev TIp:=V->V->Hp->VK->Prop
def PIp (X:Cx)(op:Operator)(t:TIp):Prop:=
 ∀(pins:List (Addr×Obj))(s:Shared)(σ:St)(H:Hp)(x y:V)(v u:Value)(Q:VK),Inv X pins σ H s->Cq x v->Cq y u->t x y H Q ->
  wpAny (model X.prog X.w) X.A (inplaceOp op v u) (EP X pins σ Q) X.xe s
section
variable {X:Cx}{pos:Pos}
def Gw (i:Nat):TG:=λv σ H Q=>Q (σ.set i (some v)) H
def A9 {i:Nat}{x:Str}(hN:X.N.Nodup)(hi:X.N[i]? = some x)(hx:Loc X.env.scope x)(hf:X.fn x=true\/X.env.scope.names.lookup x=some .local:=by first|exact .inl rfl|exact .inr rfl|assumption):PG X (.Name x pos) (Gw i):=by
 intro pins s σ H v u Q I r h;exact wpAny_assign_Name (Hb I hN hi hx r (λs' I'=>#[_,H,I',h]) hf)
def Z1:TGs:=λvs σ H Q=>vs=[]/\Q σ H
def Qi (t:TG)(u:TGs):TGs:=λvs σ H Q=>∃v r,vs=v::r/\t v σ H λσ' H'=>u r σ' H' Q
def Ng:PGs X [] Z1:=by
 intro pins s σ H vs us Q I r h;obtain⟨e,h⟩:=h;subst e;cases r;exact assignInOrder_nil #[σ,H,I,h]
def FC {e:Expr}{es:List Expr}{t:TG}{u:TGs}(h1:PG X e t)(h2:PGs X es u)
 (hs:(assignEach (e::es) X.env).map (·.2)=assign e X.env::(assignEach es X.env).map (·.2):=by rfl):PGs X (e::es) (Qi t u):=by
 intro pins s σ H vs us Q I r h;obtain⟨v,vr,e1,h⟩:=h;subst e1;cases r with
 |cons r rr=>
  rw[hs];refine assignInOrder_cons (thn (h1 pins s σ H _ _ _ I r h) λ_ s1 hh=>?_);obtain⟨σ1,H1,I1,q1⟩:=hh;exact h2 pins s1 σ1 H1 _ _ Q I1 rr q1
def Z7 (K:W.Frag)(n:Nat)(t:TGs):TG:=λv σ H Q=>∃a xs,v=.ref a/\SqT K H a xs/\↥xs=n/\t xs σ H Q
def Qb {es:List Expr}{k:Nat}{t:TGs}{n:Nat}(hc:X.calm=true)(h:PGs X es t)
 (hn:(assignEach es X.env).length=n:=by rfl)(hst:(assignEach es X.env).findIdx? (·.1)=none:=by rfl):PG X (.Tuple es k pos) (Z7 X.K n t):=by
 intro pins s σ H v u Q I r hw;obtain⟨a,xs,e1,hq,hl,hw⟩:=hw;subst e1;cases r;obtain⟨its,rv,ht,hz⟩:=I.tuple hq;refine assign_Tuple_tuple (I.ok.hd hc) ht (by simp[hn,<-hl,↥rv]) hst λh' hx=>?_;have I1:Inv X pins σ H { s with heap:=h' }:=I.kept (t':=s.toks) λb o e=>hx b o (qAs (qAj e)) e;exact h pins _ σ H xs _ Q I1 (by simpa using rv) hw
def bG (to ti:TE)(t:Z4):TG:=λv σ H Q=>to σ H λo H1=>ti σ H1 λi H2=>t o i v H2 λH3=>Q σ H3
def XJ {o i:Expr}{to ti:TE}{t:Z4}(ho:PE X o to)(hi:PE X i ti)(hs:aY X t)
 (ha:∀v,assign (.Subscript o i pos) X.env v=(do
  let ov <-holding [v] (eval o X.env)
  let iv <-holding [v,ov] (eval i X.env)
  standAt pos
  holding [v,ov,iv] (setItem ov iv v)
  release [v,ov,iv] []):=by intro _;rfl):PG X (.Subscript o i pos) (bG to ti t):=by
 intro pins s σ H v u Q I r h;rw[ha];refine qC1 (wpAny_holding (thn (ho pins s σ H _ I h) λov s1 hh=>?_));obtain⟨x,H1,I1,r1,q1⟩:=hh;refine qC1 (wpAny_holding (thn (hi pins s1 σ H1 _ I1 q1) λiv s2 hh=>?_));obtain⟨y,H2,I2,r2,q2⟩:=hh;refine qC1 (wpAny_standAt (qC1 (wpAny_holding (thn (hs pins s2 σ H2 x y v ov iv u _ I2 r1 r2 r q2) λ_ s3 hh=>?_))));obtain⟨H3,I3,q3⟩:=hh;exact wpAny_release #[σ,H3,I3,q3]
def Z3 (te:TE)(g:TG):TS:=λD σ H=>te σ H λx H1=>g x σ H1 D.nx
def YS {tg e:Expr}{te:TE}{g:TG}(he:PE X e te)(hg:PG X tg g)(hs:swapsWithSole [tg] e pos.line X.env=pure false:=by rfl)(hw:swappedStores [tg] e X.env=pure none:=by rfl)
 (h1:(assignEach [tg] X.env).map (·.2)=[assign tg X.env]:=by rfl):PS X (.Assign [tg] e pos) (Z3 te g):=by
 intro pins s σ H D I h;refine wpAny_Assign_stores (thn (he pins s σ H _ I h) λv s1 #[x,H1,I1,r1,q1]=>?_) hs hw;rw[h1];exact thn (hg pins s1 σ H1 x v _ I1 r1 q1) λ_ s2 q=>q
def Yt {i:Nat}{x:Str}{e:Expr}{te:TE}{pos':Pos}(hN:X.N.Nodup)(hi:X.N[i]? = some x)(hx:Loc X.env.scope x)(he:PE X e te)(hs:swapsWith e (some (.Name x pos')) pos.line X.env=pure false:=by rfl)(hf:X.fn x=true\/X.env.scope.names.lookup x=some .local:=by first|exact .inl rfl|exact .inr rfl|assumption) :
 PS X (.Assign [.Name x pos'] e pos) (Z3 te (Gw i)):=by
 intro pins s σ H D I h;refine wpAny_Assign_Name (thn (he pins s σ H _ I h) λv s1 #[y,H1,I1,r1,q1]=>?_) hs;exact Hb I1 hN hi hx r1 (λs2 I2=>#[_,H1,I2,q1]) hf
def dP (i:Nat)(te:TE)(ti:TIp):TS:=λD σ H=>∃x,σ[i]? = some (some x)/\te σ H λy H1=>ti x y H1 λz H2=>D.nx (σ.set i (some z)) H2
def Yv {i:Nat}{x:Str}{e:Expr}{te:TE}{op:Operator}{ti:TIp}{pos':Pos}(hN:X.N.Nodup)(hi:X.N[i]? = some x)(hx:Loc X.env.scope x)(he:PE X e te)(ho:PIp X op ti)(hf:X.fn x=true\/X.env.scope.names.lookup x=some .local:=by first|exact .inl rfl|exact .inr rfl|assumption) :
 PS X (.AugAssign (.Name x pos') op e pos) (dP i te ti):=by
 intro pins s σ H D I h;obtain⟨v,e1,h⟩:=h;obtain⟨m,hn,hl⟩:=I.loc;have vis:Vis X.env.scope x:=by rcases hx with k|k;exact .inl k;exact .inr (.inl k)
 obtain⟨u,r,l⟩:=hl i x v hi e1 vis;refine wpAny_AugAssign_Name ?_;have go:wpAny (model X.prog X.w) X.A (eval e X.env) (λw s₂=>wpAny (model X.prog X.w) X.A (inplaceOp op u w) (λr s₃=>wpAny (model X.prog X.w) X.A (storeName X.env x r) (λ_=>SP X pins D .next) X.xe s₃) X.xe s₂) X.xe s:=by
  refine thn (he pins s σ H _ I h) λw s1 hh=>?_;obtain⟨y,H1,I1,r1,q1⟩:=hh;refine thn (ho pins s1 σ H1 v y u w _ I1 r r1 q1) λz s2 hh=>?_;obtain⟨zv,H2,I2,r2,q2⟩:=hh;exact Hb I2 hN hi hx r2 (λs3 I3=>#[_,H2,I3,q2]) hf
 rcases l with⟨hk,hm⟩|⟨hk,c,hc,hcell⟩
 .exact wpAny_loadName_local I.ok.kind hk hn hm go
 .rcases hk with hk|hk
  .exact wpAny_loadName_cell I.ok.kind hk hc hcell go
  .rcases hx with k|k
   .have:X.env.scope.names.lookup x=some .free:=hk;rw[k]at this;cases this
   .have:X.env.scope.names.lookup x=some .free:=hk;rw[k]at this;cases this
def ipI (f:Int->Int->Int):TIp:=λx y H Q=>∃i j,x=.int i/\y=.int j/\Q (.int (f i j)) H
def YA:PIp X .Add (ipI λi j=>i+j):=by
 intro pins s σ H x y v u Q I r1 r2 h;obtain⟨i,j,e1,e2,q⟩:=h;subst e1;subst e2;obtain⟨t,rfl⟩:=r1;obtain⟨t',rfl⟩:=r2;exact iadd_int #[.int _,H,I.tok _,#[_,rfl],q]
end
section
variable {X:Cx}{pos:Pos}
def XR (c:TT)(tb:TS):TS:=λD σ H=>∃W:Nat->St->Hp->Prop,(∃m,W m σ H)/\∀m σ H,W m σ H ->
 c σ H λb H1=>if b=true then ∃N:St->Hp->Prop,(∀σ' H',N σ' H'->∃m',m'<m/\W m' σ' H')/\tb { D with nx:=N,ct:=N,bk:=D.nx } σ H1 else D.nx σ H1
def Ts {c:Expr}{body:List Stmt}{tc:TT}{tb:TS}(hp:PassesOwn (model X.prog X.w) X.A X.env X.xe)(hc:PT X c tc)(hb:PSs X body tb):PS X (.While c body [] pos) (XR tc tb):=by
 intro pins s σ H D I h;obtain⟨W,⟨m0,w0⟩,turn⟩:=h;refine wpAny_While (codeAny_whileLoop (λn s'=>∃σ' H',Inv X pins σ' H' s'/\W n σ' H') ?_ m0 #[σ,H,I,w0]);rintro n s1 ⟨σ1,H1,I1,w1⟩;refine wpAny_passesOwn hp (thn (hc pins s1 σ1 H1 _ I1 (turn n σ1 H1 w1)) λb s2 hh=>?_);obtain⟨H2,I2,q2⟩:=hh;cases b with
 |true=>
  obtain⟨N,hN,q2⟩:=q2;rw[qC6 rfl];refine wpAny_passesOwn hp (thn (hb pins s2 σ1 H2 _ I2 q2) λf s3 q3=>?_);cases f with
  |next=>
   obtain⟨σ3,H3,I3,n3⟩:=q3;obtain⟨m',hm,w3⟩:=hN σ3 H3 n3;exact#[m',hm,σ3,H3,I3,w3]
  |cont=>
   obtain⟨σ3,H3,I3,n3⟩:=q3;obtain⟨m',hm,w3⟩:=hN σ3 H3 n3;exact#[m',hm,σ3,H3,I3,w3]
  |brk=>exact q3
  |ret v=>exact q3
 |false=>
  rw[qC5 qAq];exact wpAny_execs_nil #[σ1,H2,I2,q2]
end
structure It where
 go:Nat->Hp->Prop
 yld:Nat->Hp->V->Hp->Prop
 stop:Nat->Hp->Prop
def Pk (X:Cx)(pins:List (Addr×Obj))(H:Hp)(b:Addr):Prop:=
 H b=none/\b≠X.env.locals/\b∉X.fs/\(b∈X.ex\/X.s₀.heap.objs.size<=b)/\(∀x c,X.env.cells.lookup x=some c->c≠b)/\∀p∈X.pn++pins,p.1≠b
def Inv.fpOk {X:Cx}{pins:List (Addr×Obj)}{σ:St}{H H':Hp}{s:Shared}{b:Addr}(I:Inv X pins σ H s)(hb:s.heap.objs.size<=b)(hn:H' b=none):Pk X pins H' b:=by
 refine#[hn,qBg (qAl I.lt hb),I.nofs hb,.inr (qAO I.sz hb),λx c e z=>?_,λp hp z=>?_]
 .obtain⟨v,q⟩:=I.cell x c e;exact absurd (qAl q.lt (by rw[z];exact hb)) (qAY _)
 .exact absurd (qAl (qAj (I.pin p hp).1) (by rw[z];exact hb)) (qAY _)
structure U3 (P:Program)(w:World)(K:W.Frag)(tg:Expr)(J:It)(fp:List Addr)(it:Addr)(tn:Nat->Heap->Prop):Prop where
 mem:it∈fp
 obj:∀i h,tn i h->∀b∈fp,∃o,h.get? b=some o/\∀v,o.data≠.cell v
 keep:∀i h h',tn i h->(∀b∈fp,∀o,h.get? b=some o->h'.get? b=some o)->tn i h'
 item:∀(X:Cx),X.prog=P->X.w=w->X.K=K->X.calm=true->∀(i:Nat)(pins:List (Addr×Obj))(s:Shared)(σ:St)(H:Hp)(E:Value->Shared->Prop),Inv X pins σ H s->(∀b∈fp,Pk X pins H b)->tn i s.heap->J.go i H ->
  wpAny (model P w) X.A (pyNext (.ref it)) (λr s1=>∃u,r=some u /\
   wpAny (model P w) X.A (letOwnedTupleGo tg (.ref it) u) (λ_ s2=>∃x H',Inv X pins σ H' s2/\Cq x u/\J.yld i H x H'/\tn (i+1) s2.heap/\∀b∈fp,H' b=none) E s1) E s
 done:∀(X:Cx),X.prog=P->X.w=w->X.K=K->X.calm=true->∀(i:Nat)(pins:List (Addr×Obj))(s:Shared)(σ:St)(H:Hp)(E:Value->Shared->Prop),Inv X pins σ H s->(∀b∈fp,Pk X pins H b)->tn i s.heap->J.stop i H ->
  wpAny (model P w) X.A (pyNext (.ref it)) (λr s1=>r=none/\Inv X pins σ H s1) E s
 self:∀(A:Around)(i:Nat)(s:Shared)(Q:Value->Shared->Prop)(E:Value->Shared->Prop),tn i s.heap->Q (.ref it) s->wpAny (model P w) A (pyIter (.ref it)) Q E s
abbrev TI:=St->Hp->(It->Hp->Prop)->Prop
def PIE (X:Cx)(pins:List (Addr×Obj))(σ:St)(tg:Expr)(R:It->Hp->Prop)(itv:Value)(s2:Shared):Prop:=
 ∃(it:Addr)(fp:List Addr)(tn:Nat->Heap->Prop)(J:It)(H':Hp),itv=.ref it/\Inv X pins σ H' s2/\U3 X.prog X.w X.K tg J fp it tn/\tn 0 s2.heap/\(∀b∈fp,Pk X pins H' b)/\R J H'
def PI (X:Cx)(tg iter:Expr)(wi:TI):Prop:=
 ∀(pins:List (Addr×Obj))(s:Shared)(σ:St)(H:Hp)(R:It->Hp->Prop),Inv X pins σ H s->wi σ H R ->
  wpAny (model X.prog X.w) X.A (eval iter X.env) (λv s1=>wpAny (model X.prog X.w) X.A (pyIter v) (PIE X pins σ tg R) X.xe s1) X.xe s
def Wr {M:Model}{A:Around}{E:Value->Shared->Prop}{s:Shared}{tg:Expr}{it:Addr}{u:Value}{o:Obj}{n:String}{vs:Array Value}{Q:Unit->Shared->Prop}(ho:s.heap.get? it=some o)(hc:o.cls=.type n)(hd:o.data=.fields vs)
 (hn:["enumerate","zip","dict_itemiterator","dict_reverseitemiterator","odict_iterator","itertools.zip_longest","itertools.pairwise"].contains n=false)(hQ:Q Unit.unit s):wpAny M A (letOwnedTupleGo tg (.ref it) u) Q E s:=by
 unfold letOwnedTupleGo;cases tg<;>first
  |exact qC2 hQ
  |(cases u<;>first
   |exact qC2 hQ
   |(refine qC1 (wpAny_load ho ?_)
     rw[hc,hd];show wpAny M A (if (["enumerate","zip","dict_itemiterator","dict_reverseitemiterator","odict_iterator","itertools.zip_longest","itertools.pairwise"].contains n&&vs[0]? == some (rawInt _))=true then _ else _) Q E s;rw[qC5 (by intro h;rw[hn,Bool.false_and]at h;cases h)];exact qC2 hQ))
def Itl (K:W.Frag)(a:Addr):It:=
 #[λi H=>∃xs x,SqL K H a xs/\xs[i]? = some x,λi H x H'=>H'=H/\∀xs,SqL K H a xs->xs[i]? = some x,λi H=>∃xs,SqL K H a xs/\↥xs<=i]
def Itt (K:W.Frag)(a:Addr):It:=
 #[λi H=>∃xs x,SqT K H a xs/\xs[i]? = some x,λi H x H'=>H'=H/\∀xs,SqT K H a xs->xs[i]? = some x,λi H=>∃xs,SqT K H a xs/\↥xs<=i]
def Itr (lo:Int)(n:Nat):It:=#[λi _=>i<n,λi H x H'=>H'=H/\x=.int (lo+i),λi _=>n<=i]
def Q4 {P:Program}{w:World}{K:W.Frag}{tg:Expr}(a it:Addr):U3 P w K tg (Itl K a) [it] it (λi h=>h.IsListIter it a i) where
 mem:=by simp
 obj:=λi h st b hb=>by
  have e:b=it:=by simpa using hb
  subst e;obtain⟨o,e,c,d⟩:=st;exact#[o,e,λv z=>by rw[d]at z;cases z]
 keep:=λi h h' st k=>st.at λo e=>k it (by simp) o e
 item:=by
  intro X hP hw hK hc i pins s σ H E I hf st hg;subst hP hw hK;obtain⟨xs,x,hq,hx⟩:=hg;obtain⟨its,rv,p,hz⟩:=I.list hq;obtain⟨u,hu,ru⟩:=rv.get hx;obtain⟨f0,f1,f2,f3,f4,f5⟩:=hf it (by simp);refine wpAny_pyNext_list_item st p.isList (x:=u) (by simpa using hu) λh' st' sb=>?_;have I1:Inv X pins σ H { s with heap:=h' }:=I.turned (t':=s.toks) (λb o hb e=>(sb.2 b hb).trans e) f0 f1 f3 f4 f5;obtain⟨o,e,c,d⟩:=id st';exact#[u,rfl,Wr (s:={ s with heap:=h' }) e c d ∅ #[x,H,I1,ru,#[rfl,λys hy=>by rw[I.list_inj hy hq];exact hx],st',λb hb=>(hf b hb).1]]
 done:=by
  intro X hP hw hK hc i pins s σ H E I hf st hg;subst hP hw hK;obtain⟨xs,hq,hx⟩:=hg;obtain⟨its,rv,p,hz⟩:=I.list hq;obtain⟨f0,f1,f2,f3,f4,f5⟩:=hf it (by simp);have hl:=↥rv;exact wpAny_pyNext_list_end (I.ok.hd hc) st p.isList (by simp;omega) λh' eb=>#[rfl,I.turned (t':=s.toks) (λb o hb e=>eb b o hb e) f0 f1 f3 f4 f5]
 self:=λ_ _ _ _ _ st h=>wpAny_pyIter_listiter st h
def Pw {P:Program}{w:World}{K:W.Frag}{tg:Expr}(a it:Addr):U3 P w K tg (Itt K a) [it] it (λi h=>h.IsTupleIter it a i) where
 mem:=by simp
 obj:=λi h st b hb=>by
  have e:b=it:=by simpa using hb
  subst e;obtain⟨o,e,c,d⟩:=st;exact#[o,e,λv z=>by rw[d]at z;cases z]
 keep:=λi h h' st k=>st.at λo e=>k it (by simp) o e
 item:=by
  intro X hP hw hK hc i pins s σ H E I hf st hg;subst hP hw hK;obtain⟨xs,x,hq,hx⟩:=hg;obtain⟨its,rv,p,hz⟩:=I.tuple hq;obtain⟨u,hu,ru⟩:=rv.get hx;obtain⟨f0,f1,f2,f3,f4,f5⟩:=hf it (by simp);refine wpAny_pyNext_tuple_item st (show s.heap.IsTuple a its.toArray from p) (x:=u) (by simpa using hu) λh' st' sb=>?_;have I1:Inv X pins σ H { s with heap:=h' }:=I.turned (t':=s.toks) (λb o hb e=>(sb.2 b hb).trans e) f0 f1 f3 f4 f5;obtain⟨o,e,c,d⟩:=id st';exact#[u,rfl,Wr (s:={ s with heap:=h' }) e c d ∅ #[x,H,I1,ru,#[rfl,λys hy=>by rw[I.tuple_inj hy hq];exact hx],st',λb hb=>(hf b hb).1]]
 done:=by
  intro X hP hw hK hc i pins s σ H E I hf st hg;subst hP hw hK;obtain⟨xs,hq,hx⟩:=hg;obtain⟨its,rv,p,hz⟩:=I.tuple hq;obtain⟨f0,f1,f2,f3,f4,f5⟩:=hf it (by simp);have hl:=↥rv;exact wpAny_pyNext_tuple_end (I.ok.hd hc) st (show s.heap.IsTuple a its.toArray from p) (by simp;omega) λh' eb=>#[rfl,I.turned (t':=s.toks) (λb o hb e=>eb b o hb e) f0 f1 f3 f4 f5]
 self:=λ_ _ _ _ _ st h=>wpAny_pyIter_tupleiter st h
def PD {P:Program}{w:World}{K:W.Frag}{tg:Expr}(it:Addr)(lo:Int)(n:Nat):U3 P w K tg (Itr lo n) [it] it (λi h=>IsRangeIter h it (lo+(i:Nat)*1) ((n:Int)-(i:Nat)) 1) where
 mem:=by simp
 obj:=λi h st b hb=>by
  have e:b=it:=by simpa using hb
  subst e;exact#[_,st,λv z=>by
   have z':Data.fields _=Data.cell v:=z;cases z']
 keep:=λi h h' st k=>k it (by simp) _ st
 item:=by
  intro X hP hw hK hc i pins s σ H E I hf st hg;subst hP hw hK;obtain⟨f0,f1,f2,f3,f4,f5⟩:=hf it (by simp);have W:=Walks.range (prog:=X.prog) (w:=X.w) (I.ok.hd hc) it lo 1 n;refine W.item i s _ _ hg st λv h' tk hv st' kk=>?_;obtain⟨t,rfl⟩:=hv;have I1:Inv X pins σ H { s with heap:=h',toks:=tk }:=I.turned (λb o hb e=>kk b o (by simpa using hb) e) f0 f1 f3 f4 f5;refine#[_,rfl,Wr (s:={ s with heap:=h',toks:=tk }) (n:="range_iterator") st' rfl rfl ∅ #[.int (lo+i),H,I1,#[t,?_],#[rfl,rfl],st',λb hb=>(hf b hb).1]];rw[Int.mul_one]
 done:=by
  intro X hP hw hK hc i pins s σ H E I hf st hg;subst hP hw hK;obtain⟨f0,f1,f2,f3,f4,f5⟩:=hf it (by simp);exact wpAny_pyNext_range_end (I.ok.hd hc) st (by have:n<=i:=hg;omega) λh' eb=>#[rfl,I.turned (t':=s.toks) (λb o hb e=>eb b o hb e) f0 f1 f3 f4 f5]
 self:=λ_ _ _ _ _ st h=>wpAny_pyIter_rangeiter st h
section
variable {X:Cx}{tg:Expr}
def Tz {pins:List (Addr×Obj)}{σ:St}{H:Hp}{s:Shared}{R:It->Hp->Prop}{E:Value->Shared->Prop}{lo hi:Int}{t u v:Tok}{tk:Nat}(I:Inv X pins σ H s)(h1:-(2^62)<=lo)(h2:lo<2^62)(h3:-(2^62)<=hi)(h4:hi<2^62)
 (q:R (Itr lo (hi-lo).toNat) H):wpAny (model X.prog X.w) X.A (pyIter (.ref s.heap.objs.size)) (PIE X pins σ tg R) E { s with heap:=s.heap.push { cls:=.type "range",data:=.fields (List.toArray [.int lo t,.int hi u,.int 1 v]) },toks:=tk }:=by
 refine wpAny_pyIter_range (IsRange.new ..) (small_one h1 h2 h3 h4) ?_;have I1:Inv X pins σ H { s with heap:=s.heap.push { cls:=.type "range",data:=.fields (List.toArray [.int lo t,.int hi u,.int 1 v]) },toks:=tk }:=I.kept λb o e=>qAh _ e;refine#[(s.heap.push { cls:=.type "range",data:=.fields (List.toArray [.int lo t,.int hi u,.int 1 v]) }).objs.size,[(s.heap.push { cls:=.type "range",data:=.fields (List.toArray [.int lo t,.int hi u,.int 1 v]) }).objs.size],_,_,H,rfl,
  I1.kept (t':=tk) λb o e=>qAh _ e,PD _ lo (hi-lo).toNat,?_,λb hb=>?_,q]
 .have e1:lo+((0:Nat):Int)*1=lo:=by simp
  have e2:(((hi-lo).toNat:Nat):Int)-((0:Nat):Int)=Builtin.Range.rangeSize lo hi 1:=by rw[rangeSize_one];split<;>omega
  show IsRangeIter _ _ (lo+((0:Nat):Int)*1) ((((hi-lo).toNat:Nat):Int)-((0:Nat):Int)) 1;rw[e1,e2];exact qAy _ rfl
 .have e:b=(s.heap.push { cls:=.type "range",data:=.fields (List.toArray [.int lo t,.int hi u,.int 1 v]) }).objs.size:=by simpa using hb
  subst e;exact I1.fpOk (qAg _) (I1.hok.fresh (qAg _))
def Xf (ta:TA):TI:=λσ H R=>ta σ H λvs H1=>∃i j:Int,vs=[.int i,.int j]/\(-(2^62)<=i/\i<2^62/\-(2^62)<=j/\j<2^62)/\R (Itr i (j-i).toNat) H1
def Cz {a b:Expr}{ta:TA}{p pos:Pos}(hg:Gl X "range")(hm:X.mg "range"=none)(ha:PA X [a,b] ta)(hs:starEach [a,b] X.env=[(false,eval a X.env),(false,eval b X.env)]:=by rfl)(hs2:starEach [b] X.env=[(false,eval b X.env)]:=by rfl) :
 PI X tg (.Call (.Name "range" p) [a,b] [] pos) (Xf ta):=by
 intro pins s σ H R I h;refine Call_ (JO I hg hm boot_range (qBC (thn (ha pos pins s σ H _ I h) λus s1 #[vs,H1,I1,r1,q1]=>?_) (by rw[hs,hs2]) (by rw[hs2];rfl)));obtain⟨i,j,e,⟨q1,q2,q3,q4⟩,q⟩:=q1;subst e;cases r1 with
 |cons r rr=>
  cases rr with
  |cons r' rr=>
   cases rr;obtain⟨t,rfl⟩:=r;obtain⟨t',rfl⟩:=r';exact call_range_2 (Tz I1 q1 q2 q3 q4 q)
def Xh (wi:TI)(g:TG)(tb:TS):TS:=λD σ H=>wi σ H λJ H1=>∃W:Nat->Nat->St->Hp->Prop,(∃m,W 0 m σ H1)/\∀i m σ H,W i m σ H ->
 (J.stop i H/\D.nx σ H)\/(J.go i H/\∃N:St->Hp->Prop,(∀σ' H',N σ' H'->∃m',m'<m/\W (i+1) m' σ' H')/\∀x H',J.yld i H x H'->g x σ H' λσ2 H2=>tb { D with nx:=N,ct:=N,bk:=D.nx } σ2 H2)
def Ks (fp:List Addr)(h:Heap):List (Addr×Obj):=fp.filterMap λb=>(h.get? b).map λo=>(b,o)
def Dt {fp:List Addr}{h:Heap}{b:Addr}{o:Obj}(hb:b∈fp)(e:h.get? b=some o):(b,o)∈Ks fp h:=qBP.mpr #[b,hb,by rw[e];rfl]
def RM {fp:List Addr}{h:Heap}{p:Addr×Obj}(hp:p∈Ks fp h):p.1∈fp/\h.get? p.1=some p.2:=by
 obtain⟨b,hb,e⟩:=qBP.mp hp;cases q:h.get? b with
 |none=>rw[q]at e;cases e
 |some o=>
  rw[q]at e;have e':(b,o)=p:=qAn e;subst e';exact#[hb,q]
def Inv.pinned {pins:List (Addr×Obj)}{σ:St}{H:Hp}{s:Shared}{fp:List Addr}(I:Inv X pins σ H s)(hf:∀b∈fp,Pk X pins H b)(ho:∀b∈fp,∃o,s.heap.get? b=some o/\∀v,o.data≠.cell v):Inv X (pins++Ks fp s.heap) σ H s:=
 I.pins_of λp hp=>(qAo.mp hp).elim (λz=>I.pin p (qAF _ z)) λz=>by
  obtain⟨hb,e⟩:=RM z;obtain⟨f0,f1,f2,_⟩:=hf p.1 hb;obtain⟨o,e',d⟩:=ho p.1 hb;rw[e]at e';cases e';exact#[e,f0,f1,f2,d]
def Inv.unpinned {pins pl:List (Addr×Obj)}{σ:St}{H:Hp}{s:Shared}(I:Inv X (pins++pl) σ H s):Inv X pins σ H s:=I.pins_of λp hp=>I.pin p (qAF _ (qAR _ hp))
def B3 {iter:Expr}{body:List Stmt}{wi:TI}{g:TG}{tb:TS}{pos:Pos}(hp:PassesOwn (model X.prog X.w) X.A X.env X.xe)(hc:X.calm=true)(hi:PI X tg iter wi)(hg:PG X tg g)(hb:PSs X body tb)
 (hs:∀x,foldedSetIterable iter X.env x=pure x:=by intro _;rfl):PS X (.For tg iter body [] pos) (Xh wi g tb):=by
 intro pins s σ H D I h;refine wpAny_For (thn (hi pins s σ H _ I h) λv s1 h1=>thn h1 λitv s2 h2=>?_) hs;obtain⟨it,fp,tn,J,H2,e,I2,T,st2,f2,W,⟨m0,w0⟩,turn⟩:=h2;subst e;have stat:∀{H':Hp},(∀b∈fp,H' b=none)->∀b∈fp,Pk X pins H' b:=λhn b hb=>#[hn b hb,(f2 b hb).2];refine codeAny_forLoop_any (λn s'=>∃i σ' H',Inv X pins σ' H' s'/\tn i s'.heap/\(∀b∈fp,H' b=none)/\W i n σ' H') ?_ m0 #[0,σ,H2,I2,st2,λb hb=>(f2 b hb).1,w0];rintro n s3 ⟨i,σ3,H3,I3,st3,fr3,w3⟩;rcases turn i n σ3 H3 w3 with⟨stop,qn⟩|⟨go,N,hN,step⟩
 .refine wpAny_passesOwn hp (thn (T.done X rfl rfl rfl hc i pins s3 σ3 H3 X.xe I3 (stat fr3) st3 stop) λr s4 hh=>?_);obtain⟨hr,I4⟩:=hh;subst hr;exact wpAny_execs_nil #[σ3,H3,I4,qn]
 .refine wpAny_passesOwn hp (thn (T.item X rfl rfl rfl hc i pins s3 σ3 H3 X.xe I3 (stat fr3) st3 go) λr s4 hh=>?_);obtain⟨u,hr,h4⟩:=hh;subst hr;refine wpAny_passesOwn hp (thn h4 λ_ s5 hh=>?_);obtain⟨x,H5,I5,r5,y5,st5,fr5⟩:=hh;have I5':=I5.pinned (stat fr5) (T.obj _ _ st5);refine wpAny_passesOwn hp (thn (hg _ s5 σ3 H5 x u _ I5' r5 (step x H5 y5)) λ_ s6 hh=>?_);obtain⟨σ6,H6,I6,q6⟩:=hh;refine wpAny_passesOwn hp (thn (hb _ s6 σ6 H6 _ I6 q6) λf s7 q7=>?_);have again:∀{σ7:St}{H7:Hp},Inv X (pins++Ks fp s5.heap) σ7 H7 s7->N σ7 H7->∃m,m<n/\∃i σ' H',Inv X pins σ' H' s7/\tn i s7.heap/\(∀b∈fp,H' b=none)/\W i m σ' H':=λ{σ7 H7} I7 n7=>by
   obtain⟨m',hm,w7⟩:=hN σ7 H7 n7;refine#[m',hm,i+1,σ7,H7,I7.unpinned,T.keep _ _ _ st5 λb hb o e=>(I7.pin (b,o) (qAF _ (qAF _ (Dt hb e)))).1,λb hb=>?_,w7];obtain⟨o,e,d⟩:=T.obj _ _ st5 b hb;exact(I7.pin (b,o) (qAF _ (qAF _ (Dt hb e)))).2.1
  cases f with
  |next=>obtain⟨σ7,H7,I7,n7⟩:=q7;exact again I7 n7
  |cont=>obtain⟨σ7,H7,I7,n7⟩:=q7;exact again I7 n7
  |brk=>obtain⟨σ7,H7,I7,q7⟩:=q7;exact#[σ7,H7,I7.unpinned,q7]
  |ret v=>obtain⟨x7,σ7,H7,I7,r7,q7⟩:=q7;exact#[x7,σ7,H7,I7.unpinned,r7,q7]
end
def SS {K:W.Frag}{a:Addr}{xs:List V}{g:TG}{tb:TS}{D:Nu}{σ:St}{H:Hp}(Pv:Nat->St->Hp->Prop)(h0:Pv 0 σ H)(hl:∀i σ H,i<=↥xs->Pv i σ H->SqL K H a xs)
 (hs:∀i x σ H,xs[i]? = some x->Pv i σ H->g x σ H λσ2 H2=>tb { D with nx:=Pv (i+1),ct:=Pv (i+1),bk:=D.nx } σ2 H2)(hd:∀σ H,Pv ↥xs σ H->D.nx σ H) :
 ∃W:Nat->Nat->St->Hp->Prop,(∃m,W 0 m σ H)/\∀i m σ H,W i m σ H ->
  ((Itl K a).stop i H/\D.nx σ H)\/((Itl K a).go i H/\∃N:St->Hp->Prop,(∀σ' H',N σ' H'->∃m',m'<m/\W (i+1) m' σ' H')/\∀x H',(Itl K a).yld i H x H'->g x σ H' λσ2 H2=>tb { D with nx:=N,ct:=N,bk:=D.nx } σ2 H2):=by
 refine#[λi m σ H=>m=↥xs-i/\i<=↥xs/\Pv i σ H,#[↥xs,by simp,qA9 _,h0],?_];rintro i m σ H ⟨rfl,hi,p⟩;have q:=hl i σ H hi p;by_cases hlt:i<↥xs
 .refine .inr #[#[xs,xs[i],q,by simp[hlt]],Pv (i+1),λσ' H' p'=>#[↥xs-(i+1),(),rfl,hlt,p'],λx H' y=>?_];obtain⟨e,y⟩:=y;subst e;exact hs i x σ _ (y xs q) p
 .have e:i=↥xs:=();subst e;exact .inl #[#[xs,q,qAg _],hd σ H p]
def Wl {K:W.Frag}{a:Addr}{xs:List V}{g:TG}{tb:TS}{D:Nu}{σ:St}{H:Hp}(Pv:Nat->St->Hp->Prop)(h0:Pv 0 σ H)(hl:∀i σ H,i<=↥xs->Pv i σ H->SqT K H a xs)
 (hs:∀i x σ H,xs[i]? = some x->Pv i σ H->g x σ H λσ2 H2=>tb { D with nx:=Pv (i+1),ct:=Pv (i+1),bk:=D.nx } σ2 H2)(hd:∀σ H,Pv ↥xs σ H->D.nx σ H) :
 ∃W:Nat->Nat->St->Hp->Prop,(∃m,W 0 m σ H)/\∀i m σ H,W i m σ H ->
  ((Itt K a).stop i H/\D.nx σ H)\/((Itt K a).go i H/\∃N:St->Hp->Prop,(∀σ' H',N σ' H'->∃m',m'<m/\W (i+1) m' σ' H')/\∀x H',(Itt K a).yld i H x H'->g x σ H' λσ2 H2=>tb { D with nx:=N,ct:=N,bk:=D.nx } σ2 H2):=by
 refine#[λi m σ H=>m=↥xs-i/\i<=↥xs/\Pv i σ H,#[↥xs,by simp,qA9 _,h0],?_];rintro i m σ H ⟨rfl,hi,p⟩;have q:=hl i σ H hi p;by_cases hlt:i<↥xs
 .refine .inr #[#[xs,xs[i],q,by simp[hlt]],Pv (i+1),λσ' H' p'=>#[↥xs-(i+1),(),rfl,hlt,p'],λx H' y=>?_];obtain⟨e,y⟩:=y;subst e;exact hs i x σ _ (y xs q) p
 .have e:i=↥xs:=();subst e;exact .inl #[#[xs,q,qAg _],hd σ H p]
def Qr {lo:Int}{n:Nat}{g:TG}{tb:TS}{D:Nu}{σ:St}{H:Hp}(Pv:Nat->St->Hp->Prop)(h0:Pv 0 σ H)
 (hs:∀i σ H,i<n->Pv i σ H->g (.int (lo+i)) σ H λσ2 H2=>tb { D with nx:=Pv (i+1),ct:=Pv (i+1),bk:=D.nx } σ2 H2)(hd:∀σ H,Pv n σ H->D.nx σ H) :
 ∃W:Nat->Nat->St->Hp->Prop,(∃m,W 0 m σ H)/\∀i m σ H,W i m σ H ->
  ((Itr lo n).stop i H/\D.nx σ H)\/((Itr lo n).go i H/\∃N:St->Hp->Prop,(∀σ' H',N σ' H'->∃m',m'<m/\W (i+1) m' σ' H')/\∀x H',(Itr lo n).yld i H x H'->g x σ H' λσ2 H2=>tb { D with nx:=N,ct:=N,bk:=D.nx } σ2 H2):=by
 refine#[λi m σ H=>m=n-i/\i<=n/\Pv i σ H,#[n,by simp,qA9 _,h0],?_];rintro i m σ H ⟨rfl,hi,p⟩;by_cases hlt:i<n
 .refine .inr #[hlt,Pv (i+1),λσ' H' p'=>#[n-(i+1),(),rfl,hlt,p'],λx H' y=>?_];obtain⟨e,y⟩:=y;subst e y;exact hs i σ _ hlt p
 .have e:i=n:=();subst e;exact .inl #[qAg _,hd σ H p]
abbrev R2:=V->V->Hp->VK->Prop
def OpR (X:Cx)(f:Value->Value->Sem Value)(r:R2):Prop:=
 ∀(pins:List (Addr×Obj))(s:Shared)(σ:St)(H:Hp)(x y:V)(v u:Value)(Q:VK),Inv X pins σ H s->Cq x v->Cq y u->r x y H Q ->
  wpAny (model X.prog X.w) X.A (f v u) (EP X pins σ Q) X.xe s
def UnR (X:Cx)(f:Value->Sem Value)(r:V->Hp->VK->Prop):Prop:=
 ∀(pins:List (Addr×Obj))(s:Shared)(σ:St)(H:Hp)(x:V)(v:Value)(Q:VK),Inv X pins σ H s->Cq x v->r x H Q ->
  wpAny (model X.prog X.w) X.A (f v) (EP X pins σ Q) X.xe s
def Iv (X:Cx)(f:Value)(r:List V->Hp->VK->Prop):Prop:=
 ∀(pins:List (Addr×Obj))(s:Shared)(σ:St)(H:Hp)(xs:List V)(us:List Value)(Q:VK),Inv X pins σ H s->B4 xs us->r xs H Q ->
  wpAny (model X.prog X.w) X.A (call f us) (EP X pins σ Q) X.xe s
def cM (X:Cx)(r:V->Hp->(Bool->Hp->Prop)->Prop):Prop:=
 ∀(pins:List (Addr×Obj))(s:Shared)(σ:St)(H:Hp)(x:V)(v:Value)(Q:Bool->Hp->Prop),Inv X pins σ H s->Cq x v->r x H Q ->
  wpAny (model X.prog X.w) X.A (truthy v) (TP X pins σ Q) X.xe s
def tOp (r:R2)(ta tb:TE):TE:=λσ H Q=>ta σ H λx H1=>tb σ H1 λy H2=>r x y H2 Q
def tUn (r:V->Hp->VK->Prop)(ta:TE):TE:=λσ H Q=>ta σ H λx H1=>r x H1 Q
def rI (C:Int->Int->Prop)(g:Int->Int->V):R2:=λx y H Q=>∃i j,x=.int i/\y=.int j/\C i j/\Q (g i j) H
def rI0 (g:Int->Int->V):R2:=λx y H Q=>∃i j,x=.int i/\y=.int j/\Q (g i j) H
def rU (g:Int->V):V->Hp->VK->Prop:=λx H Q=>∃i,x=.int i/\Q (g i) H
section
variable {X:Cx}{a b c:Expr}{ta tb tc:TE}{pos:Pos}
def aT (ha:PE X a ta)(hb:PE X b tb){pins:List (Addr×Obj)}{s:Shared}{σ:St}{H:Hp}{R:V->V->Hp->Prop}(I:Inv X pins σ H s)
 (h:ta σ H λx H1=>tb σ H1 λy H2=>R x y H2){Q:Value->Shared->Prop}{f:Value->Value->Sem Value}
 (hf:∀v u s2 x y H2,Inv X pins σ H2 s2->Cq x v->Cq y u->R x y H2->wpAny (model X.prog X.w) X.A (f v u) Q X.xe s2) :
 wpAny (model X.prog X.w) X.A (eval a X.env) (λv s₁=>wpAny (model X.prog X.w) X.A (eval b X.env) (λu s₂=>wpAny (model X.prog X.w) X.A (f v u) Q X.xe s₂) X.xe s₁) X.xe s:=by
 refine thn (ha pins s σ H _ I h) λv s1 hh=>?_;obtain⟨x,H1,I1,r1,q1⟩:=hh;refine thn (hb pins s1 σ H1 _ I1 q1) λu s2 hh=>?_;obtain⟨y,H2,I2,r2,q2⟩:=hh;exact hf v u s2 x y H2 I2 r1 r2 q2
def Y5 {op:Operator}{r:R2}(ho:OpR X (binaryOp op) r)(ha:PE X a ta)(hb:PE X b tb):PE X (.BinOp a op b pos) (tOp r ta tb):=by
 intro pins s σ H Q I h;exact wpAny_BinOp (aT ha hb I h λv u s2 x y H2 I2 rx ry q=>ho pins s2 σ H2 x y v u Q I2 rx ry q)
def aN {op:UnaryOp}{r:V->Hp->VK->Prop}(ho:UnR X (unaryOp op) r)(ha:PE X a ta):PE X (.UnaryOp op a pos) (tUn r ta):=by
 intro pins s σ H Q I h;exact UnaryOp_ (thn (ha pins s σ H _ I h) λv s1 #[x,H1,I1,r1,q1]=>ho pins s1 σ H1 x v Q I1 r1 q1)
def opI {f:Value->Value->Sem Value}{C:Int->Int->Prop}{g:Int->Int->Int}
 (rule:∀(i j:Int)(t u:Tok)(s:Shared)(Q:Value->Shared->Prop)(E:Value->Shared->Prop),C i j->Q (.int (g i j) s.toks) { s with toks:=s.toks+1 }->wpAny (model X.prog X.w) X.A (f (.int i t) (.int j u)) Q E s) :
 OpR X f (rI C λi j=>.int (g i j)):=by
 intro pins s σ H x y v u Q I rx ry h;obtain⟨i,j,rfl,rfl,hc,q⟩:=h;obtain⟨t,rfl⟩:=rx;obtain⟨t',rfl⟩:=ry;exact rule i j t t' s _ _ hc #[.int (g i j),H,I.tok _,#[_,rfl],q]
def bO {f:Value->Value->Sem Value}{g:Int->Int->Int}
 (rule:∀(i j:Int)(t u:Tok)(s:Shared)(Q:Value->Shared->Prop)(E:Value->Shared->Prop),Q (.int (g i j) s.toks) { s with toks:=s.toks+1 }->wpAny (model X.prog X.w) X.A (f (.int i t) (.int j u)) Q E s) :
 OpR X f (rI0 λi j=>.int (g i j)):=by
 intro pins s σ H x y v u Q I rx ry h;obtain⟨i,j,rfl,rfl,q⟩:=h;obtain⟨t,rfl⟩:=rx;obtain⟨t',rfl⟩:=ry;exact rule i j t t' s _ _ #[.int (g i j),H,I.tok _,#[_,rfl],q]
def ZR {f:Value->Value->Sem Value}{g:Int->Int->Bool}
 (rule:∀(i j:Int)(t u:Tok)(s:Shared)(Q:Value->Shared->Prop)(E:Value->Shared->Prop),Q (.bool (g i j)) s->wpAny (model X.prog X.w) X.A (f (.int i t) (.int j u)) Q E s) :
 OpR X f (rI0 λi j=>.bl (g i j)):=by
 intro pins s σ H x y v u Q I rx ry h;obtain⟨i,j,rfl,rfl,q⟩:=h;obtain⟨t,rfl⟩:=rx;obtain⟨t',rfl⟩:=ry;exact rule i j t t' s _ _ #[.bl (g i j),H,I,rfl,q]
def bK (i j:Int):Prop:=0<=j/\j<=1000000/\i.natAbs<2^64
def UK:OpR X (binaryOp .Add) (rI0 λi j=>.int (i+j)):=bO λ_ _ _ _ _ _ _ q=>add_int q
def Za:OpR X (binaryOp .Sub) (rI0 λi j=>.int (i-j)):=bO λ_ _ _ _ _ _ _ q=>sub_int q
def Vy:OpR X (binaryOp .Mod) (rI (λ_ j=>j≠0) λi j=>.int (i.fmod j)):=opI λ_ _ _ _ _ _ _ hc q=>mod_int' hc q
def Xu:OpR X (binaryOp .Pow) (rI bK λi j=>.int (i^j.toNat)):=opI λ_ _ _ _ _ _ _ hc q=>pow_int_small hc.1 hc.2.1 hc.2.2 q
def unI {f:Value->Sem Value}{g:Int->Int}
 (rule:∀(i:Int)(t:Tok)(s:Shared)(Q:Value->Shared->Prop)(E:Value->Shared->Prop),Q (.int (g i) s.toks) { s with toks:=s.toks+1 }->wpAny (model X.prog X.w) X.A (f (.int i t)) Q E s) :
 UnR X f (rU λi=>.int (g i)):=by
 intro pins s σ H x v Q I rx h;obtain⟨i,rfl,q⟩:=h;obtain⟨t,rfl⟩:=rx;exact rule i t s _ _ #[.int (g i),H,I.tok _,#[_,rfl],q]
def YB:UnR X (unaryOp .USub) (rU λi=>.int (-i)):=unI λ_ _ _ _ _ q=>neg_int q
end
def bT:V->V->Bool
 |.non,.non=>true|.non,.int _=>true|.int _,.non=>true|.non,.bl _=>true|.bl _,.non=>true|.non,.str _=>true|.str _,.non=>true
 |.int _,.int _=>true|.bl _,.bl _=>true|.str _,.str _=>true|.byt _,.byt _=>true
 |.int _,.str _=>true|.str _,.int _=>true|.bl _,.str _=>true|.str _,.bl _=>true
 |_,_=>false
def rEq:R2:=λx y H Q=>bT x y=true/\Q (.bl (decide (x=y))) H
def rNe:R2:=λx y H Q=>bT x y=true/\Q (.bl (!decide (x=y))) H
def QY {i j:Int}:decide (V.int i=V.int j)=(i==j):=by
 rw[qBQ];simp
def Vb {i j:Bool}:decide (V.bl i=V.bl j)=(i==j):=by
 rw[qBQ];simp
def Qw {i j:Str}:decide (V.str i=V.str j)=(i==j):=by
 rw[qBQ];simp
def SJ {i j:Array UInt8}:decide (V.byt i=V.byt j)=(i.toList==j.toList):=by
 rw[qBQ];cases i;cases j;simp
section
variable {X:Cx}{a b c:Expr}{ta tb tc:TE}{pos:Pos}
def Bg {pins:List (Addr×Obj)}{σ:St}{H:Hp}{s:Shared}{Q:VK}{k k':Bool}(I:Inv X pins σ H s)(q:Q (.bl k) H)(e:k=k'):EP X pins σ Q (.bool k') s:=by
 subst e;exact#[.bl k,H,I,rfl,q]
def aM:OpR X (compareOp .Eq) rEq:=by
 intro pins s σ H x y v u Q I rx ry h;obtain⟨hs,q⟩:=h;cases x with
 |non=>
  cases rx;cases y with
  |non=>cases ry;exact PySem.EqNone.eq_none_none (Bg I q (by simp))
  |bl j=>cases ry;exact PySem.EqNone.eq_none_bool (Bg I q (by simp))
  |int j=>obtain⟨t',rfl⟩:=ry;exact PySem.EqNone.eq_none_int (Bg I q (by simp))
  |str j=>obtain⟨t',rfl⟩:=ry;exact PySem.EqNone.eq_none_str (Bg I q (by simp))
  |_=>exact absurd (show false=true from hs) qAq
 |bl i=>
  cases rx;cases y with
  |non=>cases ry;exact PySem.EqNone.eq_bool_none (Bg I q (by simp))
  |bl j=>cases ry;exact eq_bool (Bg I q Vb)
  |str j=>obtain⟨t',rfl⟩:=ry;exact PySem.EqMixed.eq_bool_str (Bg I q (by simp))
  |_=>exact absurd (show false=true from hs) qAq
 |int i=>
  obtain⟨t,rfl⟩:=rx;cases y with
  |non=>cases ry;exact PySem.EqNone.eq_int_none (Bg I q (by simp))
  |int j=>obtain⟨t',rfl⟩:=ry;exact eq_int (Bg I q QY)
  |str j=>obtain⟨t',rfl⟩:=ry;exact PySem.EqMixed.eq_int_str (Bg I q (by simp))
  |_=>exact absurd (show false=true from hs) qAq
 |str i=>
  obtain⟨t,rfl⟩:=rx;cases y with
  |non=>cases ry;exact PySem.EqNone.eq_str_none (Bg I q (by simp))
  |bl j=>cases ry;exact PySem.EqMixed.eq_str_bool (Bg I q (by simp))
  |int j=>obtain⟨t',rfl⟩:=ry;exact PySem.EqMixed.eq_str_int (Bg I q (by simp))
  |str j=>obtain⟨t',rfl⟩:=ry;exact eq_str (Bg I q Qw)
  |_=>exact absurd (show false=true from hs) qAq
 |byt i=>
  obtain⟨t,rfl⟩:=rx;cases y with
  |byt j=>obtain⟨t',rfl⟩:=ry;exact W.eq_bytes (Bg I q SJ)
  |_=>exact absurd (show false=true from hs) qAq
 |_=>cases y<;>exact absurd (show false=true from hs) qAq
def Zs:OpR X (compareOp .NotEq) rNe:=by
 intro pins s σ H x y v u Q I rx ry h;obtain⟨hs,q⟩:=h;cases x with
 |non=>
  cases rx;cases y with
  |non=>cases ry;exact PySem.EqNone.ne_none_none (Bg I q (by simp))
  |bl j=>cases ry;exact PySem.EqNone.ne_none_bool (Bg I q (by simp))
  |int j=>obtain⟨t',rfl⟩:=ry;exact PySem.EqNone.ne_none_int (Bg I q (by simp))
  |str j=>obtain⟨t',rfl⟩:=ry;exact PySem.EqNone.ne_none_str (Bg I q (by simp))
  |_=>exact absurd (show false=true from hs) qAq
 |bl i=>
  cases rx;cases y with
  |non=>cases ry;exact PySem.EqNone.ne_bool_none (Bg I q (by simp))
  |bl j=>cases ry;exact ne_bool (Bg I q (congrArg not Vb))
  |str j=>obtain⟨t',rfl⟩:=ry;exact PySem.EqMixed.ne_bool_str (Bg I q (by simp))
  |_=>exact absurd (show false=true from hs) qAq
 |int i=>
  obtain⟨t,rfl⟩:=rx;cases y with
  |non=>cases ry;exact PySem.EqNone.ne_int_none (Bg I q (by simp))
  |int j=>obtain⟨t',rfl⟩:=ry;exact ne_int (Bg I q (congrArg not QY))
  |str j=>obtain⟨t',rfl⟩:=ry;exact PySem.EqMixed.ne_int_str (Bg I q (by simp))
  |_=>exact absurd (show false=true from hs) qAq
 |str i=>
  obtain⟨t,rfl⟩:=rx;cases y with
  |non=>cases ry;exact PySem.EqNone.ne_str_none (Bg I q (by simp))
  |bl j=>cases ry;exact PySem.EqMixed.ne_str_bool (Bg I q (by simp))
  |int j=>obtain⟨t',rfl⟩:=ry;exact PySem.EqMixed.ne_str_int (Bg I q (by simp))
  |str j=>obtain⟨t',rfl⟩:=ry;exact ne_str (Bg I q (congrArg not Qw))
  |_=>exact absurd (show false=true from hs) qAq
 |byt i=>
  obtain⟨t,rfl⟩:=rx;cases y with
  |byt j=>obtain⟨t',rfl⟩:=ry;exact W.ne_bytes (Bg I q (congrArg not SJ))
  |_=>exact absurd (show false=true from hs) qAq
 |_=>cases y<;>exact absurd (show false=true from hs) qAq
def ZQ:OpR X (compareOp .Lt) (rI0 λi j=>.bl (decide (i<j))):=ZR λ_ _ _ _ _ _ _ q=>lt_int q
def aS:OpR X (compareOp .LtE) (rI0 λi j=>.bl (decide (i<=j))):=ZR λ_ _ _ _ _ _ _ q=>le_int q
def aJ:OpR X (compareOp .Gt) (rI0 λi j=>.bl (decide (j<i))):=ZR λ_ _ _ _ _ _ _ q=>gt_int q
def XM:OpR X (compareOp .Is) (λx y H Q=>y=.non/\Q (.bl (decide (x=.non))) H):=by
 intro pins s σ H x y v u Q I rx ry h;obtain⟨rfl,q⟩:=h;cases ry;refine is_none_gen (Bg I q ?_);cases x<;>first
  |(cases rx;rfl)
  |(obtain⟨t,rfl⟩:=rx;rfl)
def Wk:OpR X (compareOp .IsNot) (λx y H Q=>y=.non/\Q (.bl (!decide (x=.non))) H):=by
 intro pins s σ H x y v u Q I rx ry h;obtain⟨rfl,q⟩:=h;cases ry;refine isnot_none_gen (Bg I q ?_);cases x<;>first
  |(cases rx;rfl)
  |(obtain⟨t,rfl⟩:=rx;rfl)
def OpR.or {f:Value->Value->Sem Value}{r r':R2}(h:OpR X f r)(h':OpR X f r'):OpR X f (λx y H Q=>r x y H Q\/r' x y H Q):=by
 intro pins s σ H x y v u Q I rx ry q;rcases q with q|q
 .exact h pins s σ H x y v u Q I rx ry q
 .exact h' pins s σ H x y v u Q I rx ry q
def DF (b:Expr){op:CmpOp}(h:op≠.In:=by decide)(h2:op≠.NotIn:=by decide):behindInMarks op b=false:=by
 have e1:(op==CmpOp.In)=false:=by cases op<;>first|rfl|exact absurd rfl h
 have e2:(op==CmpOp.NotIn)=false:=by cases op<;>first|rfl|exact absurd rfl h2
 cases b<;>simp[behindInMarks,e1,e2]
def Wn {op:CmpOp}{r:R2}(ho:OpR X (compareOp op) r)(ha:PE X a ta)(hb:PE X b tb)(hm:behindInMarks op b=false):PE X (.Compare a [op] [b] pos) (tOp r ta tb):=by
 intro pins s σ H Q I h;exact wpAny_Compare1 (aT ha hb I h λv u s2 x y H2 I2 rx ry q=>ho pins s2 σ H2 x y v u Q I2 rx ry q) hm
def Zn (t:TE):TT:=λσ H Q=>t σ H λx H'=>∃k,x=.bl k/\Q k H'
def VB {op:CmpOp}{r:R2}(ho:OpR X (compareOp op) r)(ha:PE X a ta)(hb:PE X b tb)(hm:behindInMarks op b=false):PT X (.Compare a [op] [b] pos) (Zn (tOp r ta tb)):=by
 intro pins s σ H Q I h;refine wpAny_isTrue_Compare1 (thn (ha pins s σ H _ I h) λv s1 #[x,H1,I1,r1,q1]=>thn (hb pins s1 σ H1 _ I1 q1) λu s2 #[y,H2,I2,r2,q2]=>
  thn (ho pins s2 σ H2 x y v u _ I2 r1 r2 q2) λc s3 #[z,H3,I3,r3,k,e,q3]=>?_) hm
 subst e;cases r3;exact wpAny_truthy_bool #[H3,I3,q3]
def bA (K:W.Frag)(x:V)(H:Hp)(k:Bool):Prop:=
 match x with
 |.non=>k=false
 |.bl b=>k=b
 |.int i=>k=(i != 0)
 |.str y=>↥y<=sizeLine/\k=((↥y:Int) != 0)
 |.byt y=>y.size<=sizeLine/\k=((y.size:Int) != 0)
 |.ref p=>(∃xs,SqL K H p xs/\k=!xs.isEmpty)\/(∃xs,SqT K H p xs/\k=!xs.isEmpty)\/∃kvs,H p=some (.dK kvs)/\k=!kvs.isEmpty
 |_=>False
def PZ {κ:Type}{kvs:List (κ×V)}{vs:List (κ×Value)}(r:KV kvs vs):(!vs.isEmpty)=!kvs.isEmpty:=by
 cases r<;>rfl
def Ku {xs:List V}{its:List Value}(r:B4 xs its):(!its.toArray.isEmpty)=!xs.isEmpty:=by
 cases r<;>simp
def MI:(sizeLine:Nat)<2^63:=by rw[sizeLine_eq];decide
def X5:cM X (λx H Q=>∃k,bA X.K x H k/\Q k H):=by
 intro pins s σ H x v Q I rx h;obtain⟨k,e,q⟩:=h;have hl:=MI;have hs:sizeLine=16777216:=sizeLine_eq;cases x with
 |non=>
  cases rx;have e':k=false:=e;subst e';exact truthy_none #[H,I,q]
 |bl b=>
  cases rx;have e':k=b:=e;subst e';exact wpAny_truthy_bool #[H,I,q]
 |int i=>
  obtain⟨t,rfl⟩:=rx;have e':k=(i != 0):=e;subst e';exact PySem.P.truthy_int #[H,I,q]
 |str y=>
  obtain⟨t,rfl⟩:=rx;obtain⟨hy,e'⟩:↥y<=sizeLine/\k=((↥y:Int) != 0):=e;subst e';exact PySem.P.truthy_str () #[H,I.tok _,q]
 |byt y=>
  obtain⟨t,rfl⟩:=rx;obtain⟨hy,e'⟩:y.size<=sizeLine/\k=((y.size:Int) != 0):=e;subst e';exact W.truthy_bytes () #[H,I.tok _,q]
 |ref p=>
  cases rx;have e':(∃xs,SqL X.K H p xs/\k=!xs.isEmpty)\/(∃xs,SqT X.K H p xs/\k=!xs.isEmpty)\/∃kvs,H p=some (.dK kvs)/\k=!kvs.isEmpty:=e;rcases e' with⟨xs,hx,e'⟩|⟨xs,hx,e'⟩|⟨kvs,hx,e'⟩
  .subst e';obtain⟨its,r,pl,hz⟩:=I.list hx;have hlen:=↥r;exact wpAny_truthy_list pl.isList (by simp only[qAt];omega) #[H,I.tok _,by rw[Ku r];exact q]
  .subst e';obtain⟨its,r,pl,hz⟩:=I.tuple hx;have hlen:=↥r;exact truthy_tuple pl (by simp only[qAt];omega) #[H,I.tok _,by rw[Ku r];exact q]
  .subst e';obtain⟨hz,hS,vs,r,m⟩:↥kvs<=sizeLine/\(p==sysModules)=false/\∃vs,KV kvs vs/\s.heap.DictOf (NI X.prog X.w) p vs:=I.hok p _ hx;have hlen:↥kvs=↥vs:=Paired.length r;exact wpAny_truthy_dict hS m () #[H,I.tok _,by rw[PZ r];exact q]
 |_=>exact(show False from e).elim
def Ui (ha:PE X a ta)(he:∀whole,isTrue a X.env whole=(do let v <-whole;standAt a.pos;holding [v] (truthy v))) :
 PT X a (λσ H Q=>ta σ H λx H'=>∃k,bA X.K x H' k/\Q k H'):=by
 intro pins s σ H Q I h;exact isTrue_plain (thn (ha pins s σ H _ I h) λv s1 #[x,H1,I1,r1,q1]=>X5 pins s1 σ H1 x v Q I1 r1 q1) (he _)
def NJ {x:V}{us:List Value}(r:B4 [x] us):∃u,us=[u]/\Cq x u:=by
 cases r with
 |cons r1 r2=>cases r2;exact#[_,rfl,r1]
def Xv {x y:V}{us:List Value}(r:B4 [x,y] us):∃u w',us=[u,w']/\Cq x u/\Cq y w':=by
 cases r with
 |cons r1 r2=>
  cases r2 with
  |cons r3 r4=>cases r4;exact#[_,_,rfl,r1,r3]
def T2:Iv X (.builtin "abs") (λxs H Q=>∃i,xs=[.int i]/\Q (.int (if i<0 then -i else i)) H):=by
 intro pins s σ H xs us Q I r h;obtain⟨i,rfl,q⟩:=h;obtain⟨u,rfl,t,rfl⟩:=NJ r;exact call_abs_int λu tk=>#[.int (if i<0 then -i else i),H,I.tok _,#[_,rfl],q]
end
structure ZI (h:Heap)(x dx C:Addr)(mA:Str->Option Value):Prop where
 obj:h.get? x=some (W.instObj C dx)
 ns:h.Ns1 dx mA
 ne:dx≠x
def SM {h:Heap}{dx:Addr}{mA:Str->Option Value}(n:h.Ns1 dx mA):∃od,h.get? dx=some od/\∀name,W.lookIn name od=some (mA name):=by
 obtain⟨o,es,ep,ho,hd,hk,_,hm⟩:=n;refine#[o,ho,λname=>?_];have e:=hm name;unfold nsFind findBy at e;rw[<-Array.find?_toList]at e;unfold W.lookIn;rw[hd];dsimp only;split
 .rename_i y q;rw[q]at e;exact congrArg some e
 .rename_i q;rw[q]at e;have a:es.toList.any (·.refKey)=false:=by
   rw[List.any_eq_false];intro y hy;obtain⟨z,t,hkey⟩:=hk y (Array.mem_toList_iff.mp hy);simp[DictEntry.refKey,hkey]
  have a':¬es.toList.any (·.refKey)=true:=by rw[a];exact qAq
  rw[qC5 a'];exact congrArg some e
def ZI.look {h:Heap}{x dx C:Addr}{mA:Str->Option Value}(I:ZI h x dx C mA):∃od,W.InstAt h x (W.instObj C dx) C (some od)/\∀name,W.lookIn name od=some (mA name):=
 let #[od,ho,hl]:=SM I.ns
 #[od,#[I.obj,rfl,rfl,ho],hl]
section
variable {prog:Program}{w:World}{A:Around}{E:Value->Shared->Prop}{s:Shared}{K:W.Frag}{x dx C f:Addr}{mA:Str->Option Value}{name:Str}{v:Value}
end
section
variable {P:Program}{w:World}{H H':Hp}{h h':Heap}{a C dx:Addr}{fs fs':List (Str×V)}
def VZ (hok:HOk P w H h)(e:H a=some (.ins C dx fs)):∃mA,ZI h a dx C mA/\(∀f,Z9 (fs.lookup f) (mA f))/\PySem.Within mA (fs.map (·.1))/\↥fs<=1000/\H dx=some (.own a):=by
 obtain⟨d,z,ne,ob,mA,n,r,q⟩:=(show Dm P w H h a (.ins C dx fs) from hok a _ e);exact#[mA,#[ob,n,ne],r,q,z,d]
end
structure Cls (K:W.Frag)(C:Addr):Prop where
 pg:W.plainGet K C Str.empty=true
 hd:W.hasDictIn K C=true
 po:W.plainOver K C=true
 sa:W.findIn K (.ref C) "__setattr__"=some (some (.builtin "object.__setattr__"))
def Cls.get {K:W.Frag}{C:Addr}(c:Cls K C)(f:Str):W.plainGet K C f=true:=c.pg
section
variable {X:Cx}{pins:List (Addr×Obj)}{σ:St}{H:Hp}{s:Shared}{a C dx:Addr}{fs:List (Str×V)}{f:Str}{v:V}{A:Around}{E:Value->Shared->Prop}
end
section
variable {X:Cx}{o e value:Expr}{f:Str}{pos pos' tpos:Pos}{ta tv:TE}
end
section
variable {X:Cx}{pins:List (Addr×Obj)}{σ:St}{H:Hp}{s:Shared}{A:Around}{E:Value->Shared->Prop}{Q:Value->Shared->Prop}{c:Value}{b:Bool}
inductive P0 (K:W.Frag)(H:Hp):V->Value->Prop where
 |non:P0 K H .non (.type "NoneType")
 |bl (x:Bool):P0 K H (.bl x) (.type "bool")
 |int (i:Int):P0 K H (.int i) (.type "int")
 |str (x:Str):P0 K H (.str x) (.type "str")
 |flt (x:UInt64):P0 K H (.flt x) (.type "float")
 |lst {a:Addr}{xs:List V}(e:H a=some (.lst xs)):P0 K H (.ref a) (.type "list")
 |frz {a:Addr}{o:Obj}{xs:List V}(e:H a=some (.frz o (.lst xs))):P0 K H (.ref a) (.type "list")
 |tup {a:Addr}{xs:List V}(e:H a=some (.tup xs)):P0 K H (.ref a) (.type "tuple")
 |dK {a:Addr}{kvs:List (Key×V)}(e:H a=some (.dK kvs)):P0 K H (.ref a) (.type "dict")
 |dT {a:Addr}{kvs:List (List Key×V)}(e:H a=some (.dT kvs)):P0 K H (.ref a) (.type "dict")
 |ins {a C dx:Addr}{fs:List (Str×V)}(e:H a=some (.ins C dx fs)) (cl:Cls K C) (ha:W.findIn K (.ref C) "__class__"=some (some (.builtin "object.__class__")))
  (hn:W.specialIn K (.builtin "object.__class__") "__get__"=some (some (.builtin "getset_descriptor.__get__"))) (htk:W.takesIn K (.builtin "object.__class__")=some true)
  (hm:W.mroIn K C (.type "object")=some true):P0 K H (.ref a) (.ref C)
def G6 {x:V}{u t:Value}(I:Inv X pins σ H s)(rx:Cq x u)(ty:P0 X.K H x t)(e:W.kitOne X.K t c=some b)(h:∀tk,Q (.bool b) { s with toks:=tk }) :
 wpAny (model X.prog X.w) A (call (.builtin "isinstance") [u,c]) Q E s:=by
 cases ty with
 |non=>cases (show u=Value.none from rx);exact qAS W.kitx_none I.kIn True.intro e (λz=>nomatch z) h
 |bl y=>cases (show u=Value.bool y from rx);exact qAS W.kitx_bool I.kIn True.intro e (λz=>nomatch z) h
 |int i=>obtain⟨t,q⟩:=(show ∃t,u=Value.int i t from rx);cases q;exact qAS W.kitx_int I.kIn True.intro e (λz=>nomatch z) h
 |str y=>obtain⟨t,q⟩:=(show ∃t,u=Value.str y t from rx);cases q;exact qAS W.kitx_str I.kIn True.intro e (λz=>nomatch z) h
 |flt y=>obtain⟨t,q⟩:=(show ∃t,u=Value.float y t from rx);cases q;exact qAS W.kitx_float I.kIn True.intro e (λz=>nomatch z) h
 |@lst a xs ea=>
  cases (show u=Value.ref a from rx);obtain⟨_,_,n,_,h1⟩:=(show Dm X.prog X.w H s.heap a (.lst xs) from I.hok a _ ea);exact qAS qBU I.kIn #[_,h1,rfl] e (λz=>nomatch z) h
 |@frz a ob xs ea=>
  cases (show u=Value.ref a from rx);obtain⟨_,_,_,n,_,h1⟩:=(show Dm X.prog X.w H s.heap a (.frz ob (.lst xs)) from I.hok a _ ea);exact qAS qBU I.kIn #[_,h1,rfl] e (λz=>nomatch z) h
 |@tup a xs ea=>
  cases (show u=Value.ref a from rx);obtain⟨_,_,_,p⟩:=(show Dm X.prog X.w H s.heap a (.tup xs) from I.hok a _ ea);obtain⟨o,h1,h2,_⟩:=p;exact qAS W.kitx_tuple I.kIn #[o,h1,h2] e (λz=>nomatch z) h
 |@dK a kvs ea=>
  cases (show u=Value.ref a from rx);obtain⟨_,_,vs,_,p⟩:=(show Dm X.prog X.w H s.heap a (.dK kvs) from I.hok a _ ea);obtain⟨o,es,ep,h1,h2,_⟩:=p;exact qAS W.kitx_dict I.kIn #[o,h1,h2.1] e (λz=>nomatch z) h
 |@dT a kvs ea=>
  cases (show u=Value.ref a from rx);obtain⟨_,_,xs,_,o,es,ep,h1,h2,_⟩:=(show Dm X.prog X.w H s.heap a (.dT kvs) from I.hok a _ ea);exact qAS W.kitx_dict I.kIn #[o,h1,h2.1] e (λz=>nomatch z) h
 |@ins a C dx fs ea cl ha hn htk hm=>
  cases (show u=Value.ref a from rx);obtain⟨mA,O,_⟩:=VZ I.hok ea;obtain⟨od,J,_⟩:=O.look;exact qAS (W.kitx_own (cl.get _) cl.hd ha hn htk hm) I.kIn J e (λz=>nomatch z) h
end
structure DC (k:Nat)(A:Around):Prop where
 hd:A.handled=none
 dp:A.depth+3*k+5<recursionLimit
 un:A.units+16*k+200<cLine
def DC.mono {j k:Nat}{A:Around}(r:DC k A)(h:j<=k):DC j A:=#[r.hd,by have:=r.dp;omega,by have:=r.un;omega]
def DC.deeper {k:Nat}{A:Around}(r:DC (k+1) A)(env:Env):DC k (A.deeper env):=
 #[r.hd,by have:=r.dp;show A.depth+1+3*k+5<_;omega,by have:=r.un;show A.units+3+16*k+200<_;omega]
def DC.depth {k:Nat}{A:Around}(r:DC k A):A.depth<recursionLimit:=by have:=r.dp;omega
def Zz:TA:=λ_ H Q=>Q [] H
def Wj (ta:TE)(tr:TA):TA:=λσ H Q=>ta σ H λx H1=>tr σ H1 λxs H2=>Q (x::xs) H2
section
variable {X:Cx}{e:Expr}{es:List Expr}{te:TE}{t:TA}{pos:Pos}
def Br:PA X [] Zz:=λ_ _ _ _ H Q I h=>Calls.spliced_nil #[[],H,I,.nil,h]
def AM (ha:PE X e te)(hr:PA X es t)(hs:starEach (e::es) X.env=(false,eval e X.env)::starEach es X.env:=by rfl):PA X (e::es) (Wj te t):=by
 intro pos pins s σ H Q I h;rw[hs];show wpAny _ _ (spliced ((false,eval e X.env)::backTo pos (starEach es X.env))) _ _ s;refine Calls.spliced_cons (thn (ha pins s σ H _ I h) λu s1 hh=>?_);obtain⟨x,H1,I1,r1,q1⟩:=hh;exact thn (hr pos pins s1 σ H1 _ I1 q1) λus s2 #[xs,H2,I2,r2,q2]=>#[x::xs,H2,I2,.cons r1 r2,q2]
def cO (t:TA):TE:=λσ H Q=>t σ H λxs H1=>↥xs<=sizeLine/\∀p,H1 p=none->Q (.ref p) (upd H1 p (.tup xs))
def YG {x1}(h:PA X es t):PE X (.Tuple es x1 pos) (cO t):=by
 intro pins s σ H Q I hq;refine wpAny_Tuple_spliced (thn (h pos pins s σ H _ I hq) λus s1 #[xs,H1,I1,r,z,q]=>#[by rw[<-↥r];exact z,?_]);have hf:H1 s1.heap.objs.size=none:=I1.hok.fresh (qAg _);refine#[.ref s1.heap.objs.size,upd H1 s1.heap.objs.size (.tup xs),I1.laid (t':=s1.toks) (λb u e=>qAh _ e) (qAg _) ?_,rfl,q _ hf];exact#[z,us,r,#[_,qAy _ rfl,rfl,_,rfl]]
end
abbrev Sp:=List V->Hp->VK->XK->Prop
abbrev CXT:=List Env->Hp->Shared->XK->Value->Shared->Prop
structure Tr (P:Program)(w:World)(K:W.Frag)(mg:Str->Option Value)(base:Heap)(A:Around)(outer:List Env)(s:Shared)(H:Hp):Prop where
 frames:A.frames=some outer
 mod:Mod K mg base
 bs:∀b o,base.get? b=some o->s.heap.get? b=some o/\H b=none
 bsz:base.objs.size<=s.heap.objs.size
 funs:s.heap.FunFrames base outer
 frf:∀b∈frs outer,H b=none
 hok:HOk P w H s.heap
 bare:AllBare s.gens
 tb:TB P K mg base H
def CE (outer:List Env)(P:Program)(w:World)(H:Hp)(s:Shared)(Q:VK)(u:Value)(s':Shared):Prop:=
 ∃v H',s'.os=s.os/\AllBare s'.gens/\Un (frs outer) [] H H' s.heap s'.heap/\HOk P w H' s'.heap/\Cq v u/\Q v H'
def CR (CX:CXT)(outer:List Env)(P:Program)(w:World)(H:Hp)(s:Shared)(Q:VK)(E:XK)(r:Result)(s':Shared):Prop:=
 match r with
 |.ok (.ret u)=>CE outer P w H s Q u s'
 |.ok _=>False
 |.error e=>CX outer H s E e s'
structure Ao (P:Program)(w:World)(K:W.Frag)(mg:Str->Option Value)(base:Heap)(CX:CXT)(k:Nat)(f:Addr)(fd:FuncData)(ps:List Str)(sp:Sp):Prop where
 len:∀vs H Q E,sp vs H Q E->↥vs=↥ps
 run:∀(A:Around)(outer:List Env)(s:Shared)(H:Hp)(args:Args)(us:List Value)(vs:List V)(Q:VK)(E:XK),DC k A->Tr P w K mg base A outer s H->BindsTo s fd args (ps.zip us)->B4 vs us->sp vs H Q E ->
  codeAny (model P w) A (.call (.ref f) args) (CR CX outer P w H s Q E) s
def Ao.imp {P:Program}{w:World}{K:W.Frag}{mg:Str->Option Value}{base:Heap}{CX:CXT}{k:Nat}{f:Addr}{fd:FuncData}{ps:List Str}{sp sp':Sp}(F:Ao P w K mg base CX k f fd ps sp)
 (h:∀vs H Q E,sp' vs H Q E->sp vs H Q E):Ao P w K mg base CX k f fd ps sp':=
 #[λvs H Q E q=>F.len vs H Q E (h _ _ _ _ q),λA outer s H args us vs Q E hr he hb hv hs=>F.run A outer s H args us vs Q E hr he hb hv (h _ _ _ _ hs)]
section
variable {X:Cx}{pins:List (Addr×Obj)}{σ:St}{H:Hp}{s s':Shared}
def Inv.env0 (I:Inv X pins σ H s):Tr X.prog X.w X.K X.mg X.base X.A X.stack s H:=
 #[I.ok.frames,I.ok.mod,I.bs,qAO I.ok.bsz I.sz,I.stack,I.stkFree,I.hok,I.bare,I.tb]
def Inv.after {Q:VK}{u:Value}(I:Inv X pins σ H s)(h:CE X.stack X.prog X.w H s Q u s'):EP X pins σ Q u s':=by
 obtain⟨v,H',os,bare,un,hok,r,q⟩:=h;obtain⟨hh,g,d,t,os'⟩:=s';obtain rfl:os'=s.os:=os;exact#[v,H',I.call (h':=hh) (g':=g) (d':=d) (t':=t) (ch:=[]) un hok bare (λb z=>absurd z (by simp)),r,q]
end
def Zr (sp:Sp)(dvs:List V)(E:XK)(t:TA):TE:=λσ H Q=>t σ H λvs H1=>sp (vs++dvs) H1 Q E
def Binds (K:W.Frag)(fd:FuncData)(ps:List Str)(ds:List Value):Prop:=
 ∀(s:Shared)(us:List Value),K.In s.heap->(us++ds).length=↥ps->BindsTo s fd #[us,[]] (ps.zip (us++ds))
def Binds.all {K:W.Frag}{fd:FuncData}{ps:List Str}(h:∀us:List Value,↥us=↥ps->bindArgs fd #[us,[]]=pure (ps.zip us)):Binds K fd ps []:=λs us _ hl=>by
 rw[qA2]at hl ⊢;exact .of_eq (h us hl)
def SE (CX:CXT)(X:Cx)(E:XK):Prop:=∀(pins:List (Addr×Obj))(σ:St)(H:Hp)(s:Shared)(e:Value)(s':Shared),Inv X pins σ H s->CX X.stack H s E e s'->X.xe e s'
section
variable {X:Cx}{CX:CXT}{k:Nat}{f C:Addr}{fd:FuncData}{ps:List Str}{sp:Sp}{dvs:List V}{ds:List Value}{E:XK}{x m:Str}{p pos apos:Pos}{e o:Expr}{es:List Expr}{ta:TE}{t:TA}
def Xm {pins:List (Addr×Obj)}{σ:St}{H:Hp}{s:Shared}{Q:VK}{us:List Value}{vs:List V}(F:Ao X.prog X.w X.K X.mg X.base CX k f fd ps sp)(hr:DC k X.A)(hb:Binds X.K fd ps ds)(hd:B4 dvs ds)(hx:SE CX X E)
 (I:Inv X pins σ H s) (r:B4 vs us) (h:sp (vs++dvs) H Q E):wpAny (model X.prog X.w) X.A (call (.ref f) us) (EP X pins σ Q) X.xe s:=by
 have r2:B4 (vs++dvs) (us++ds):=r.append hd;have hl:(us++ds).length=↥ps:=by rw[<-↥r2];exact F.len _ _ _ _ h
 refine wpAny_call (codeAny_mono (F.run X.A X.stack s H #[us,[]] (us++ds) (vs++dvs) Q E hr I.env0 (hb s us I.kIn hl) r2 h) λr s' hq=>?_);cases r with
 |error e=>exact hx pins σ H s e s' I hq
 |ok fl=>
  cases fl with
  |ret u=>exact I.after hq
  |next=>exact False.elim hq
  |brk=>exact False.elim hq
  |cont=>exact False.elim hq
def RK (F:Ao X.prog X.w X.K X.mg X.base CX k f fd ps sp)(hr:DC k X.A)(hg:Gl X x)(hm:X.mg x=some (.ref f))(hk:W.keepIn X.K (.ref f)=true)(hb:Binds X.K fd ps ds)(hd:B4 dvs ds)(hx:SE CX X E)
 (ha:PA X (e::es) t)(hdb:(x==("__debug__":Str))=false:=by decide)(he:starEach (e::es) X.env=(false,eval e X.env)::starEach es X.env:=by rfl)(hpl:(backTo pos (starEach es X.env)).any (·.1)=false:=by rfl) :
 PE X (.Call (.Name x p) (e::es) [] pos) (Zr sp dvs E t):=by
 intro pins s σ H Q I h;refine wpAny_Call_Name_kw (DT I hg hm ?_ hdb);refine qBR (h₀:=X.base) I.ok.mod.kin hk (thn (ha pos pins s σ H _ I h) λus s1 #[vs,H1,I1,r,q]=>#[I1.kIn,?_]) he hpl;exact Xm F hr hb hd hx I1 r q
end
def PK (X:Cx)(kws:List Keyword)(t:TA):Prop:=
 ∀(pos:Pos)(pins:List (Addr×Obj))(s:Shared)(σ:St)(H:Hp)(Q:List V->Hp->Prop),Inv X pins σ H s->t σ H Q->wpAny (model X.prog X.w) X.A (evalAll ((backToKw pos (keywordEach kws X.env)).map (·.2))) (AP X pins σ Q) X.xe s
section
variable {X:Cx}{CX:CXT}{k:Nat}{f C:Addr}{fd:FuncData}{ps ks:List Str}{sp:Sp}{E:XK}{x m:Str}{p pos apos kpos:Pos}{e o:Expr}{es:List Expr}{kws:List Keyword}{te ta:TE}{t tk:TA}{nm:Option Str}
def Yo:PK X [] Zz:=λ_ _ _ _ H Q I h=>wpAny_evalAll_nil #[[],H,I,.nil,h]
def WZ (ha:PE X e te)(hr:PK X kws t):PK X (#[nm,e,kpos]::kws) (Wj te t):=by
 intro pos pins s σ H Q I h;show wpAny _ _ (evalAll ((do let v <-eval e X.env;standAt pos;pure v)::(backToKw pos (keywordEach kws X.env)).map (·.2))) _ _ s;refine wpAny_evalAll_cons (qC1 (thn (ha pins s σ H _ I h) λu s1 #[x,H1,I1,r1,q1]=>qC1 (wpAny_standAt (qC2 ?_))));exact thn (hr pos pins s1 σ H1 _ I1 q1) λus s2 #[xs,H2,I2,r2,q2]=>#[x::xs,H2,I2,.cons r1 r2,q2]
variable {g:List Value->List Value->List Value}{gV:List V->List V->List V}
end
structure Ae (N P:List Str)(sc:Scope):Prop where
 kind:sc.kind=.function
 co:sc.isCoroutine=false
 gen:sc.isGenerator=false
 nd:N.Nodup
 pre:N.take ↥P=P
 par:∀x∈P,sc.names.lookup x=some .local\/sc.names.lookup x=some .cell
 nofree:∀y∈sc.names,y.2≠.free
theorem ML {kindOf:Str->Option NameKind}{x:Str}:∀{binds:List (Str×Value)}{m:Str->Option Value},(∀v,(x,v)∉binds)->bindL kindOf binds m x=m x
 |[],_,_=>rfl
 |(n,v)::r,m,h=>by
  unfold bindL;rw[ML λw hw=>h w (qAD _ hw)];split
  .have:x≠n:=by rintro rfl;exact h v qAL
   simp[this]
  .rfl
theorem Mh {kindOf:Str->Option NameKind}{x:Str}:∀{binds:List (Str×Value)}{m:Str->Option Value},(∀v,(x,v)∉binds)->bindC kindOf binds m x=m x
 |[],_,_=>rfl
 |(n,v)::r,m,h=>by
  unfold bindC;rw[Mh λw hw=>h w (qAD _ hw)];split
  .rfl
  .have:x≠n:=by rintro rfl;exact h v qAL
   simp[this]
theorem MP {kindOf:Str->Option NameKind}{x:Str}{v:Value}:∀{P:List Str}{vs:List Value}{i:Nat}{m:Str->Option Value},P.Nodup->P[i]? = some x->vs[i]? = some v->kindOf x=some .local ->
 bindL kindOf (P.zip vs) m x=some v
 |[],_,_,_,_,h,_,_=>by simp at h
 |_::_,[],_,_,_,_,h,_=>by simp at h
 |p::P,w::vs,0,m,nd,h1,h2,hk=>by
  simp at h1 h2;subst h1;subst h2;show bindL kindOf ((p,w)::P.zip vs) m p=_;unfold bindL;rw[ML λv hv=>(qCh.mp nd).1 (qB3 hv).1,qC6 hk];simp
 |p::P,w::vs,i+1,m,nd,h1,h2,hk=>by
  show bindL kindOf ((p,w)::P.zip vs) m x=_;unfold bindL;exact MP (i:=i) (qCh.mp nd).2 (by simpa using h1) (by simpa using h2) hk
theorem Mf {kindOf:Str->Option NameKind}{x:Str}{v:Value}:∀{P:List Str}{vs:List Value}{i:Nat}{m:Str->Option Value},P.Nodup->P[i]? = some x->vs[i]? = some v->kindOf x≠some .local ->
 bindC kindOf (P.zip vs) m x=some v
 |[],_,_,_,_,h,_,_=>by simp at h
 |_::_,[],_,_,_,_,h,_=>by simp at h
 |p::P,w::vs,0,m,nd,h1,h2,hk=>by
  simp at h1 h2;subst h1;subst h2;show bindC kindOf ((p,w)::P.zip vs) m p=_;unfold bindC;rw[Mh λv hv=>(qCh.mp nd).1 (qB3 hv).1,qC5 hk];simp
 |p::P,w::vs,i+1,m,nd,h1,h2,hk=>by
  show bindC kindOf ((p,w)::P.zip vs) m x=_;unfold bindC;exact Mf (i:=i) (qCh.mp nd).2 (by simpa using h1) (by simpa using h2) hk
def start (N:List Str)(vs:List V):St:=vs.map some++List.replicate (↥N-↥vs) none
def JW (CX:CXT)(P:Program)(w:World)(K:W.Frag)(mg:Str->Option Value)(base:Heap)(N:List Str)(qual:Str)(scope:Scope)(f:Addr)(cd:Value)(A:Around)(outer:List Env)(s:Shared)(H:Hp)(E:XK):Cx where
 prog:=P
 w:=w
 K:=K
 mg:=mg
 base:=base
 A:=A.deeper (envOfC qual scope s.heap.objs.size f cd)
 N:=N
 s₀:=s
 H₀:=H
 env:=envOfC qual scope s.heap.objs.size f cd
 outer:=outer
 stack:=envOfC qual scope s.heap.objs.size f cd::outer
 ex:=[]
 calm:=true
 fn:=λ_=>true
 pn:=[]
 xe:=λe s'=>wpAny (model P w) (A.deeper (envOfC qual scope s.heap.objs.size f cd)) (leaving (envOfC qual scope s.heap.objs.size f cd) e) (λ_ s''=>CX outer H s E e s'') (λe' s''=>CX outer H s E e' s'') s'
def Oe {sc:Scope}{n:Nat}{x:Str}(h:sc.names.lookup x=some .cell):∃c,(cellsFrom n sc.names []).lookup x=some c:=by
 have q:=qBT sc.names n [] (.inl h);exact qA6.mp q
def Je {CX:CXT}{P:Program}{w:World}{K:W.Frag}{mg:Str->Option Value}{base:Heap}{N ps:List Str}{qual:Str}{scope:Scope}{f:Addr}{cd:Value}{A:Around}{outer:List Env}{s s1:Shared}{H:Hp}{E:XK}{us:List Value}{vs:List V}
 (S:Ae N ps scope) (hd:A.handled=none) (e0:Tr P w K mg base A outer s H) (hl:↥vs=↥ps) (r:B4 vs us)
 (x:InCallC s s.heap.objs.size (bindL (envOfC qual scope s.heap.objs.size f cd).kindOf (ps.zip us) λ_=>none) (cellsFrom (s.heap.objs.size+1) scope.names []) (bindC (envOfC qual scope s.heap.objs.size f cd).kindOf (ps.zip us) λ_=>none) s1) :
 Inv (JW CX P w K mg base N qual scope f cd A outer s H E) [] (start N vs) H s1:=by
 have hpl:↥ps<=↥N:=by have:=congrArg List.length S.pre;rw[qAP]at this;omega
 obtain⟨h1,tk,rfl,hk⟩:=x.done;have noA:∀b:Addr,b∉(JW CX P w K mg base N qual scope f cd A outer s H E).ex:=λb z=>absurd (show b∈([]:List Addr) from z) (by simp);refine#[#[e0.mod,S.kind,rfl,rfl,qAg _,λy z c h1 h2=>?_,λy hy=>?_,λy c _ h=>?_,λ_=>hd,Around.frames_deeper e0.frames,.inr #[rfl,rfl],λb z=>absurd z (noA b),e0.bs,e0.bsz,λb _ _=>noA b,λb z=>absurd z (noA b),e0.funs,e0.frf,e0.tb],
  rfl,e0.bare,Un.kept hk,#[_,x.toInCall.ns,λi y v h1 h2 h3=>?_],λy c h=>#[_,x.cell y c h],e0.hok.fresh (qAg _),λy c h=>?_,λp hp=>absurd (show p∈([]:List (Addr×Obj)) from hp) (by simp),e0.hok.kept hk,?_]
 .exact name_of_addr x.apart (PySem.mem_of_lookup h1) (PySem.mem_of_lookup h2)
 .have hy:scope.names.lookup y=some .cell\/scope.names.lookup y=some .free:=hy;rcases hy with hy|hy
  .exact Oe hy
  .exact absurd rfl (S.nofree _ (PySem.mem_of_lookup hy))
 .exact qBt (x.above y c (PySem.mem_of_lookup h))
 .have hi:i<↥vs:=by
   unfold start at h2;by_cases hi:i<↥vs
   .exact hi
   .rw[qAw (by simpa using hi)]at h2;rw[qCa]at h2;split at h2<;>cases h2
  have ha:vs[i]? = some v:=by
   unfold start at h2;rw[qAu (by simpa using hi),qAd]at h2;cases e:vs[i]? with
   |none=>rw[e]at h2;cases h2
   |some a=>rw[e]at h2;cases h2;rfl
  obtain⟨u,hu,rv⟩:=r.get ha;have hp:ps[i]? = some y:=by
   rw[<-S.pre,qBJ ()];exact h1
  have ndP:ps.Nodup:=by rw[<-S.pre];exact S.nd.sublist (List.take_sublist _ _)
  refine#[u,rv,?_];rcases S.par y (qAE hp) with k|k
  .exact .inl #[k,MP ndP hp hu k]
  .obtain⟨c,e⟩:=Oe (n:=s.heap.objs.size+1) k;refine .inr #[.inl k,c,e,?_];have q:=x.cell y c e;rw[Mf ndP hp hu (by show scope.names.lookup y≠_;rw[k];decide)]at q;exact q
 .exact e0.hok.fresh (qBt (x.above y c (PySem.mem_of_lookup h)))
 .unfold start;show _=↥N;rw[qAr,qAa,qCT];omega
def RW {CX:CXT}{P:Program}{w:World}{K:W.Frag}{mg:Str->Option Value}{base:Heap}{k:Nat}{f:Addr}{name qual:Str}{params:Arguments}{body:List Stmt}{scope:Scope}{dV kV doc pm cdv ct oc:Value}{an od:Option Addr}
 {osl:Array (Option Value)}{N ps:List Str}{sp:Sp}(lk:K.lookup f=some #[oc,od,.func (W.fnOf name qual params body scope dV kV doc pm an cdv ct),osl]) (hcd:W.codeIn K cdv qual=true) (S:Ae N ps scope)
 (len:∀vs H Q E,sp vs H Q E->↥vs=↥ps)
 (hbody:∀(A:Around)(outer:List Env)(s:Shared)(H:Hp)(vs:List V)(Q:VK)(E:XK),DC k (A.deeper (envOfC qual scope s.heap.objs.size f cdv))->sp vs H Q E ->
  ∃t,PSs (JW CX P w K mg base N qual scope f cdv A outer s H E) body t/\t { nx:=λ_ H'=>Q .non H',rt:=Q } (start N vs) H) :
 Ao P w K mg base CX (k+1) f (W.fnOf name qual params body scope dV kV doc pm an cdv ct) ps sp:=by
 refine#[len,λA outer s H args us vs Q E hr e0 hb r hsp=>?_];have hl:=len _ _ _ _ hsp;have KX:K.In s.heap:=e0.mod.kin.keeps λb o e=>(e0.bs b o e).1;have lim:s.heap.NoLimit:=e0.mod.nolimit.keeps λb o e=>(e0.bs b o e).1;have hkind:∀y∈ps.zip us,scope.names.lookup y.1=some .local\/(scope.names.lookup y.1=some .cell/\((cellsFrom (s.heap.objs.size+1) scope.names []).lookup y.1).isSome=true):=fun#[n,v] hy=>by
  rcases S.par n (qB3 hy).1 with q|q
  .exact .inl q
  .exact .inr #[q,qBT _ _ _ (.inl q)]
 refine codeAny_call_function hr.depth (KX _ _ lk) rfl S.co S.gen rfl (qCx KX hcd) (hb _ _ _ _ ?_);refine wpAny_newFunctionEnv_cells S.kind hkind λenv he s1 x=>?_;subst he;refine#[lim.keeps x.toInCall.keep,codeAny_func ?_];obtain⟨t,ht,hq⟩:=hbody A outer s H vs Q E (hr.deeper _) hsp;have I:Inv (JW CX P w K mg base N qual scope f cdv A outer s H E) [] (start N vs) H s1:=Je S hr.hd e0 hl r x;refine qC3 (ht [] s1 (start N vs) H _ I hq) (λfl s' hs=>?_) λe s' hs=>hs;have fin:∀{σ':St}{H':Hp}{v:V}{u:Value},Inv (JW CX P w K mg base N qual scope f cdv A outer s H E) [] σ' H' s'->Cq v u->Q v H'->CE outer P w H s Q u s':=
  λ{σ' H' v u} J rv q=>#[v,H',J.os,J.bare,J.base,J.hok,rv,q]
 cases fl with
 |ret u=>
  obtain⟨v,σ',H',J,rv,q⟩:=hs;exact fin J rv q
 |next=>
  obtain⟨σ',H',J,q⟩:=hs;exact fin (v:=V.non) (u:=Value.none) J rfl q
 |brk=>
  obtain⟨_,_,_,q⟩:=hs;exact False.elim q
 |cont=>
  obtain⟨_,_,_,q⟩:=hs;exact False.elim q
section
variable {X:Cx}{x:Str}{p pos:Pos}{e:Expr}{es:List Expr}{t:TA}{id T:String}{r:List V->Hp->VK->Prop}
def tCB (r:List V->Hp->VK->Prop)(t:TA):TE:=λσ H Q=>t σ H λvs H1=>r vs H1 Q
def GR (hc:Iv X (.builtin id) r)(hg:Gl X x)(hm:X.mg x=none)(hv:bootBuiltins x=some (.builtin id))(ha:PA X (e::es) t)(hn:x≠"__name__":=by decide)(hdb:(x==("__debug__":Str))=false:=by decide)
 (he:starEach (e::es) X.env=(false,eval e X.env)::starEach es X.env:=by rfl)(hpl:(backTo pos (starEach es X.env)).any (·.1)=false:=by rfl):PE X (.Call (.Name x p) (e::es) [] pos) (tCB r t):=by
 intro pins s σ H Q I h;refine wpAny_Call_Name_kw (JO I hg hm hv ?_ hn hdb);exact PyProof.Rows.callWith_builtin1 (thn (ha pos pins s σ H _ I h) λus s1 #[vs,H1,I1,r1,q1]=>hc pins s1 σ H1 vs us Q I1 r1 q1) he hpl
def Sy (hc:Iv X (.type T) r)(hg:Gl X x)(hm:X.mg x=none)(hv:bootBuiltins x=some (.type T))(ha:PA X (e::es) t)(hn:x≠"__name__":=by decide)(hdb:(x==("__debug__":Str))=false:=by decide)
 (he:starEach (e::es) X.env=(false,eval e X.env)::starEach es X.env:=by rfl)(hpl:(backTo pos (starEach es X.env)).any (·.1)=false:=by rfl):PE X (.Call (.Name x p) (e::es) [] pos) (tCB r t):=by
 intro pins s σ H Q I h;refine wpAny_Call_Name_kw (JO I hg hm hv ?_ hn hdb);exact qBC (thn (ha pos pins s σ H _ I h) λus s1 #[vs,H1,I1,r1,q1]=>hc pins s1 σ H1 vs us Q I1 r1 q1) he hpl
end
end L2
namespace HT
open PySem PyProof.Rows
section
open PySem.SeqAt
open PySem.AutoSeq1 (wpAny_loadPart')
open PySem.MeetsSeq PySem.MeetsSeq2 PySem.MeetsSeq3
end
section
variable {prog:Program}{w:World}{A:Around}{E:Value->Shared->Prop}{s:Shared}
def cat_tup {t b:Addr}{vs ws:List Value}{Q:Value->Shared->Prop}(ht:IsTup s.heap t vs.toArray)(hb:IsTup s.heap b ws.toArray)(hv:vs≠[])
 (h1:ws=[]->Q (.ref t) s)(h2:ws≠[]->Q (.ref s.heap.objs.size) { s with heap:=s.heap.push { cls:=.type "tuple",data:=.seq (vs++ws).toArray } })
 (hsz:↥vs+↥ws<=sizeLine):wpAny (model prog w) A (binaryOp .Add (.ref t) (.ref b)) Q E s:=by
 obtain⟨⟨cls,dd,data,sl⟩,ho,hc,n,hd⟩:=id ht;obtain⟨⟨cls2,dd2,data2,sl2⟩,ho2,hc2,n2,hd2⟩:=id hb;simp only at hc hd hc2 hd2;subst hc hd hc2 hd2;have e:vs.toArray++ws.toArray=(vs++ws).toArray:=by simp
 by_cases hw:ws=[]
 .exact concat_meets #[_,ho,rfl] #[_,ho2,rfl] noFill_tuple_add seq_tuple_add qCL qCI (qCG _ _)
   (tuple_addW1 t b vs.toArray ws.toArray n n2 dd dd2 sl sl2 (by simpa using hv) (by simp[hw])) #[ho,ho2,h1 hw]
 .refine concat_meets #[_,ho,rfl] #[_,ho2,rfl] noFill_tuple_add seq_tuple_add qCL qCI (qCG _ _)
   (tuple_addW2 t b vs.toArray ws.toArray n n2 dd dd2 sl sl2 (by simpa using hv) (by simpa using hw) (by rw[qAt,qAt];exact hsz)) #[ho,ho2,?_]
  rw[e];exact h2 hw
def sIx (n d:Nat):Option Int->Nat
 |none=>d
 |some v=>if v<0 then (v+(n:Int)).toNat else min v.toNat n
def sIx_none (n d:Nat):sIx n d none=d:=rfl
def sIx_nat (n d k:Nat):sIx n d (some (k:Int))=min k n:=by
 show(if (k:Int)<0 then ((k:Int)+(n:Int)).toNat else min (k:Int).toNat n)=min k n;rw[qC5 (),qBV]
def Yg (n d:Nat)(hd:d<=n)(o:Option Int):sIx n d o<=n:=by
 cases o with
 |none=>exact hd
 |some v=>
  show(if v<0 then (v+(n:Int)).toNat else min v.toNat n)<=n;by_cases hv:v<0
  .rw[qC6 hv];omega
  .rw[qC5 hv];exact Nat.min_le_right _ _
def QV (v:Int)(n d:Nat):(if v<0 then max (v+(n:Int)) 0 else min v (n:Int))=((sIx n d (some v):Nat):Int):=by
 show(if v<0 then max (v+(n:Int)) 0 else min v (n:Int))=(((if v<0 then (v+(n:Int)).toNat else min v.toNat n):Nat):Int);by_cases hv:v<0
 .simp only[qC6 hv];omega
 .simp only[qC5 hv];omega
def PV (lo hi:Option Int)(n:Nat):Builtin.Slice.sliceAdjust lo hi 1 (n:Int)=(((sIx n 0 lo:Nat):Int),((sIx n n hi:Nat):Int)):=by
 have h1:¬((1:Int)<0):=();unfold Builtin.Slice.sliceAdjust;simp only[h1,if_false];refine Prod.ext ?_ ?_
 .cases lo with
  |none=>rfl
  |some v=>exact QV v n 0
 .cases hi with
  |none=>rfl
  |some v=>exact QV v n n
def Pq (i j:Nat):Builtin.Slice.slicePlaces (i:Int) (j:Int) 1=j-i:=by
 unfold Builtin.Slice.slicePlaces;have h1:(1:Int)>0:=();simp only[h1,if_true,Int.ediv_one];split<;>omega
def KI {v:Value}{o:Option Int}{Q:Option Int->Shared->Prop}(p:IsPart v o)(h:Q o s):wpAny (model prog w) A (Builtin.Slice.slicePartIndex v) Q E s:=by
 cases p with
 |none=>exact slicePart_none h
 |int i t=>exact slicePart_int h
def Ir {sl:Addr}{vl vu:Value}{lo hi:Option Int}{n:Nat}{Q:Int×Int×Nat->Shared->Prop}(hs:s.heap.IsSliceOf sl vl vu .none)(pl:IsPart vl lo)(pu:IsPart vu hi)
 (h:Q (((sIx n 0 lo:Nat):Int),1,sIx n n hi-sIx n 0 lo) s):wpAny (model prog w) A (Builtin.Slice.sliceApplied (.ref sl) (pure (n:Int))) Q E s:=by
 obtain⟨os,hos,hcs,hds⟩:=id hs;unfold Builtin.Slice.sliceApplied Builtin.Slice.sliceFields;refine qC1 (qC1 (qC4 hos hds (x:=vl) rfl (qC1 (qC4 hos hds (x:=vu) rfl (qC1 (qC4 hos hds (x:=.none) rfl (qC2 ?_)))))));refine qC1 (slicePart_none ?_);show wpAny _ _ (if ((1:Int)==0)=true then _ else _) _ _ s;rw[qC5 ∅];refine qC1 (KI pl (qC1 (KI pu (qC1 (qC2 ?_)))));show wpAny _ _ (match Builtin.Slice.sliceAdjust lo hi 1 (n:Int) with|(lo,hi)=>pure (lo,(1:Int),Builtin.Slice.slicePlaces lo hi 1)) _ _ s;rw[PV lo hi n];show wpAny _ _ (pure (((sIx n 0 lo:Nat):Int),(1:Int),Builtin.Slice.slicePlaces ((sIx n 0 lo:Nat):Int) ((sIx n n hi:Nat):Int) 1)) _ _ s;rw[Pq];exact qC2 h
def S4 (xs:Array Value)(i k:Nat):((List.range k).filterMap fun(m:Nat)=>xs[((i:Int)+(m:Int)*1).toNat]?).toArray=((xs.toList.drop i).take k).toArray:=by
 have e:(fun(m:Nat)=>xs[((i:Int)+(m:Int)*1).toNat]?)=λm=>xs[i+m]? := by
  funext m
  have:((i:Int)+(m:Int)*1).toNat=i+m:=();rw[this]
 rw[e];have:=pick_run xs i k;rw[qBD]at this;have e2:((λx=>xs[x]?) ∘ λx=>i+x)=λm=>xs[i+m]? := rfl;rw[e2]at this;rw[this]
def getItem_tuple_cut {t sl:Addr}{items:Array Value}{vl vu:Value}{lo hi:Option Int}{Q:Value->Shared->Prop}(ht:IsTup s.heap t items)(hs:s.heap.IsSliceOf sl vl vu .none)(pl:IsPart vl lo)(pu:IsPart vu hi)
 (hw:¬(sIx items.size 0 lo=0/\sIx items.size items.size hi=items.size))
 (h:Q (.ref s.heap.objs.size) { s with heap:=s.heap.push { cls:=.type "tuple",data:=.seq ((items.toList.drop (sIx items.size 0 lo)).take (sIx items.size items.size hi-sIx items.size 0 lo)).toArray } })
 (hsz:items.size<=sizeLine):wpAny (model prog w) A (getItem (.ref t) (.ref sl)) Q E s:=by
 have htake:sizeOk (.seq ((items.toList.drop (sIx items.size 0 lo)).take (sIx items.size items.size hi-sIx items.size 0 lo)).toArray):=by
  show((items.toList.drop (sIx items.size 0 lo)).take (sIx items.size items.size hi-sIx items.size 0 lo)).toArray.size<=sizeLine;rw[qAt,qAP,qAT,Array.length_toList];omega
 have hj:sIx items.size items.size hi<=items.size:=Yg _ _ (qAg _) hi;obtain⟨os,hos,hcs,hds⟩:=id hs;have hTs:s.TypeIs (.ref sl) "slice":=#[os,hos,hcs];unfold getItem
 try with_reducible refine wpAny_holding ?_
 first|refine qC1 (qC2 ?_)|skip
 refine qC1 (wpAny_sequenceKey ht.typeIs ∅ ?_);refine qC1 (wpAny_callSpecial?_slot (name:=Str.ofString "__getitem__") ht.typeIs qCg
  (wpAny_call_entry qCg ht.typeIs entry_tuple_getitem ?_ (args_tuple_getitem _ _)))
 show wpAny _ _ (Builtin.Tuple.tupleItemsOf (.ref t) >>= _) _ _ s;refine qC1 (tupleItemsOf_ ht ?_);refine qC1 (wpAny_typeOf hTs ?_);rw[qC6 ∅];refine qC1 (Ir hs pl pu ?_);have hno:¬((((sIx items.size 0 lo:Nat):Int)==0&&(1:Int)==1&&(sIx items.size items.size hi-sIx items.size 0 lo)==items.size)=true):=by
  intro q;rw[qAZ,qAZ]at q;have q1:((sIx items.size 0 lo:Nat):Int)=0:=eq_of_beq q.1.1;have q2:sIx items.size items.size hi-sIx items.size 0 lo=items.size:=eq_of_beq q.2;exact hw #[(),()]
 show wpAny _ _ (if (((sIx items.size 0 lo:Nat):Int)==0&&(1:Int)==1&&(sIx items.size items.size hi-sIx items.size 0 lo)==items.size)=true then _ else _) _ _ s;rw[qC5 hno,S4]
 first
  |exact qC1 (m:=Builtin.Tuple.tupleExact _) (wpAny_newObj_type (qC2 #[_,rfl,qC2 h]) htake)
  |exact qC1 (m:=Builtin.Tuple.tupleExact _) (wpAny_newObj_type (qC1 (qC2 (qC2 #[_,rfl,qC2 h]))) htake)
  |exact qC1 (qC1 (m:=Builtin.Tuple.tupleExact _) (wpAny_newObj_type (qC2 (qC2 #[_,rfl,qC2 h])) htake))
  |exact qC1 (qC1 (m:=Builtin.Tuple.tupleExact _) (wpAny_newObj_type (qC2 #[_,rfl,qC2 h]) htake))
end
end HT
namespace L2
open PySem PySem.Spec PyProof.Rows
abbrev TO:=St->Hp->(Option Int->Hp->Prop)->Prop
def PO (X:Cx)(e:Option Expr)(t:TO):Prop:=
 ∀(pins:List (Addr×Obj))(s:Shared)(σ:St)(H:Hp)(Q:Option Int->Hp->Prop),Inv X pins σ H s->t σ H Q ->
  wpAny (model X.prog X.w) X.A (evalPart e X.env) (λu s'=>∃o H',Inv X pins σ H' s'/\IsPart u o/\Q o H') X.xe s
def VU:TO:=λ_ H Q=>Q none H
def ZW (t:TE):TO:=λσ H Q=>t σ H λx H1=>∃i,x=.int i/\Q (some i) H1
section
variable {X:Cx}{e:Expr}{te:TE}{lo hi:Option Expr}{tl th:TO}{pos p2:Pos}
def WH:PO X none VU:=by
 intro pins s σ H Q I h;rw[evalPart_none];exact qC2 #[none,H,I,.none,h]
def Ws (h:PE X e te):PO X (some e) (ZW te):=by
 intro pins s σ H Q I hw;rw[evalPart_some];refine thn (h pins s σ H _ I hw) λu s1 hh=>?_;obtain⟨x,H1,I1,r1,q1⟩:=hh;obtain⟨i,rfl,q⟩:=q1;obtain⟨t,rfl⟩:=r1;exact#[some i,H1,I1,.int i t,q]
def SlR (X:Cx)(r:V->Option Int->Option Int->Hp->VK->Prop):Prop:=
 ∀(pins:List (Addr×Obj))(s:Shared)(σ:St)(H:Hp)(x:V)(v vl vu:Value)(lo hi:Option Int)(sl:Addr)(Q:VK),Inv X pins σ H s->Cq x v->s.heap.IsSliceOf sl vl vu .none->IsPart vl lo->IsPart vu hi->r x lo hi H Q ->
  ∃T id,typeLookup (.type T) "__getitem__"=pure (some (.builtin id))/\s.TypeIs v T/\wpAny (model X.prog X.w) X.A (getItem v (.ref sl)) (EP X pins σ Q) X.xe s
def SlR.or {r r':V->Option Int->Option Int->Hp->VK->Prop}(h:SlR X r)(h':SlR X r'):SlR X (λx lo hi H Q=>r x lo hi H Q\/r' x lo hi H Q):=by
 intro pins s σ H x v vl vu lo hi sl Q I rx hs pl pu q;rcases q with q|q
 .exact h pins s σ H x v vl vu lo hi sl Q I rx hs pl pu q
 .exact h' pins s σ H x v vl vu lo hi sl Q I rx hs pl pu q
def tSl (r:V->Option Int->Option Int->Hp->VK->Prop)(te:TE)(tl th:TO):TE:=λσ H Q=>te σ H λx H1=>tl σ H1 λl H2=>th σ H2 λu H3=>r x l u H3 Q
def Tt {r:V->Option Int->Option Int->Hp->VK->Prop}(hr:SlR X r)(he:PE X e te)(hl:PO X lo tl)(hu:PO X hi th):PE X (.Subscript e (.Slice lo hi none p2) pos) (tSl r te tl th):=by
 intro pins s σ H Q I h;refine Subscript_ (thn (he pins s σ H _ I h) λv s1 hh=>?_);obtain⟨x,H1,I1,r1,q1⟩:=hh;refine wpAny_Slice (thn (hl pins s1 σ H1 _ I1 q1) λvl s2 #[l,H2,I2,pl,q2]=>thn (hu pins s2 σ H2 _ I2 q2) λvu s3 hh=>?_);obtain⟨u,H3,I3,pu,q3⟩:=hh;rw[evalPart_none];refine qC2 ?_;have I4:Inv X pins σ H3 { s3 with heap:=s3.heap.push { cls:=.type "slice",data:=.fields (List.toArray [vl,vu,.none]) } }:=I3.kept (t':=s3.toks) λb ob q=>qAh _ q;obtain⟨T,id,hT,ht,hg⟩:=hr pins { s3 with heap:=s3.heap.push { cls:=.type "slice",data:=.fields (List.toArray [vl,vu,.none]) } } σ H3 x v vl vu l u s3.heap.objs.size Q I4 r1 (Heap.IsSliceOf.new ..) pl pu q3;show wpAny (model X.prog X.w) X.A (subscriptTail e (.Slice lo hi none p2) v (.ref s3.heap.objs.size)) (EP X pins σ Q) X.xe { s3 with heap:=s3.heap.push { cls:=.type "slice",data:=.fields (List.toArray [vl,vu,.none]) } };exact tail_any (ops:=[.ref s3.heap.objs.size,v]) ht hT hg (by with_unfolding_all rfl)
def P4 (xs:List V)(lo hi:Option Int):List V:=(xs.drop (HT.sIx ↥xs 0 lo)).take (HT.sIx ↥xs ↥xs hi-HT.sIx ↥xs 0 lo)
def JG (xs:List V)(lo hi:Option Int):(P4 xs lo hi).length<=↥xs:=by
 unfold P4;rw[qAP,qAT];omega
def dM (K:W.Frag):V->Option Int->Option Int->Hp->VK->Prop:=λx lo hi H Q=>∃a xs,x=.ref a/\SqT K H a xs /\
 ¬(HT.sIx ↥xs 0 lo=0/\HT.sIx ↥xs ↥xs hi=↥xs)/\∀p,H p=none->Q (.ref p) (upd H p (.tup (P4 xs lo hi)))
def XF:SlR X (dM X.K):=by
 intro pins s σ H x v vl vu lo hi sl Q I rx hs pl pu h;obtain⟨a,xs,rfl,hx,hw,q⟩:=h;cases rx;obtain⟨its,r,ht,hz⟩:=I.tuple hx;have hlen:its.toArray.size=↥xs:=by rw[qAt];exact r.length.symm
 refine#["tuple",_,PyProof.Rows.slot_tuple_getitem.lookup,ht.typeIs,?_];refine HT.getItem_tuple_cut ht hs pl pu (by rw[hlen];exact hw) ?_ (by rw[hlen];exact hz);rw[hlen];refine#[.ref s.heap.objs.size,_,I.laid (t':=s.toks) (o:=.tup (P4 xs lo hi)) (λb ob q=>qAh _ q) (qAg _) ?_,rfl,q _ (I.hok.fresh (qAg _))];exact#[qAO (JG xs lo hi) hz,_,(r.drop (HT.sIx ↥xs 0 lo)).take (HT.sIx ↥xs ↥xs hi-HT.sIx ↥xs 0 lo),IsTup.new _ _]
def Zx (K:W.Frag):R2:=λx y H Q=>∃a b xs ys,x=.ref a/\y=.ref b/\SqT K H a xs/\SqT K H b ys/\xs≠[]/\↥xs+↥ys<=sizeLine /\
 (ys=[]->Q (.ref a) H)/\(ys≠[]->∀p,H p=none->Q (.ref p) (upd H p (.tup (xs++ys))))
def B4.nil_iff {xs:List V}{us:List Value}(r:B4 xs us):us=[] ↔ xs=[]:=by
 cases r with
 |nil=>simp
 |cons _ _=>simp
def WN:OpR X (binaryOp .Add) (Zx X.K):=by
 intro pins s σ H x y v u Q I rx ry h;obtain⟨a,b,xs,ys,rfl,rfl,ha,hb,hx,hz,q1,q2⟩:=h;cases rx;cases ry;obtain⟨its,r1,p1,_⟩:=I.tuple ha;obtain⟨its2,r2,p2,_⟩:=I.tuple hb;refine HT.cat_tup p1 p2 (λz=>hx (r1.nil_iff.mp z)) (λz=>#[.ref a,H,I,rfl,q1 (r2.nil_iff.mp z)]) (λz=>?_) (by rw[<-↥r1,<-↥r2];exact hz);refine#[.ref s.heap.objs.size,_,I.laid (t':=s.toks) (o:=.tup (xs++ys)) (λb ob q=>qAh _ q) (qAg _) ?_,rfl,q2 (λw=>z (r2.nil_iff.mpr w)) _ (I.hok.fresh (qAg _))];exact#[by rw[qAr];exact hz,_,r1.append r2,IsTup.new _ _]
end
def ixN (n:Nat)(i:Int):Option Nat:=if 0<=i then (if i<n then some i.toNat else none) else if -(n:Int)<=i then some (i+n).toNat else none
def atI {α:Type}(xs:List α)(i:Int):Option α:=(ixN ↥xs i).bind λj=>xs[j]?
def Qa {n:Nat}{i:Int}{j:Nat}(h:ixN n i=some j):seqIndex? i n=some j/\j<n/\-(n:Int)<=i/\i<n:=by
 unfold ixN at h;by_cases h0:0<=i
 .rw[qC6 h0]at h;by_cases h1:i<n
  .rw[qC6 h1]at h;have e:i.toNat=j:=qAn h;exact#[by rw[seqIndex_of h0 h1,e],(),(),h1]
  .rw[qC5 h1]at h;cases h
 .rw[qC5 h0]at h;by_cases h1:-(n:Int)<=i
  .rw[qC6 h1]at h;have e:(i+n).toNat=j:=qAn h;exact#[by rw[seqIndex_neg () h1,e],(),h1,()]
  .rw[qC5 h1]at h;cases h
def Rg {α:Type}{xs:List α}{i:Int}{v:α}(h:atI xs i=some v):∃j,seqIndex? i ↥xs=some j/\xs[j]? = some v/\j<↥xs/\-(↥xs:Int)<=i/\i<↥xs:=by
 unfold atI at h;cases e:ixN ↥xs i with
 |none=>rw[e]at h;cases h
 |some j=>
  rw[e]at h;obtain⟨h1,h2,h3,h4⟩:=Qa e;exact#[j,h1,h,h2,h3,h4]
def atI_nat {α:Type}{xs:List α}{j:Nat}{v:α}(h:xs[j]? = some v):atI xs (j:Int)=some v:=by
 have hj:j<↥xs:=(qAe.mp h).1;have e:ixN ↥xs (j:Int)=some j:=by
  unfold ixN;rw[qC6 (),qC6 ()];simp
 unfold atI;rw[e];exact h
def Sl (b:Expr):Prop:=∀o i,subscripted b false o i=operate [o,i] (getItem o i)
def IxR (X:Cx)(r:R2):Prop:=
 ∀(value slice:Expr)(pins:List (Addr×Obj))(s:Shared)(σ:St)(H:Hp)(x y:V)(v u:Value)(Q:VK),Inv X pins σ H s->Cq x v->Cq y u->r x y H Q ->
  subscripted slice false v u=operate [v,u] (getItem v u)->wpAny (model X.prog X.w) X.A (subscriptTail value slice v u) (EP X pins σ Q) X.xe s
def MtR (X:Cx)(id:String)(r:V->List V->Hp->VK->Prop):Prop:=
 ∀(pins:List (Addr×Obj))(s:Shared)(σ:St)(H:Hp)(x:V)(xs:List V)(v:Value)(us:List Value)(Q:VK),Inv X pins σ H s->Cq x v->B4 xs us->r x xs H Q ->
  wpAny (model X.prog X.w) X.A (call (.builtin id) (v::us)) (EP X pins σ Q) X.xe s
section
variable {X:Cx}{a b:Expr}{ta tb:TE}{pos:Pos}
def IxR.or {r r':R2}(h:IxR X r)(h':IxR X r'):IxR X (λx y H Q=>r x y H Q\/r' x y H Q):=by
 intro value slice pins s σ H x y v u Q I rx ry q hs;rcases q with q|q
 .exact h value slice pins s σ H x y v u Q I rx ry q hs
 .exact h' value slice pins s σ H x y v u Q I rx ry q hs
def aV {r:R2}(hr:IxR X r)(ha:PE X a ta)(hb:PE X b tb)(hs:Sl b):PE X (.Subscript a b pos) (tOp r ta tb):=by
 intro pins s σ H Q I h;exact Subscript_ (aT ha hb I h λv u s2 x y H2 I2 rx ry q=>hr a b pins s2 σ H2 x y v u Q I2 rx ry q (hs _ _))
def eR (K:W.Frag):R2:=λx y H Q=>∃p xs i v,x=.ref p/\y=.int i/\SqL K H p xs/\atI xs i=some v/\Q v H
def cQ (K:W.Frag):R2:=λx y H Q=>∃p xs i v,x=.ref p/\y=.int i/\SqT K H p xs/\atI xs i=some v/\Q v H
def Vu:IxR X (eR X.K):=by
 intro value slice pins s σ H x y v u Q I rx ry h hs;obtain⟨p,xs,i,z,rfl,rfl,hq,he,q⟩:=h;cases rx;obtain⟨t,rfl⟩:=ry;obtain⟨its,r,pl,hz⟩:=I.list hq;obtain⟨j,h1,h2,h3,h4,h5⟩:=Rg he;obtain⟨w,ew,rw'⟩:=r.get h2;have hl:=↥r;have hn:=MI;have fin:EP X pins σ Q w s:=#[z,H,I,rw',q];by_cases h0:0<=i
 .have hj:i.toNat=j:=by
   rw[seqIndex_of h0 h5]at h1;exact qAn h1
  exact item_listR pl.isList h0 () (by rw[hj];simpa using ew) fin hs
 .have hj:(i+(its.toArray.size:Int)).toNat=j:=by
   rw[seqIndex_neg () h4]at h1;rw[qAt,<-hl];exact qAn h1
  exact subscriptTail_builtinR (x:=w) pl.isList.typeIs slot_list_getitem.lookup
   (wpAny_getItem_list_neg (Q:=λr s'=>r=w/\EP X pins σ Q r s') pl.isList () (by rw[qAt]<;>omega) () (by rw[hj];simpa using ew) #[rfl,fin]) hs
def YF:IxR X (cQ X.K):=by
 intro value slice pins s σ H x y v u Q I rx ry h hs;obtain⟨p,xs,i,z,rfl,rfl,hq,he,q⟩:=h;cases rx;obtain⟨t,rfl⟩:=ry;obtain⟨its,r,pl,hz⟩:=I.tuple hq;obtain⟨j,h1,h2,h3,h4,h5⟩:=Rg he;obtain⟨w,ew,rw'⟩:=r.get h2;have hl:=↥r;have hn:=MI;have fin:EP X pins σ Q w s:=#[z,H,I,rw',q];exact subscriptTail_builtinR (x:=w) pl.typeIs slot_tuple_getitem.lookup
  (getItem_tuple (j:=j) (Q:=λr s'=>r=w/\EP X pins σ Q r s') pl () () (by rw[qAt,<-hl];exact h1) (by simpa using ew) #[rfl,fin]) hs
def Pf (its:List Value)(n j:Nat)(u:Value):Obj.mapSeq (·.setIfInBounds j u) { cls:=.type "list",data:=.seq its.toArray n }={ cls:=.type "list",data:=.seq (its.set j u).toArray n }:=by
 simp[Obj.mapSeq]
def Inv.lst {pins:List (Addr×Obj)}{σ:St}{H:Hp}{s:Shared}{p:Addr}{xs:List V}(I:Inv X pins σ H s)(h:H p=some (.lst xs)) :
 ∃(its:List Value)(n:Nat),B4 xs its/\s.heap.get? p=some { cls:=.type "list",data:=.seq its.toArray n }/\↥xs<=sizeLine:=by
 obtain⟨z,its,n,r,e⟩:=I.hok p _ h;exact#[its,n,r,e,z]
def Inv.lstUpd {pins:List (Addr×Obj)}{σ:St}{H:Hp}{s:Shared}{p:Addr}{xs ys:List V}{its its':List Value}{n n':Nat}{f:Obj->Obj}(I:Inv X pins σ H s)(h:H p=some (.lst xs))
 (ho:s.heap.get? p=some { cls:=.type "list",data:=.seq its.toArray n })(hf:f { cls:=.type "list",data:=.seq its.toArray n }={ cls:=.type "list",data:=.seq its'.toArray n' })(r:B4 ys its')(hz:↥ys<=sizeLine)(t:Nat) :
 Inv X pins σ (upd H p (.lst ys)) { s with heap:=s.heap.update p f,toks:=t }:=by
 have e:(s.heap.update p f).get? p=some { cls:=.type "list",data:=.seq its'.toArray n' }:=by
  rw[qBq f ho (by rw[hf]<;>rfl),hf]
 refine I.write (x:=p) (e:=p) (by rw[h];trivial) (.inl rfl) (λb u hb q=>(qCM _ _ (Ne.symm hb)).trans q) #[_,e] ?_;exact#[hz,its',n',r,e]
def XO:V->V->V->Hp->(Hp->Prop)->Prop:=λo i v H Q=>∃p xs k j,o=.ref p/\i=.int k/\H p=some (.lst xs)/\ixN ↥xs k=some j/\Q (upd H p (.lst (xs.set j v)))
def To:aY X XO:=by
 intro pins s σ H o i v ov iv u Q I ro ri rv h;obtain⟨p,xs,k,j,rfl,rfl,hp,hj,q⟩:=h;cases ro;obtain⟨t,rfl⟩:=ri;obtain⟨its,n,r,ho,hz⟩:=I.lst hp;obtain⟨h1,h2,h3,h4⟩:=Qa hj;have hl:=↥r;have hn:=MI;have I':Inv X pins σ (upd H p (.lst (xs.set j v))) { s with heap:=s.heap.update p (Obj.mapSeq (·.setIfInBounds j u)) }:=
  I.lstUpd hp ho (Pf its n j u) (r.set rv j) (by rw[List.length_set];exact hz) s.toks
 by_cases h0:0<=k
 .have hk:k.toNat=j:=by
   rw[seqIndex_of h0 h4]at h1;exact qAn h1
  exact W.ki_setAt ho h0 () (by rw[qAt,<-hl];exact h4) (by rw[hk];exact#[_,I',q])
 .have hk:(k+(its.toArray.size:Int)).toNat=j:=by
   rw[seqIndex_neg () h3]at h1;rw[qAt,<-hl];exact qAn h1
  exact W.ki_setBack ho () (by rw[qAt,<-hl];exact h3) () (by rw[hk];exact#[_,I',q])
def MD (lo hi:Option Int)(n:Nat):(sliceBounds lo hi none n).1=((HT.sIx n 0 lo:Nat):Int)/\(sliceBounds lo hi none n).2.1=((HT.sIx n n hi:Nat):Int)/\(sliceBounds lo hi none n).2.2=1:=by
 refine#[?_,?_,rfl]
 .cases lo with
  |none=>simp[sliceBounds,HT.sIx]
  |some i=>
   simp only[sliceBounds,HT.sIx,Option.getD_none,show(1:Int)>0 from ∅,if_true];by_cases h:i<0
   .simp only[h,if_true]<;>omega
   .simp only[h,if_false]<;>omega
 .cases hi with
  |none=>simp[sliceBounds,HT.sIx]
  |some i=>
   simp only[sliceBounds,HT.sIx,Option.getD_none,show(1:Int)>0 from ∅,if_true];by_cases h:i<0
   .simp only[h,if_true]<;>omega
   .simp only[h,if_false]<;>omega
def Lp (its:List Value)(lo hi:Option Int):slicePick its.toArray lo hi none=((its.drop (HT.sIx ↥its 0 lo)).take (HT.sIx ↥its ↥its hi-HT.sIx ↥its 0 lo)).toArray:=by
 obtain⟨h1,h2,h3⟩:=MD lo hi its.toArray.size;unfold slicePick;rw[h1,h2,h3];simp only[sliceRange_one,pick_run,qAt]<;>rfl
def dU (K:W.Frag):V->Option Int->Option Int->Hp->VK->Prop:=λx lo hi H Q=>∃a xs,x=.ref a/\SqL K H a xs/\∀p,H p=none->Q (.ref p) (upd H p (.lst (P4 xs lo hi)))
def Xc:SlR X (dU X.K):=by
 intro pins s σ H x v vl vu lo hi sl Q I rx hs pl pu h;obtain⟨a,xs,rfl,hx,q⟩:=h;cases rx;obtain⟨its,r,ht,hz⟩:=I.list hx;have hlen:=↥r;refine#["list",_,slot_list_getitem.lookup,ht.isList.typeIs,?_];refine wpAny_getItem_list_slice ht.isList hs pl pu .none (by simp) ?_ (by rw[qAt]<;>omega);rw[Lp,<-hlen];refine#[.ref s.heap.objs.size,_,I.laid (t':=s.toks) (o:=.lst (P4 xs lo hi)) (λb ob q=>qAh _ q) (qAg _) ?_,rfl,q _ (I.hok.fresh (qAg _))];exact#[qAO (JG xs lo hi) hz,_,0,(r.drop (HT.sIx ↥xs 0 lo)).take (HT.sIx ↥xs ↥xs hi-HT.sIx ↥xs 0 lo),qAy _ rfl]
def flatV:V->Bool
 |.non=>true
 |.bl _=>true
 |.int _=>true
 |.str _=>true
 |_=>false
def eqV:V->V->Bool
 |.non,.non=>true
 |.bl a,.bl b=>a==b
 |.bl a,.int b=>(if a then 1 else 0)==b
 |.int a,.bl b=>a==(if b then 1 else 0)
 |.int a,.int b=>a==b
 |.str a,.str b=>a==b
 |_,_=>false
def UW {A:Around}{s:Shared}{y x:V}{u v:Value}(ry:Cq y u)(rx:Cq x v)(fy:flatV y=true)(fx:flatV x=true):SeqAt.EqAt A s u v (eqV y x):=by
 cases y with
 |non=>
  cases ry;cases x with
  |non=>cases rx;exact SeqAt.EqAt.same _
  |bl b=>cases rx;exact SeqAt.EqAt.none_bool b
  |int b=>obtain⟨t,rfl⟩:=rx;exact SeqAt.EqAt.none_int b t
  |str b=>obtain⟨t,rfl⟩:=rx;exact SeqAt.EqAt.none_str b t
  |_=>exact absurd (show false=true from fx) qAq
 |bl a=>
  cases ry;cases x with
  |non=>cases rx;exact SeqAt.EqAt.bool_none a
  |bl b=>cases rx;exact SeqAt.EqAt.bool_bool a b
  |int b=>obtain⟨t,rfl⟩:=rx;exact SeqAt.EqAt.bool_int a b t
  |str b=>obtain⟨t,rfl⟩:=rx;exact SeqAt.EqAt.bool_str a b t
  |_=>exact absurd (show false=true from fx) qAq
 |int a=>
  obtain⟨t',rfl⟩:=ry;cases x with
  |non=>cases rx;exact SeqAt.EqAt.int_none a t'
  |bl b=>cases rx;exact SeqAt.EqAt.int_bool a t' b
  |int b=>obtain⟨t,rfl⟩:=rx;exact SeqAt.EqAt.int_int a t' b t
  |str b=>obtain⟨t,rfl⟩:=rx;exact SeqAt.EqAt.int_str a t' b t
  |_=>exact absurd (show false=true from fx) qAq
 |str a=>
  obtain⟨t',rfl⟩:=ry;cases x with
  |non=>cases rx;exact SeqAt.EqAt.str_none a t'
  |bl b=>cases rx;exact SeqAt.EqAt.str_bool a t' b
  |int b=>obtain⟨t,rfl⟩:=rx;exact SeqAt.EqAt.str_int a t' b t
  |str b=>obtain⟨t,rfl⟩:=rx;exact SeqAt.EqAt.str_str a t' b t
  |_=>exact absurd (show false=true from fx) qAq
 |_=>exact absurd (show false=true from fy) qAq
def Mr:Iv X (.builtin "len") (λxs H Q=>∃p ys,xs=[.ref p]/\(SqL X.K H p ys\/SqT X.K H p ys)/\Q (.int ↥ys) H):=by
 intro pins s σ H xs us Q I r h;obtain⟨p,ys,rfl,hq,q⟩:=h;obtain⟨u,rfl,rx⟩:=NJ r;cases rx;have hn:=MI;rcases hq with hq|hq
 .obtain⟨its,r',pl,hz⟩:=I.list hq;have hlen:=↥r';exact Calls.call_len_list pl.isList (by simp only[qAt]<;>omega) #[.int ↥ys,H,I.tok _,#[s.toks+1,by rw[qAt,hlen]],q]
 .obtain⟨its,r',pl,hz⟩:=I.tuple hq;have hlen:=↥r';exact len_tuple pl (by simp only[qAt]<;>omega) #[.int ↥ys,H,I.tok _,#[s.toks+1,by rw[qAt,hlen]],q]
def Lu:Iv X (.type "tuple") (λxs H Q=>∃p ys,xs=[.ref p]/\((SqL X.K H p ys/\∀l,H l=none->Q (.ref l) (upd H l (.tup ys)))\/(SqT X.K H p ys/\Q (.ref p) H))):=by
 intro pins s σ H xs us Q I r h;obtain⟨p,ys,rfl,h⟩:=h;obtain⟨u,rfl,rx⟩:=NJ r;cases rx;rcases h with⟨hq,q⟩|⟨hq,q⟩
 .obtain⟨its,r',pl,hz⟩:=I.list hq;have hlen:=↥r';refine call_tuple_list pl.isList (λh' kp=>?_) (by simp only[qAt]<;>omega);have I1:Inv X pins σ H { s with heap:=h' }:=I.kept (t':=s.toks) kp;have I2:Inv X pins σ (upd H h'.objs.size (.tup ys)) { s with heap:=h'.push { cls:=.type "tuple",data:=.seq its.toArray } }:=
   I1.laid (t':=s.toks) (λb o e=>qAh _ e) (qAg _) (show Dm X.prog X.w _ _ _ (.tup ys) from #[hz,its,r',IsTup.new _ _])
  exact#[.ref h'.objs.size,_,I2,rfl,q _ (I1.hok.fresh (qAg _))]
 .obtain⟨its,r',pl,hz⟩:=I.tuple hq;exact call_tuple_same pl #[.ref p,H,I,rfl,q]
def tyV (K:W.Frag)(T:String)(x:V)(H:Hp):Prop:=match x with
 |.str _=>T="str"
 |.int _=>T="int"
 |.ref p=>(T="list"/\∃xs,SqL K H p xs)\/(T="tuple"/\∃o,K.lookup p=some o/\o.cls=.type "tuple"/\o.dict=none) \/
  (T="dict"/\((∃kvs,H p=some (.dK kvs))\/∃kvs,H p=some (.dT kvs)))\/(T="set"/\∃S n,H p=some (.set S n))
 |_=>False
def XS {pins:List (Addr×Obj)}{σ:St}{H:Hp}{s:Shared}{T:String}{x:V}{v:Value}(I:Inv X pins σ H s)(r:Cq x v)(ty:tyV X.K T x H) :
 s.TypeIs v T/\∀a,v=.ref a->∃ob,s.heap.get? a=some ob/\ob.dict=none:=by
 cases x with
 |str z=>
  obtain⟨t,rfl⟩:=r;cases (show T="str" from ty);exact#[typeIs_str s z t,λ_ e=>nomatch e]
 |int i=>
  obtain⟨t,rfl⟩:=r;cases (show T="int" from ty);exact#[typeIs_int s i t,λ_ e=>nomatch e]
 |ref p=>
  cases r;rcases ty with⟨rfl,xs,hq⟩|⟨rfl,o,hk,hc,hd⟩|⟨rfl,hk⟩|⟨rfl,S,n,hk⟩
  .obtain⟨its,_,pl,_⟩:=I.list hq;refine#[pl.isList.typeIs,λa e=>?_];cases e;obtain⟨o,n,e,c,hd,_⟩:=pl;exact#[o,e,hd]
  .refine#[#[o,I.kIn p o hk,hc],λa e=>?_];cases e;exact#[o,I.kIn _ o hk,hd]
  .have z:∃o,s.heap.get? p=some o/\o.ExactDict:=by
    rcases hk with⟨kvs,hk⟩|⟨kvs,hk⟩
    .obtain⟨_,_,_,_,o,_,_,e,ex,_⟩:=I.hok p _ hk;exact#[o,e,ex]
    .obtain⟨_,_,_,_,o,_,_,e,ex,_⟩:=I.hok p _ hk;exact#[o,e,ex]
   obtain⟨o,e,ex⟩:=z;refine#[#[o,e,ex.1],λa e2=>?_];cases e2;exact#[o,e,ex.2.1]
  .obtain⟨o,_,_,_,e,ex,_⟩:=I.hok p _ hk;refine#[#[o,e,ex.1],λa e2=>?_];cases e2;exact#[o,e,ex.2.1]
 |_=>exact False.elim ty
def tBM (K:W.Frag)(T:String)(r:V->List V->Hp->VK->Prop)(to:TE)(t:TA):TE:=λσ H Q=>to σ H λx H1=>tyV K T x H1/\t σ H1 λxs H2=>r x xs H2 Q
variable {o e:Expr}{es:List Expr}{to:TE}{t:TA}{name:Str}{apos cpos:Pos}{T id:String}{r:V->List V->Hp->VK->Prop}
def E6 (pa:PlainAttrs T)(slot:Slot T name id)(hty:typeOf (.builtin id)=pure (.type "method_descriptor"))(hm:MtR X id r)(ho:PE X o to)(ha:PA X (e::es) t)
 (hbase:attributeBase o name X.env (eval o X.env)=eval o X.env:=by rfl)
 (hfew:((backTo cpos (starEach (e::es) X.env)).all (λx=>!x.1)&&(backToKw cpos (keywordEach [] X.env)).all (λx=>x.1.isSome)
  && decide ((e::es).length+([]:List Keyword).length+(if ([]:List Keyword).isEmpty then 0 else 1)<30))=true:=by rfl)
 (hline:(apos.endLine==cpos.line)=true:=by rfl)(hs:starEach (e::es) X.env=(false,eval e X.env)::starEach es X.env:=by rfl)(hplain:(backTo cpos (starEach es X.env)).any (·.1)=false:=by rfl) :
 PE X (.Call (.Attribute o name apos) (e::es) [] cpos) (tBM X.K T r to t):=by
 intro pins s σ H Q I h;refine wpAny_Call_method_late hbase hfew hline rfl (thn (ho pins s σ H _ I h) λv s1 hh=>?_);obtain⟨x,H1,I1,r1,ty,q1⟩:=hh;obtain⟨h1,h2⟩:=XS I1 r1 ty;refine#[T,id,pa,slot,hty,h1,h2,?_];have hA:=ha cpos pins s1 σ H1 _ I1 q1;rw[hs]at hA ⊢;refine Calls.callWith_builtin (by show(false||(backTo cpos (starEach es X.env)).any (·.1))=false;rw[hplain]<;>rfl) (Calls.evalArgs_plain ?_);exact thn hA λus s2 #[vs,H2,I2,r2,q2]=>hm pins s2 σ H2 x vs v us Q I2 r1 r2 q2
end
def MtM (X:Cx)(id:String)(r:V->List V->Hp->VK->Prop):Prop:=
 ∀(pins:List (Addr×Obj))(s:Shared)(σ:St)(H:Hp)(x:V)(xs:List V)(v:Value)(us:List Value)(Q:VK),Inv X pins σ H s->Cq x v->B4 xs us->r x xs H Q ->
  wpAny (model X.prog X.w) X.A (call (.builtin id) (v::us)) (EP X pins σ Q) X.xe s
def B4.one:∀{x:V}{us:List Value},B4 [x] us->∃u,us=[u]/\Cq x u
 |_,_,.cons r .nil=>#[_,rfl,r]
def B4.reverse {xs:List V}{us:List Value}(h:B4 xs us):B4 xs.reverse us.reverse:=by
 induction h with
 |nil=>exact .nil
 |cons r t ih=>rw[List.reverse_cons,List.reverse_cons];exact B4.append ih (.cons r .nil)
section
variable {X:Cx}{pins:List (Addr×Obj)}{σ:St}{H:Hp}{s:Shared}{l b:Addr}{xs ys zs:List V}
def Inv.lset {its its':List Value}{n:Nat}{f:Array Value->Array Value}{t':Nat}(I:Inv X pins σ H s)(hH:H l=some (.lst xs))
 (e:s.heap.get? l=some { cls:=.type "list",data:=.seq its.toArray n }) (hf:f its.toArray=its'.toArray) (hv:B4 ys its') (hz:↥ys<=sizeLine) :
 Inv X pins σ (upd H l (.lst ys)) { s with heap:=s.heap.update l (Obj.mapSeq f),toks:=t' }:=by
 have q:=PySem.IsL.update e f;rw[hf]at q;refine I.write (x:=l) (e:=l) (by rw[hH];exact trivial) (.inl rfl) (λb' u hb hu=>(qCM s.heap (Obj.mapSeq f) (Ne.symm hb)).trans hu) #[_,q] ?_;exact#[hz,its',_,hv,q]
def Inv.lnew {its:List Value}{t':Nat}(I:Inv X pins σ H s)(hv:B4 ys its)(hz:↥ys<=sizeLine) :
 Inv X pins σ (upd H s.heap.objs.size (.lst ys)) { s with heap:=s.heap.push { cls:=.type "list",data:=.seq its.toArray },toks:=t' }:=
 I.laid (λ_ _ q=>qAh _ q) (qAg _) #[hz,its,0,hv,qAy _ rfl]
def Inv.fresh (I:Inv X pins σ H s):H s.heap.objs.size=none:=I.hok.fresh (qAg _)
def Inv.lstM (I:Inv X pins σ H s)(hH:H l=some (.lst xs)):↥xs<=sizeLine/\∃(its:List Value)(n:Nat),B4 xs its/\↥xs=↥its/\s.heap.get? l=some { cls:=.type "list",data:=.seq its.toArray n }:=by
 obtain⟨z,its,n,r,e⟩:=I.hok l _ hH;exact#[z,its,n,r,↥r,e]
end
section
variable {X:Cx}
def QL:V->List V->Hp->VK->Prop:=λx vs H Q=>∃l xs y,x=.ref l/\vs=[y]/\H l=some (.lst xs)/\↥xs<sizeLine/\Q .non (upd H l (.lst (xs++[y])))
def AV:MtM X "list.append" QL:=by
 intro pins s σ H x vs v us Q I rx rv h;obtain⟨l,xs,y,rfl,rfl,hH,hz,q⟩:=h;cases rx;obtain⟨u,rfl,ru⟩:=rv.one;obtain⟨z,its,n,r,hl,e⟩:=I.lstM hH;refine call_meets F.slot_list_append #[_,e,rfl] F.entry_list_append (F.args_list_append_2 _ _) (PySem.list_append l its.toArray n u (by rw[qAt];omega)) #[e,?_];refine#[.non,_,I.lset (its':=its++[u]) hH e (by simp) (r.append (.cons ru .nil)) ?_,rfl,q];rw[qAr,List.length_singleton];omega
def cG:R2:=λx y H Q=>∃l b xs zs,x=.ref l/\y=.ref b/\H l=some (.lst xs)/\H b=some (.lst zs)/\↥xs+↥zs<=sizeLine/\∀p,H p=none->Q (.ref p) (upd H p (.lst (xs++zs)))
def XQ:OpR X (binaryOp .Add) cG:=by
 intro pins s σ H x y v u Q I rx ry h;obtain⟨l,b,xs,zs,rfl,rfl,hH,hB,hz,q⟩:=h;cases rx;cases ry;obtain⟨z,its,n,r,hl,e⟩:=I.lstM hH;obtain⟨z2,its2,n2,r2,hl2,e2⟩:=I.lstM hB;refine PySem.P.add_list e e2 ?_ (by rw[qAt,qAt];omega);have ea:its.toArray++its2.toArray=(its++its2).toArray:=by simp
 rw[ea];exact#[.ref _,_,I.lnew (t':=s.toks) (r.append r2) (by rw[qAr];omega),rfl,q _ I.fresh]
end
section
variable {prog:Program}{w:World}{A:Around}{E:Value->Shared->Prop}{s:Shared}
end
section
variable {X:Cx}
end
end L2
namespace Att
open PySem PySem.W PySem.Calls PyProof.Rows
def Jc {P:Params}{h:Heap}:∀(ns:List Int)(vs:List Value),WellAll P h vs (ns.map WData.int)->IntsAre vs ns:=by
 intro ns
 induction ns with
 |nil=>
  intro vs w;rw[List.map_nil]at w;cases w;exact .nil
 |cons n ns ih=>
  intro vs w;rw[qBO]at w;cases w with
  |cons a b=>
   cases a;exact .cons _ _ (ih _ b)
def Rl {l:OpenLaw}{n:Nat}(hn:l.most=some n){P:Params}{h:Heap}{args:List WData}{vals:List Value}
 (hpre:l.row.toRowW.claim.pre args=true)(hwl:WellAll P h vals args) :
 ∃a vs ns,vals=[Value.ref a]/\args=[WData.list (ns.map WData.int)]/\h.get? a=some { cls:=.type "list",data:=.seq vs.toArray }/\IntsAre vs ns/\↥ns<=n:=by
 have hsh:WShape.hasAll [] args [.list .int]=true:=(pre_splitW hpre).1;have hc:l.pre.holds [] { args:=args }=true:=(pre_splitW hpre).2;obtain⟨d,r,rfl,h1,h2⟩:=hasAllW_cons hsh;obtain rfl:=hasAllW_nil h2;obtain⟨xs,rfl,h3⟩:=hasW_list h1;obtain⟨ns,rfl⟩:=items_int h3;have hlen:↥ns<=n:=by
  unfold OpenLaw.pre at hc;have h4:(WTm.not (.lt (.lit (.int (n:Int))) (.len (.arg 0)))).holds [] { args:=[.list (ns.map .int)] }=true:=by
   have h4:=(holds_andW hc).1;rw[hn]at h4;exact h4
  have h5:=condW_of h4 (w_not (w_lt w_lit (w_len_list (w_arg rfl))));rw[qAa]at h5;refine Nat.le_of_not_lt λq=>?_;have q':(n:Int)<((↥ns:Nat):Int):=()
  first
   |(rw[qC7 q']at h5;exact absurd h5 ∅)
   |(simp at h5;omega)
 cases hwl with
 |cons w1 w2=>
  cases w2;cases w1 with
  |list ho hall=>exact#[_,_,ns,rfl,rfl,ho,Jc ns _ hall,hlen]
def Q3 (l:OpenLaw)(args:List WData):l.row.toRowW.claim.post args (.bool true) args=true:=
 postW_of (r:=l.row.toRowW) (X:=(true==true))
  (show WShape.has [] (.bool true) .bool=true by first|rfl|decide|simp[WShape.has,WShape.arms,WShape.armsAll])
  (show(WTm.eq .res (.lit (.bool true))).value [] { args:=args,res:=some (.bool true),after:=args }=some (.bool (true==true)) from w_eq_bool (w_res rfl) w_lit) rfl
def attach_call {l:OpenLaw}{n:Nat}{q:Program}{loose:List Str}{XP:(Str->Option Value)->Heap->Prop}{YP:World->Heap->Prop}{d:DefRec}
 (hn:l.most=some n)(hdf:d.params.defaults=[])
 (call:∀(w:World)(s₀ s₁:Shared)(mg mb:Str->Option Value)(fa:Addr)(o:Obj)(pm cd doc:Value)(a:Addr)(vs:List Value)(ns:List Int),
  Ground q loose [] XP w s₀ mg mb s₁.heap->YP w s₁.heap ->
  s₁.heap.get? fa=some o->o.data=.func (docDef d.name d.params d.body d.scope pm cd doc)->s₁.heap.CodeRec cd d.name->mg d.name=some (.ref fa) ->
  s₁.heap.get? a=some { cls:=.type "list",data:=.seq vs.toArray }->IntsAre vs ns->↥ns<=n->s₁.gens=(List.toArray []) ->
  codeAny (model l.prog w) callerA (.call (.ref fa) #[[.ref a],[]]) (λr s'=>r=.ok (.ret (.bool true))/\OldK s₁.heap s'.heap/\s'.os=s₁.os/\AllBare s'.gens) s₁) :
 WalkO q loose XP YP l.row.toRowW d [] (λf vs=>PySem.call f vs):=by
 intro w s₀ s₁ mg mb G Y fa o pm cd doc dV kV ho hd hcd hD hmg hg args vals as hpre hlay hrd hwl hlo;obtain rfl:dV=.none:=Dflts.none hD hdf;obtain rfl:kV=.none:=Dflts.noKw hD;obtain⟨a,vs,ns,rfl,rfl,hobj,hints,hlen⟩:=Rl hn hpre hwl;refine enter_call (codeAny_mono (call w s₀ s₁ mg mb fa o pm cd doc a vs ns G Y ho (fd_plain hd) hcd hmg hobj hints hlen hg) λr s' hq=>?_);obtain⟨rfl,h2,h3,h4⟩:=hq;exact#[.inl #[.bool true,.bool true,[],rfl,λ_=>rfl,.bool true,Q3 l _,λ_=>#[List.Pairwise.nil,λ_ hm=>(nomatch hm)]],h2,h3,h4]
section
variable {prog:Program}{w:World}{A:Around}{E:Value->Shared->Prop}{s:Shared}{K:Frag}
end
end Att
namespace L2
open PySem PySem.Spec PyProof.Rows
theorem GQ:∀{vs:List Value}{ns:List Int},IntsAre vs ns->B4 (ns.map V.int) vs
 |_,_,.nil=>.nil
 |_,_,.cons n t h=>.cons #[t,rfl] (GQ h)
abbrev CX0:CXT:=λ_ _ _ _ _ _=>False
abbrev E0:XK:=λ_ _ _=>False
def Z2 {X:Cx}:SE CX0 X E0:=λ_ _ _ _ _ _ _ h=>h.elim
structure Fun (K:W.Frag)(x qual:Str)(st:Stmt)(f:Addr)(fd:FuncData):Prop where
 ex:∃(oc:Value)(od:Option Addr)(kV doc pm:Value)(an:Option Addr)(cdv ct:Value)(osl:Array (Option Value)),
  fd=W.fnOf x qual (Gr st) (BV st) (Aa st) .none kV doc pm an cdv ct/\K.lookup f=some #[oc,od,.func fd,osl]/\W.codeIn K cdv qual=true
 kp:W.keepIn K (.ref f)=true
section
variable {P:Program}{w:World}{K:W.Frag}{mg:Str->Option Value}{base:Heap}
def Fun.ok {x qual:Str}{st:Stmt}{f:Addr}{fd:FuncData}{N ps:List Str}{k:Nat}{sp:Sp}(F:Fun K x qual st f fd)(S:Ae N ps (Aa st))(len:∀vs H Q E,sp vs H Q E->↥vs=↥ps)
 (hbody:∀(cdv:Value)(A:Around)(outer:List Env)(s:Shared)(H:Hp)(vs:List V)(Q:VK)(E:XK),DC k (A.deeper (envOfC qual (Aa st) s.heap.objs.size f cdv))->sp vs H Q E ->
  ∃t,PSs (JW CX0 P w K mg base N qual (Aa st) f cdv A outer s H E).nox (BV st) t/\t { nx:=λ_ H'=>Q .non H',rt:=Q } (start N vs) H):Ao P w K mg base CX0 (k+1) f fd ps sp:=by
 obtain⟨oc,od,kV,doc,pm,an,cdv,ct,osl,rfl,lk,hcd⟩:=F.ex;refine RW lk hcd S len λA outer s H vs Q E hr hsp=>?_;obtain⟨t,h,q⟩:=hbody cdv A outer s H vs Q E hr hsp;exact#[t,h.nox,q]
def Fun.binds {x qual:Str}{st:Stmt}{f:Addr}{fd:FuncData}{ps:List Str}(F:Fun K x qual st f fd)
 (h:∀(kV doc pm:Value)(an:Option Addr)(cdv ct:Value)(us:List Value),↥us=↥ps->bindArgs (W.fnOf x qual (Gr st) (BV st) (Aa st) .none kV doc pm an cdv ct) #[us,[]]=pure (ps.zip us)):Binds K fd ps []:=by
 obtain⟨oc,od,kV,doc,pm,an,cdv,ct,osl,rfl,lk,hcd⟩:=F.ex;exact .all (h kV doc pm an cdv ct)
def KJ {x qual:Str}{st:Stmt}{f:Addr}{oc:Value}{od an:Option Addr}{osl:Array (Option Value)}{kV doc pm cdv ct:Value}(l:K.lookup f=some #[oc,od,.func (W.fnOf x qual (Gr st) (BV st) (Aa st) .none kV doc pm an cdv ct),osl])
 (c:W.codeIn K cdv qual=true) (k:W.keepIn K (.ref f)=true):Fun K x qual st f (W.fnOf x qual (Gr st) (BV st) (Aa st) .none kV doc pm an cdv ct):=#[#[oc,od,kV,doc,pm,an,cdv,ct,osl,rfl,l,c],k]
end
def R7 {n:Nat}(h:n<=1000):n<sizeLine:=Nat.lt_of_le_of_lt h ∅
section
variable {X:Cx}
def pv (i:Nat){x:Str}{pos:Pos}(hN:X.N[i]? = some x:=by rfl)(hv:Vis X.env.scope x:=by first|exact Or.inl rfl|exact Or.inr (Or.inl rfl)|exact Or.inr (Or.inr rfl))(hd:(x==("__debug__":Str))=false:=by decide)
 (hcd:(x==("__classdict__":Str))=false:=by decide):PE X (.Name x pos) (O1 i):=YV hN hv hd hcd
end
def Bp (H H':Hp):Prop:=∀b o,H b=some o->H' b=some o
def Bp.refl (H:Hp):Bp H H:=λ_ _ h=>h
def Bp.trans {H H1 H2:Hp}(a:Bp H H1)(b:Bp H1 H2):Bp H H2:=λc o h=>b c o (a c o h)
def Bp.free {H H':Hp}(e:Bp H H'){l:Addr}(h:H' l=Option.none):H l=Option.none:=by
 cases q:H l with
 |none=>rfl
 |some o=>
  rw[e l o q]at h;cases h
def Bp.seq {K:W.Frag}{H H':Hp}{a:Addr}{xs:List V}(e:Bp H H')(h:SqL K H a xs):SqL K H' a xs:=by
 rcases h with (h|⟨o,h⟩)|h
 .exact .inl (.inl (e _ _ h))
 .exact .inl (.inr #[o,e _ _ h])
 .exact .inr h
end L2
set_option maxHeartbeats 4000000
namespace CH
def g (a b:Int):Int:=(Int.gcd a b:Int)
def YH {a b:Int}(h:b≠0):0<g a b:=by
 have:=Int.gcd_pos_of_ne_zero_right a h;unfold g;omega
def UT {x y:Int}(hy:0<y):g y (x%y)=g x y:=by
 unfold g;have e:x%y=x-y*(x/y):=Int.emod_def x y;rw[e,Int.gcd_sub_mul_left_right,Int.gcd_comm]
def Yl {x:Int}(hx:0<=x):g x 0=x:=by
 unfold g;rw[Int.gcd_zero];omega
def YX (a b:Int):g (if a<0 then -a else a) (if b<0 then -b else b)=g a b:=by
 unfold g;split<;>split<;>simp
def Qj (a b:Int):g a b ∣ a:=Int.gcd_dvd_left a b
def Rc (a b:Int):g a b ∣ b:=Int.gcd_dvd_right a b
def cm (a b:Int):Int:=if b<0 then -(g a b) else g a b
def KG {a c:Int}(h:c ∣ a)(hc:c≠0):Int.fdiv a c*c=a:=by
 obtain⟨k,rfl⟩:=h;rw[Int.mul_comm c k,qCq _ hc]
def Jl {a b:Int}(hb:b≠0):Int.fdiv a (cm a b)=(Rat.divInt a b).num/\Int.fdiv b (cm a b)=((Rat.divInt a b).den:Int):=by
 have hg:=YH (a:=a) hb;have d1:=Qj a b;have d2:=Rc a b;rw[Rat.num_divInt,Rat.den_divInt,qC5 hb];have eg:((b.gcd a:Nat):Int)=g a b:=by unfold g;rw[Int.gcd_comm]
 rw[Int.natCast_ediv,eg];unfold cm;split
 .rename_i h;rw[qB0 h];have e1:(-1*a)/g a b=Int.fdiv a (-(g a b)):=by
   obtain⟨k,hk⟩:=d1;have:-1*a=(-k)*g a b:=⋯;rw[this,Int.mul_ediv_cancel _ ()];have:a=(-k)*(-(g a b)):=⋯;have q:=qCq (-k) (show -(g a b)≠0 from ());rw[<-this]at q;exact q.symm
  have e2:((b.natAbs:Nat):Int)/g a b=Int.fdiv b (-(g a b)):=by
   obtain⟨k,hk⟩:=d2;have hn:((b.natAbs:Nat):Int)=-b:=();rw[hn];have:-b=(-k)*g a b:=⋯;rw[this,Int.mul_ediv_cancel _ ()];have:b=(-k)*(-(g a b)):=⋯;have q:=qCq (-k) (show -(g a b)≠0 from ());rw[<-this]at q;exact q.symm
  exact#[e1.symm,e2.symm]
 .rename_i h;have hp:0<b:=();rw[qCb hp,Int.one_mul];have hn:((b.natAbs:Nat):Int)=b:=();rw[hn,qBm _ (),qBm _ ()];exact#[rfl,rfl]
def O6 {a b:Int}(hb:b≠0):cm a b≠0:=by
 have:=YH (a:=a) hb;unfold cm;split<;>omega
def den_pos (q:Rat):1<=(q.den:Int):=by have:=q.den_pos;omega
def GB (q:Rat):(q.num:Rat)=q*q.den:=by
 have h:=qCy q;rw[qAB]at h;have hd:((q.den:Int):Rat)≠0:=by
  have:=q.den_nz;simp[this]
 have e:((q.den:Int):Rat)=(q.den:Rat):=rfl;rw[e]at h hd;grind
def den_ne (q:Rat):(q.den:Rat)≠0:=by have:=q.den_nz;simp[this]
def lt_iff (p q:Rat):p.num*(q.den:Int)<q.num*(p.den:Int) ↔ p<q:=(Rat.lt_iff p q).symm
def QR (p q:Rat):Rat.divInt (p.num*q.den+q.num*p.den) ((p.den:Int)*q.den)=p+q:=by
 rw[qAB,qBu,qAp,qAp,qAp,GB p,GB q];have h1:=den_ne p;have h2:=den_ne q;have e1:((p.den:Int):Rat)=(p.den:Rat):=rfl;have e2:((q.den:Int):Rat)=(q.den:Rat):=rfl;rw[e1,e2];grind
def OX (p q:Rat):Rat.divInt (p.num*q.den-q.num*p.den) ((p.den:Int)*q.den)=p-q:=by
 rw[qAB,qBv,qAp,qAp,qAp,GB p,GB q];have h1:=den_ne p;have h2:=den_ne q;have e1:((p.den:Int):Rat)=(p.den:Rat):=rfl;have e2:((q.den:Int):Rat)=(q.den:Rat):=rfl;rw[e1,e2];grind
def OL (p q:Rat):Rat.divInt (p.num*q.num) ((p.den:Int)*q.den)=p*q:=by
 rw[qAB,qAp,qAp,GB p,GB q];have h1:=den_ne p;have h2:=den_ne q;have e1:((p.den:Int):Rat)=(p.den:Rat):=rfl;have e2:((q.den:Int):Rat)=(q.den:Rat):=rfl;rw[e1,e2];grind
def Qp (p q:Rat)(hq:q≠0):Rat.divInt (p.num*q.den) ((p.den:Int)*q.num)=p/q:=by
 rw[qAB,qAp,qAp,GB p,GB q];have h1:=den_ne p;have h2:=den_ne q;have e1:((p.den:Int):Rat)=(p.den:Rat):=rfl;have e2:((q.den:Int):Rat)=(q.den:Rat):=rfl;rw[e1,e2];grind
def Sz (k:Nat)(q:Rat):Prop:=q.num.natAbs<2^k/\q.den<2^k
def RE {k m:Nat}(h:k<=m):2^k<=2^m:=qCi ∅ h
def Sz.mono {k m:Nat}{q:Rat}(h:Sz k q)(hk:k<=m):Sz m q:=#[qAl h.1 (RE hk),qAl h.2 (RE hk)]
def Hd {a c x:Int}(h:x*c=a)(hc:c≠0):x.natAbs<=a.natAbs:=by
 rw[<-h,Int.natAbs_mul];exact Nat.le_mul_of_pos_right _ ()
def D5 {a b:Int}{k:Nat}(hb:b≠0)(h1:a.natAbs<2^k)(h2:b.natAbs<2^k):Sz k (Rat.divInt a b):=by
 have p:=Jl (a:=a) hb;have d1:cm a b ∣ a:=by
  unfold cm;split
  .exact Int.neg_dvd.mpr (Qj a b)
  .exact Qj a b
 have d2:cm a b ∣ b:=by
  unfold cm;split
  .exact Int.neg_dvd.mpr (Rc a b)
  .exact Rc a b
 have e1:=Hd (KG d1 (O6 hb)) (O6 hb);have e2:=Hd (KG d2 (O6 hb)) (O6 hb);rw[p.1]at e1;rw[p.2]at e2;have e3:(((Rat.divInt a b).den:Int)).natAbs=(Rat.divInt a b).den:=Int.natAbs_natCast _;rw[e3]at e2;exact#[(),()]
def Aq {a b:Int}{k m:Nat}(h1:a.natAbs<2^k)(h2:b.natAbs<2^m):(a*b).natAbs<2^(k+m):=by
 rw[Int.natAbs_mul,Nat.pow_add];exact Nat.mul_lt_mul'' h1 h2
def Ii {a b:Int}{k:Nat}(h1:a.natAbs<2^k)(h2:b.natAbs<2^k):(a+b).natAbs<2^(k+1):=by
 rw[Nat.pow_succ];generalize 2^k=p at *
 omega
def GJ {a b:Int}{k:Nat}(h1:a.natAbs<2^k)(h2:b.natAbs<2^k):(a-b).natAbs<2^(k+1):=by
 rw[Nat.pow_succ];generalize 2^k=p at *
 omega
def AA {k:Nat}{q:Rat}(h:Sz k q):((q.den:Int)).natAbs<2^k:=by rw[Int.natAbs_natCast];exact h.2
def Pt (p q:Rat):(p.den:Int)*(q.den:Int)≠0:=by
 have h1:=den_pos p;have h2:=den_pos q;exact Int.mul_ne_zero () ()
def A6 {k m:Nat}{x:Nat}(h:x<2^k)(e:k<=m):x<2^m:=qAl h (RE e)
def Sz.add {k m:Nat}{p q:Rat}(hp:Sz k p)(hq:Sz m q):Sz (k+m+1) (p+q):=by
 rw[<-QR];have a1:=Aq hp.1 (AA hq);have a2:=Aq hq.1 (AA hp);have a3:=Aq (AA hp) (AA hq);rw[qCj m k]at a2;exact D5 (Pt p q) (Ii a1 a2) (A6 a3 (qB2 _))
def Sz.sub {k m:Nat}{p q:Rat}(hp:Sz k p)(hq:Sz m q):Sz (k+m+1) (p-q):=by
 rw[<-OX];have a1:=Aq hp.1 (AA hq);have a2:=Aq hq.1 (AA hp);have a3:=Aq (AA hp) (AA hq);rw[qCj m k]at a2;exact D5 (Pt p q) (GJ a1 a2) (A6 a3 (qB2 _))
def Sz.mul {k m:Nat}{p q:Rat}(hp:Sz k p)(hq:Sz m q):Sz (k+m) (p*q):=by
 rw[<-OL];exact D5 (Pt p q) (Aq hp.1 hq.1) (Aq (AA hp) (AA hq))
def Sz.neg {k:Nat}{p:Rat}(hp:Sz k p):Sz k (-p):=#[by rw[Rat.neg_num,Int.natAbs_neg];exact hp.1,hp.2]
def Sz.zero:Sz 1 0:=#[∅,∅]
def Sz.den_ne {k:Nat}{p q:Rat}(hq:q≠0):(p.den:Int)*q.num≠0:=by
 have h1:=den_pos p;have h2:q.num≠0:=λz=>hq (Rat.num_eq_zero.mp z);exact Int.mul_ne_zero () h2
def Sz.div {k m:Nat}{p q:Rat}(hp:Sz k p)(hq:Sz m q)(h0:q≠0):Sz (k+m) (p/q):=by
 rw[<-Qp p q h0];exact D5 (Sz.den_ne (k:=0) h0) (Aq hp.1 (AA hq)) (Aq (AA hp) hq.1)
end CH
namespace L3
open PySem PySem.Spec PyProof.Rows L2
abbrev St:=L2.St
def N4:Expr->Bool
 |.Starred .. => true
 |_=>false
def Cm {e:Expr}{es:List Expr}{env:Env}(h:N4 e=false):starEach (e::es) env=(false,eval e env)::starEach es env:=by
 cases e<;>first|rfl|cases h
theorem C7 {pos:Pos}{env:Env}:∀{es:List Expr},es.all (λe=>!N4 e)=true->(backTo pos (starEach es env)).any (·.1)=false
 |[],_=>rfl
 |e::es,h=>by
  rw[List.all_cons,qAZ]at h;have h1:N4 e=false:=by
   cases q:N4 e with
   |false=>rfl
   |true=>rw[q]at h;exact absurd h.1 ∅
  rw[Cm h1];show(false||(backTo pos (starEach es env)).any (·.1))=false;rw[C7 h.2];rfl
inductive D where
 |non|bl (b:Bool)|int (i:Int)|str (x:Str)|ty (n:String)|tup (xs:List D)|lst (xs:List D)|ref (a:Addr)
inductive S where
 |d (x:D)|l (xs:List D)|r (xs:List D)
def S.isL:S->Bool
 |.d _=>false
 |_=>true
def S.share:S->S
 |.l xs=>.r xs
 |s=>s
def S.own:S->Bool
 |.l _=>true
 |_=>false
inductive Is (K:W.Frag)(H:Hp):V->D->Prop where
 |non:Is K H .non .non
 |bl (b:Bool):Is K H (.bl b) (.bl b)
 |int (i:Int):Is K H (.int i) (.int i)
 |str (x:Str):Is K H (.str x) (.str x)
 |ty (n:String):Is K H (.ty n) (.ty n)
 |ref (a:Addr):Is K H (.ref a) (.ref a)
 |tup {a:Addr}{vs:List V}{xs:List D}(h:SqT K H a vs) (hl:↥vs=↥xs) (r:∀(i:Nat)(v:V)(x:D),vs[i]? = some v->xs[i]? = some x->Is K H v x):Is K H (.ref a) (.tup xs)
 |lst {a:Addr}{vs:List V}{xs:List D}(h:H a=some (.lst vs)) (hl:↥vs=↥xs) (r:∀(i:Nat)(v:V)(x:D),vs[i]? = some v->xs[i]? = some x->Is K H v x):Is K H (.ref a) (.lst xs)
def Iss (K:W.Frag)(H:Hp)(vs:List V)(xs:List D):Prop:=
 ↥vs=↥xs/\∀(i:Nat)(v:V)(x:D),vs[i]? = some v->xs[i]? = some x->Is K H v x
structure HZ where
 h:Hp
 z:Hp
structure Ext (p q:HZ):Prop where
 hh:Bp p.h q.h
 zz:Bp p.z q.z
 sub:Bp q.z q.h
 new:∀a o,q.z a=some o->p.z a=some o\/p.h a=none
def Ext.refl {p:HZ}(h:Bp p.z p.h):Ext p p:=#[Bp.refl _,Bp.refl _,h,λ_ _ e=>.inl e]
def Ext.trans {p q r:HZ}(a:Ext p q)(b:Ext q r):Ext p r:=#[a.hh.trans b.hh,a.zz.trans b.zz,b.sub,λc o e=>by
 rcases b.new c o e with e|e
 .exact a.new c o e
 .exact .inr (a.hh.free e)]
def Ext.grow {H H' z:Hp}(h:Bp z H)(e:Bp H H'):Ext #[H,z] #[H',z]:=#[e,Bp.refl _,h.trans e,λ_ _ e=>.inl e]
def Cg {H:Hp}{p:Addr}(h:H p=none)(o:HO):Bp H (upd H p o):=λb u q=>by rw[An (AG q h)];exact q
def Ext.freeze {p q:HZ}{a:Addr}{o:HO}(e:Ext p q)(n:p.h a=none)(nz:q.z a=none)(h:q.h a=some o):Ext p #[q.h,upd q.z a o]:=by
 refine#[e.hh,e.zz.trans (Cg nz o),λb u hb=>?_,λb u hb=>?_]
 .by_cases z:b=a
  .subst z;have hb':upd q.z b o b=some u:=hb;rw[As]at hb';cases hb';exact h
  .have hb':upd q.z a o b=some u:=hb;rw[An z]at hb';exact e.sub b u hb'
 .by_cases z:b=a
  .subst z;exact .inr n
  .have hb':upd q.z a o b=some u:=hb;rw[An z]at hb';exact e.new b u hb'
def Ext.own {H z:Hp}{a:Addr}(h:Bp z H)(n:H a=none)(o:HO):Ext #[H,z] #[upd H a o,z]:=Ext.grow h (Cg n o)
def Ext.lay {H z:Hp}{a:Addr}(h:Bp z H)(n:H a=none)(o:HO):Ext #[H,z] #[upd H a o,upd z a o]:=
 (Ext.own h n o).freeze n (h.free n) As
def IsS (K:W.Frag)(p:HZ)(v:V):S->Prop
 |.d x=>Is K p.z v x
 |.l xs=>∃a vs,v=.ref a/\p.h a=some (.lst vs)/\Iss K p.z vs xs
 |.r xs=>∃a vs,v=.ref a/\SqL K p.h a vs/\Iss K p.z vs xs
section
variable {K:W.Frag}{H H':Hp}{p q:HZ}{a:Addr}{v:V}{x:D}{vs:List V}{xs:List D}
def SqT.same (e:Bp H H')(h:SqT K H a vs):SqT K H' a vs:=by
 rcases h with (h|⟨o,h⟩)|h
 .exact .inl (.inl (e _ _ h))
 .exact .inl (.inr #[o,e _ _ h])
 .exact .inr h
def Is.mono (e:Bp H H')(h:Is K H v x):Is K H' v x:=by
 induction h with
 |non=>exact .non
 |bl b=>exact .bl b
 |int i=>exact .int i
 |str y=>exact .str y
 |ty n=>exact .ty n
 |ref a=>exact .ref a
 |tup h hl r ih=>exact .tup (SqT.same e h) hl ih
 |lst h hl r ih=>exact .lst (e _ _ h) hl ih
def Iss.mono (e:Bp H H')(h:Iss K H vs xs):Iss K H' vs xs:=#[h.1,λi v x h1 h2=>(h.2 i v x h1 h2).mono e]
def Iss.nil:Iss K H [] []:=#[rfl,λi v x h=>by simp at h]
def Iss.snoc (t:Iss K H vs xs)(h:Is K H v x):Iss K H (vs++[v]) (xs++[x]):=by
 refine#[by simp[t.1],λi w y h1 h2=>?_];by_cases hi:i<↥vs
 .rw[qAu hi]at h1;rw[qAu (by have:=t.1;omega)]at h2;exact t.2 i w y h1 h2
 .rw[qAw ()]at h1;rw[qAw (by have:=t.1;omega)]at h2;have e:i-↥vs=0:=by
   have:=(qAe.mp h1).1;simp at this;omega
  have e2:i-↥xs=0:=by have:=t.1;omega
  rw[e]at h1;rw[e2]at h2;simp at h1 h2;subst h1;subst h2;exact h
def IsS.mono {s:S}(e:Ext p q)(h:IsS K p v s):IsS K q v s:=by
 cases s with
 |d x=>exact Is.mono e.zz h
 |l xs=>
  obtain⟨a,vs,e1,h1,h2⟩:=h;exact#[a,vs,e1,e.hh _ _ h1,h2.mono e.zz]
 |r xs=>
  obtain⟨a,vs,e1,h1,h2⟩:=h;exact#[a,vs,e1,e.hh.seq h1,h2.mono e.zz]
def IsS.share {s:S}(h:IsS K p v s):IsS K p v s.share:=by
 cases s with
 |d x=>exact h
 |l xs=>
  obtain⟨a,vs,e1,h1,h2⟩:=h;exact#[a,vs,e1,SqL.of h1,h2]
 |r xs=>exact h
def Is.tup_inv {xs:List D}(h:Is K H v (.tup xs)):∃a vs,v=.ref a/\SqT K H a vs/\Iss K H vs xs:=by
 cases h with
 |tup h hl r=>exact#[_,_,rfl,h,hl,r]
def Is.lst_inv {xs:List D}(h:Is K H v (.lst xs)):∃a vs,v=.ref a/\SqL K H a vs/\Iss K H vs xs:=by
 cases h with
 |lst h hl r=>exact#[_,_,rfl,SqL.of h,hl,r]
def Is.lst_own {xs:List D}(h:Is K H v (.lst xs)):∃a vs,v=.ref a/\H a=some (.lst vs)/\Iss K H vs xs:=by
 cases h with
 |lst h hl r=>exact#[_,_,rfl,h,hl,r]
def Is.int_inv {i:Int}(h:Is K H v (.int i)):v=.int i:=by cases h;rfl
def Is.bl_inv {i:Bool}(h:Is K H v (.bl i)):v=.bl i:=by cases h;rfl
def Is.non_inv (h:Is K H v .non):v=.non:=by cases h;rfl
def Is.str_inv {i:Str}(h:Is K H v (.str i)):v=.str i:=by cases h;rfl
end
abbrev Tau:=List (Option S)
def Fr3 (K:W.Frag)(p q:HZ)(v:V)(s:S):Prop:=∀xs a,s=.l xs->v=.ref a->p.h a=none/\K.lookup a=none/\q.z a=none
structure Rep (X:Cx)(b:HZ)(τ:Tau)(σ:St)(p:HZ):Prop where
 len:↥σ=↥τ
 ext:Ext b p
 val:∀(i:Nat)(s:S),τ[i]? = some (some s)->∃v,σ[i]? = some (some v)/\IsS X.K p v s
 own:∀(i:Nat)(xs:List D)(a:Addr),τ[i]? = some (some (.l xs))->σ[i]? = some (some (.ref a))->b.h a=none/\X.K.lookup a=none/\p.z a=none
 sep:∀(i j:Nat)(xs:List D)(s:S)(a:Addr),i≠j->τ[i]? = some (some (.l xs))->τ[j]? = some (some s)->s.isL=true->σ[i]? = some (some (.ref a))->σ[j]?≠some (some (.ref a))
 top:X.lent=none->Bp X.H₀ b.h
 pin:∀i a,X.lent=some (i,a)->σ[i]? = some (some (.ref a))
def EL (X:Cx)(i:Nat):Prop:=∀k a,X.lent=some (k,a)->k≠i
def ED {X:Cx}{i:Nat}(h:X.lent=none):EL X i:=λk a e=>by rw[h]at e;cases e
def EF {X:Cx}{i k:Nat}{a:Addr}(h:X.lent=some (k,a))(n:k≠i):EL X i:=λk' a' e=>by rw[h]at e;cases e;exact n
section
variable {X:Cx}{b b' p q:HZ}{τ τ':Tau}{σ:St}{v:V}{s:S}
def Rep.all (r:Rep X b τ σ p)(hl:X.lent=none):Bp X.H₀ p.h:=(r.top hl).trans r.ext.hh
def Rep.own_list {i:Nat}{xs:List D}{a:Addr}(r:Rep X b τ σ p)(h1:τ[i]? = some (some (.l xs)))(h2:σ[i]? = some (some (.ref a))):∃vs,p.h a=some (.lst vs)/\Iss X.K p.z vs xs:=by
 obtain⟨v,e,c,vs,e1,h3,h4⟩:=r.val i _ h1;rw[h2]at e;cases e;cases e1;exact#[vs,h3,h4]
def Rep.mono (r:Rep X b τ σ p)(e:Ext p q):Rep X b τ σ q:=
 #[r.len,r.ext.trans e,λi s h=>let #[v,h1,h2]:=r.val i s h;#[v,h1,h2.mono e],(λi xs a h1 h2=>by
  obtain⟨o1,o2,o3⟩:=r.own i xs a h1 h2;obtain⟨vs,hv,_⟩:=r.own_list h1 h2;refine#[o1,o2,?_];cases z:q.z a with
  |none=>rfl
  |some o=>
   rcases e.new a o z with x|x
   .rw[o3]at x;cases x
   .rw[hv]at x;cases x),r.sep,r.top,r.pin]
def N3 {K:W.Frag}(e:Ext b p)(f:Fr3 K p q v s):Fr3 K b q v s:=λxs a h1 h2=>#[e.hh.free (f xs a h1 h2).1,(f xs a h1 h2).2]
def Ay {α:Type}{l:List (Option α)}{i j:Nat}{x y:α}(h:(l.set i (some x))[j]? = some (some y)):(j=i/\y=x)\/(j≠i/\l[j]? = some (some y)):=by
 rw[List.getElem?_set]at h;by_cases hij:i=j
 .rw[qC6 hij]at h;split at h
  .cases h;exact .inl #[hij.symm,rfl]
  .cases h
 .rw[qC5 hij]at h;exact .inr #[λz=>hij z.symm,h]
def Rep.set {i:Nat}(r:Rep X b τ σ p)(e:Ext p q)(h:IsS X.K q v s)(f:Fr3 X.K p q v s)(hr:s.isL=s.own)(hp:EL X i):Rep X b (τ.set i (some s)) (σ.set i (some v)) q:=by
 have r':=r.mono e;refine#[by simp[r.len],r'.ext,λj s' hj=>?_,λj xs a hj ha=>?_,λj k xs s' a hjk hj hk hs ha=>?_,r.top,λk a hk=>by rw[qBY (λz=>hp k a hk z.symm)];exact r.pin k a hk]
 .rcases Ay hj with⟨rfl,rfl⟩|⟨hn,hj⟩
  .have hl:j<↥σ:=by
    rw[r.len];have:=(qAe.mp hj).1;simpa using this
   exact#[v,by rw[qBA hl],h]
  .obtain⟨w,h1,h2⟩:=r'.val j s' hj;exact#[w,by rw[qBY (λz=>hn z.symm)];exact h1,h2]
 .rcases Ay hj with⟨rfl,e1⟩|⟨hn,hj⟩
  .rcases Ay ha with⟨_,e2⟩|⟨hn,_⟩
   .exact(N3 r.ext f) xs a e1.symm e2.symm
   .exact absurd rfl hn
  .rcases Ay ha with⟨e2,_⟩|⟨_,ha⟩
   .exact absurd e2 hn
   .exact r'.own j xs a hj ha
 .
  have fresh:∀(m:Nat)(t:S),τ[m]? = some (some t)->t.isL=true->s.own=true->v=.ref a->σ[m]?≠some (some (.ref a)):=by
   intro m t hm ht ho hv hσ;obtain⟨w,h1,h2⟩:=r.val m t hm;rw[hσ]at h1;cases h1;cases s with
   |d _=>cases ho
   |r _=>cases ho
   |l ys=>
    obtain⟨f1,f2,_⟩:=f ys a rfl hv;cases t with
    |d _=>cases ht
    |l zs=>
     obtain⟨c,vs,e1,h3,_⟩:=h2;cases e1;rw[f1]at h3;cases h3
    |r zs=>
     obtain⟨c,vs,e1,h3,_⟩:=h2;cases e1;rcases h3 with (h3|⟨o,h3⟩)|⟨o,its,n,h3,_⟩
     .rw[f1]at h3;cases h3
     .rw[f1]at h3;cases h3
     .rw[f2]at h3;cases h3
  intro hσk;rcases Ay hj with⟨rfl,e1⟩|⟨hn,hj'⟩
  .rcases Ay ha with⟨_,e2⟩|⟨hn,_⟩
   .rcases Ay hk with⟨e3,_⟩|⟨_,hk⟩
    .exact hjk e3.symm
    .rcases Ay hσk with⟨e4,_⟩|⟨_,hσk⟩
     .exact hjk e4.symm
     .exact fresh k s' hk hs (by rw[<-e1];rfl) e2.symm hσk
   .exact absurd rfl hn
  .rcases Ay ha with⟨e2,_⟩|⟨_,ha'⟩
   .exact absurd e2 hn
   .rcases Ay hk with⟨e3,e4⟩|⟨hkn,hk'⟩
    .rcases Ay hσk with⟨_,e5⟩|⟨hx,_⟩
     .subst e4;exact fresh j (.l xs) hj' rfl (by rw[<-hr];exact hs) e5.symm ha'
     .exact absurd e3 hx
    .rcases Ay hσk with⟨e5,_⟩|⟨_,hσk'⟩
     .exact absurd e5 hkn
     .exact r.sep j k xs s' a hjk hj' hk' hs ha' hσk'
def Rep.freeze {i:Nat}{xs:List D}(r:Rep X b τ σ p)(h:τ[i]? = some (some s))(e:s.share=.r xs):Rep X b (τ.set i (some (.r xs))) σ p:=by
 have hs:s.isL=true:=by
  cases s with
  |d _=>cases e
  |l _=>rfl
  |r _=>rfl
 refine#[by simp[r.len],r.ext,λj s' hj=>?_,λj ys a hj ha=>?_,λj k ys s' a hjk hj hk hs' ha=>?_,r.top,r.pin]
 .rcases Ay hj with⟨rfl,rfl⟩|⟨hn,hj⟩
  .obtain⟨v,h1,h2⟩:=r.val j s h;exact#[v,h1,by rw[<-e];exact h2.share]
  .exact r.val j s' hj
 .rcases Ay hj with⟨rfl,e1⟩|⟨hn,hj⟩
  .cases e1
  .exact r.own j ys a hj ha
 .rcases Ay hj with⟨rfl,e1⟩|⟨hn,hj'⟩
  .cases e1
  .rcases Ay hk with⟨rfl,e4⟩|⟨hkn,hk'⟩
   .exact r.sep j k ys s a hjk hj' h hs ha
   .exact r.sep j k ys s' a hjk hj' hk' hs' ha
def Rep.data {i:Nat}{xs:List D}{h z:Hp}(r:Rep X b τ σ #[h,z])(hi:τ[i]? = some (some (.l xs))):∃z',Rep X b (τ.set i (some (.d (.lst xs)))) σ #[h,z']:=by
 obtain⟨v,h1,a,vs,rfl,h2,h3⟩:=r.val i _ hi;obtain⟨o1,o2,o3⟩:=r.own i xs a hi h1;have zz:Bp z (upd z a (.lst vs)):=Cg o3 _;refine#[upd z a (.lst vs),by simp[r.len],r.ext.freeze o1 o3 h2,λj s' hj=>?_,λj ys c hj hc=>?_,λj k ys s' c hjk hj hk hs' hc=>?_,r.top,r.pin]
 .rcases Ay hj with⟨rfl,rfl⟩|⟨hn,hj⟩
  .have h3':=h3.mono zz;exact#[.ref a,h1,Is.lst As h3'.1 h3'.2]
  .obtain⟨w,w1,w2⟩:=r.val j s' hj;refine#[w,w1,?_];cases s' with
   |d x=>exact Is.mono zz w2
   |l zs=>obtain⟨c,us,e1,q1,q2⟩:=w2;exact#[c,us,e1,q1,q2.mono zz]
   |r zs=>obtain⟨c,us,e1,q1,q2⟩:=w2;exact#[c,us,e1,q1,q2.mono zz]
 .rcases Ay hj with⟨rfl,e1⟩|⟨hn,hj'⟩
  .cases e1
  .obtain⟨q1,q2,q3⟩:=r.own j ys c hj' hc;refine#[q1,q2,?_];show upd z a (.lst vs) c=none;have hca:c≠a:=by
    rintro rfl;exact r.sep j i ys (.l xs) c hn hj' hi rfl hc h1
   rw[An hca];exact q3
 .rcases Ay hj with⟨rfl,e1⟩|⟨hn,hj'⟩
  .cases e1
  .rcases Ay hk with⟨rfl,e4⟩|⟨hkn,hk'⟩
   .subst e4;cases hs'
   .exact r.sep j k ys s' c hjk hj' hk' hs' hc
open Classical in
noncomputable def Nb (τ:Tau)(σ:St)(H:Hp):Hp:=λb=>if ∃(i:Nat)(xs:List D),τ[i]? = some (some (S.l xs))/\σ[i]? = some (some (V.ref b)) then none else H b
def WE {H:Hp}:Bp (Nb τ σ H) H:=λb o h=>by
 unfold Nb at h;split at h
 .cases h
 .exact h
def Iz {H:Hp}{c:Addr}(h:∀(i:Nat)(xs:List D),τ[i]? = some (some (S.l xs))->σ[i]?≠some (some (V.ref c))):Nb τ σ H c=H c:=by
 unfold Nb;rw[qC5];rintro⟨i,xs,h1,h2⟩;exact h i xs h1 h2
def Rep.baseB (r:Rep X b τ σ p):Bp b.h (Nb τ σ p.h):=λc o h=>by
 rw[Iz]
 .exact r.ext.hh c o h
 .intro i xs h1 h2;have:=(r.own i xs c h1 h2).1;rw[h]at this;cases this
def Rep.inB (r:Rep X b τ σ p):Rep X #[Nb τ σ p.h,p.z] τ σ p:=
 #[r.len,#[WE,Bp.refl _,r.ext.sub,λ_ _ e=>.inl e],r.val,λi xs a h1 h2=>#[by show Nb τ σ p.h a=none;unfold Nb;rw[qC6 #[i,xs,h1,h2]],(r.own i xs a h1 h2).2],r.sep,λh=>(r.top h).trans r.baseB,r.pin]
structure LeB (X:Cx)(b b':HZ):Prop where
 hh:Bp b.h b'.h
 zz:Bp b.z b'.z
 new:∀a o,b'.z a=some o->b.z a=some o\/b.h a=none
 top:X.lent=none->Bp X.H₀ b.h
def LeB.ext (e:LeB X b b')(f:Ext b' p):Ext b p:=#[e.hh.trans f.hh,e.zz.trans f.zz,f.sub,λa o h=>by
 rcases f.new a o h with x|x
 .exact e.new a o x
 .exact .inr (e.hh.free x)]
def Rep.outB (e:LeB X b b')(r:Rep X b' τ σ p):Rep X b τ σ p:=
 #[r.len,e.ext r.ext,r.val,λi xs a h1 h2=>#[e.hh.free (r.own i xs a h1 h2).1,(r.own i xs a h1 h2).2],r.sep,e.top,r.pin]
def Rep.leB (r:Rep X b τ σ p):LeB X b #[Nb τ σ p.h,p.z]:=#[r.baseB,r.ext.zz,r.ext.new,r.top]
def Rep.leR (r:Rep X b τ σ p):LeB X b b:=#[Bp.refl _,Bp.refl _,λ_ _ e=>.inl e,r.top]
end
abbrev TE3:=Tau->(S->Prop)->Prop
abbrev TT3:=Tau->(Bool->Prop)->Prop
abbrev TA3:=Tau->(List S->Prop)->Prop
structure Md where
 nx:Tau->Prop
 rt:S->Prop
 bk:Tau->Prop:=λ_=>False
 ct:Tau->Prop:=λ_=>False
abbrev TS3:=Md->Tau->Prop
def Args (K:W.Frag)(p:HZ)(vs:List V)(ss:List S):Prop:=
 ↥vs=↥ss/\∀(i:Nat)(v:V)(s:S),vs[i]? = some v->ss[i]? = some s->IsS K p v s/\s.own=false
def FE (X:Cx)(t:TE3):TE:=λσ H Q=>∃B z τ R,Rep X B τ σ #[H,z]/\t τ R/\∀s v q,Ext #[H,z] q->IsS X.K q v s->Fr3 X.K #[H,z] q v s->R s->Q v q.h
def FT (X:Cx)(t:TT3):TT:=λσ H Q=>∃B z τ R,Rep X B τ σ #[H,z]/\t τ R/\∀c q,Ext #[H,z] q->R c->Q c q.h
def FA (X:Cx)(t:TA3):TA:=λσ H Q=>∃B z τ R,Rep X B τ σ #[H,z]/\t τ R/\∀ss vs q,Ext #[H,z] q->Args X.K q vs ss->R ss->Q vs q.h
structure UO (X:Cx)(B:HZ)(D3:Md)(D2:Nu):Prop where
 nx:∀τ σ p,Rep X B τ σ p->D3.nx τ->D2.nx σ p.h
 bk:∀τ σ p,Rep X B τ σ p->D3.bk τ->D2.bk σ p.h
 ct:∀τ σ p,Rep X B τ σ p->D3.ct τ->D2.ct σ p.h
 rt:∀s v q,Ext B q->IsS X.K q v s->Fr3 X.K B q v s->D3.rt s->D2.rt v q.h
def FS (X:Cx)(t:TS3):TS:=λD2 σ H=>∃B z τ D3,Rep X B τ σ #[H,z]/\t D3 τ/\UO X B D3 D2
structure PE3 (X:Cx)(e:Expr)(t:TE3):Prop where
 out:PE X e (FE X t)
structure PT3 (X:Cx)(e:Expr)(t:TT3):Prop where
 out:PT X e (FT X t)
structure PW3 (X:Cx)(e:Expr)(t:TT3):Prop where
 out:PW X e (FT X t)
structure PA3 (X:Cx)(es:List Expr)(t:TA3):Prop where
 out:PA X es (FA X t)
structure PS3 (X:Cx)(st:Stmt)(t:TS3):Prop where
 out:PS X st (FS X t)
structure Dp (X:Cx)(st:List Stmt)(t:TS3):Prop where
 out:PSs X st (FS X t)
def PW3.pt {X:Cx}{e:Expr}{t:TT3}(h:PW3 X e t):PT3 X e t:=#[h.out _]
section
variable {X:Cx}{e a b:Expr}{ta tb:TE3}{pos:Pos}
def BL {t t':TE}(h:PE X e t)(f:∀σ H Q,t' σ H Q->t σ H Q):PE X e t':=λpins s σ H Q I q=>h pins s σ H Q I (f σ H Q q)
def OP {t t':TT}(h:PT X e t)(f:∀σ H Q,t' σ H Q->t σ H Q):PT X e t':=λpins s σ H Q I q=>h pins s σ H Q I (f σ H Q q)
def U2 {t t':TT}(h:PW X e t)(f:∀σ H Q,t' σ H Q->t σ H Q):PW X e t':=λwh pins s σ H Q I q=>h wh pins s σ H Q I (f σ H Q q)
def UZ {es:List Expr}{t t':TA}(h:PA X es t)(f:∀σ H Q,t' σ H Q->t σ H Q):PA X es t':=λpos pins s σ H Q I q=>h pos pins s σ H Q I (f σ H Q q)
def C4 {st:Stmt}{t t':TS}(h:PS X st t)(f:∀D σ H,t' D σ H->t D σ H):PS X st t':=λpins s σ H D I q=>h pins s σ H D I (f D σ H q)
def Hu {st:List Stmt}{t t':TS}(h:PSs X st t)(f:∀D σ H,t' D σ H->t D σ H):PSs X st t':=λpins s σ H D I q=>h pins s σ H D I (f D σ H q)
def Zh (i:Nat):TE3:=λτ R=>match τ[i]? with
 |some (some s)=>R s.share
 |_=>False
def vC (d:D):TE3:=λ_ R=>R (.d d)
def Th {K:W.Frag}{p q:HZ}{v:V}{s:S}:Fr3 K p q v s.share:=by
 intro xs a h;cases s<;>cases h
def FP {K:W.Frag}{p q:HZ}{v:V}{d:D}:Fr3 K p q v (.d d):=by
 intro xs a h;cases h
def ZS {i:Nat}{x:Str}(h:PE X (.Name x pos) (O1 i)):PE3 X (.Name x pos) (Zh i):=by
 refine#[?_];refine BL h λσ H Q hh9=>?_;obtain⟨B,z,τ,R,r,ht,q⟩:=hh9;unfold Zh at ht;split at ht
 .rename_i s hs;obtain⟨v,h1,h2⟩:=r.val i s hs;exact#[v,h1,q _ v #[H,z] (Ext.refl r.ext.sub) h2.share Th ht]
 .exact ht.elim
def L7 {v:V}{d:D}(h:PE X e (tC v))(hd:∀K H,Is K H v d):PE3 X e (vC d):=#[BL h λσ H Q hh=>by obtain⟨B,z,τ,R,r,ht,q⟩:=hh;exact q (.d d) v #[H,z] (Ext.refl r.ext.sub) (hd _ _) FP ht]
def Ad {i j}:PE3 X (.Constant (.int i) j pos) (vC (.int i)):=L7 Yu λ_ _=>.int i
def HR {i j}:PE3 X (.Constant (.bool i) j pos) (vC (.bl i)):=L7 Y2 λ_ _=>.bl i
def LI {j}:PE3 X (.Constant .none j pos) (vC .non):=L7 XB λ_ _=>.non
def EN {x j}:PE3 X (.Constant (.str x) j pos) (vC (.str x)):=L7 Xi λ_ _=>.str x
abbrev R3:=D->D->(D->Prop)->Prop
def lft (K:W.Frag)(r3:R3):R2:=λx y H Q=>∃z dx dy R,Bp z H/\Is K z x dx/\Is K z y dy/\r3 dx dy R/\∀d v q,Ext #[H,z] q->Is K q.z v d->R d->Q v q.h
def IF (X:Cx)(f:Value->Value->Sem Value)(r3:R3):Prop:=OpR X f (lft X.K r3)
def EW {f:Value->Value->Sem Value}{r r':R2}(h:OpR X f r)(i:∀x y H Q,r' x y H Q->r x y H Q):OpR X f r':=λpins s σ H x y v u Q I rx ry q=>h pins s σ H x y v u Q I rx ry (i x y H Q q)
def oI (C:Int->Int->Prop)(g:Int->Int->Int):R3:=λdx dy R=>match dx,dy with
 |.int i,.int j=>C i j/\R (.int (g i j))
 |_,_=>False
def oI0 (g:Int->Int->Int):R3:=λdx dy R=>match dx,dy with
 |.int i,.int j=>R (.int (g i j))
 |_,_=>False
def oB0 (g:Int->Int->Bool):R3:=λdx dy R=>match dx,dy with
 |.int i,.int j=>R (.bl (g i j))
 |_,_=>False
def Tf {f:Value->Value->Sem Value}{C:Int->Int->Prop}{g:Int->Int->Int}(h:OpR X f (rI C λi j=>.int (g i j))):IF X f (oI C g):=
 EW h λx y H Q hh=>by
  obtain⟨z,dx,dy,R,hz,hx,hy,h3,q⟩:=hh;unfold oI at h3;split at h3
  .rename_i i j;exact#[i,j,hx.int_inv,hy.int_inv,h3.1,q _ _ #[H,z] (Ext.refl hz) (.int _) h3.2]
  .exact h3.elim
def U8 {f:Value->Value->Sem Value}{g:Int->Int->Int}(h:OpR X f (rI0 λi j=>.int (g i j))):IF X f (oI0 g):=
 EW h λx y H Q hh=>by
  obtain⟨z,dx,dy,R,hz,hx,hy,h3,q⟩:=hh;unfold oI0 at h3;split at h3
  .rename_i i j;exact#[i,j,hx.int_inv,hy.int_inv,q _ _ #[H,z] (Ext.refl hz) (.int _) h3]
  .exact h3.elim
def V9 {f:Value->Value->Sem Value}{g:Int->Int->Bool}(h:OpR X f (rI0 λi j=>.bl (g i j))):IF X f (oB0 g):=
 EW h λx y H Q hh=>by
  obtain⟨z,dx,dy,R,hz,hx,hy,h3,q⟩:=hh;unfold oB0 at h3;split at h3
  .rename_i i j;exact#[i,j,hx.int_inv,hy.int_inv,q _ _ #[H,z] (Ext.refl hz) (.bl _) h3]
  .exact h3.elim
def VE:OpR X (binaryOp .Mult) (rI IntMulOk λi j=>.int (i*j)):=opI λ_ _ _ _ _ _ _ hc q=>mul_int q hc
def CDv (i j:Int):Prop:=j≠0/\Builtin.divisionGoesByPylong i j=false
def S9:OpR X (binaryOp .FloorDiv) (rI CDv λi j=>.int (i.fdiv j)):=opI λ_ _ _ _ _ _ _ hc q=>floordiv_int hc.1 q (.inl hc.2)
def dD:R3:=λdx dy R=>match dx,dy with
 |.int i,.int j=>R (.int (i+j))
 |_,_=>False
def Be:IF X (binaryOp .Add) dD:=U8 UK
def cW:R3:=λdx dy R=>match dx,dy with
 |.int i,.int j=>R (.int (i-j))
 |_,_=>False
def C6:IF X (binaryOp .Sub) cW:=U8 Za
def eE:R3:=λdx dy R=>match dx,dy with
 |.int i,.int j=>IntMulOk i j/\R (.int (i*j))
 |_,_=>False
def AD:IF X (binaryOp .Mult) eE:=Tf VE
def Zw:R3:=λdx dy R=>match dx,dy with
 |.int i,.int j=>CDv i j/\R (.int (i.fdiv j))
 |_,_=>False
def BU:IF X (binaryOp .FloorDiv) Zw:=Tf S9
def cH:R3:=λdx dy R=>match dx,dy with
 |.int i,.int j=>j≠0/\R (.int (i.fmod j))
 |_,_=>False
def B8:IF X (binaryOp .Mod) cH:=Tf Vy
def dC:R3:=λdx dy R=>match dx,dy with
 |.int i,.int j=>bK i j/\R (.int (i^j.toNat))
 |_,_=>False
def PB:IF X (binaryOp .Pow) dC:=Tf Xu
def oLt:R3:=λdx dy R=>match dx,dy with
 |.int i,.int j=>R (.bl (decide (i<j)))
 |_,_=>False
def J5:IF X (compareOp .Lt) oLt:=V9 ZQ
def oLe:R3:=λdx dy R=>match dx,dy with
 |.int i,.int j=>R (.bl (decide (i<=j)))
 |_,_=>False
def dA:IF X (compareOp .LtE) oLe:=V9 aS
def oGt:R3:=λdx dy R=>match dx,dy with
 |.int i,.int j=>R (.bl (decide (j<i)))
 |_,_=>False
def Vj:IF X (compareOp .Gt) oGt:=V9 aJ
def oEq:R3:=λdx dy R=>match dx,dy with
 |.int i,.int j=>R (.bl (decide (i=j)))
 |.bl i,.bl j=>R (.bl (decide (i=j)))
 |.str i,.str j=>R (.bl (decide (i=j)))
 |_,_=>False
def oNe:R3:=λdx dy R=>match dx,dy with
 |.int i,.int j=>R (.bl (!decide (i=j)))
 |.bl i,.bl j=>R (.bl (!decide (i=j)))
 |.str i,.str j=>R (.bl (!decide (i=j)))
 |_,_=>False
def O4 {α β:Type}{i j:α}{f:α->β} [DecidableEq α] [DecidableEq β](h:∀a b,f a=f b->a=b):decide (f i=f j)=decide (i=j):=by
 by_cases e:i=j
 .rw[qC7 e,qC7 (by rw[e])]
 .rw[qC8 e,qC8 λz=>e (h _ _ z)]
def Gy:IF X (compareOp .Eq) oEq:=
 EW aM λx y H Q hh=>by
  obtain⟨z,dx,dy,R,hz,hx,hy,h3,q⟩:=hh;unfold oEq at h3;split at h3
  .rename_i i j;cases hx.int_inv;cases hy.int_inv;exact#[rfl,by rw[O4 (f:=V.int) (λ_ _ z=>by cases z;rfl)];exact q _ _ #[H,z] (Ext.refl hz) (.bl _) h3]
  .rename_i i j;cases hx.bl_inv;cases hy.bl_inv;exact#[rfl,by rw[O4 (f:=V.bl) (λ_ _ z=>by cases z;rfl)];exact q _ _ #[H,z] (Ext.refl hz) (.bl _) h3]
  .rename_i i j;cases hx.str_inv;cases hy.str_inv;exact#[rfl,by rw[O4 (f:=V.str) (λ_ _ z=>by cases z;rfl)];exact q _ _ #[H,z] (Ext.refl hz) (.bl _) h3]
  .exact h3.elim
def WW:IF X (compareOp .NotEq) oNe:=
 EW Zs λx y H Q hh=>by
  obtain⟨z,dx,dy,R,hz,hx,hy,h3,q⟩:=hh;unfold oNe at h3;split at h3
  .rename_i i j;cases hx.int_inv;cases hy.int_inv;exact#[rfl,by rw[O4 (f:=V.int) (λ_ _ z=>by cases z;rfl)];exact q _ _ #[H,z] (Ext.refl hz) (.bl _) h3]
  .rename_i i j;cases hx.bl_inv;cases hy.bl_inv;exact#[rfl,by rw[O4 (f:=V.bl) (λ_ _ z=>by cases z;rfl)];exact q _ _ #[H,z] (Ext.refl hz) (.bl _) h3]
  .rename_i i j;cases hx.str_inv;cases hy.str_inv;exact#[rfl,by rw[O4 (f:=V.str) (λ_ _ z=>by cases z;rfl)];exact q _ _ #[H,z] (Ext.refl hz) (.bl _) h3]
  .exact h3.elim
def dd (x:S)(k:D->Prop):Prop:=match x with
 |.d d=>k d
 |_=>False
def vOp (r3:R3)(ta tb:TE3):TE3:=λτ R=>ta τ λx=>tb τ λy=>dd x λdx=>dd y λdy=>r3 dx dy λd=>R (.d d)
def FW {x:S}{k:D->Prop}(h:dd x k):∃d,x=.d d/\k d:=by
 cases x with
 |d d=>exact#[d,rfl,h]
 |l _=>exact h.elim
 |r _=>exact h.elim
def two {r3:R3}{σ:St}{H:Hp}{Q:VK}(h:FE X (vOp r3 ta tb) σ H Q):tOp (lft X.K r3) (FE X ta) (FE X tb) σ H Q:=by
 obtain⟨B,z,τ,R,r,ht,q⟩:=h;refine#[B,_,τ,_,r,ht,λx v H1 e1 i1 f1 h1=>?_];refine#[B,_,τ,_,r.mono e1,h1,λy u H2 e2 i2 f2 h2=>?_];obtain⟨dx,rfl,h4⟩:=FW h2;obtain⟨dy,rfl,h5⟩:=FW h4;exact#[H2.z,dx,dy,_,e2.sub,Is.mono e2.zz i1,i2,h5,λd w H3 e3 i3 h3=>q (.d d) w H3 (e1.trans (e2.trans e3)) i3 FP h3]
def Al {op:Operator}{r3:R3}(ho:IF X (binaryOp op) r3)(ha:PE3 X a ta)(hb:PE3 X b tb):PE3 X (.BinOp a op b pos) (vOp r3 ta tb):=#[BL (Y5 ho ha.out hb.out) λ_ _ _ h=>two h]
def HC {op:CmpOp}{r3:R3}(ho:IF X (compareOp op) r3)(ha:PE3 X a ta)(hb:PE3 X b tb)(hm:behindInMarks op b=false):PE3 X (.Compare a [op] [b] pos) (vOp r3 ta tb):=#[BL (Wn ho ha.out hb.out hm) λ_ _ _ h=>two h]
def bb (x:S)(k:Bool->Prop):Prop:=match x with
 |.d (.bl c)=>k c
 |_=>False
def OE {x:S}{k:Bool->Prop}(h:bb x k):∃c,x=.d (.bl c)/\k c:=by
 unfold bb at h;split at h
 .exact#[_,rfl,h]
 .exact h.elim
def VV (t:TE3):TT3:=λτ R=>t τ λx=>bb x R
def Zo {op:CmpOp}{r3:R3}(ho:IF X (compareOp op) r3)(ha:PE3 X a ta)(hb:PE3 X b tb)(hm:behindInMarks op b=false):PT3 X (.Compare a [op] [b] pos) (VV (vOp r3 ta tb)):=#[OP (VB ho ha.out hb.out hm) λσ H Q hh=>by obtain⟨B,z,τ,R,r,ht,q⟩:=hh;exact two #[B,_,τ,_,r,ht,λs v H' e i f h=>by
 obtain⟨c,rfl,h⟩:=OE h;cases Is.bl_inv i;exact#[c,rfl,q c H' e h]]]
def AN {t:TE3}(h:PE3 X e t)(he:∀whole,isTrue e X.env whole=(do let v <-whole;standAt e.pos;holding [v] (truthy v)):=by intro _;rfl):PT3 X e (VV t):=#[OP (X7 h.out he) λσ H Q hh=>by obtain⟨B,z,τ,R,r,ht,q⟩:=hh;exact#[B,_,τ,_,r,ht,λs v H' e i f hz=>by
 obtain⟨c,rfl,hz⟩:=OE hz;cases Is.bl_inv i;exact#[c,rfl,q c H' e hz]]]
def dQ (ta:TE3):TE3:=λτ R=>ta τ λx=>match x with
 |.d (.int i)=>R (.d (.int (-i)))
 |_=>False
def EM (ha:PE3 X a ta):PE3 X (.UnaryOp .USub a pos) (dQ ta):=#[BL (aN YB ha.out) λσ H Q hh=>by obtain⟨B,z,τ,R,r,ht,q⟩:=hh;exact#[B,_,τ,_,r,ht,λs v H' e i f h=>by
 split at h
 .rename_i i';exact#[i',Is.int_inv i,q (.d _) _ H' e (Is.int _) FP h]
 .exact h.elim]]
variable {tA tB':TT3}{rest:List Expr}
def eH (t u:TT3):TT3:=λτ R=>t τ λc=>if c=true then u τ R else R false
def wOr (t u:TT3):TT3:=λτ R=>t τ λc=>if c=true then R true else u τ R
def cZ (t:TT3):TT3:=λτ R=>t τ λc=>R (!c)
def F7 (ha:PT3 X a tA):PW3 X (.BoolOp .And [a] pos) tA:=#[Wy ha.out]
def Fg (ha:PT3 X a tA):PW3 X (.BoolOp .Or [a] pos) tA:=#[Yn ha.out]
def Kd (ha:PT3 X a tA)(hb:PW3 X (.BoolOp .And (b::rest) pos) tB'):PW3 X (.BoolOp .And (a::b::rest) pos) (eH tA tB'):=#[U2 (XE ha.out hb.out) λσ H Q hh=>by obtain⟨B,z,τ,R,r,ht,q⟩:=hh;exact#[B,_,τ,_,r,ht,λc H1 e h=>by
 cases c with
 |true=>rw[qC6 rfl]at h ⊢;exact#[B,_,τ,R,r.mono e,h,λd H2 e2 h2=>q d H2 (e.trans e2) h2]
 |false=>rw[qC5 qAq]at h ⊢;exact q _ _ e h]]
def Ji (ha:PT3 X a tA)(hb:PW3 X (.BoolOp .Or (b::rest) pos) tB'):PW3 X (.BoolOp .Or (a::b::rest) pos) (wOr tA tB'):=#[U2 (ZH ha.out hb.out) λσ H Q hh=>by obtain⟨B,z,τ,R,r,ht,q⟩:=hh;exact#[B,_,τ,_,r,ht,λc H1 e h=>by
 cases c with
 |false=>rw[qC5 qAq]at h ⊢;exact#[B,_,τ,R,r.mono e,h,λd H2 e2 h2=>q d H2 (e.trans e2) h2]
 |true=>rw[qC6 rfl]at h ⊢;exact q _ _ e h]]
def w_not (ha:PT3 X a tA):PT3 X (.UnaryOp .Not a pos) (cZ tA):=#[OP (YL ha.out) λσ H Q hh=>by obtain⟨B,z,τ,R,r,ht,q⟩:=hh;exact#[B,_,τ,_,r,ht,λc H1 e h=>q _ _ e h]]
def dX (ta tb:TE3):TE3:=λτ R=>ta τ λx=>bb x λc=>if c=true then tb τ R else R (.d (.bl false))
def dY (ta:TE3):TE3:=λτ R=>ta τ λx=>bb x λc=>R (.d (.bl (!c)))
def Uj {op}{t:TE3}(h:PE3 X a t):PE3 X (.BoolOp op [a] pos) t:=#[Xn h.out]
def PH (ha:PE3 X a ta)(hb:PE3 X (.BoolOp .And (b::rest) pos) tb):PE3 X (.BoolOp .And (a::b::rest) pos) (dX ta tb):=#[BL (YN ha.out hb.out) λσ H Q hh=>by obtain⟨B,z,τ,R,r,ht,q⟩:=hh;exact#[B,_,τ,_,r,ht,λs v H1 e i f h=>by
 obtain⟨c,rfl,h'⟩:=OE h;cases Is.bl_inv i;refine#[c,rfl,?_];cases c with
 |true=>rw[qC6 rfl]at h' ⊢;exact#[B,_,τ,R,r.mono e,h',λs2 v2 H2 e2 i2 f2 h2=>q _ _ _ (e.trans e2) i2 (N3 e f2) h2]
 |false=>rw[qC5 qAq]at h' ⊢;exact q (.d _) _ _ e (Is.bl _) FP h']]
def TC (ha:PE3 X a ta):PE3 X (.UnaryOp .Not a pos) (dY ta):=#[BL (Zc ha.out) λσ H Q hh=>by obtain⟨B,z,τ,R,r,ht,q⟩:=hh;exact#[B,_,τ,_,r,ht,λs v H1 e i f h=>by
 obtain⟨c,rfl,h'⟩:=OE h;cases Is.bl_inv i;exact#[c,rfl,q (.d _) _ _ e (Is.bl _) FP h']]]
def items:S->Option (List D)
 |.d (.tup xs)=>some xs
 |.d (.lst xs)=>some xs
 |.l xs=>some xs
 |.r xs=>some xs
 |_=>none
def vIx (ta tb:TE3):TE3:=λτ R=>ta τ λx=>tb τ λy=>match items x,y with
 |some xs,.d (.int i)=>match atI xs i with
  |some d=>R (.d d)
  |none=>False
 |_,_=>False
def Lr {K:W.Frag}{H:Hp}{vs:List V}{xs:List D}{i:Int}{d:D}(h:Iss K H vs xs)(e:atI xs i=some d):∃v,atI vs i=some v/\Is K H v d:=by
 unfold atI at e ⊢;rw[h.1];cases q:ixN ↥xs i with
 |none=>rw[q]at e;cases e
 |some j=>
  rw[q]at e;have e':xs[j]? = some d:=e;have hj:=(qAe.mp e').1;have hl:j<↥vs:=by rw[h.1];exact hj
  have hv:vs[j]? = some vs[j]:=qAb hl;exact#[vs[j],hv,h.2 j _ _ hv e']
def A4 (ha:PE3 X a ta)(hb:PE3 X b tb)(hs:Sl b:=by exact λ_ _=>rfl):PE3 X (.Subscript a b pos) (vIx ta tb):=#[BL (aV (Vu.or YF) ha.out hb.out hs) λσ H Q hh=>by
 obtain⟨B,z,τ,R,r,ht,q⟩:=hh;refine#[B,_,τ,_,r,ht,λx v H1 e1 i1 f1 h1=>?_];refine#[B,_,τ,_,r.mono e1,h1,λy u H2 e2 i2 f2 h2=>?_];split at h2
 .rename_i xs i hx;split at h2
  .rename_i d hd;cases Is.int_inv i2;have i1':=IsS.mono e2 i1;cases x with
   |d z=>
    cases z with
    |tup zs=>
     cases hx;obtain⟨p,vs,rfl,h3,h4⟩:=Is.tup_inv i1';obtain⟨w,hw,iw⟩:=Lr h4 hd;exact .inr #[p,vs,i,w,rfl,rfl,SqT.same e2.sub h3,hw,q (.d _) _ _ (e1.trans e2) iw FP h2]
    |lst zs=>
     cases hx;obtain⟨p,vs,rfl,h3,h4⟩:=Is.lst_inv i1';obtain⟨w,hw,iw⟩:=Lr h4 hd;exact .inl #[p,vs,i,w,rfl,rfl,e2.sub.seq h3,hw,q (.d _) _ _ (e1.trans e2) iw FP h2]
    |_=>cases hx
   |l zs=>
    cases hx;obtain⟨p,vs,rfl,h3,h4⟩:=i1';obtain⟨w,hw,iw⟩:=Lr h4 hd;exact .inl #[p,vs,i,w,rfl,rfl,SqL.of h3,hw,q (.d _) _ _ (e1.trans e2) iw FP h2]
   |r zs=>
    cases hx;obtain⟨p,vs,rfl,h3,h4⟩:=i1';obtain⟨w,hw,iw⟩:=Lr h4 hd;exact .inl #[p,vs,i,w,rfl,rfl,h3,hw,q (.d _) _ _ (e1.trans e2) iw FP h2]
  .exact h2.elim
 .exact h2.elim]
variable {es:List Expr}{tr:TA3}{te:TE3}
def Zf:TA3:=λ_ R=>R []
def S.arg:S->S
 |.l xs=>.d (.lst xs)
 |s=>s
def Qm (ta:TE3)(tr:TA3):TA3:=λτ R=>ta τ λx=>tr τ λxs=>R (x.arg::xs)
def Nk:PA3 X [] Zf:=#[UZ Br λσ H Q hh=>by obtain⟨B,z,τ,R,r,ht,q⟩:=hh;exact q [] [] #[H,z] (Ext.refl r.ext.sub) #[rfl,λi v s h=>by simp at h] ht]
def Qu (s:S):s.arg.own=false:=by cases s<;>rfl
def Fm {K:W.Frag}{p q:HZ}{v:V}{s:S}(e:Ext p q)(i:IsS K q v s)(f:Fr3 K p q v s):∃z',Ext p #[q.h,z']/\IsS K #[q.h,z'] v s.arg:=by
 cases s with
 |d x=>exact#[q.z,e,i]
 |r xs=>exact#[q.z,e,i]
 |l xs=>
  obtain⟨a,vs,rfl,h1,h2⟩:=i;obtain⟨f1,f2,f3⟩:=f xs a rfl rfl;have h3:=h2.mono (Cg f3 (.lst vs));exact#[upd q.z a (.lst vs),e.freeze f1 f3 h1,Is.lst As h3.1 h3.2]
def Au (ha:PE3 X e te)(hr:PA3 X es tr)(hs:starEach (e::es) X.env=(false,eval e X.env)::starEach es X.env:=by exact Cm rfl):PA3 X (e::es) (Qm te tr):=
 #[UZ (AM ha.out hr.out hs) λσ H Q hh=>by
  obtain⟨B,z,τ,R,r,ht,q⟩:=hh;refine#[B,_,τ,_,r,ht,λx v H1 e1 i1 f1 h1=>?_];obtain⟨z1,e1',i1'⟩:=Fm e1 i1 f1;refine#[B,z1,τ,_,r.mono e1',h1,λss vs H2 e2 i2 h2=>?_];refine q _ _ _ (e1'.trans e2) #[by simp[i2.1],λi w s hw hs=>?_] h2;cases i with
  |zero=>
   simp at hw hs;subst hw;subst hs;exact#[IsS.mono e2 i1',Qu x]
  |succ i=>exact i2.2 i w s (by simpa using hw) (by simpa using hs)]
def VT:List S->Option (List D)
 |[]=>some []
 |.d x::r=>(VT r).map (x :: ·)
 |_::_=>none
theorem IJ:∀{ss:List S}{ds:List D},VT ss=some ds->ss=ds.map S.d
 |[],ds,h=>by cases h;rfl
 |.d x::r,ds,h=>by
  unfold VT at h;cases q:VT r with
  |none=>rw[q]at h;cases h
  |some ys=>
   rw[q]at h;cases h;rw[IJ q];rfl
 |.l _::_,_,h=>by cases h
 |.r _::_,_,h=>by cases h
def Lj {K:W.Frag}{p:HZ}{vs:List V}{ds:List D}(h:Args K p vs (ds.map S.d)):Iss K p.z vs ds:=by
 refine#[by simpa using h.1,λi v x h1 h2=>?_];exact(h.2 i v (.d x) h1 (by rw[qAd,h2];rfl)).1
def eP (t:TA3):TE3:=λτ R=>t τ λss=>match VT ss with
 |some ds=>↥ds<=1000/\R (.d (.tup ds))
 |none=>False
def UH {n:Nat}(h:n<=1000):n<=sizeLine:=qBt (R7 h)
def Bb {x1}(h:PA3 X es tr):PE3 X (.Tuple es x1 pos) (eP tr):=
 #[BL (YG h.out) λσ H Q hh=>by obtain⟨B,z,τ,R,r,ht,q⟩:=hh;exact#[B,_,τ,_,r,ht,λss vs H1 e1 i1 h1=>by
  try dsimp only at h1
  split at h1
  .rename_i ds hd;rw[IJ hd]at i1;have j:=Lj i1;refine#[by rw[j.1];exact UH h1.1,λp hp=>?_];have el:=Ext.lay (o:=.tup vs) e1.sub hp;have j':=j.mono (Cg (e1.sub.free hp) (.tup vs));exact q (.d _) _ _ (e1.trans el) (Is.tup (SqT.of As) j'.1 j'.2) FP h1.2
  .exact h1.elim]]
def W4 {t:TA}(h:PA X es t):PE X (.List es pos) (λσ H Q=>t σ H λxs H1=>↥xs<=sizeLine/\∀p,H1 p=none->X.K.lookup p=none->Q (.ref p) (upd H1 p (.lst xs))):=by
 intro pins s σ H Q I hq;refine wpAny_List_spliced (thn (h pos pins s σ H _ I hq) λus s1 #[xs,H1,I1,r,z,q]=>#[by rw[<-↥r];exact z,?_]);have hf:H1 s1.heap.objs.size=none:=I1.hok.fresh (qAg _);have hk:X.K.lookup s1.heap.objs.size=none:=by
  cases e:X.K.lookup s1.heap.objs.size with
  |none=>rfl
  |some o=>exact absurd (qAj (I1.kIn _ _ e)) (qAY _)
 refine#[.ref s1.heap.objs.size,upd H1 s1.heap.objs.size (.lst xs),I1.laid (t':=s1.toks) (λb u e=>qAh _ e) (qAg _) ?_,rfl,q _ hf hk];exact#[z,us,0,r,qAy _ rfl]
def cF (t:TA3):TE3:=λτ R=>t τ λss=>match VT ss with
 |some ds=>↥ds<=1000/\R (.l ds)
 |none=>False
def Gn (h:PA3 X es tr):PE3 X (.List es pos) (cF tr):=
 #[BL (W4 h.out) λσ H Q hh=>by obtain⟨B,z,τ,R,r,ht,q⟩:=hh;exact#[B,_,τ,_,r,ht,λss vs H1 e1 i1 h1=>by
  try dsimp only at h1
  split at h1
  .rename_i ds hd;rw[IJ hd]at i1;have j:=Lj i1;refine#[by rw[j.1];exact UH h1.1,λp hp hk=>q (.l ds) _ #[_,H1.z] (e1.trans (Ext.own e1.sub hp _)) #[p,vs,rfl,As,j] (λxs a _ h2=>?_) h1.2];cases h2;exact#[e1.hh.free hp,hk,e1.sub.free hp]
  .exact h1.elim]]
def vCB (r:List S->(S->Prop)->Prop)(t:TA3):TE3:=λτ R=>t τ λss=>r ss R
def SI (X:Cx)(f:Value)(r3:List S->(S->Prop)->Prop):Prop:=
 Iv X f (λxs H Q=>∃z ss R,Bp z H/\Args X.K #[H,z] xs ss/\r3 ss R/\∀s v q,Ext #[H,z] q->IsS X.K q v s->Fr3 X.K #[H,z] q v s->R s->Q v q.h)
def Mv {f:Value}{r r':List V->Hp->VK->Prop}(h:Iv X f r)(i:∀xs H Q,r' xs H Q->r xs H Q):Iv X f r':=λpins s σ H xs us Q I rs q=>h pins s σ H xs us Q I rs (i xs H Q q)
def La {x:Str}{p:Pos}{id:String}{r:List S->(S->Prop)->Prop}(hc:SI X (.builtin id) r)(hg:Gl X x)(hm:X.mg x=none)(hv:bootBuiltins x=some (.builtin id))(ha:PA3 X (e::es) tr)(hn:x≠"__name__":=by decide)
 (hdb:(x==("__debug__":Str))=false:=by decide)(he:starEach (e::es) X.env=(false,eval e X.env)::starEach es X.env:=by exact Cm rfl)(hpl:(backTo pos (starEach es X.env)).any (·.1)=false:=by exact C7 rfl) :
 PE3 X (.Call (.Name x p) (e::es) [] pos) (vCB r tr):=#[BL (GR hc hg hm hv ha.out hn hdb he hpl) λσ H Q hh=>by obtain⟨B,z,τ,R,r,ht,q⟩:=hh;exact#[B,_,τ,_,r,ht,λss vs H1 e1 i1 h1=>#[H1.z,ss,R,e1.sub,i1,h1,λs v H2 e2 i2 f2 h2=>q s v H2 (e1.trans e2) i2 (N3 e1 f2) h2]]]
def bI {α:Type}{l:List α}(h:↥l=1):∃a,l=[a]:=by
 cases l with
 |nil=>cases h
 |cons a t=>exact#[a,by rw[List.length_eq_zero_iff.mp (Nat.succ.inj h)]]
def eF {α:Type}{l:List α}(h:↥l=2):∃a b,l=[a,b]:=by
 cases l with
 |nil=>cases h
 |cons a t=>
  obtain⟨b,e⟩:=bI (Nat.succ.inj h);exact#[a,b,by rw[e]]
def XU {K:W.Frag}{H:HZ}{vs:List V}{s:S}(h:Args K H vs [s]):∃v,vs=[v]/\IsS K H v s:=by
 obtain⟨hl,hv⟩:=h;obtain⟨v,rfl⟩:=bI hl;exact#[v,rfl,(hv 0 v s rfl rfl).1]
def Xp {K:W.Frag}{H:HZ}{vs:List V}{s t:S}(h:Args K H vs [s,t]):∃v u,vs=[v,u]/\IsS K H v s/\IsS K H u t:=by
 obtain⟨hl,hv⟩:=h;obtain⟨v,u,rfl⟩:=eF hl;exact#[v,u,rfl,(hv 0 v s rfl rfl).1,(hv 1 u t rfl rfl).1]
def bH:List S->(S->Prop)->Prop:=λss R=>match ss with
 |[.d (.int i)]=>R (.d (.int (if i<0 then -i else i)))
 |_=>False
def WX:SI X (.builtin "abs") bH:=
 Mv T2 λxs H Q hh=>by
  obtain⟨z,ss,R,hz,ha,h3,q⟩:=hh;unfold bH at h3;split at h3
  .rename_i i;obtain⟨v,rfl,h⟩:=XU ha;cases Is.int_inv h;exact#[i,rfl,q (.d _) _ #[H,z] (Ext.refl hz) (Is.int _) FP h3]
  .exact h3.elim
def ZJ:List S->(S->Prop)->Prop:=λss R=>match ss with
 |[s]=>match items s with
  |some xs=>R (.d (.int ↥xs))
  |none=>False
 |_=>False
def Zp:SI X (.builtin "len") ZJ:=
 Mv Mr λxs H Q hh=>by
  obtain⟨z,ss,R,hz,ha,h3,q⟩:=hh;unfold ZJ at h3;split at h3
  .rename_i s;split at h3
   .rename_i ys hy;obtain⟨v,rfl,h⟩:=XU ha;cases s with
    |d z=>
     cases z with
     |tup zs=>
      cases hy;obtain⟨p,vs,rfl,h1,h2⟩:=Is.tup_inv h;exact#[p,vs,rfl,.inr (SqT.same hz h1),by rw[h2.1];exact q (.d _) _ #[H,z] (Ext.refl hz) (Is.int _) FP h3]
     |lst zs=>
      cases hy;obtain⟨p,vs,rfl,h1,h2⟩:=Is.lst_inv h;exact#[p,vs,rfl,.inl (hz.seq h1),by rw[h2.1];exact q (.d _) _ #[H,z] (Ext.refl hz) (Is.int _) FP h3]
     |_=>cases hy
    |l zs=>
     cases hy;obtain⟨p,vs,rfl,h1,h2⟩:=h;exact#[p,vs,rfl,.inl (SqL.of h1),by rw[h2.1];exact q (.d _) _ #[H,z] (Ext.refl hz) (Is.int _) FP h3]
    |r zs=>
     cases hy;obtain⟨p,vs,rfl,h1,h2⟩:=h;exact#[p,vs,rfl,.inl h1,by rw[h2.1];exact q (.d _) _ #[H,z] (Ext.refl hz) (Is.int _) FP h3]
   .exact h3.elim
  .exact h3.elim
inductive Ty where
 |int|bool|tuple|str|list
def VJ:Ty->String
 |.int=>"int"
 |.bool=>"bool"
 |.tuple=>"tuple"
 |.str=>"str"
 |.list=>"list"
def ZL:Ty->S->Bool
 |.int,.d (.int _)=>true
 |.int,.d (.bl _)=>true
 |.bool,.d (.bl _)=>true
 |.tuple,.d (.tup _)=>true
 |.str,.d (.str _)=>true
 |.list,.l _=>true
 |.list,.r _=>true
 |.list,.d (.lst _)=>true
 |_,_=>false
def bY:S->Prop
 |.d (.ty _)=>False
 |.d (.ref _)=>False
 |_=>True
def Tc (k:Ty):Iv X (.builtin "isinstance") (λxs H Q=>∃z x s,Bp z H/\xs=[x,.ty (VJ k)]/\IsS X.K #[H,z] x s/\bY s/\Q (.bl (ZL k s)) H):=by
 intro pins s σ H xs us Q I rs h;obtain⟨zz,x,z,hz,rfl,h1,h2,q⟩:=h;obtain⟨v',u',rfl,r1,r2⟩:=Xv rs;cases r2;have fin:∀tk,EP X pins σ Q (.bool (ZL k z)) { s with toks:=tk }:=λtk=>#[.bl _,H,I.tok tk,rfl,q];cases z with
 |d z=>
  cases z with
  |non=>cases Is.non_inv h1;exact G6 I r1 .non (by cases k<;>kernel_rfl) fin
  |bl y=>cases Is.bl_inv h1;exact G6 I r1 (.bl y) (by cases k<;>kernel_rfl) fin
  |int y=>cases Is.int_inv h1;exact G6 I r1 (.int y) (by cases k<;>kernel_rfl) fin
  |str y=>cases Is.str_inv h1;exact G6 I r1 (.str y) (by cases k<;>kernel_rfl) fin
  |ty y=>exact h2.elim
  |ref y=>exact h2.elim
  |lst y=>
   obtain⟨p,vs,rfl,g1,g2⟩:=Is.lst_inv h1;cases r1;obtain⟨its,_,pl,_⟩:=I.list (hz.seq g1);obtain⟨o,n',e1,e2,_⟩:=pl;exact qAS qBU I.kIn #[o,e1,e2] (by cases k<;>kernel_rfl) (λz=>nomatch z) fin
  |tup y=>
   obtain⟨p,vs,rfl,g1,g2⟩:=Is.tup_inv h1;cases r1;obtain⟨its,_,pl,_⟩:=I.tuple (SqT.same hz g1);obtain⟨o,e1,e2,_⟩:=pl;exact qAS W.kitx_tuple I.kIn #[o,e1,e2] (by cases k<;>kernel_rfl) (λz=>nomatch z) fin
 |l y=>
  obtain⟨p,vs,rfl,g1,g2⟩:=h1;cases r1;obtain⟨its,_,pl,_⟩:=I.list (SqL.of g1);obtain⟨o,n',e1,e2,_⟩:=pl;exact qAS qBU I.kIn #[o,e1,e2] (by cases k<;>kernel_rfl) (λz=>nomatch z) fin
 |r y=>
  obtain⟨p,vs,rfl,g1,g2⟩:=h1;cases r1;obtain⟨its,_,pl,_⟩:=I.list g1;obtain⟨o,n',e1,e2,_⟩:=pl;exact qAS qBU I.kIn #[o,e1,e2] (by cases k<;>kernel_rfl) (λz=>nomatch z) fin
def dJ (k:Ty)(te:TE3):TE3:=λτ R=>te τ λx=>bY x/\R (.d (.bl (ZL k x)))
def LJ (k:Ty){y:Str}{p p2:Pos}(ha:PE3 X e te)(hg:Gl X "isinstance")(hm:X.mg "isinstance"=none)(hg2:Gl X y)(hm2:X.mg y=none)(hv:bootBuiltins y=some (.type (VJ k)))
 (hn:y≠"__name__":=by decide)(hd:(y==("__debug__":Str))=false:=by decide)
 (he:starEach [e,.Name y p2] X.env=(false,eval e X.env)::starEach [.Name y p2] X.env:=by exact Cm rfl)(he2:starEach [.Name y p2] X.env=(false,eval (.Name y p2) X.env)::starEach [] X.env:=by exact Cm rfl)(hpl:(backTo pos (starEach [.Name y p2] X.env)).any (·.1)=false:=by exact C7 rfl) :
 PE3 X (.Call (.Name "isinstance" p) [e,.Name y p2] [] pos) (dJ k te):=#[BL (GR (Tc k) hg hm qCs (AM ha.out (AM (RG (v:=.ty (VJ k)) hg2 hm2 hv rfl hn hd) Br he2) he) (he:=he) (hpl:=hpl)) λσ H Q #[B,z,τ,R,r,ht,q]=>
 #[B,_,τ,_,r,ht,λs v H1 e1 i1 f1 h1=>#[H1.z,v,s,e1.sub,rfl,i1,h1.1,q (.d _) _ H1 e1 (Is.bl _) FP h1.2]]]
abbrev Sp3:=List S->(S->Prop)->(Str->Prop)->Prop
def Af (K:W.Frag)(mg:Str->Option Value)(sp:Sp3):Sp:=λvs H Q E=>∃z ss R U,Bp z H/\Args K #[H,z] vs ss/\sp ss R U/\(∀s v q,Ext #[H,z] q->IsS K q v s->Fr3 K #[H,z] q v s->R s->Q v q.h) /\
 ∀x C H',Bp H H'->mg x=some (.ref C)->U x->E (.ref C) none H'
structure Cal (P:Program)(w:World)(K:W.Frag)(mg:Str->Option Value)(base:Heap)(CX:CXT)(k:Nat)(x:Str)(ps:List Str)(sp:Sp3):Prop where
 ex:∃f fd,Ao P w K mg base CX k f fd ps (Af K mg sp)/\mg x=some (.ref f)/\W.keepIn K (.ref f)=true/\Binds K fd ps []
def NoU:Str->Prop:=λ_=>False
variable {st:Stmt}{rest':List Stmt}{t u:TS3}
def Z0:TS3:=λD3 τ=>D3.nx τ
def dZ (t u:TS3):TS3:=λD3 τ=>t { D3 with nx:=u D3 } τ
def fB (t u:TS3):TS3:=λD3 τ=>∃mid:Tau->Prop,t { D3 with nx:=mid } τ/\∀τ',mid τ'->u D3 τ'
def Ah:Dp X [] Z0:=#[Hu WJ λ_ _ _ #[_,_,_,_,r,ht,c]=>c.nx _ _ _ r ht]
def Ag (h:PS3 X st t):Dp X [st] t:=#[WC h.out]
def Ac (h1:PS3 X st t)(h2:Dp X rest' u):Dp X (st::rest') (dZ t u):=#[Hu (Od h1.out h2.out) λD2 σ H hh=>by obtain⟨B,z,τ,D3,r,ht,c⟩:=hh;exact#[B,_,τ,{ D3 with nx:=u D3 },r,ht,#[λτ' σ' p' r' h'=>#[B,_,τ',D3,r',h',c],c.bk,c.ct,c.rt]]]
def BJ (h1:PS3 X st t)(h2:Dp X rest' u):Dp X (st::rest') (fB t u):=#[Hu (Od h1.out h2.out) λD2 σ H #[B,z,τ,D3,r,#[mid,ht,hm],c]=>#[B,_,τ,{ D3 with nx:=mid },r,ht,#[λτ' σ' p' r' h'=>#[B,_,τ',D3,r',hm τ' h',c],c.bk,c.ct,c.rt]]]
def sGd (t u:TS3):TS3:=λD3 τ=>t { D3 with nx:=λτ'=>τ'=τ } τ/\u D3 τ
def Im (h1:PS3 X st t)(h2:Dp X rest' u):Dp X (st::rest') (sGd t u):=#[Hu (BJ h1 h2).out λD2 σ H #[B,z,τ,D3,r,#[ht,hu],c]=>#[B,_,τ,D3,r,#[λτ'=>τ'=τ,ht,λτ' e=>by subst e;exact hu],c]]
def UX:TS3:=λ_ _=>False
def QH:PS3 X st UX:=#[C4 T6 λ_ _ _ #[_,_,_,_,_,h,_]=>h.elim]
def Of {sts:List Stmt}:Dp X sts UX:=#[Hu RQ λ_ _ _ #[_,_,_,_,_,h,_]=>h.elim]
def aW (te:TE3):TS3:=λD3 τ=>te τ λ_=>D3.nx τ
def OK (he:PE3 X e te)(hs:swapsWith e none pos.line X.env=pure false:=by rfl):PS3 X (.Expr e pos) (aW te):=#[C4 (Bx he.out hs) λD2 σ H hh=>by obtain⟨B,z,τ,D3,r,ht,c⟩:=hh;exact#[B,_,τ,_,r,ht,λs v H' e i f h=>c.nx _ _ _ (r.mono e) h]]
def bQ (te:TE3):TS3:=λD3 τ=>te τ D3.rt
def Zv (he:PE3 X e te):PS3 X (.Return (some e) pos) (bQ te):=#[C4 (UQ he.out) λD2 σ H hh=>by obtain⟨B,z,τ,D3,r,ht,c⟩:=hh;exact#[B,_,τ,_,r,ht,λs v H' e i f h=>c.rt s v H' (r.ext.trans e) i (N3 r.ext f) h]]
def Yk (i:Nat):TS3:=λD3 τ=>match τ[i]? with
 |some (some s)=>D3.rt s
 |_=>False
def DJ {i:Nat}{x:Str}{pos':Pos}(h:PE X (.Name x pos') (O1 i)):PS3 X (.Return (some (.Name x pos')) pos) (Yk i):=#[C4 (UQ h) λD2 σ H hh=>by
 obtain⟨B,z,τ,D3,r,ht,c⟩:=hh;unfold Yk at ht;split at ht
 .rename_i s hs;obtain⟨v,h1,h2⟩:=r.val i s hs;exact#[v,h1,c.rt s v #[H,z] r.ext h2 (λxs a e1 e2=>r.own i xs a (by rw[<-e1];exact hs) (by rw[<-e2];exact h1)) ht]
 .exact ht.elim]
def sIf (c:TT3)(t u:TS3):TS3:=λD3 τ=>c τ λb=>if b=true then t D3 τ else u D3 τ
def Bq {c:Expr}{as bs:List Stmt}{tc:TT3}(hc:PT3 X c tc)(ha:Dp X as t)(hb:Dp X bs u):PS3 X (.If c as bs pos) (sIf tc t u):=#[C4 (ZT hc.out ha.out hb.out) λD2 σ H hh=>by obtain⟨B,z,τ,D3,r,ht,c⟩:=hh;exact#[B,_,τ,_,r,ht,λb H1 e h=>by
 cases b with
 |true=>rw[qC6 rfl]at h ⊢;exact#[B,_,τ,D3,r.mono e,h,c]
 |false=>rw[qC5 qAq]at h ⊢;exact#[B,_,τ,D3,r.mono e,h,c]]]
def Zg (i:Nat)(te:TE3):TS3:=λD3 τ=>te τ λs=>match s with
 |.r _=>False
 |.d x=>D3.nx (τ.set i (some (.d x)))
 |.l xs=>D3.nx (τ.set i (some (.l xs)))
def Z6 {i:Nat}{x:Str}{pos':Pos}(hN:X.N.Nodup)(hi:X.N[i]? = some x)(hx:Loc X.env.scope x)(he:PE3 X e te)(hs:swapsWith e (some (.Name x pos')) pos.line X.env=pure false:=by rfl)(hf:X.fn x=true\/X.env.scope.names.lookup x=some .local:=by first|exact .inl rfl|exact .inr rfl|assumption)(hp:EL X i:=by first|exact ED rfl|exact EF rfl ∅|assumption) :
 PS3 X (.Assign [.Name x pos'] e pos) (Zg i te):=#[C4 (Yt hN hi hx he.out hs hf) λD2 σ H hh=>by obtain⟨B,z,τ,D3,r,ht,c⟩:=hh;exact#[B,_,τ,_,r,ht,λs v H' e i f h=>by
 cases s with
 |r _=>exact h.elim
 |d y=>exact c.nx _ _ _ (r.set e i f rfl hp) h
 |l ys=>exact c.nx _ _ _ (r.set e i f rfl hp) h]]
def Rep.push {B:HZ}{H z:Hp}{τ:Tau}{σ:St}{i:Nat}{xs:List D}{l:Addr}{vs:List V}{w:V}{d:D}(r:Rep X B τ σ #[H,z])(hi:τ[i]? = some (some (.l xs)))(hσ:σ[i]? = some (some (.ref l)))
 (hl:H l=some (.lst vs))(hv:Iss X.K z vs xs)(iw:Is X.K z w d):Rep X B (τ.set i (some (.l (xs++[d])))) σ #[upd H l (.lst (vs++[w])),z]:=by
 obtain⟨o1,o2,o3⟩:=r.own i xs l hi hσ;refine#[by simp[r.len],#[λb o h=>?_,r.ext.zz,λb o h=>?_,r.ext.new],λj s hj=>?_,λj ys a hj ha=>?_,λj k ys s a hjk hj hk hs ha=>?_,r.top,r.pin]
 .have hb:b≠l:=by
   rintro rfl;rw[h]at o1;cases o1
  show upd H l _ b=some o;rw[An hb];exact r.ext.hh b o h
 .have hb:b≠l:=by
   rintro rfl;have h':z b=some o:=h;rw[show z b=none from o3]at h';cases h'
  show upd H l _ b=some o;rw[An hb];exact r.ext.sub b o h
 .rcases Ay hj with⟨rfl,rfl⟩|⟨hn,hj⟩
  .exact#[.ref l,hσ,l,_,rfl,As,hv.snoc iw]
  .obtain⟨v,h1,h2⟩:=r.val j s hj;refine#[v,h1,?_];cases s with
   |d x=>exact h2
   |l ys=>
    obtain⟨b,ws,rfl,h3,h4⟩:=h2;have hb:b≠l:=by
     rintro rfl;exact r.sep i j xs (.l ys) b (λz=>hn z.symm) hi hj rfl hσ h1
    exact#[b,ws,rfl,by show upd H l _ b=_;rw[An hb];exact h3,h4]
   |r ys=>
    obtain⟨b,ws,rfl,h3,h4⟩:=h2;have hb:b≠l:=by
     rintro rfl;exact r.sep i j xs (.r ys) b (λz=>hn z.symm) hi hj rfl hσ h1
    refine#[b,ws,rfl,?_,h4];rcases h3 with (h3|⟨o,h3⟩)|h3
    .exact .inl (.inl (by show upd H l _ b=_;rw[An hb];exact h3))
    .exact .inl (.inr #[o,by show upd H l _ b=_;rw[An hb];exact h3])
    .exact .inr h3
 .rcases Ay hj with⟨rfl,_⟩|⟨hn,hj⟩
  .exact r.own j xs a hi ha
  .exact r.own j ys a hj ha
 .rcases Ay hj with⟨rfl,_⟩|⟨hn,hj'⟩
  .rcases Ay hk with⟨e3,_⟩|⟨hkn,hk'⟩
   .exact absurd e3.symm hjk
   .exact r.sep j k xs s a hjk hi hk' hs ha
  .rcases Ay hk with⟨rfl,rfl⟩|⟨hkn,hk'⟩
   .exact r.sep j k ys (.l xs) a hjk hj' hi rfl ha
   .exact r.sep j k ys s a hjk hj' hk' hs ha
def bX (i:Nat)(te:TE3):TS3:=λD3 τ=>match τ[i]? with
 |some (some (.l xs))=>te τ λs=>dd s.arg λd=>↥xs<1000000/\D3.nx (τ.set i (some (.l (xs++[d]))))
 |_=>False
def EZ {i:Nat}{o:Expr}{apos cpos:Pos}(h:PS X (.Expr (.Call (.Attribute o "append" apos) [e] [] cpos) pos) (Xk (tBM X.K "list" QL (O1 i) (Wj (FE X te) Zz)))) :
 PS3 X (.Expr (.Call (.Attribute o "append" apos) [e] [] cpos) pos) (bX i te):=#[C4 h λD2 σ H hh=>by
 obtain⟨B,z,τ,D3,r,ht,c⟩:=hh;unfold bX at ht;split at ht
 .rename_i xs hs;obtain⟨v,h1,a,vs,rfl,h2,h3⟩:=r.val i _ hs;refine#[.ref a,h1,.inl #[rfl,vs,SqL.of h2],B,_,τ,_,r,ht,λs v H' e i' f h=>?_];obtain⟨d,hd,h4,h5⟩:=FW h;obtain⟨z',e',i''⟩:=Fm e i' f;rw[hd]at i'';have sz:(1000000:Nat)<sizeLine:=∅;exact#[a,vs,v,rfl,rfl,e.hh _ _ h2,by rw[h3.1];omega,c.nx _ _ _ ((r.mono e').push hs h1 (e.hh _ _ h2) (h3.mono e'.zz) i'') h5]
 .exact ht.elim]
def Y4 (c:TT3)(tb:TS3):TS3:=λD3 τ=>∃W:Nat->Tau->Prop,(∃m,W m τ)/\∀m τ,W m τ ->
 c τ λb=>if b=true then tb { D3 with nx:=λτ'=>∃m',m'<m/\W m' τ',ct:=λτ'=>∃m',m'<m/\W m' τ',bk:=D3.nx } τ else D3.nx τ
def Hy {c:Expr}{body:List Stmt}{tc:TT3}{tb:TS3}(hp:PassesOwn (model X.prog X.w) X.A X.env X.xe)(hc:PT3 X c tc)(hb:Dp X body tb):PS3 X (.While c body [] pos) (Y4 tc tb):=#[C4 (Ts hp hc.out hb.out) λD2 σ H hh=>by
 obtain⟨B,z,τ,D3,r,⟨W,⟨m0,w0⟩,turn⟩,c⟩:=hh;refine#[λm σ H=>∃z τ,Rep X B τ σ #[H,z]/\W m τ,#[m0,z,τ,r,w0],?_];rintro m σ1 H1 ⟨z1,τ1,r1,w1⟩;refine#[B,_,τ1,_,r1,turn m τ1 w1,λb H2 e h=>?_];cases b with
 |true=>
  rw[qC6 rfl]at h ⊢;refine#[λσ' H'=>∃m',m'<m/\∃z τ,Rep X B τ σ' #[H',z]/\W m' τ,λσ' H' #[m',h1,h2]=>#[m',h1,h2],B,_,τ1,_,r1.mono e,h,#[?_,c.nx,?_,c.rt]]
  .rintro τ' σ' p' r' ⟨m',h1,h2⟩;exact#[m',h1,p'.z,τ',r',h2]
  .rintro τ' σ' p' r' ⟨m',h1,h2⟩;exact#[m',h1,p'.z,τ',r',h2]
 |false=>
  rw[qC5 qAq]at h ⊢;exact c.nx _ _ _ (r1.mono e) h]
def Ke (i:Nat)(xs:List D)(tb:TS3)(D3:Md)(τ0:Tau):Prop:=∃I:Nat->Tau->Prop,I 0 τ0 /\
 (∀n τ x,xs[n]? = some x->I n τ->tb { D3 with nx:=I (n+1),ct:=I (n+1),bk:=D3.nx } (τ.set i (some (.d x))))/\∀τ,I ↥xs τ->D3.nx τ
def Rep.setd {B p:HZ}{τ:Tau}{σ:St}{i:Nat}{v:V}{x:D}(r:Rep X B τ σ p)(h:Is X.K p.z v x)(hp:EL X i):Rep X B (τ.set i (some (.d x))) (σ.set i (some v)) p:=
 r.set (s:=.d x) (Ext.refl r.ext.sub) h FP rfl hp
def UO.inB {B B':HZ}{D3:Md}{D2:Nu}{I:Tau->Prop}{N:St->Hp->Prop}(e:LeB X B B')(c:UO X B D3 D2)(hN:∀τ σ p,Rep X B' τ σ p->I τ->N σ p.h) :
 UO X B' { D3 with nx:=I,ct:=I,bk:=D3.nx } { D2 with nx:=N,ct:=N,bk:=D2.nx }:=
 #[hN,λτ σ H r h=>c.nx τ σ H (r.outB e) h,hN,λs v q h1 h2 h3 h4=>c.rt s v q (e.ext h1) h2 (λxs a x1 x2=>#[e.hh.free (h3 xs a x1 x2).1,(h3 xs a x1 x2).2]) h4]
def EA {K:W.Frag}{H:Hp}{vs:List V}{xs:List D}{n:Nat}{v:V}(h:Iss K H vs xs)(e:vs[n]? = some v):∃x,xs[n]? = some x/\Is K H v x:=by
 have hn:=(qAe.mp e).1;have hx:xs[n]? = some (xs[n]'(by rw[<-h.1];exact hn)):=qAb (by rw[<-h.1];exact hn);exact#[_,hx,h.2 n v _ e hx]
def Lq {B:HZ}{τ:Tau}{σ:St}{H z:Hp}{D2:Nu}{D3:Md}{a:Addr}{vs:List V}{xs:List D}{i:Nat}{tb:TS3}(r:Rep X B τ σ #[H,z])(c:UO X B D3 D2)(hs:SqL X.K H a vs)(hv:Iss X.K z vs xs)
 (hno:∀(j:Nat)(ys:List D),τ[j]? = some (some (S.l ys))->σ[j]?≠some (some (V.ref a)))(h:Ke i xs tb D3 τ)(hp:EL X i) :
 ∃W:Nat->Nat->St->Hp->Prop,(∃m,W 0 m σ H)/\∀n m σ H,W n m σ H ->
  ((Itl X.K a).stop n H/\D2.nx σ H)\/((Itl X.K a).go n H/\∃N:St->Hp->Prop,(∀σ' H',N σ' H'->∃m',m'<m/\W (n+1) m' σ' H')/\∀x H',(Itl X.K a).yld n H x H'->Gw i x σ H' λσ2 H2=>FS X tb { D2 with nx:=N,ct:=N,bk:=D2.nx } σ2 H2):=by
 obtain⟨I,i0,turn,out⟩:=h;have hB:SqL X.K (Nb τ σ H) a vs:=by
  rcases hs with (hs|⟨o,hs⟩)|hs
  .exact .inl (.inl (by rw[Iz hno];exact hs))
  .exact .inl (.inr #[o,by rw[Iz hno];exact hs])
  .exact .inr hs
 refine SS (K:=X.K) (a:=a) (xs:=vs) (g:=Gw i) (tb:=FS X tb) (D:=D2) (λn σ1 H1=>∃z1 τ1,Rep X #[Nb τ σ H,z] τ1 σ1 #[H1,z1]/\I n τ1) #[z,τ,r.inB,i0] (λn σ1 H1 _ #[z1,τ1,r1,_]=>r1.ext.hh.seq hB) ?_ ?_
 .rintro n v σ1 H1 hn ⟨z1,τ1,r1,i1⟩;obtain⟨x,hx,ix⟩:=EA hv hn;exact#[_,_,_,_,r1.setd (ix.mono r1.ext.zz) hp,turn n τ1 x hx i1,c.inB r.leB λτ' σ' p' r' h'=>#[p'.z,τ',r',h']]
 .rintro σ1 H1 ⟨z1,τ1,r1,i1⟩;exact c.nx _ _ _ (r1.outB r.leB) (out τ1 (by rw[<-hv.1];exact i1))
def UJ {B:HZ}{τ:Tau}{σ:St}{H z:Hp}{D2:Nu}{D3:Md}{a:Addr}{vs:List V}{xs:List D}{i:Nat}{tb:TS3}(r:Rep X B τ σ #[H,z])(c:UO X B D3 D2)(hs:SqT X.K z a vs)(hv:Iss X.K z vs xs)
 (h:Ke i xs tb D3 τ)(hp:EL X i) :
 ∃W:Nat->Nat->St->Hp->Prop,(∃m,W 0 m σ H)/\∀n m σ H,W n m σ H ->
  ((Itt X.K a).stop n H/\D2.nx σ H)\/((Itt X.K a).go n H/\∃N:St->Hp->Prop,(∀σ' H',N σ' H'->∃m',m'<m/\W (n+1) m' σ' H')/\∀x H',(Itt X.K a).yld n H x H'->Gw i x σ H' λσ2 H2=>FS X tb { D2 with nx:=N,ct:=N,bk:=D2.nx } σ2 H2):=by
 obtain⟨I,i0,turn,out⟩:=h;refine Wl (K:=X.K) (a:=a) (xs:=vs) (g:=Gw i) (tb:=FS X tb) (D:=D2) (λn σ1 H1=>∃z1 τ1,Rep X #[Nb τ σ H,z] τ1 σ1 #[H1,z1]/\I n τ1) #[z,τ,r.inB,i0] (λn σ1 H1 _ #[z1,τ1,r1,_]=>SqT.same (r1.ext.zz.trans r1.ext.sub) hs) ?_ ?_
 .rintro n v σ1 H1 hn ⟨z1,τ1,r1,i1⟩;obtain⟨x,hx,ix⟩:=EA hv hn;exact#[_,_,_,_,r1.setd (ix.mono r1.ext.zz) hp,turn n τ1 x hx i1,c.inB r.leB λτ' σ' p' r' h'=>#[p'.z,τ',r',h']]
 .rintro σ1 H1 ⟨z1,τ1,r1,i1⟩;exact c.nx _ _ _ (r1.outB r.leB) (out τ1 (by rw[<-hv.1];exact i1))
def Yc (K:W.Frag)(tl:TE):TI:=λσ H R=>tl σ H λx H1=>∃a,x=.ref a/\(((∃xs,SqL K H1 a xs)/\R (Itl K a) H1)\/((∃xs,SqT K H1 a xs)/\R (Itt K a) H1))
def Bt {tg l:Expr}{tl:TE}(hl:PE X l tl):PI X tg l (Yc X.K tl):=by
 intro pins s σ H R I h;refine thn (hl pins s σ H _ I h) λv s1 hh9=>?_;obtain⟨x,H1,I1,r1,q1⟩:=hh9;obtain⟨a,e,⟨⟨xs,hq⟩,q⟩|⟨⟨xs,hq⟩,q⟩⟩:=q1
 .subst e;cases r1;obtain⟨its,rv,p,hz⟩:=I1.list hq;refine wpAny_pyIter_list p.isList ?_;refine#[s1.heap.objs.size,[s1.heap.objs.size],_,_,H1,rfl,I1.kept (t':=s1.toks) λb o e=>qAh _ e,Q4 a _,#[_,qAy _ rfl,rfl,rfl],λb hb=>?_,q];have e:b=s1.heap.objs.size:=by simpa using hb
  subst e;exact I1.fpOk (qAg _) (I1.hok.fresh (qAg _))
 .subst e;cases r1;obtain⟨its,rv,p,hz⟩:=I1.tuple hq;refine wpAny_pyIter_tuple (show s1.heap.IsTuple a its.toArray from p) ?_;refine#[s1.heap.objs.size,[s1.heap.objs.size],_,_,H1,rfl,I1.kept (t':=s1.toks) λb o e=>qAh _ e,Pw a _,#[_,qAy _ rfl,rfl,rfl],λb hb=>?_,q];have e:b=s1.heap.objs.size:=by simpa using hb
  subst e;exact I1.fpOk (qAg _) (I1.hok.fresh (qAg _))
def Rep.notown {B:HZ}{τ:Tau}{σ:St}{p:HZ}{a:Addr}{o:HO}(r:Rep X B τ σ p)(h:p.z a=some o):∀(j:Nat)(ys:List D),τ[j]? = some (some (S.l ys))->σ[j]?≠some (some (V.ref a)):=λj ys h1 h2=>by
 have:=(r.own j ys a h1 h2).2.2;rw[h]at this;cases this
def Kn {B:HZ}{τ:Tau}{σ:St}{p:HZ}{a:Addr}{vs:List V}(r:Rep X B τ σ p)(h:SqL X.K p.z a vs):∀(j:Nat)(ys:List D),τ[j]? = some (some (S.l ys))->σ[j]?≠some (some (V.ref a)):=by
 rcases h with (h|⟨o,h⟩)|⟨o,its,n,h,_⟩
 .exact r.notown h
 .exact r.notown h
 .intro j ys h1 h2;have:=(r.own j ys a h1 h2).2.1;rw[h]at this;cases this
def XH (j i:Nat)(tb:TS3):TS3:=λD3 τ=>match τ[j]? with
 |some (some (.d (.tup xs)))=>Ke i xs tb D3 τ
 |some (some (.d (.lst xs)))=>Ke i xs tb D3 τ
 |some (some (.l xs))=>Ke i xs tb D3 (τ.set j (some (.r xs)))
 |some (some (.r xs))=>Ke i xs tb D3 (τ.set j (some (.r xs)))
 |_=>False
def QS {j i:Nat}{x y:Str}{px py:Pos}{body:List Stmt}{tb:TS3}(h:PS X (.For (.Name x px) (.Name y py) body [] pos) (Xh (Yc X.K (O1 j)) (Gw i) (FS X tb)))(hp:EL X i:=by first|exact ED rfl|exact EF rfl ∅|assumption):PS3 X (.For (.Name x px) (.Name y py) body [] pos) (XH j i tb):=#[C4 h λD2 σ H hh=>by
 obtain⟨B,z,τ,D3,r,ht,c⟩:=hh;have lists:∀(s:S)(xs:List D),τ[j]? = some (some s)->s.share=.r xs->Ke i xs tb D3 (τ.set j (some (.r xs)))->Xh (Yc X.K (O1 j)) (Gw i) (FS X tb) D2 σ H:=λs xs hs hx ht=>by
  obtain⟨v,h1,h2⟩:=r.val j s hs;have h2':=h2.share;rw[hx]at h2';obtain⟨a,vs,rfl,h3,h4⟩:=h2';have r':=r.freeze hs hx;refine#[.ref a,h1,a,rfl,.inl #[#[vs,h3],Lq r' c h3 h4 (λm ys hm hσ=>?_) ht hp]];rcases Ay hm with⟨rfl,z⟩|⟨hn,hm'⟩
  .cases z
  .have hl:j<↥τ:=(qAe.mp hs).1;exact r'.sep m j ys (.r xs) a hn hm (by rw[qBA hl]) rfl hσ h1
 unfold XH at ht;split at ht
 .rename_i xs hs;obtain⟨v,h1,h2⟩:=r.val j _ hs;obtain⟨a,vs,rfl,h3,h4⟩:=Is.tup_inv h2;exact#[.ref a,h1,a,rfl,.inr #[#[vs,SqT.same r.ext.sub h3],UJ r c h3 h4 ht hp]]
 .rename_i xs hs;obtain⟨v,h1,h2⟩:=r.val j _ hs;obtain⟨a,vs,rfl,h3,h4⟩:=Is.lst_inv h2;exact#[.ref a,h1,a,rfl,.inl #[#[vs,r.ext.sub.seq h3],Lq r c (r.ext.sub.seq h3) h4 (Kn r h3) ht hp]]
 .rename_i xs hs;exact lists _ xs hs rfl ht
 .rename_i xs hs;exact lists _ xs hs rfl ht
 .exact ht.elim]
def aB (i:Nat)(te:TE3)(tb:TS3):TS3:=λD3 τ=>te τ λs=>match s with
 |.l xs=>Ke i xs tb D3 τ
 |.d (.tup xs)=>Ke i xs tb D3 τ
 |.d (.lst xs)=>Ke i xs tb D3 τ
 |_=>False
def Ec {i:Nat}{x:Str}{px:Pos}{body:List Stmt}{tb:TS3}(h:PS X (.For (.Name x px) e body [] pos) (Xh (Yc X.K (FE X te)) (Gw i) (FS X tb)))(hp:EL X i:=by first|exact ED rfl|exact EF rfl ∅|assumption):PS3 X (.For (.Name x px) e body [] pos) (aB i te tb):=#[C4 h λD2 σ H hh=>by
 obtain⟨B,z,τ,D3,r,ht,c⟩:=hh;refine#[B,_,τ,_,r,ht,λs v H1 e1 i1 f1 h1=>?_];split at h1
 .rename_i xs;obtain⟨a,vs,rfl,h3,h4⟩:=i1;refine#[a,rfl,.inl #[#[vs,SqL.of h3],Lq (r.mono e1) c (SqL.of h3) h4 (λm ys hm hσ=>?_) h1 hp]];obtain⟨ws,hw,_⟩:=r.own_list hm hσ;have:=(f1 xs a rfl rfl).1;rw[hw]at this;cases this
 .rename_i xs;obtain⟨a,vs,rfl,h3,h4⟩:=Is.tup_inv i1;exact#[a,rfl,.inr #[#[vs,SqT.same e1.sub h3],UJ (r.mono e1) c h3 h4 h1 hp]]
 .rename_i xs;obtain⟨a,vs,rfl,h3,h4⟩:=Is.lst_inv i1;exact#[a,rfl,.inl #[#[vs,e1.sub.seq h3],Lq (r.mono e1) c (e1.sub.seq h3) h4 (Kn (r.mono e1) h3) h1 hp]]
 .exact h1.elim]
def bJ (i:Nat)(t:TS3):TS3:=λD3 τ=>match τ[i]? with
 |some (some (.l xs))=>t D3 (τ.set i (some (.d (.lst xs))))
 |_=>False
def XY {sts:List Stmt}(i:Nat)(h:Dp X sts t):Dp X sts (bJ i t):=#[Hu h.out λD2 σ H hh=>by
 obtain⟨B,z,τ,D3,r,ht,c⟩:=hh;unfold bJ at ht;split at ht
 .rename_i xs hs;obtain⟨z',r'⟩:=r.data hs;exact#[B,z',_,D3,r',ht,c]
 .exact ht.elim]
def cY (i:Nat)(lo st:Int)(cnt:Nat)(tb:TS3)(D3:Md)(τ0:Tau):Prop:=∃I:Nat->Tau->Prop,I 0 τ0 /\
 (∀(n:Nat) τ,n<cnt->I n τ->tb { D3 with nx:=I (n+1),ct:=I (n+1),bk:=D3.nx } (τ.set i (some (.d (.int (lo+n*st))))))/\∀τ,I cnt τ->D3.nx τ
def Zt (i:Nat)(ta:TA3)(tb:TS3):TS3:=λD3 τ=>ta τ λss=>match ss with
 |[.d (.int a),.d (.int j)]=>(-(2^62)<=a/\a<2^62/\-(2^62)<=j/\j<2^62)/\cY i a 1 (j-a).toNat tb D3 τ
 |_=>False
def O2 {i:Nat}{x:Str}{px:Pos}{body:List Stmt}{tb:TS3}{ta:TA3}(h:PS X (.For (.Name x px) e body [] pos) (Xh (Xf (FA X ta)) (Gw i) (FS X tb)))(hp:EL X i:=by first|exact ED rfl|exact EF rfl ∅|assumption):PS3 X (.For (.Name x px) e body [] pos) (Zt i ta tb):=#[C4 h λD2 σ H hh=>by
 obtain⟨B,z,τ,D3,r,ht,c⟩:=hh;refine#[B,_,τ,_,r,ht,λss vs H1 e1 i1 h1=>?_];split at h1
 .rename_i a j;obtain⟨v,u,rfl,hv,hu⟩:=Xp i1;cases Is.int_inv hv;cases Is.int_inv hu;obtain⟨q1,I,i0,turn,out⟩:=h1;refine#[a,j,rfl,q1,Qr (lo:=a) (n:=(j-a).toNat) (g:=Gw i) (tb:=FS X tb) (D:=D2) (λn σ1 H1=>∃z1 τ1,Rep X B τ1 σ1 #[H1,z1]/\I n τ1) #[_,τ,r.mono e1,i0] ?_ ?_]
  .rintro n σ1 H1 hn ⟨z1,τ1,r1,i1⟩;have tt:=turn n τ1 hn i1;rw[Int.mul_one]at tt;exact#[B,_,_,_,r1.setd (.int _) hp,tt,c.inB r.leR λτ' σ' p' r' h'=>#[p'.z,τ',r',h']]
  .rintro σ1 H1 ⟨z1,τ1,r1,i1⟩;exact c.nx _ _ _ r1 (out τ1 i1)
 .exact h1.elim]
end
def BI (N:List Str)(ss:List S):Tau:=ss.map some++List.replicate (↥N-↥ss) none
def JK {α:Type}{ss:List α}{m i:Nat}{s:α}(h:(ss.map some++List.replicate m (none:Option α))[i]? = some (some s)):ss[i]? = some s:=by
 by_cases hi:i<↥ss
 .rw[qAu (by simpa using hi),qAd]at h;cases e:ss[i]? with
  |none=>rw[e]at h;cases h
  |some a=>rw[e]at h;cases h;rfl
 .rw[qAw (by simpa using hi),qCa]at h;split at h<;>cases h
def C8 {X:Cx}{p:HZ}{N:List Str}{vs:List V}{ss:List S}(h:Args X.K p vs ss)(hz:Bp p.z p.h)(ht:Bp X.H₀ p.h)(hl:X.lent=none:=by rfl):Rep X p (BI N ss) (L2.start N vs) p:=by
 have no:∀(i:Nat)(xs:List D),¬(BI N ss)[i]? = some (some (.l xs)):=λi xs z=>by
  have z':=JK z;have hi:=(qAe.mp z').1;have hv:vs[i]? = some (vs[i]'(by rw[h.1];exact hi)):=qAb (by rw[h.1];exact hi);have:=(h.2 i _ _ hv z').2;cases this
 refine#[by unfold L2.start BI;simp[h.1],Ext.refl hz,λi s hs=>?_,λi xs a z _=>absurd z (no i xs),λi j xs s a _ z _ _ _=>absurd z (no i xs),λ_=>ht,λk a hk=>by rw[hl]at hk;cases hk];have z':=JK hs;have hi:=(qAe.mp z').1;have hl:i<↥vs:=by rw[h.1];exact hi
 have hv:vs[i]? = some vs[i]:=qAb hl;refine#[vs[i],?_,(h.2 i _ _ hv z').1];unfold L2.start;rw[qAu (by simpa using hl),qAd,hv];rfl
section
variable {P:Program}{w:World}{K:W.Frag}{mg:Str->Option Value}{base:Heap}
def fn3 {x qual:Str}{st:Stmt}{f:Addr}{fd:FuncData}{N ps:List Str}{k:Nat}{sp:Sp3}(F:Fun K x qual st f fd)(Sc:Ae N ps (Aa st))(len:∀ss R U,sp ss R U->↥ss=↥ps)
 (hbody:∀(cdv:Value)(A:Around)(outer:List Env)(s:Shared)(H:Hp)(E:XK)(ss:List S)(R:S->Prop)(U:Str->Prop),DC k (A.deeper (envOfC qual (Aa st) s.heap.objs.size f cdv))->sp ss R U ->
  ∃t,Dp (JW CX0 P w K mg base N qual (Aa st) f cdv A outer s H E).nox (BV st) t/\t { nx:=λ_=>R (.d .non),rt:=R } (BI N ss)):Ao P w K mg base CX0 (k+1) f fd ps (Af K mg sp):=by
 refine F.ok Sc (λvs H Q E hh=>by obtain⟨z,ss,R,U,hz,ha,h3,_⟩:=hh;exact ha.1.trans (len ss R U h3)) λcdv A outer s H vs Q E hr hh9=>?_;obtain⟨z,ss,R,U,hz,ha,h3,q,qe⟩:=hh9;obtain⟨t,ht,hq⟩:=hbody cdv A outer s H E ss R U hr h3;exact#[_,ht.out,#[H,z],z,BI N ss,_,C8 ha hz (Bp.refl H),hq,#[λτ σ p r h=>q (.d .non) _ p r.ext Is.non FP h,λ_ _ _ _ z=>z.elim,λ_ _ _ _ z=>z.elim,λs v p e i f h=>q s v p e i f h]]
abbrev Da (P:Program)(w:World)(K:W.Frag)(mg:Str->Option Value)(base:Heap)(n:Str)(st:Stmt)(k:Nat)(ps:List Str)(sp:Sp3):Prop:=∀{f:Addr}{fd:FuncData},Fun K n n st f fd->Ao P w K mg base CX0 k f fd ps (Af K mg sp)
def fq {n:Str}{st:Stmt}{N ps:List Str}{k:Nat}{sp:Sp3}(Sc:Ae N ps (Aa st))(hb:∀{f:Addr}{cdv:Value}{A:Around}{outer:List Env}{s:Shared}{H:Hp}{E:XK}{ss:List S}(R:S->Prop)(U:Str->Prop)(_:Ae N ps (Aa st)),DC k (A.deeper (envOfC n (Aa st) s.heap.objs.size f cdv))->sp ss R U ->
  ∃t,Dp (JW CX0 P w K mg base N n (Aa st) f cdv A outer s H E).nox (BV st) t/\t { nx:=λ_=>R (.d .non),rt:=R } (BI N ss))(len:∀ss R U,sp ss R U->↥ss=↥ps:=by rintro _ _ _ h;first|(cases h;subst_vars;rfl)|(obtain⟨_,rfl,_⟩:=h;rfl)):Da P w K mg base n st (k+1) ps sp:=λF=>fn3 F Sc len λ_ _ _ _ _ _ _ R U a b=>hb R U Sc a b
end
def Oy:Sp3:=λss R _=>∃ns:List Int,ss=[.r (ns.map D.int)]/\↥ns<=63/\R (.d (.bl true))
def KW {K:W.Frag}{H:Hp}(ns:List Int):Iss K H (ns.map V.int) (ns.map D.int):=by
 refine#[by simp,λi v x h1 h2=>?_];rw[qAd]at h1 h2;cases e:ns[i]? with
 |none=>rw[e]at h1;cases h1
 |some n=>
  rw[e]at h1 h2;cases h1;cases h2;exact .int n
section
variable {X:Cx}{tg:Expr}
variable {e:Expr}{pos:Pos}
end
def NH:D->Bool
 |.non=>true
 |.bl _=>true
 |.int _=>true
 |.str _=>true
 |_=>false
def En:Nat->D->Bool
 |0,x=>NH x
 |n+1,.tup xs=>xs.all (En n)
 |_+1,x=>NH x
def eqF:D->D->Bool
 |.non,.non=>true
 |.bl a,.bl b=>a==b
 |.bl a,.int b=>(if a then 1 else 0)==b
 |.int a,.bl b=>a==(if b then 1 else 0)
 |.int a,.int b=>a==b
 |.str a,.str b=>a==b
 |_,_=>false
def eqN:Nat->D->D->Bool
 |0,x,y=>eqF x y
 |n+1,.tup xs,.tup ys=>(xs.zip ys).all (λp=>eqN n p.1 p.2)&&↥xs==↥ys
 |_+1,.tup _,_=>false
 |_+1,_,.tup _=>false
 |_+1,x,y=>eqF x y
theorem IU:∀(n:Nat)(x:D),En n x=true->eqN n x x=true
 |0,x,h=>by cases x<;>first|rfl|(exact beq_self_eq_true _)|cases h
 |n+1,x,h=>by
  cases x with
  |tup xs=>
   have h':xs.all (En n)=true:=h;show((xs.zip xs).all (λp=>eqN n p.1 p.2)&&↥xs==↥xs)=true;rw[beq_self_eq_true,qCB,qAK];rintro⟨a,b⟩ hp;obtain⟨i,hi⟩:=qCk hp;rw[qBs]at hi;obtain⟨h1,h2⟩:=hi;have e:a=b:=qAn (h1.symm.trans h2);subst e;exact IU n a (qAK.mp h' a (qAE h1))
  |_=>first|rfl|(exact beq_self_eq_true _)|cases h
theorem Is.flatV {K:W.Frag}{H:Hp}{v:V}{x:D}(h:Is K H v x)(f:NH x=true):flatV v=true:=by
 cases h<;>first|rfl|cases f
def XZ {K:W.Frag}{H:Hp}{v u:V}{x y:D}(h:Is K H v x)(h':Is K H u y)(f:NH x=true)(f':NH y=true):eqV v u=eqF x y:=by
 cases h<;>first|(cases f;done)|(cases h'<;>first|(cases f';done)|rfl)
def FN {its:List Value}{j:Nat}(h:j<its.toArray.size){u:Value}(e:its[j]? = some u):its.toArray[j]=u:=by
 have hj:j<↥its:=by simpa using h
 rw[qAb hj]at e;have e':=qAn e;rw[<-e'];simp
section
variable {X:Cx}{pins:List (Addr×Obj)}{σ:St}{H:Hp}{s:Shared}
theorem U6 (I:Inv X pins σ H s):∀(n:Nat){v:V}{x y:D},En n x=true->En n y=true->Is X.K H v x->Is X.K H v y->x=y
 |0,v,x,y,fx,fy,hx,hy=>by
  cases hx<;>first|(cases fx;done)|(cases hy<;>first|rfl|(cases fy;done))
 |n+1,v,x,y,fx,fy,hx,hy=>by
  cases hx with
  |@tup a vs xs h hl r=>
   cases hy with
   |@tup _ ws ys h2 hl2 r2=>
    have e:=I.tuple_inj h h2;subst e
    congr 1
    apply qCE;intro i;cases hv:vs[i]? with
    |none=>
     have hi:=qAQ.mp hv;rw[qAQ.mpr (),qAQ.mpr ()]
    |some v=>
     have hi:=(qAe.mp hv).1;have hx:xs[i]? = some (xs[i]' ()):=qAb ();have hy:ys[i]? = some (ys[i]' ()):=qAb ();rw[hx,hy]
     congr 1
     exact U6 I n (qAK.mp (show xs.all (En n)=true from fx) _ (qAE hx)) (qAK.mp (show ys.all (En n)=true from fy) _ (qAE hy)) (r i v _ hv hx) (r2 i v _ hv hy)
   |lst=>cases fy
   |ref=>cases fy
  |lst=>cases fx
  |ref=>cases fx
  |ty=>cases fx
  |_=>cases hy<;>first|rfl|(cases fy;done)
def MB (I:Inv X pins σ H s){n:Nat}{A:Around}{a b:Addr}{vs ws:List V}{xs ys:List D}(ha:SqT X.K H a vs)(hb:SqT X.K H b ws)(hx:Iss X.K H vs xs)(hy:Iss X.K H ws ys)(hu:A.units<cLine)
 (ih:∀(x y:D)(v u:V)(v' u':Value),x∈xs->y∈ys->Is X.K H v x->Is X.K H u y->Cq v v'->Cq u u'->SeqAt.EqAt A.in1 s v' u' (eqN n x y)):SeqAt.RcAt A s (.ref a) (.ref b) (eqN (n+1) (.tup xs) (.tup ys)):=by
 obtain⟨its,r1,p1,_⟩:=I.tuple ha;obtain⟨its2,r2,p2,_⟩:=I.tuple hb;have l1:=↥r1;have l2:=↥r2;have k1:=hx.1;have k2:=hy.1;have key:=SeqAt.RcAt.tuples (A:=A) (s:=s) (l:=a) (b:=b) (items:=its.toArray) (items2:=its2.toArray) (e:=λj=>match xs[j]?,ys[j]? with|some x,some y=>eqN n x y|_,_=>true) p1 p2 hu (λj h1 h2=>by
  have h1':j<↥its:=by simpa using h1
  have h2':j<↥its2:=by simpa using h2
  have gx:xs[j]? = some (xs[j]' ()):=qAb ();have gy:ys[j]? = some (ys[j]' ()):=qAb ();have gv:vs[j]? = some (vs[j]' ()):=qAb ();have gw:ws[j]? = some (ws[j]' ()):=qAb ();obtain⟨u1,e1,q1⟩:=r1.get gv;obtain⟨u2,e2,q2⟩:=r2.get gw;rw[FN h1 e1,FN h2 e2];rw[gx,gy];exact ih _ _ _ _ _ _ (qAE gx) (qAE gy) (hx.2 j _ _ gv gx) (hy.2 j _ _ gw gy) q1 q2)
 have e:eqN (n+1) (.tup xs) (.tup ys)=((List.range (min its.toArray.size its2.toArray.size)).all (λj=>match xs[j]?,ys[j]? with|some x,some y=>eqN n x y|_,_=>true)&&its.toArray.size==its2.toArray.size):=by
  show((xs.zip ys).all (λp=>eqN n p.1 p.2)&&↥xs==↥ys)=_;have s1:its.toArray.size=↥xs:=by simp;omega
  have s2:its2.toArray.size=↥ys:=by simp;omega
  rw[s1,s2]
  congr 1
  rw[qBQ,qAK,qAK];constructor
  .intro h j hj;rw[qAH]at hj;have gx:xs[j]? = some (xs[j]' ()):=qAb ();have gy:ys[j]? = some (ys[j]' ()):=qAb ();rw[gx,gy];exact h (_,_) (qAE (qBs.mpr #[gx,gy]))
  .rintro h ⟨x,y⟩ hp;obtain⟨j,hj⟩:=qCk hp;obtain⟨gx,gy⟩:=qBs.mp hj;have h1:=(qAe.mp gx).1;have h2:=(qAe.mp gy).1;have:=h j (by rw[qAH];omega);simp only[]at gx gy;rw[gx,gy]at this;exact this
 rw[e];exact key
theorem R8 (I:Inv X pins σ H s):∀(n:Nat)(A:Around)(x y:D)(v u:V)(v' u':Value),A.units+n<cLine->En n x=true->En n y=true->Is X.K H v x->Is X.K H u y->Cq v v'->Cq u u'->SeqAt.EqAt A s v' u' (eqN n x y)
 |0,A,x,y,v,u,v',u',_,fx,fy,hx,hy,rv,ru=>by
  show SeqAt.EqAt A s v' u' (eqF x y);rw[<-XZ hx hy fx fy];exact UW rv ru (hx.flatV fx) (hy.flatV fy)
 |n+1,A,x,y,v,u,v',u',hu,fx,fy,hx,hy,rv,ru=>by
  have flat:NH x=true->NH y=true->eqN (n+1) x y=eqF x y->SeqAt.EqAt A s v' u' (eqN (n+1) x y):=λf1 f2 e=>by
   rw[e,<-XZ hx hy f1 f2];exact UW rv ru (hx.flatV f1) (hy.flatV f2)
  have hu0:A.units<cLine:=();cases hx with
  |@tup a vs xs ha hl r=>
   cases rv;obtain⟨its,r1,p1,_⟩:=I.tuple ha;have t1:s.heap.IsTuple a its.toArray:=p1;cases hy with
   |@tup b ws ys hb hl2 r2=>
    cases ru;by_cases hab:a=b
    .subst hab;have e:=U6 I (n+1) fx fy (.tup ha hl r) (.tup hb hl2 r2);rw[e,IU (n+1) _ fy];exact SeqAt.EqAt.same _
    .refine SeqAt.EqAt.of_refs hab (MB I ha hb #[hl,r] #[hl2,r2] hu0 λx y v u v' u' mx my ix iy rv ru=>?_);exact R8 I n A.in1 x y v u v' u' (by show A.units+1+n<cLine;omega) (qAK.mp (show xs.all (En n)=true from fx) x mx) (qAK.mp (show ys.all (En n)=true from fy) y my) ix iy rv ru
   |non=>cases ru;exact SeqAt.EqAt.tuple_none t1 hu0
   |bl c=>cases ru;exact SeqAt.EqAt.tuple_bool c t1 hu0
   |int c=>obtain⟨t,rfl⟩:=ru;exact SeqAt.EqAt.tuple_int c t t1 hu0
   |str c=>obtain⟨t,rfl⟩:=ru;exact SeqAt.EqAt.tuple_str c t t1 hu0
   |ty c=>cases fy
   |lst=>cases fy
   |ref=>cases fy
  |non=>
   cases hy with
   |@tup b ws ys hb hl2 r2=>
    cases ru;cases rv;obtain⟨its,r1,p1,_⟩:=I.tuple hb;exact SeqAt.EqAt.none_tuple (show s.heap.IsTuple b its.toArray from p1) hu0
   |ty c=>cases fy
   |lst=>cases fy
   |ref=>cases fy
   |_=>exact flat rfl rfl rfl
  |bl c=>
   cases hy with
   |@tup b ws ys hb hl2 r2=>
    cases ru;cases rv;obtain⟨its,r1,p1,_⟩:=I.tuple hb;exact SeqAt.EqAt.bool_tuple c (show s.heap.IsTuple b its.toArray from p1) hu0
   |ty c=>cases fy
   |lst=>cases fy
   |ref=>cases fy
   |_=>exact flat rfl rfl rfl
  |int c=>
   cases hy with
   |@tup b ws ys hb hl2 r2=>
    obtain⟨t,rfl⟩:=rv;cases ru;obtain⟨its,r1,p1,_⟩:=I.tuple hb;exact SeqAt.EqAt.int_tuple c t (show s.heap.IsTuple b its.toArray from p1) hu0
   |ty c=>cases fy
   |lst=>cases fy
   |ref=>cases fy
   |_=>exact flat rfl rfl rfl
  |str c=>
   cases hy with
   |@tup b ws ys hb hl2 r2=>
    obtain⟨t,rfl⟩:=rv;cases ru;obtain⟨its,r1,p1,_⟩:=I.tuple hb;exact SeqAt.EqAt.str_tuple c t (show s.heap.IsTuple b its.toArray from p1) hu0
   |ty c=>cases fy
   |lst=>cases fy
   |ref=>cases fy
   |_=>exact flat rfl rfl rfl
  |ty c=>cases fx
  |lst=>cases fx
  |ref=>cases fx
def bV (n:Nat):R3:=λdx dy R=>match dx,dy with
 |.tup xs,.tup ys=>En n (.tup xs)=true/\En n (.tup ys)=true/\R (.bl (eqN n (.tup xs) (.tup ys)))
 |_,_=>False
def TQ (n:Nat)(hu:X.A.units+n<cLine):IF X (compareOp .Eq) (bV n):=by
 intro pins s σ H x y v u Q I rx ry h;obtain⟨z,dx,dy,R,hz,hx,hy,h3,q⟩:=h;replace hx:=hx.mono hz;replace hy:=hy.mono hz;unfold bV at h3;split at h3
 .rename_i xs ys;obtain⟨fx,fy,h3⟩:=h3;cases n with
  |zero=>cases fx
  |succ n=>
   obtain⟨a,vs,rfl,ha,ia⟩:=Is.tup_inv hx;obtain⟨b,ws,rfl,hb,ib⟩:=Is.tup_inv hy;cases rx;cases ry;refine MB (A:=X.A) (n:=n) I ha hb ia ib () (λx y v u v' u' mx my ix iy rv ru=>?_) X.prog X.w X.xe _ #[.bl _,H,I,rfl,q _ _ #[H,z] (Ext.refl hz) (.bl _) h3];exact R8 I n X.A.in1 x y v u v' u' (by show X.A.units+1+n<cLine;omega) (qAK.mp (show xs.all (En n)=true from fx) x mx) (qAK.mp (show ys.all (En n)=true from fy) y my) ix iy rv ru
 .exact h3.elim
end
def Dm.there {P:Program}{w:World}{H:Hp}{h:Heap}{a:Addr}{o:HO}(x:Dm P w H h a o):∃u,h.get? a=some u:=by
 cases o with
 |lst xs=>obtain⟨_,_,_,_,e⟩:=x;exact#[_,e]
 |tup xs=>obtain⟨_,_,_,_,e,_⟩:=x;exact#[_,e]
 |dK kvs=>obtain⟨_,_,_,_,o,_,_,e,_⟩:=x;exact#[_,e]
 |dT kvs=>obtain⟨_,_,_,_,o,_,_,e,_⟩:=x;exact#[_,e]
 |set S n=>obtain⟨o,_,_,_,e,_⟩:=x;exact#[_,e]
 |ins C dx fs=>obtain⟨_,_,_,e,_⟩:=x;exact#[_,e]
 |own y=>obtain⟨_,e⟩:=x;exact#[_,e]
 |xd fs=>obtain⟨_,⟨_,_,_,e,_⟩,_⟩:=x;exact#[_,e]
 |rng lo hi=>obtain⟨_,_,_,e⟩:=x;exact#[_,e]
 |frz ob u=>obtain⟨e,_⟩:=x;exact#[_,e]
 |tbl ps=>obtain⟨_,e,_⟩:=x;exact#[_,e]
 |met f y=>exact#[_,show h.get? a=some _ from x]
 |ext φ=>obtain⟨_,⟨_,e⟩,_⟩:=x;exact#[_,e]
structure Fly (P:Program)(w:World)(l:List Env)(H H':Hp)(h h':Heap)(ea C:Addr)(a0:Value)(B:Heap):Prop where
 fl:Heap.FlyingW B l ea (.ref C) a0 h'
 un:Un (frs l) [] H H' h h'
 hok:HOk P w H' h'
 kb:∀b o,h.get? b=some o->H b=none->b∉frs l->B.get? b=some o
 tr:∀b o,H' b=some o->∃ob,B.get? b=some ob
 old:∀b o,h.get? b=some o->b∉frs l->∃ob,B.get? b=some ob
section
variable {P:Program}{w:World}{l:List Env}{H H':Hp}{h h' h'':Heap}{ea C:Addr}{a0:Value}{B:Heap}
def Ga {l:List Env}{b:Addr}{B h:Heap}(F:h.FunFrames B l)(hb:b∈frs l):∃o,h.get? b=some o/\∀vs,o.data≠.fields vs:=(F.mem hb).2
def Uc {H':Hp}{h' h'':Heap}{B:Heap}(ok:HOk P w H' h')(tr:∀b o,H' b=some o->∃ob,B.get? b=some ob)(s1:B.StaysIn h')(s2:B.StaysIn h''):HOk P w H' h'':=λa o e=>by
 refine(ok a o e).stay (λb u hb q=>?_) (λ_ q=>q) λ_ _ q=>q;have hB:∃ob,B.get? b=some ob:=by
  rcases hb with rfl|hb
  .exact tr _ _ e
  .exact tr _ _ hb
 obtain⟨ob,eb⟩:=hB;have:=s1 b ob eb;rw[q]at this;cases this;exact s2 b _ eb
def Fly.to (f:Fly P w l H H' h h' ea C a0 B)(fl:Heap.FlyingW B l ea (.ref C) a0 h'')(u:h'.UpToSlots h''):Fly P w l H H' h h'' ea C a0 B where
 fl:=fl
 un:=by
  refine#[λb o e n hb _=>fl.1 b o (f.kb b o e n hb),λb o e n hb hx=>?_,f.un.free,λb o e hx=>?_,f.un.tups,f.un.frzs,f.un.tbls]
  .obtain⟨sl,e1⟩:=f.un.slot b o e n hb hx;obtain⟨o2,e2,d⟩:=Ga f.fl.2.2.1 hb;rw[e1]at e2;cases e2;obtain⟨sl2,e3⟩:=u b _ e1 d;exact#[sl2,e3]
  .by_cases hb:b∈frs l
   .obtain⟨o2,e2,d⟩:=Ga f.fl.2.2.1 hb;obtain⟨sl2,e3⟩:=u b _ e2 d;exact#[_,e3]
   .obtain⟨ob,eb⟩:=f.old b o e hb;exact#[ob,fl.1 b ob eb]
 hok:=Uc f.hok f.tr f.fl.1 fl.1
 kb:=f.kb
 tr:=f.tr
 old:=f.old
end
def CXU (P:Program)(w:World):CXT:=λouter H s E e s'=>∃(ea C:Addr)(a0:Value)(B:Heap)(H':Hp),e=.ref ea/\s'.os=s.os/\AllBare s'.gens/\Fly P w outer H H' s.heap s'.heap ea C a0 B/\E (.ref C) none H'
def BX {env:Env}{l:List Env}{L:Addr}(h:env.frame=some L):frs (env::l)=L::frs l:=by
 unfold frs;rw[qBf,h]
section
variable {X:Cx}{pins:List (Addr×Obj)}{σ:St}{H H':Hp}{s s':Shared}{ea C:Addr}{a0:Value}{B:Heap}{h1:Heap}{vs:List Value}
def QT (I:Inv X pins σ H s)(hst:X.stack=X.env::X.outer)(hf:X.env.frame=some X.env.locals)(hex:X.ex=[])(hx:Heap.MadeExcOf s.heap h1 ea (.ref C) vs){Q:Unit->Shared->Prop}{E:Value->Shared->Prop}
 (hQ:∀(h':Heap)(t:Addr)(B:Heap),Fly X.prog X.w X.outer X.H₀ H X.s₀.heap h' ea C (.ref t) B->Q Unit.unit { s with heap:=h' }) :
 wpAny (model X.prog X.w) X.A (leaving X.env (.ref ea)) Q E { s with heap:=h1 }:=by
 have hfr:X.A.frames=some (X.env::X.outer):=by rw[<-hst];exact I.ok.frames
 have hstk:=I.stack;rw[hst]at hstk;have hin:∀env∈(X.env::X.outer),∀b,env.frame=some b->b∈frs (X.env::X.outer):=λenv he b hb=>qBP.mpr #[env,he,hb];have hB:∀b o,s.heap.get? b=some o->b∉frs (X.env::X.outer)->(W.hideAll s.heap (frs (X.env::X.outer))).get? b=some o:=λb o e hb=>qCp _ e hb;have ho:∀b o,(W.hideAll s.heap (frs (X.env::X.outer))).get? b=some o->s.heap.get? b=some o:=λb o e=>qCw _ e;refine wpAny_leaves_madeW (base:=W.hideAll s.heap (frs (X.env::X.outer))) (h:=s.heap) (s:={ s with heap:=h1 }) hfr hf ho (qCN hstk hin) hx λh' t fl _ _ up=>?_;refine hQ h' t (W.hideAll s.heap (frs (X.env::X.outer))) ?_;have up0:s.heap.UpToSlots h':=(Heap.UpToSlots.of_keeps hx.keeps).trans up;have old:∀b o,X.s₀.heap.get? b=some o->b∉frs X.outer->b∉frs (X.env::X.outer):=λb o e hb hm=>by
  rw[BX hf]at hm;rcases qAi.mp hm with rfl|hm
  .exact absurd (qAl (qAj e) I.ok.above) (qAY _)
  .exact hb hm
 have nex:∀b:Addr,b∉X.ex:=λb z=>by rw[hex]at z;cases z
 have tfr:∀b o,H b=some o->b∉frs (X.env::X.outer):=λb o e hm=>by
  have:=I.stkFree b (by rw[hst];exact hm);rw[e]at this;cases this
 have tr:∀b o,H b=some o->∃ob,(W.hideAll s.heap (frs (X.env::X.outer))).get? b=some ob:=λb o e=>by
  obtain⟨u,eu⟩:=Dm.there (I.hok b o e);exact#[u,hB b u eu (tfr b o e)]
 refine#[fl,#[λb o e n hb _=>?_,λb o e n hb _=>?_,λb o e n _=>I.base.free b o e n (nex b),λb o e _=>?_,I.base.tups,I.base.frzs,I.base.tbls],Uc I.hok tr ho fl.1,λb o e n hb=>?_,tr,λb o e hb=>?_]
 .exact fl.1 b o (hB b o (I.base.keep b o e n hb (nex b)) (old b o e hb))
 .obtain⟨sl,e1⟩:=I.base.slot b o e n hb (nex b);obtain⟨o2,e2,d⟩:=Ga hstk (by rw[BX hf];exact qAD _ hb);rw[e1]at e2;cases e2;obtain⟨sl2,e3⟩:=up0 b _ e1 d;exact#[sl2,e3]
 .obtain⟨o1,e1⟩:=I.base.there b o e (nex b);by_cases hb:b∈frs X.outer
  .obtain⟨o2,e2,d⟩:=Ga hstk (by rw[BX hf];exact qAD _ hb);obtain⟨sl2,e3⟩:=up0 b _ e2 d;exact#[_,e3]
  .exact#[o1,fl.1 b o1 (hB b o1 e1 (old b o e hb))]
 .exact hB b o (I.base.keep b o e n hb (nex b)) (old b o e hb)
 .obtain⟨o1,e1⟩:=I.base.there b o e (nex b);exact#[o1,hB b o1 e1 (old b o e hb)]
def Ys (I:Inv X pins σ H s)(hst:X.stack=X.env::X.outer)(hf:X.env.frame=some X.env.locals)(hex:X.ex=[])(f:Fly X.prog X.w X.stack H H' s.heap s'.heap ea C a0 B){Q:Unit->Shared->Prop}{E:Value->Shared->Prop}
 (hQ:∀h':Heap,Fly X.prog X.w X.outer X.H₀ H' X.s₀.heap h' ea C a0 B->Q Unit.unit { s' with heap:=h' }):wpAny (model X.prog X.w) X.A (leaving X.env (.ref ea)) Q E s':=by
 have hfr:X.A.frames=some (X.env::X.outer):=by rw[<-hst];exact I.ok.frames
 rw[hst]at f;refine wpAny_leaves_onW hfr hf f.fl λh' fl up=>hQ h' ?_;have old:∀b o,X.s₀.heap.get? b=some o->b∉frs X.outer->b∉frs (X.env::X.outer):=λb o e hb hm=>by
  rw[BX hf]at hm;rcases qAi.mp hm with rfl|hm
  .exact absurd (qAl (qAj e) I.ok.above) (qAY _)
  .exact hb hm
 have nex:∀b:Addr,b∉X.ex:=λb z=>by rw[hex]at z;cases z
 have up_:∀b,b∈frs X.outer->b∈frs (X.env::X.outer):=λb hb=>by rw[BX hf];exact qAD _ hb
 have kb:∀b o,X.s₀.heap.get? b=some o->X.H₀ b=none->b∉frs X.outer->B.get? b=some o:=λb o e n hb=>
  f.kb b o (I.base.keep b o e n hb (nex b)) (I.base.free b o e n (nex b)) (old b o e hb)
 have ol:∀b o,X.s₀.heap.get? b=some o->b∉frs X.outer->∃ob,B.get? b=some ob:=λb o e hb=>by
  obtain⟨o1,e1⟩:=I.base.there b o e (nex b);exact f.old b o1 e1 (old b o e hb)
 refine#[fl,#[λb o e n hb _=>fl.1 b o (kb b o e n hb),λb o e n hb _=>?_,λb o e n _=>?_,λb o e _=>?_,λb xs e=>f.un.tups b xs (I.base.tups b xs e),λb o u e=>f.un.frzs b o u (I.base.frzs b o u e),λb ps e=>?_],Uc f.hok f.tr f.fl.1 fl.1,kb,f.tr,ol]
 .obtain⟨sl,e1⟩:=I.base.slot b o e n hb (nex b);obtain⟨sl1,e2⟩:=f.un.slot b _ e1 (I.base.free b o e n (nex b)) (up_ b hb) (by simp);obtain⟨o3,e3,d⟩:=Ga f.fl.2.2.1 (up_ b hb);rw[e2]at e3;cases e3;obtain⟨sl2,e4⟩:=up b _ e2 d;exact#[sl2,e4]
 .obtain⟨o1,e1⟩:=I.base.there b o e (nex b);exact f.un.free b o1 e1 (I.base.free b o e n (nex b)) (by simp)
 .by_cases hb:b∈frs X.outer
  .obtain⟨o3,e3,d⟩:=Ga f.fl.2.2.1 (up_ b hb);obtain⟨sl2,e4⟩:=up b _ e3 d;exact#[_,e4]
  .obtain⟨ob,eb⟩:=ol b o e hb;exact#[ob,fl.1 b ob eb]
 .obtain⟨m1,e1⟩:=I.base.tbls b ps e;obtain⟨m2,e2⟩:=f.un.tbls b _ e1;exact#[m1++m2,by rw[e2,Array.append_assoc]]
def Fly.inv (I:Inv X pins σ H s)(f:Fly X.prog X.w X.stack H H' s.heap s'.heap ea C a0 B)(ho:s'.os=s.os)(hg:AllBare s'.gens):Inv X pins σ H' s':=
 I.call' (ch:=[]) ho f.un f.hok hg (λb z=>absurd z (by simp))
end
structure ExC (K:W.Frag)(x:Str)(C:Addr):Prop where
 ns:W.nsIn K mainGlobals x=some (some (.ref C))
 ex:W.excIn K C [.type "ValueError",.type "Exception",.type "BaseException",.type "object"] "ValueError.__new__"=true
def LA {K:W.Frag}{mg:Str->Option Value}{base:Heap}(M:Mod K mg base)(p:Program):∃loose mb,W.TopRead p loose mg mb base:=by
 obtain⟨o,es,ep,ho,hd,hk,hm⟩:=M.glob;obtain⟨mb,h1,h2⟩:=M.blt;refine#[es.toList.filterMap λe=>match e.key with|.str x _=>some x|_=>none,mb,M.glob,h1,M.nolimit,h2,λx _ hx _ _ _=>?_];rw[<-hm x];unfold nsFind findBy;cases q:es.find? (λe=>e.key.isStr x) with
 |none=>rfl
 |some e=>
  exfalso
  have h3:=Array.find?_some q;have h4:=Array.mem_of_find?_eq_some q;apply hx;rw[qBP];refine#[e,by simpa using h4,?_];obtain⟨kh,key,val⟩:=e;cases key with
  |str y t=>
   have h5:(Value.str y t).isStr x=true:=h3;have h6:y=x:=by simpa [Value.isStr] using h5
   show some y=some x;rw[h6]
  |_=>cases h3
structure VW (X:Cx)(U:Str->Prop):Prop where
 raise:∀(pins:List (Addr×Obj))(σ:St)(H:Hp)(s:Shared)(h1:Heap)(ea C:Addr)(x:Str)(vs:List Value),Inv X pins σ H s->Bp X.H₀ H->X.mg x=some (.ref C)->U x->Heap.MadeExcOf s.heap h1 ea (.ref C) vs->X.xe (.ref ea) { s with heap:=h1 }
 pass:∀(pins:List (Addr×Obj))(σ:St)(H:Hp)(s:Shared)(e:Value)(s':Shared),Inv X pins σ H s->CXU X.prog X.w X.stack H s (λcls _ H'=>∃x,X.mg x=some cls/\U x/\Bp X.H₀ H') e s'->X.xe e s'
def RA {P:Program}{w:World}{K:W.Frag}{mg:Str->Option Value}{base:Heap}{N:List Str}{qual:Str}{scope:Scope}{f:Addr}{cd:Value}{A:Around}{outer:List Env}{s:Shared}{H:Hp}{E:XK}{U:Str->Prop}
 (hE:∀x C H',Bp H H'->mg x=some (.ref C)->U x->E (.ref C) none H'):VW (JW (CXU P w) P w K mg base N qual scope f cd A outer s H E) U where
 raise:=λpins σ H1 s1 h1 ea C x vs I hs hm hu hx=>QT I rfl rfl rfl hx λh' t B fl=>#[ea,C,.ref t,B,H1,rfl,I.os,I.bare,fl,hE x C H1 hs hm hu]
 pass:=λpins σ H1 s1 e s' I h=>by
  obtain⟨ea,C,a0,B,H',rfl,ho,hg,fl,x,hm,hu,hs⟩:=h;exact Ys I rfl rfl rfl fl λh' fl'=>#[ea,C,a0,B,H',rfl,ho.trans I.os,hg,fl',hE x C H' hs hm hu]
section
variable {X:Cx}{U:Str->Prop}{e:Expr}{es:List Expr}{te:TE3}{tr:TA3}{pos:Pos}
def RR (U:Str->Prop)(x:Str)(te:TE3):TS3:=λ_ τ=>te τ λ_=>U x
def E3 {x:Str}{C:Addr}{np cpos:Pos}(xo:VW X U)(hc:X.calm=true)(he:PE3 X e te)(hg:Gl X x)(ec:ExC X.K x C)(hm:X.mg x=some (.ref C))
 (hs:starEach [e] X.env=(false,eval e X.env)::starEach [] X.env:=by exact Cm rfl)(hplain:(backTo cpos (starEach [e] X.env)).any (·.1)=false:=by exact C7 rfl)(hd:(x==("__debug__":Str))=false:=by decide)(hl:X.lent=none:=by rfl) :
 PS3 X (.Raise (some (.Call (.Name x np) [e] [] cpos)) none pos) (RR U x te):=by
 refine#[?_];intro pins s σ H D2 I h;obtain⟨B,z,τ,D3,r,ht,c⟩:=h;obtain⟨loose,mb,T⟩:=LA I.mod X.prog;obtain⟨tl,N,nm,q,bs,hdct,sn,sub,ab,col,dd,k0,k1,k2,k3,k5,mN,hC,hN,hni,TL⟩:=(qCF I.mod.kin T ec.ns ec.ex).obj;refine wpAny_Raise_call_subT (C:=C) (nm:=nm) (q:=q) (N:=N) (bs:=bs) (bm:=tl) (hdct:=hdct) (sn:=sn) (sub:=sub) (ab:=ab) (col:=col) (dd:=dd) (k0:=k0) (k1:=k1) (k2:=k2) (k3:=k3) (k5:=k5)
  qB1 (mN:=mN) (TL.hasType PySem.F.excBase_ValueError.hasBase) (I.ok.hd hc) hplain hni (DT I hg hm #[rfl,?_] hd)
 have pa:=(AM he.out Br hs) cpos pins s σ H (λvs H1=>↥vs=1/\Bp X.H₀ H1/\U x) I #[B,_,τ,_,r,ht,λs' v H' e' i' f' h'=>#[rfl,(r.all hl).trans e'.hh,h']];rw[hs]at pa ⊢;refine Calls.evalArgs_plain (thn pa λus s2 #[vs,H2,I2,rv,hl,hsame,hu]=>#[rfl,?_,I2.bk _ _ hC,hN.keeps I2.bk,TL.keeps I2.bk,λh' ea hx=>?_])
 .have:=↥rv;show ↥us<=sizeLine;have z:↥us=1:=();rw[z];decide
 .exact xo.raise pins σ H2 s2 h' ea C x us I2 hsame hm hu hx
def N7 (U:Str->Prop)(sp:Sp3)(t:TA3):TE3:=λτ R=>t τ λss=>sp ss R U
def R9 {k:Nat}{x:Str}{ps:List Str}{sp:Sp3}{p:Pos}(xo:VW X U)(c:Cal X.prog X.w X.K X.mg X.base (CXU X.prog X.w) k x ps sp)(hr:DC k X.A)(hg:Gl X x)(ha:PA3 X (e::es) tr)
 (hdb:(x==("__debug__":Str))=false:=by decide)(he:starEach (e::es) X.env=(false,eval e X.env)::starEach es X.env:=by exact Cm rfl)(hpl:(backTo pos (starEach es X.env)).any (·.1)=false:=by exact C7 rfl)(hl:X.lent=none\/∀y,¬U y:=by first|exact .inl rfl|exact .inr (λ_ z=>z)) :
 PE3 X (.Call (.Name x p) (e::es) [] pos) (N7 U sp tr):=by
 refine#[?_];obtain⟨f,fd,F,hm,hk,hb⟩:=c.ex;refine BL (RK (E:=λcls _ H'=>∃y,X.mg y=some cls/\U y/\Bp X.H₀ H') F hr hg hm hk hb .nil (λpins σ H s e s' I h=>xo.pass pins σ H s e s' I h) ha.out hdb he hpl) λσ H Q #[B,z,τ,R,r,ht,q]=>#[B,_,τ,_,r,ht,λss vs H1 e1 i1 h1=>?_];show Af X.K X.mg sp (vs++[]) H1.h Q _;rw[qA2];exact#[H1.z,ss,R,U,e1.sub,i1,h1,λs v H2 e2 i2 f2 h2=>q s v H2 (e1.trans e2) i2 (N3 e1 f2) h2,λy C H2 e2 hy hu=>#[y,hy,hu,hl.elim (λhl=>(r.all hl).trans (e1.hh.trans e2)) (λhn=>(hn y hu).elim)]]
end
section
variable {P:Program}{w:World}{K:W.Frag}{mg:Str->Option Value}{base:Heap}
def fnU {x qual:Str}{st:Stmt}{f:Addr}{fd:FuncData}{N ps:List Str}{k:Nat}{sp:Sp3}(F:Fun K x qual st f fd)(Sc:Ae N ps (Aa st))(len:∀ss R U,sp ss R U->↥ss=↥ps)
 (hbody:∀(cdv:Value)(A:Around)(outer:List Env)(s:Shared)(H:Hp)(E:XK)(ss:List S)(R:S->Prop)(U:Str->Prop),DC k (A.deeper (envOfC qual (Aa st) s.heap.objs.size f cdv))->sp ss R U ->
  VW (JW (CXU P w) P w K mg base N qual (Aa st) f cdv A outer s H E) U ->
  ∃t,Dp (JW (CXU P w) P w K mg base N qual (Aa st) f cdv A outer s H E) (BV st) t/\t { nx:=λ_=>R (.d .non),rt:=R } (BI N ss)):Ao P w K mg base (CXU P w) (k+1) f fd ps (Af K mg sp):=by
 obtain⟨oc,od,kV,doc,pm,an,cdv,ct,osl,rfl,lk,hcd⟩:=F.ex;refine RW lk hcd Sc (λvs H Q E hh=>by obtain⟨z,ss,R,U,hz,ha,h3,_⟩:=hh;exact ha.1.trans (len ss R U h3)) λA outer s H vs Q E hr hh9=>?_;obtain⟨z,ss,R,U,hz,ha,h3,q,qe⟩:=hh9;obtain⟨t,ht,hq⟩:=hbody cdv A outer s H E ss R U hr h3 (RA qe);exact#[_,ht.out,#[H,z],z,BI N ss,_,C8 ha hz (Bp.refl H),hq,#[λτ σ p r h=>q (.d .non) _ p r.ext Is.non FP h,λ_ _ _ _ z=>z.elim,λ_ _ _ _ z=>z.elim,λs v p e i f h=>q s v p e i f h]]
def Ao.anyCX {CX:CXT}{k:Nat}{f:Addr}{fd:FuncData}{ps:List Str}{sp:Sp}(F:Ao P w K mg base CX0 k f fd ps sp):Ao P w K mg base CX k f fd ps sp:=
 #[F.len,λA outer s H args us vs Q E hr h0 hb hv hs=>codeAny_mono (F.run A outer s H args us vs Q E hr h0 hb hv hs) λr s' h=>by
  cases r with
  |error e=>exact(show False from h).elim
  |ok fl=>cases fl<;>exact h]
end
section
variable {K:W.Frag}{M:Model}{A:Around}{E:Value->Shared->Prop}{s:Shared}
structure HnC (K:W.Frag)(C:Addr):Prop where
 nt:W.instIn K (.ref C) (.type "tuple")=some false
 ty:(W.clsIn K C).isSome=true
 sb:W.mroIn K C (.type "BaseException")=some true
def HW {h:Heap}{C:Addr}(X:K.In h)(hc:(W.clsIn K C).isSome=true):W.Looks M h (isType (.ref C)) true:=by
 obtain⟨cd,e⟩:=qA6.mp hc;unfold W.clsIn at e;split at e
 .rename_i c' d' cd' sl' ho;intro A' Q' E' s' k q;unfold isType loadHead;exact qC1 (wpAny_loadPart (k _ _ (X _ _ ho)) (qC2 q))
 .cases e
def MN {ea C Cx:Addr}{oe:Obj}{b:Bool}{Q:Bool->Shared->Prop}(X:K.In s.heap)(hn:HnC K Cx)(he:s.heap.get? ea=some oe)(hcls:oe.cls=.ref C)(hb:W.mroIn K C (.ref Cx)=some b)(q:Q b s) :
 wpAny M A (excMatches (.ref ea) (.ref Cx)) Q E s:=by
 have L1:=W.looks_instIn (M:=M) X hn.nt;have L2:=HW (M:=M) X hn.ty;have L3:=qBL (M:=M) X hn.sb;have L4:=qBL (M:=M) X hb;have L5:W.Looks M s.heap (typeOf (.ref ea)) (.ref C):=hcls ▸ (W.Looks.ld he).andThen .now;unfold excMatches isExcClass;refine qC1 (L1.at ?_);simp only[qBS,if_false,pure_bind,qB4,qCU,bind_assoc];refine qC1 (L2.at ?_);simp only[if_true];refine qC1 (L3.at ?_);simp only[Bool.not_true,qBS,if_false,pure_bind];refine qC1 (L5.at ?_);refine qC1 (L4.at ?_);cases b with
 |true=>simp only[if_true,pure_bind];exact qC2 q
 |false=>simp only[qBS,if_false,pure_bind];exact qC2 q
end
def hnd (X:Cx)(ea:Addr):Cx:={ X with A:=X.A.mark (some (.ref ea)),calm:=false }
section
variable {X:Cx}{pins:List (Addr×Obj)}{σ:St}{H H':Hp}{s s':Shared}{ea C:Addr}{a0:Value}{B:Heap}
def QU (I:Inv X pins σ H s)(ea:Addr):Inv (hnd X ea) pins σ H s:=
 #[#[I.ok.mod,I.ok.kind,I.ok.glob,I.ok.blt,I.ok.above,I.ok.inj,I.ok.has,I.ok.cab,(λz=>by cases z),I.ok.frames,I.ok.stk,I.ok.exf,I.ok.bs,I.ok.bsz,I.ok.noex,I.ok.exfs,I.ok.funs,I.ok.frf,I.ok.tb],I.os,I.bare,I.base,I.loc,I.cell,I.free,I.freeC,I.pin,I.hok,I.len]
def Wi {CX:CXT}{k:Nat}{f:Addr}{fd:FuncData}{ps:List Str}{sp:Sp}{Ex:XK}{EE:Value->Shared->Prop}{x:Str}{p pos:Pos}{e:Expr}{es:List Expr}{t:TA}{Q:VK}(F:Ao X.prog X.w X.K X.mg X.base CX k f fd ps sp)(hr:DC k X.A)(hg:Gl X x)(hm:X.mg x=some (.ref f))
 (hk:W.keepIn X.K (.ref f)=true)(hb:L2.Binds X.K fd ps [])(ha:PA X (e::es) t)(hno:∀e s,X.xe e s->EE e s)(I:Inv X pins σ H s)
 (hx:∀(H1:Hp)(s1:Shared)(e:Value)(s':Shared),Inv X pins σ H1 s1->CX X.stack H1 s1 Ex e s'->EE e s')(h:t σ H λvs H1=>sp vs H1 Q Ex)
 (hdb:(x==("__debug__":Str))=false)(he:starEach (e::es) X.env=(false,eval e X.env)::starEach es X.env)(hpl:(backTo pos (starEach es X.env)).any (·.1)=false) :
 wpAny (model X.prog X.w) X.A (eval (.Call (.Name x p) (e::es) [] pos) X.env) (EP X pins σ Q) EE s:=by
 refine wpAny_Call_Name_kw (DT I hg hm ?_ hdb);refine qBR (h₀:=X.base) I.ok.mod.kin hk (qC3 (ha pos pins s σ H _ I h) (λus s1 #[vs,H1,I1,r,q]=>#[I1.kIn,?_]) hno) he hpl;have hl:(us++([]:List Value)).length=↥ps:=by rw[qA2,<-↥r];exact F.len _ _ _ _ q
 have bb:=hb s1 us I1.kIn hl;rw[qA2]at bb;refine wpAny_call (codeAny_mono (F.run X.A X.stack s1 H1 #[us,[]] us vs Q Ex hr I1.env0 bb r q) λr s' hq=>?_);cases r with
 |error e=>exact hx H1 s1 e s' I1 hq
 |ok fl=>
  cases fl with
  |ret u=>exact I1.after hq
  |next=>exact False.elim hq
  |brk=>exact False.elim hq
  |cont=>exact False.elim hq
end
section
variable {X:Cx}{e:Expr}{es:List Expr}{tr:TA3}{th:TS3}
end
def Xe {X:Cx}:VW X NoU where
 raise:=λ_ _ _ _ _ _ _ _ _ _ _ _ hu=>hu.elim
 pass:=λ_ _ _ _ _ _ _ h=>by
  obtain⟨_,_,_,_,_,_,_,_,_,_,_,hu,_⟩:=h;exact hu.elim
section
variable {prog:Program}{w:World}{A:Around}{E:Value->Shared->Prop}{s:Shared}{K:W.Frag}{x D:Addr}
structure ExI (K:W.Frag)(D:Addr):Prop where
 ga:W.findIn K (.ref D) "__getattribute__"=some (some (.builtin "BaseException.__getattribute__"))
 gt:W.findIn K (.ref D) "__getattr__"=some none
 cl:(W.clsIn K D).isSome=true
 fc:W.findIn K (.ref D) "__class__"=some (some (.builtin "object.__class__"))
 sp:W.specialIn K (.builtin "object.__class__") "__get__"=some (some (.builtin "getset_descriptor.__get__"))
 tk:W.takesIn K (.builtin "object.__class__")=some true
 mo:W.mroIn K D (.type "object")=some true
 mb:W.mroIn K D (.type "BaseException")=some true
def At (h:Heap)(x C:Addr):Prop:=∃ox,h.get? x=some ox/\ox.cls=.ref C
def At.type {M:Model}{h:Heap}(I:At h x D):W.Looks M h (typeOf (.ref x)) (.ref D):=by
 obtain⟨ox,h1,h2⟩:=I;exact h2 ▸ (W.Looks.ld h1).andThen .now
open PySem.W Builtin Builtin.ObjectAttr Builtin.Getset_descriptor in
def Pe {tp:Value}{R:Result->Shared->Prop}(X:K.In s.heap)(I:At s.heap x D)(hm:W.mroIn K D (.type "object")=some true)
 (h:R (.ok (.ret (.ref D))) s):codeAny (model prog w) A (.call (.builtin "getset_descriptor.__get__") #[[.builtin "object.__class__",.ref x,tp],[]]) R s:=by
 obtain⟨hh,g,dr,t,os⟩:=s;have L0:=I.type (M:=model prog w);have L1:=qBL (M:=model prog w) X hm;refine codeAny_call_builtin KF.slot_gs.plain KF.entry_gs (KF.slot_gs.check _ _ _ _ _ _ _ _ KF.type_class (KF.args_gs _ _ _) ?_);unfold Builtin.«getset_descriptor.__get__» descrGet;rw[dga_obj];refine qC1 (qC2 ?_);unfold descrGetter descrCheckInstance descrNameAndClass isInstance;simp only[KF.owner_class]
 repeat lk
 refine#[Code.quiet_builtin _ (by decide +kernel),codeAny_builtin KF.entry_class ?_];unfold Builtin.«object.__class__» shownTypeOf
 repeat lk
 exact h
open PySem.W in
def RT {tk:Tok}{Q:Fin->Shared->Prop}(i:ExI K D)(X:K.In s.heap)(I:At s.heap x D)(hq:Q (.done (.ret (.ref D))) s) :
 wpAny (model prog w) A (Builtin.«object.__getattribute__» #[[.ref x,.str "__class__" tk],[]]) Q E s:=by
 obtain⟨hh,g,d,t,os⟩:=s;have L0:=I.type (M:=model prog w);have M1:=qCl (M:=model prog w) X i.fc;have M2:W.Looks (model prog w) hh (Builtin.ObjectAttr.getOf (some (.builtin "object.__class__"))) (some (.builtin "getset_descriptor.__get__")):=W.looks_specialIn X i.sp;have M3:=W.looks_takesIn (M:=model prog w) X i.tk;have L1:W.Looks (model prog w) hh (Builtin.ObjectAttr.find (.ref x) (.ref D) "__class__") (.bind (.builtin "getset_descriptor.__get__") (.builtin "object.__class__")):=
  M1.andThen (M2.andThen ((show W.Looks (model prog w) hh (Builtin.ObjectAttr.dataDescriptor? (some (.builtin "object.__class__")) (some (.builtin "getset_descriptor.__get__"))) (some (_,_)) from M3.andThen .now).andThen (W.Looks.tag .now)))
 refine qC1 (qC2 (qC1 (qC2 (qC1 (L0.at (qC1 (L1.at ?_)))))));show wpAny _ _ (holding [.builtin "object.__class__"] (call (.builtin "getset_descriptor.__get__") [.builtin "object.__class__",.ref x,.ref D]) >>= ret) _ _ _;refine qC1 (wpAny_holding (wpAny_call (Pe X I i.mo ?_)));exact qC2 hq
def Wa (v:Value):bindSpecial (.builtin "BaseException.__getattribute__") v=pure (.builtin "BaseException.__getattribute__",[v]):=PySem.F.excAttr_ValueError.ga.bind v
def Qx {Q:Option Value->Shared->Prop}(i:ExI K D)(X:K.In s.heap)(I:At s.heap x D)(h:Q (some (.ref D)) { s with toks:=s.toks+1 }):wpAny (model prog w) A (getAttr? (.ref x) "__class__") Q E s:=by
 obtain⟨hh,g,d,t,os⟩:=s;have L0:=I.type (M:=model prog w);have L1:=qCl (M:=model prog w) X i.ga;have L2:=qCl (M:=model prog w) X i.gt;have L3:=qBL (M:=model prog w) X i.mb;have hx2:(Value.builtin "BaseException.__getattribute__" == Value.builtin "object.__getattribute__")=false:=by decide +kernel
 unfold getAttr? getAttrBy? getAttrBy;refine qC1 (wpAny_mkText (qC1 (wpAny_attempt (wpAny_holding (qC1 (L0.at (qC1 (L1.at ?_))))))));dsimp only;rw[hx2,Bool.and_false,qC5 qAq];unfold getAttrByItsOwn hookBefore;refine qC1 ?_;rw[qC6 (by rfl)];refine L2.at ?_;refine qC1 (wpAny_attempt (wpAny_holding ?_));unfold callGetattribute;rw[Bool.false_and,qC5 qAq];unfold boundAndCalled;rw[Wa];refine qC1 (qC2 ?_);dsimp only;refine wpAny_call (codeAny_call_builtin PySem.F.excAttr_ValueError.ga.plain PySem.F.entry_bexc_ga ?_);have hk:builtinKind "BaseException.__getattribute__"=some .slot:=by decide +kernel
 have hsplit:splitId "BaseException.__getattribute__"=some ("BaseException","__getattribute__"):=by decide +kernel
 have ha:=F.args_bexc_ga (.ref x) (.str "__class__" t);simp only[checkBuiltinCall,hk,hsplit];refine qC1 ((L0.andThen L3).at ?_);unfold argsOk at ha;simp only[Bool.not_true,qBS,if_false,List.cons_append,List.nil_append]
 first|rw[ha]|skip
 refine qC2 ?_;refine RT i X I ?_;exact qC2 (qC2 h)
def Uw (i:ExI K D):W.KitX K (.ref x) (.ref D) (λh=>At h x D) where
 ty:=λ_ _ _ I=>I.type
 it:=λ_ _ X _=>HW X i.cl
 ne:=λh tp dd its n sl X htp=>by
  obtain⟨cd,hc⟩:=qA6.mp i.cl;refine Bool.eq_false_iff.mpr λq=>?_;have e:D=tp:=Value.ref.inj (beq_iff_eq.mp q);subst e;unfold W.clsIn at hc;split at hc
  .rename_i c' d' cd' sl' ho;have z:=(X _ _ ho).symm.trans htp;cases z
  .cases hc
 ca:=λX I k=>Qx i X I k
end
def J4 (X:Cx)(ea:Addr)(oe:Obj):Cx:={ X with A:=X.A.mark (some (.ref ea)),calm:=false,pn:=(ea,oe)::X.pn }
section
variable {X:Cx}{pins:List (Addr×Obj)}{σ:St}{H H':Hp}{s s':Shared}{ea C:Addr}{oe:Obj}{a0:Value}{B:Heap}
def OC (I:Inv X pins σ H s)(hp:s.heap.get? ea=some oe/\H ea=none/\ea≠X.env.locals/\ea∉X.fs/\∀v,oe.data≠.cell v):Inv (J4 X ea oe) pins σ H s:=
 #[#[I.ok.mod,I.ok.kind,I.ok.glob,I.ok.blt,I.ok.above,I.ok.inj,I.ok.has,I.ok.cab,(λz=>by cases z),I.ok.frames,I.ok.stk,I.ok.exf,I.ok.bs,I.ok.bsz,I.ok.noex,I.ok.exfs,I.ok.funs,I.ok.frf,I.ok.tb],I.os,I.bare,I.base,I.loc,I.cell,I.free,I.freeC,λp hq=>by
  rcases qAi.mp (show p∈(ea,oe)::(X.pn++pins) from hq) with rfl|hq
  .exact hp
  .exact I.pin p hq,I.hok,I.len]
def Ed (hd:X.calm=true->X.A.handled=none)(hfm:X.A.frames=some X.stack)(I:Inv (J4 X ea oe) pins σ H s):Inv X pins σ H s:=
 #[#[I.ok.mod,I.ok.kind,I.ok.glob,I.ok.blt,I.ok.above,I.ok.inj,I.ok.has,I.ok.cab,hd,hfm,I.ok.stk,I.ok.exf,I.ok.bs,I.ok.bsz,I.ok.noex,I.ok.exfs,I.ok.funs,I.ok.frf,I.ok.tb],I.os,I.bare,I.base,I.loc,I.cell,I.free,I.freeC,λp hq=>I.pin p (qAD _ hq),I.hok,I.len]
def OW {B p:HZ}{τ:Tau}(r:Rep X B τ σ p):Rep (J4 X ea oe) B τ σ p:=#[r.len,r.ext,r.val,r.own,r.sep,r.top,r.pin]
def HI {B p:HZ}{τ:Tau}(r:Rep (J4 X ea oe) B τ σ p):Rep X B τ σ p:=#[r.len,r.ext,r.val,r.own,r.sep,r.top,r.pin]
def QE {A:Around}{E:Value->Shared->Prop}{n:Str}{pos:Pos}{Q:Unit->Shared->Prop}(I:Inv X pins σ H s)(hl:X.env.kindOf n=some .local)(h:∀s',Inv X pins (List.replicate ↥σ none) H s'->Q Unit.unit s') :
 wpAny (model X.prog X.w) A (do bindName X.env n .none;unbindBehindTheSuite X.env n pos) Q E s:=by
 obtain⟨m,hn,hv⟩:=id I.loc;have hcls:(X.env.scope.kind == .class||(X.env.scope.kind == .module&&X.env.locals != X.env.globals))=false:=by rw[I.ok.kind];rfl
 have cne:=I.cne;obtain⟨oL,_,_,hoL,_⟩:=id hn;refine wpAny_nameGoes hl hn hcls λh' m' hn' hs=>h _ ?_;have tracked:HOk X.prog X.w H h':=λb ob e=>by
  refine(I.hok b ob e).stay (λc w' hc q=>(hs.2 c ?_).trans q) (λ_ q=>q) λ_ _ q=>q;rintro rfl;rcases hc with rfl|hc
  .rw[I.free]at e;cases e
  .rw[I.free]at hc;cases hc
 refine#[I.ok,I.os,I.bare,#[λb o e n hb hx=>?_,λb o e n hb hx=>?_,I.base.free,λb o e hx=>?_,I.base.tups,I.base.frzs,I.base.tbls],#[_,hn',λj y v' e1 e2 e3=>?_],λy c e=>?_,I.free,I.freeC,λp hp=>?_,tracked,by rw[qCT];exact I.len]
 .exact(hs.2 b (qAs (qAl (qAj e) I.ok.above))).trans (I.base.keep b o e n hb hx)
 .obtain⟨sl,e1⟩:=I.base.slot b o e n hb hx;exact#[sl,(hs.2 b (qAs (qAl (qAj e) I.ok.above))).trans e1]
 .obtain⟨o',e1⟩:=I.base.there b o e hx;exact#[o',(hs.2 b (qAs (qAl (qAj e) I.ok.above))).trans e1]
 .rw[qCa]at e2;split at e2<;>cases e2
 .obtain⟨w',z⟩:=I.cell y c e;exact#[w',z.sameBut hs (cne y c e)]
 .obtain⟨e,n,ne,nf,d⟩:=I.pin p hp;exact#[(hs.2 p.1 ne).trans e,n,ne,nf,d]
structure ExO (oe:Obj)(C:Addr):Prop where
 cls:oe.cls=.ref C
def Ta {E:Value->Shared->Prop}{Q:Flow->Shared->Prop}{x n:Str}{i:Nat}{Cx:Addr}{np hp:Pos}{b0:Stmt}{suite:List Stmt}{rest:List ExceptHandler}(I:Inv X pins σ H s)(hst:X.stack=X.env::X.outer)(hf:X.env.frame=some X.env.locals)
 (fl:Fly X.prog X.w X.stack H H' s.heap s'.heap ea C a0 B) (ho:s'.os=s.os) (hg:AllBare s'.gens) (hgx:Gl X x) (hm:X.mg x=some (.ref Cx)) (hn:HnC X.K Cx) (hb:W.mroIn X.K C (.ref Cx)=some true) (hd:(x==("__debug__":Str))=false)
 (hN:X.N.Nodup)(hi:X.N[i]? = some n)(hx:Loc X.env.scope n)(hfn:X.fn n=true\/X.env.scope.names.lookup n=some .local)
 (go:∀(s2:Shared)(oe:Obj),ExO oe C->Inv (J4 X ea oe) pins (σ.set i (some (.ref ea))) H' s2->wpAny (model X.prog X.w) (X.A.mark (some (.ref ea))) (execs (b0::suite) X.env) (λf s4=>wpAny (model X.prog X.w) X.A (do bindName X.env n .none;unbindBehindTheSuite X.env n hp) (λ_ s5=>Q f s5) E s4) (λ_ _=>False) s2) :
 wpAny (model X.prog X.w) X.A (noteFrame (.ref ea) X.env) (λ_ s₂=>wpAny (model X.prog X.w) X.A (setFlight (.ref ea) none) (λ_ s₃=>
  wpAny (model X.prog X.w) X.A (handleBy (.ref ea) X.env (.ExceptHandler (some (.Name x np)) (some n) (b0::suite) hp::rest)) Q E s₃) E s₂) E s':=by
 have hfr:X.A.frames=some (X.env::X.outer):=by rw[<-hst];exact I.ok.frames
 have fl0:=fl.fl;rw[hst]at fl0;refine wpAny_looks_onW hfr hf fl0 λh4 held up4=>?_;refine wpAny_landsW held λh5 fl5 up5=>?_;rw[<-hst]at fl5;have f5:=fl.to fl5 (up4.trans up5);have I5:Inv X pins σ H' { s' with heap:=h5 }:=Fly.inv (s':={ s' with heap:=h5 }) I f5 ho hg;refine wpAny_handleBy_cons (codeAny_handlers_test (DT (X:=hnd X ea) (QU I5 ea) hgx hm ?_ hd)) (by intro q;cases q);obtain⟨oe,he,hc⟩:=f5.fl.there;refine MN (s:={ s' with heap:=h5 }) I5.kIn hn he hc hb ?_;refine codeAny_handlers_suite_as ?_;refine lands_againW (s:={ s' with heap:=h5 }) f5.fl λh6 fl6 up6=>?_;have f6:=f5.to fl6 up6;have I6:Inv X pins σ H' { s' with heap:=h6 }:=Fly.inv (s':={ s' with heap:=h6 }) I f6 ho hg;obtain⟨oe6,vs6,he6,hc6,hd6,_⟩:=f6.fl.first;have noF:∀b,b∈frs X.stack->ea≠b:=λb hbm z=>by
  obtain⟨o,h1,h2⟩:=Ga f6.fl.2.2.1 hbm;rw[<-z,he6]at h1;cases h1;exact h2 _ hd6
 have hnone:H' ea=none:=by
  cases e:H' ea with
  |none=>rfl
  |some o=>
   obtain⟨ob,eb⟩:=f6.tr _ _ e;have:=f6.fl.2.1;rw[eb]at this;cases this
 have IE:Inv (J4 X ea oe6) pins σ H' { s' with heap:=h6 }:=OC I6 #[he6,hnone,noF _ (by rw[hst,BX hf];exact qAL),λz=>noF _ (by rw[hst,BX hf];exact qAD _ z) rfl,λv z=>by rw[hd6]at z;cases z];refine Hb (X:=J4 X ea oe6) (v:=.ref ea) IE hN hi hx rfl (λs7 I7=>?_) hfn;exact qC3 (go s7 oe6 #[hc6] I7) (λf s4 h=>h) λ_ _ z=>z.elim
def T8 {c:Value}{cv:V}{b:Bool}(hO:ExO oe C)(i:ExI X.K C)(rc:Cq cv c)(hc:∀u,Cq cv u->u=c)(hk:W.kitOne X.K (.ref C) c=some b):Iv (J4 X ea oe) (.builtin "isinstance") (λxs H Q=>xs=[.ref ea,cv]/\Q (.bl b) H):=by
 intro pins s σ H xs us Q I rs h;obtain⟨rfl,q⟩:=h;obtain⟨v',u',rfl,r1,r2⟩:=Xv rs;cases r1;cases hc _ r2;have hp:=I.pin (ea,oe) (qAR _ qAL);exact qAS (Uw i) I.kIn #[oe,hp.1,hO.cls] hk (λz=>nomatch z) λtk=>#[.bl b,H,I.tok tk,rfl,q]
end
section
variable {X:Cx}{ea C:Addr}{oe:Obj}
def bF (i:Nat)(ea:Addr)(b:Bool):TE3:=λτ R=>τ[i]? = some (some (.d (.ref ea)))/\R (.d (.bl b))
def YU {i:Nat}{n y:Str}{p p1 p2 pos:Pos}{c:Value}{cv:V}{b:Bool}(hO:ExO oe C)(hi:ExI X.K C)(rc:Cq cv c)(hc:∀u,Cq cv u->u=c)(hk:W.kitOne X.K (.ref C) c=some b)
 (hv:PE (J4 X ea oe) (.Name n p1) (O1 i))(hcl:PE (J4 X ea oe) (.Name y p2) (tC cv))(hg:Gl X "isinstance")(hm:X.mg "isinstance"=none)
 (he:starEach [.Name n p1,.Name y p2] X.env=(false,eval (.Name n p1) X.env)::starEach [.Name y p2] X.env:=by exact Cm rfl)(he2:starEach [.Name y p2] X.env=(false,eval (.Name y p2) X.env)::starEach [] X.env:=by exact Cm rfl)(hpl:(backTo pos (starEach [.Name y p2] X.env)).any (·.1)=false:=by exact C7 rfl) :
 PE3 (J4 X ea oe) (.Call (.Name "isinstance" p) [.Name n p1,.Name y p2] [] pos) (bF i ea b):=#[BL (GR (T8 hO hi rc hc hk) hg hm qCs (AM hv (AM hcl Br he2) he) (he:=he) (hpl:=hpl)) λσ H Q #[B,z,τ,R,r,#[ht,hR],q]=>by
 obtain⟨v,h1,h2⟩:=r.val i _ ht;cases h2;exact#[.ref ea,h1,rfl,q (.d _) _ #[H,z] (Ext.refl r.ext.sub) (Is.bl _) FP hR]]
def YW {i:Nat}{n y:Str}{p p1 p2 pos:Pos}{T:String}{b:Bool}(hO:ExO oe C)(hi:ExI X.K C)(hk:W.kitOne X.K (.ref C) (.type T)=some b)
 (hv:PE (J4 X ea oe) (.Name n p1) (O1 i))(hgy:Gl X y)(hmy:X.mg y=none)(hby:bootBuiltins y=some (.type T))(hg:Gl X "isinstance")(hm:X.mg "isinstance"=none)(hn:y≠"__name__":=by decide)(hd:(y==("__debug__":Str))=false:=by decide)
 (he:starEach [.Name n p1,.Name y p2] X.env=(false,eval (.Name n p1) X.env)::starEach [.Name y p2] X.env:=by exact Cm rfl)(he2:starEach [.Name y p2] X.env=(false,eval (.Name y p2) X.env)::starEach [] X.env:=by exact Cm rfl)(hpl:(backTo pos (starEach [.Name y p2] X.env)).any (·.1)=false:=by exact C7 rfl) :
 PE3 (J4 X ea oe) (.Call (.Name "isinstance" p) [.Name n p1,.Name y p2] [] pos) (bF i ea b):=
 YU (cv:=.ty T) hO hi rfl (λu z=>z) hk hv (RG (X:=J4 X ea oe) (v:=.ty T) hgy hmy hby rfl hn hd) hg hm he he2 hpl
variable {e:Expr}{es:List Expr}{tr:TA3}
def Xx (i:Nat)(sp:Sp3)(ok:Str->Prop)(tr:TA3)(th:Addr->Str->TS3):TS3:=λD3 τ=>tr τ λss=>sp ss (λ_=>D3.nx τ) (λy=>ok y/\∀ea,th ea y { nx:=λ_=>False,rt:=D3.rt } (τ.set i (some (.d (.ref ea)))))
end
def JB:PySem.bootBuiltins "ValueError"=some (.type "ValueError"):=by decide +kernel
section
variable {X:Cx}
def bN {K:W.Frag}{mg:Str->Option Value}{y0:Str}{C0 Cx:Addr}(hm:mg y0=some (.ref C0))(h:W.mroIn K C0 (.ref Cx)=some true):∀y C,y=y0->mg y=some (.ref C)->W.mroIn K C (.ref Cx)=some true:=λy C e h1=>by
 subst e;rw[hm]at h1;cases h1;exact h
variable {e:Expr}{es:List Expr}{tr:TA3}
end
section
variable {X:Cx}{st:Stmt}{rest':List Stmt}{t u:TS3}
end
def hu_ {A:Around}{k n:Nat}(hr:DC k A)(hn:n<=200):A.units+n<cLine:=by have:=hr.un;omega
section
variable {X:Cx}{pins:List (Addr×Obj)}{σ:St}{H:Hp}{s:Shared}
def Pm (I:Inv X pins σ H s){n:Nat}{A:Around}{a b:Addr}{vs ws:List V}{xs ys:List D}(ha:SqT X.K H a vs)(hb:SqT X.K H b ws)(hx:Iss X.K H vs xs)(hy:Iss X.K H ws ys)(hu:A.units<cLine)
 (ih:∀(x y:D)(v u:V)(v' u':Value),x∈xs->y∈ys->Is X.K H v x->Is X.K H u y->Cq v v'->Cq u u'->SeqAt.EqAt A.in1 s v' u' (eqN n x y)):SeqAt.RcNeAt A s (.ref a) (.ref b) (!eqN (n+1) (.tup xs) (.tup ys)):=by
 obtain⟨its,r1,p1,_⟩:=I.tuple ha;obtain⟨its2,r2,p2,_⟩:=I.tuple hb;have l1:=↥r1;have l2:=↥r2;have k1:=hx.1;have k2:=hy.1;have key:=SeqAt.RcNeAt.tuples (A:=A) (s:=s) (l:=a) (b:=b) (items:=its.toArray) (items2:=its2.toArray) (e:=λj=>match xs[j]?,ys[j]? with|some x,some y=>eqN n x y|_,_=>true) p1 p2 hu (λj h1 h2=>by
  have h1':j<↥its:=by simpa using h1
  have h2':j<↥its2:=by simpa using h2
  have gx:xs[j]? = some (xs[j]' ()):=qAb ();have gy:ys[j]? = some (ys[j]' ()):=qAb ();have gv:vs[j]? = some (vs[j]' ()):=qAb ();have gw:ws[j]? = some (ws[j]' ()):=qAb ();obtain⟨u1,e1,q1⟩:=r1.get gv;obtain⟨u2,e2,q2⟩:=r2.get gw;rw[FN h1 e1,FN h2 e2];rw[gx,gy];exact ih _ _ _ _ _ _ (qAE gx) (qAE gy) (hx.2 j _ _ gv gx) (hy.2 j _ _ gw gy) q1 q2)
 have e:eqN (n+1) (.tup xs) (.tup ys)=((List.range (min its.toArray.size its2.toArray.size)).all (λj=>match xs[j]?,ys[j]? with|some x,some y=>eqN n x y|_,_=>true)&&its.toArray.size==its2.toArray.size):=by
  show((xs.zip ys).all (λp=>eqN n p.1 p.2)&&↥xs==↥ys)=_;have s1:its.toArray.size=↥xs:=by simp;omega
  have s2:its2.toArray.size=↥ys:=by simp;omega
  rw[s1,s2]
  congr 1
  rw[qBQ,qAK,qAK];constructor
  .intro h j hj;rw[qAH]at hj;have gx:xs[j]? = some (xs[j]' ()):=qAb ();have gy:ys[j]? = some (ys[j]' ()):=qAb ();rw[gx,gy];exact h (_,_) (qAE (qBs.mpr #[gx,gy]))
  .rintro h ⟨x,y⟩ hp;obtain⟨j,hj⟩:=qCk hp;obtain⟨gx,gy⟩:=qBs.mp hj;have h1:=(qAe.mp gx).1;have h2:=(qAe.mp gy).1;have:=h j (by rw[qAH];omega);simp only[]at gx gy;rw[gx,gy]at this;exact this
 rw[e];exact key
def bR (n:Nat):R3:=λdx dy R=>match dx,dy with
 |.tup xs,.tup ys=>En n (.tup xs)=true/\En n (.tup ys)=true/\R (.bl (!eqN n (.tup xs) (.tup ys)))
 |_,_=>False
def Ug (n:Nat)(hu:X.A.units+n<cLine):IF X (compareOp .NotEq) (bR n):=by
 intro pins s σ H x y v u Q I rx ry h;obtain⟨z,dx,dy,R,hz,hx,hy,h3,q⟩:=h;replace hx:=hx.mono hz;replace hy:=hy.mono hz;unfold bR at h3;split at h3
 .rename_i xs ys;obtain⟨fx,fy,h3⟩:=h3;cases n with
  |zero=>cases fx
  |succ n=>
   obtain⟨a,vs,rfl,ha,ia⟩:=Is.tup_inv hx;obtain⟨b,ws,rfl,hb,ib⟩:=Is.tup_inv hy;cases rx;cases ry;refine Pm (A:=X.A) (n:=n) I ha hb ia ib () (λx y v u v' u' mx my ix iy rv ru=>?_) X.prog X.w X.xe _ #[.bl _,H,I,rfl,q _ _ #[H,z] (Ext.refl hz) (.bl _) h3];exact R8 I n X.A.in1 x y v u v' u' (by show X.A.units+1+n<cLine;omega) (qAK.mp (show xs.all (En n)=true from fx) x mx) (qAK.mp (show ys.all (En n)=true from fy) y my) ix iy rv ru
 .exact h3.elim
end
theorem Hv {env:Env}:∀(names:List (Str×NameKind))(acc:List (Str×Addr)),(∀y∈names,y.2=.free->∃c,env.cells.lookup y.1=some c) ->
 ∃cl,(forIn names acc fun(x:Str×NameKind)(r:List (Str×Addr))=>if (x.2 == .free)=true then (do let c <-cellOf env x.1;pure (ForInStep.yield ((x.1,c)::r)):Sem _) else pure (ForInStep.yield r))=pure cl /\
  (∀y c,(y,c)∈cl->(y,c)∈acc\/env.cells.lookup y=some c)/\(∀y,(y,NameKind.free)∈names->∃c,(y,c)∈cl)/\∀p∈acc,p∈cl
 |[],acc,_=>#[acc,rfl,λy c h=>.inl h,(λy h=>by cases h),λp h=>h]
 |(n,k)::r,acc,h=>by
  rw[qB4];by_cases hk:(k==NameKind.free)=true
  .have hk':k=.free:=by simpa using hk
   obtain⟨c,hc⟩:=h (n,k) qAL hk';obtain⟨cl,e,h1,h2,h3⟩:=Hv r ((n,c)::acc) λy hy=>h y (qAD _ hy);refine#[cl,?_,λy d hd=>?_,λy hy=>?_,λp hp=>h3 p (qAD _ hp)]
   .have hco:cellOf env n=pure c:=by unfold cellOf;rw[hc]
    simp only[hk,if_true,hco,pure_bind];exact e
   .rcases h1 y d hd with z|z
    .rcases qAi.mp z with z|z
     .cases z;exact .inr hc
     .exact .inl z
    .exact .inr z
   .rcases qAi.mp hy with z|z
    .cases z;exact#[c,h3 _ qAL]
    .exact h2 y z
  .obtain⟨cl,e,h1,h2,h3⟩:=Hv r acc λy hy=>h y (qAD _ hy);refine#[cl,?_,h1,λy hy=>?_,h3]
   .simp only[hk,qBS,if_false,pure_bind];exact e
   .rcases qAi.mp hy with z|z
    .cases z;exact absurd rfl hk
    .exact h2 y z
theorem BD {α:Type}{y:Str}{c:α}:∀{l:List (Str×α)},l.lookup y=some c->(y,c)∈l
 |[],h=>by cases h
 |(n,d)::r,h=>by
  rw[qBo]at h;cases q:y==n with
  |true => rw[q]at h;cases h;have:y=n:=by simpa using q
           subst this;exact qAL
  |false=>rw[q]at h;exact qAD _ (BD h)
theorem KN {α:Type}{y:Str}{c:α}:∀{l:List (Str×α)},(y,c)∈l->∃d,l.lookup y=some d
 |(n,d)::r,h=>by
  rw[qBo];cases q:y==n with
  |true=>exact#[d,rfl]
  |false=>
   rcases qAi.mp h with z|z
   .cases z;simp at q
   .exact KN z
def HE {scope:Scope}{env:Env}(h:∀y∈scope.names,y.2=.free->∃c,env.cells.lookup y.1=some c) :
 ∃cl,closureFor scope env=pure cl/\(∀y c,cl.lookup y=some c->env.cells.lookup y=some c)/\∀y,(y,NameKind.free)∈scope.names->∃c,cl.lookup y=some c:=by
 obtain⟨cl,e,h1,h2,_⟩:=Hv scope.names [] h;refine#[cl,?_,λy c hc=>?_,λy hy=>?_]
 .unfold closureFor
  first|(simp only[bind_pure];exact e)|exact e
 .rcases h1 y c (BD hc) with z|z
  .cases z
  .exact z
 .obtain⟨c,hc⟩:=h2 y hy;exact KN hc
def AB (X:Cx)(N:List Str)(scope:Scope)(cl:List (Str×Addr))(C:Addr)(s₀:Shared)(H₀:Hp)(fp:List Addr):Cx:=
 { X with N:=N,s₀:=s₀,H₀:=H₀,env:=compEnvC scope cl C X.env,outer:=X.stack,ex:=fp,fn:=λ_=>false,pn:=[],xe:=λ_ _=>False,lent:=none }
theorem CU {env:Env}:∀{names:List (Str×NameKind)}{x:Str}{k:NameKind},(names.map fun(n,k)=>if (k==NameKind.free&&env.scope.kind == .function&&env.kindOf n==some .cell) then (n,NameKind.cell) else (n,k)).lookup x=some k ->
 ∃k0,(x,k0)∈names/\(k=k0\/k0=.free)
 |[],_,_,h=>by cases h
 |(n,k1)::r,x,k,h=>by
  have h':List.lookup x ((if (k1==NameKind.free&&env.scope.kind == .function&&env.kindOf n==some .cell)=true then (n,NameKind.cell) else (n,k1))::(r.map fun(n,k)=>if (k==NameKind.free&&env.scope.kind == .function&&env.kindOf n==some .cell) then (n,NameKind.cell) else (n,k)))=some k:=h;by_cases hc:(k1==NameKind.free&&env.scope.kind == .function&&env.kindOf n==some .cell)=true
  .rw[qC6 hc,qBo]at h';have hk1:k1=.free:=by
    rw[qAZ,qAZ]at hc;simpa using hc.1.1
   cases q:x==n with
   |true=>
    have:x=n:=by simpa using q
    subst this;exact#[k1,qAL,.inr hk1]
   |false=>
    rw[q]at h';obtain⟨k0,h1,h2⟩:=CU h';exact#[k0,qAD _ h1,h2]
  .rw[qC5 hc,qBo]at h';cases q:x==n with
   |true=>
    rw[q]at h';have:x=n:=by simpa using q
    subst this;exact#[k1,qAL,.inl (qAn h').symm]
   |false=>
    rw[q]at h';obtain⟨k0,h1,h2⟩:=CU h';exact#[k0,qAD _ h1,h2]
theorem Cr {env:Env}{y:Str}(hk:env.scope.kind=.function)(hy:env.kindOf y=some .cell):∀{names:List (Str×NameKind)},names.lookup y=some .free ->
 (names.map fun(n,k)=>if (k==NameKind.free&&env.scope.kind == .function&&env.kindOf n==some .cell) then (n,NameKind.cell) else (n,k)).lookup y=some .cell
 |[],h=>by cases h
 |(n,k1)::r,h=>by
  show List.lookup y ((if (k1==NameKind.free&&env.scope.kind == .function&&env.kindOf n==some .cell)=true then (n,NameKind.cell) else (n,k1))::(r.map fun(n,k)=>if (k==NameKind.free&&env.scope.kind == .function&&env.kindOf n==some .cell) then (n,NameKind.cell) else (n,k)))=some .cell;rw[qBo]at h;cases q:y==n with
  |true=>
   rw[q]at h;have:y=n:=by simpa using q
   subst this;have hk1:k1=.free:=qAn h;subst hk1;rw[qC6 (by rw[hk,hy];rfl),qBo,q]
  |false=>
   rw[q]at h;have ih:=Cr hk hy h;by_cases hc:(k1==NameKind.free&&env.scope.kind == .function&&env.kindOf n==some .cell)=true
   .rw[qC6 hc,qBo,q];exact ih
   .rw[qC5 hc,qBo,q];exact ih
structure Bl (X:Cx)(x:Str)(scope:Scope)(N:List Str)(idx:List Nat):Prop where
 kind:scope.kind=.function
 cell:∀y∈scope.names,y.2≠.cell
 names:∀y∈scope.names,y.2=.local->scope.names.lookup y.1=some .local
 own:scope.names.lookup x=some .local
 free:∀y∈scope.names,y.2=.free->X.env.kindOf y.1=some .cell
 nd:N.Nodup
 fst:N[0]? = some x
 len:↥N=↥idx+1
 cap:∀(k j:Nat),idx[k]? = some j->∃y,N[k+1]? = some y/\X.N[j]? = some y/\scope.names.lookup y=some .free
def DP {α:Type}(σ:List (Option α))(idx:List Nat):List (Option α):=idx.map λj=>(σ[j]?).getD none
def IP {α:Type}{σ:List (Option α)}{idx:List Nat}{k:Nat}{v:α}(h:(DP σ idx)[k]? = some (some v)):∃j,idx[k]? = some j/\σ[j]? = some (some v):=by
 unfold DP at h;rw[qAd]at h;cases e:idx[k]? with
 |none=>rw[e]at h;cases h
 |some j=>
  rw[e]at h;refine#[j,rfl,?_];have h':(σ[j]?).getD none=some v:=qAn h;cases q:σ[j]? with
  |none=>rw[q]at h';cases h'
  |some o=>rw[q]at h';rw[show o=some v from h']
section
variable {X:Cx}{pins:List (Addr×Obj)}{σ:St}{H2:Hp}{s2:Shared}{x:Str}{px:Pos}{scope:Scope}{N:List Str}{idx:List Nat}{J:It}{fp:List Addr}{it:Addr}{tn:Nat->Heap->Prop}{cl:List (Str×Addr)}
def Pu (O:Bl X x scope N idx)(I2:Inv X pins σ H2 s2)(T:U3 X.prog X.w X.K (.Name x px) J fp it tn)(st2:tn 0 s2.heap)(f2:∀b∈fp,Pk X pins H2 b)
 (hcl:∀y c,cl.lookup y=some c->X.env.cells.lookup y=some c)(hcl2:∀y,(y,NameKind.free)∈scope.names->∃c,cl.lookup y=some c)
 {h1:Heap}{C:Addr}{m:Str->Option Value}{tk:Nat}(hC:s2.heap.objs.size<C) (hns:h1.Ns C m) (old:∀b o,s2.heap.get? b=some o->h1.get? b=some o)
 (hD:h1.get? s2.heap.objs.size=some { cls:=.type "list",data:=.seq ([]:List Value).toArray }) :
 Inv (AB X N scope cl C s2 H2 fp) [] (none::DP σ idx) (upd H2 s2.heap.objs.size (.lst [])) { s2 with heap:=h1,toks:=tk }:=by
 have inHeap:∀b∈fp,b<s2.heap.objs.size:=λb hb=>by
  obtain⟨o,e,_⟩:=T.obj 0 _ st2 b hb;exact qAj e
 have hDn:H2 s2.heap.objs.size=none:=I2.hok.fresh (qAg _);refine#[#[I2.ok.mod,O.kind,I2.ok.glob,I2.ok.blt,?_,?_,?_,(λ_ _ z=>by cases z),I2.ok.hd,I2.ok.frames,.inl rfl,?_,λb o e=>I2.bs b o e,qAO I2.ok.bsz I2.sz,?_,?_,I2.stack,I2.stkFree,I2.tb],rfl,I2.bare,?_,#[m,hns,?_],?_,?_,?_,?_,?_,?_]
 .exact qBt hC
 .intro y z c h1 h2;exact I2.ok.inj y z c (hcl y c h1) (hcl z c h2)
 .intro y hy;have key:∀k,(relabel scope X.env).names.lookup y=some k->(k=.cell\/k=.free)->∃c,cl.lookup y=some c:=λk e hk=>by
   obtain⟨k0,h1,h2⟩:=CU e;have hf:k0=.free:=by
    rcases h2 with rfl|h2
    .rcases hk with rfl|rfl
     .exact absurd rfl (O.cell _ h1)
     .rfl
    .exact h2
   subst hf;exact hcl2 y h1
  rcases hy with e|e
  .exact key _ e (.inl rfl)
  .exact key _ e (.inr rfl)
 .intro b hb;have:=inHeap b hb;exact#[qAs (qBh this hC),λy c e=>(f2 b hb).2.2.2.2.1 y c (hcl y c e)]
 .intro b o e hb;rcases(f2 b hb).2.2.2.1 with z|z
  .exact I2.ok.noex b o e z
  .exact absurd (qAl (qAj e) (qAO I2.ok.bsz z)) (qAY _)
 .intro b hb hf;rcases qAi.mp (I2.stkSub b hf) with e|e
  .exact(f2 b hb).2.1 e
  .exact(f2 b hb).2.2.1 e
 .exact Un.laid old (qAg _) hDn
 .intro i y v e1 e2 e3;cases i with
  |zero=>cases e2
  |succ k=>
   obtain⟨j,ej,es⟩:=IP (k:=k) e2;obtain⟨y',n1,n2,n3⟩:=O.cap k j ej;have ey:y'=y:=qAn (n1.symm.trans e1);subst ey;have kc:=O.free _ (BD n3) rfl;obtain⟨m0,hn0,hl0⟩:=I2.loc;obtain⟨u,ru,lk⟩:=hl0 j y' v n2 es (.inr (.inl kc));refine#[u,ru,?_];rcases lk with⟨k1,_⟩|⟨_,c,hc,ic⟩
   .rw[kc]at k1;cases k1
   .obtain⟨c',hc'⟩:=hcl2 y' (BD n3);have:c'=c:=qAn ((hcl y' c' hc').symm.trans hc);subst this;exact .inr #[.inl (Cr I2.ok.kind kc n3),c',hc',ic.keeps old]
 .intro y c e;obtain⟨v,ic⟩:=I2.cell y c (hcl y c e);exact#[v,ic.keeps old]
 .show upd H2 _ _ C=none;rw[An (qBg hC)];exact I2.hok.fresh (qBt hC)
 .intro y c e;obtain⟨v,ic⟩:=I2.cell y c (hcl y c e);rw[An (qAs ic.lt)];exact I2.freeC y c (hcl y c e)
 .intro p hp;cases hp
 .exact I2.hok.laid old (qAg _) #[qA9 _,[],_,.nil,hD]
 .show(none::DP σ idx).length=↥N;rw[O.len,qAU];unfold DP;rw[qAa]
def Hc {σ':St}{H':Hp}{s':Shared}{pl:List (Addr×Obj)}{C:Addr}{h':Heap}(I2:Inv X pins σ H2 s2)(f2:∀b∈fp,Pk X pins H2 b)(hC:s2.heap.objs.size<C)(I':Inv (AB X N scope cl C s2 H2 fp) pl σ' H' s')(hs:Heap.SameBut C s'.heap h') :
 Inv X pins σ H' { s' with heap:=h' }:=by
 have ne:∀b o,s2.heap.get? b=some o->b≠C:=λb o e=>qAs (qBh (qAj e) hC);have u:=I'.base;refine Inv.call' (s':={ s' with heap:=h' }) (ch:=fp) I2 I'.os #[λb o e n hb hx=>(hs.2 b (ne b o e)).trans (u.keep b o e n hb hx),λb o e n hb hx=>?_,u.free,λb o e hx=>?_,u.tups,u.frzs,u.tbls] (λb ob e=>?_) I'.bare (λb hb=>#[(f2 b hb).2.2.2.1,(f2 b hb).2.1,(f2 b hb).2.2.2.2.1,(f2 b hb).2.2.2.2.2])
 .obtain⟨sl,e1⟩:=u.slot b o e n hb hx;exact#[sl,(hs.2 b (ne b o e)).trans e1]
 .obtain⟨o',e1⟩:=u.there b o e hx;exact#[o',(hs.2 b (ne b o e)).trans e1]
 .refine(I'.hok b ob e).stay (λc w' hc q=>(hs.2 c ?_).trans q) (λ_ q=>q) λ_ _ q=>q;have hf:H' C=none:=I'.free;rintro rfl;rcases hc with rfl|hc
  .rw[hf]at e;cases e
  .rw[hf]at hc;cases hc
def WL (X:Cx)(ifs:List Expr)(t:TT):Prop:=∀(pins:List (Addr×Obj))(s:Shared)(σ:St)(H:Hp)(Q:Bool->Hp->Prop),Inv X pins σ H s->t σ H Q ->
 wpAny (model X.prog X.w) X.A (forIn ifs true λc r=>if r=true then do let ok <-isTrue c X.env (eval c X.env);pure (ForInStep.yield ok) else pure (ForInStep.yield r)) (TP X pins σ Q) X.xe s
def UC:WL X [] (λ_ H Q=>Q true H):=λpins s σ H Q I h=>qC2 #[H,I,h]
def Ur {c:Expr}{t:TT}(h:PT X c t):WL X [c] t:=λpins s σ H Q I hq=>by
 rw[qB4];simp only[if_true,bind_assoc,pure_bind];exact qC1 (thn (h pins s σ H Q I hq) λb s1 h1=>qC2 h1)
def SV (K:W.Frag)(idx:List Nat)(wi:TI)(tt:Hp->TT)(te:Hp->TE):TE:=λσ H Q=>wi σ H λJ H1=>∀D,H1 D=none->K.lookup D=none->∃W:Nat->Nat->List V->Hp->Prop,(∃m,W 0 m [] (upd H1 D (.lst []))) /\
 ∀i m ys H,H D=some (.lst ys)->W i m ys H->(J.stop i H/\Q (.ref D) H)\/(J.go i H/\∀x H',J.yld i H x H'->tt H1 (some x::DP σ idx) H' λb H2=>
  if b=true then te H1 (some x::DP σ idx) H2 (λv H3=>H3 D=some (.lst ys)/\↥ys<sizeLine/\∃m',m'<m/\W (i+1) m' (ys++[v]) (upd H3 D (.lst (ys++[v])))) else H2 D=some (.lst ys)/\∃m',m'<m/\W (i+1) m' ys H2)
def N6 {elt iter:Expr}{ifs:List Expr}{wi:TI}{tt:Hp->TT}{te:Hp->TE}{pos:Pos}{s:Shared}{H:Hp}{Q:VK}{use:Option (Value->Sem Unit)}{QQ:Value->Shared->Prop}(O:Bl X x scope N idx)(hc:X.calm=true)(hi:PI X (.Name x px) iter wi)
 (hifs:∀cl C s₀ H₀ fp,WL (AB X N scope cl C s₀ H₀ fp) ifs (tt H₀))(helt:∀cl C s₀ H₀ fp,PE (AB X N scope cl C s₀ H₀ fp) elt (te H₀))
 (hs:∀x,foldedSetIterable iter X.env x=pure x)(I:Inv X pins σ H s)(h:SV X.K idx wi tt te σ H Q)
 (fin:∀(s2:Shared)(H2:Hp)(fp:List Addr)(cl:List (Str×Addr))(C D:Addr)(σ':St)(H':Hp)(s':Shared),Inv X pins σ H2 s2->(∀b∈fp,Pk X pins H2 b)->s2.heap.objs.size<C->Inv (AB X N scope cl C s2 H2 fp) [] σ' H' s'->Q (.ref D) H' ->
  compPost (model X.prog X.w) X.A X.xe use QQ (.ref D) C (.ok .next) s') :
 wpAny (model X.prog X.w) X.A (comprehension (.ListComp elt [#[.Name x px,iter,ifs,0]] scope pos) scope X.env (firstIterPos [#[.Name x px,iter,ifs,0]] pos) (newList []) false (eval iter X.env) use) QQ X.xe s:=by
 obtain⟨cl,ecl,hcl,hcl2⟩:=HE (scope:=scope) (env:=X.env) λy hy hf=>I.ok.has y.1 (.inl (O.free y hy hf));refine wpAny_comprehension_free (use:=use) (cl:=cl) rfl hs ecl O.kind O.names ?_;refine thn (hi pins s σ H _ I h) λv s1 h1=>thn h1 λitv s2 h2=>?_;obtain⟨it,fp,tn,J,H2,rfl,I2,T,st2,f2,hD⟩:=h2;refine wpAny_newObj_type (wpAny_newFunctionEnv O.cell (by intro y hy;simp at hy) (λh1 hns hsb=>?_) O.kind);dsimp only at hns hsb ⊢;generalize hG:s2.heap.push { cls:=.type "list",dict:=none,data:=.seq ([]:List Value).toArray }=G at hns hsb ⊢;have hCs:s2.heap.objs.size<G.objs.size:=by rw[<-hG,qBW];exact qCd _
 have old:∀b o,s2.heap.get? b=some o->h1.get? b=some o:=λb o e=>hsb.extBut b o (qAs (qBh (qAj e) hCs)) (qAh _ (hG ▸ qAh _ e));have hDl:h1.get? s2.heap.objs.size=some { cls:=.type "list",data:=.seq ([]:List Value).toArray }:=hsb.extBut _ _ (qAs hCs) (qAh _ (hG ▸ qAy _ rfl));have hDn:H2 s2.heap.objs.size=none:=I2.hok.fresh (qAg _);have hDk:X.K.lookup s2.heap.objs.size=none:=by
  cases e:X.K.lookup s2.heap.objs.size with
  |none=>rfl
  |some o=>exact absurd (qAj (I2.kIn _ _ e)) (qAY _)
 obtain⟨W,⟨m0,w0⟩,step⟩:=hD _ hDn hDk;have I4:Inv (AB X N scope cl G.objs.size s2 H2 fp) [] (none::DP σ idx) (upd H2 s2.heap.objs.size (.lst [])) { s2 with heap:=h1,toks:=s2.toks+([]:List (Str×Value)).length }:=
  Pu O I2 T st2 f2 hcl hcl2 hCs hns old hDl
 generalize hCC:G.objs.size=C at I4 hCs ⊢;clear hsb hns hG hCC;generalize hDD:s2.heap.objs.size=D at hDn hDk step w0 I4 hDl ⊢;have st4:tn 0 h1:=T.keep 0 _ _ st2 λb _ o e=>old b o e;have frD:∀b∈fp,(upd H2 D (.lst [])) b=none:=λb hb=>by
  obtain⟨o,e,_⟩:=T.obj 0 _ st2 b hb;rw[An (by rw[<-hDD];exact qAs (qAj e))];exact(f2 b hb).1
 have stat:∀{H':Hp},(∀b∈fp,H' b=none)->∀b∈fp,Pk (AB X N scope cl C s2 H2 fp) [] H' b:=λhn b hb=>
  #[hn b hb,(I4.ok.exf b hb).1,I4.ok.exfs b hb,.inl hb,(I4.ok.exf b hb).2,λp hp=>by cases hp]
 have hloc:(AB X N scope cl C s2 H2 fp).env.scope.names.lookup x=some .local:=lookup_relabel_local O.own;have loop:∀s3:Shared,s3={ s2 with heap:=h1,toks:=s2.toks+([]:List (Str×Value)).length } ->
  codeAny (model X.prog X.w) X.A (.compLoop (.ListComp elt [#[.Name x px,iter,ifs,0]] scope pos) 0 (.ref it) (.ref D) (compEnvC scope cl C X.env)) (compPost (model X.prog X.w) X.A X.xe use QQ (.ref D) C) s3:=by
  rintro s3 rfl;refine codeAny_compLoop_tests (λn s'=>∃i z H' ys,Inv (AB X N scope cl C s2 H2 fp) [] (z::DP σ idx) H' s'/\tn i s'.heap/\(∀b∈fp,H' b=none)/\H' D=some (.lst ys)/\W i n ys H') ?_ m0 #[0,none,_,[],I4,st4,frD,As,w0];rintro n s5 ⟨i,z,H5,ys,I5,st5,fr5,hD5,w5⟩;rcases step i n ys H5 hD5 w5 with⟨stop,q⟩|⟨go,next⟩
  .refine qC3 (T.done (AB X N scope cl C s2 H2 fp) rfl rfl rfl hc i [] s5 _ H5 (λ_ _=>False) I5 (stat fr5) st5 stop) (λr s6 hh=>?_) λ_ _ z=>z.elim;obtain⟨hr,I6⟩:=hh;subst hr;exact fin s2 H2 fp cl C D _ H5 s6 I2 f2 hCs I6 q
  .refine qC3 (T.item (AB X N scope cl C s2 H2 fp) rfl rfl rfl hc i [] s5 _ H5 (λ_ _=>False) I5 (stat fr5) st5 go) (λr s6 hh=>?_) λ_ _ z=>z.elim;obtain⟨u,hr,h6⟩:=hh;subst hr;dsimp only;refine(show wpAny _ _ ((pure Unit.unit:Sem Unit) >>= λ_=>assign (.Name x px) (compEnvC scope cl C X.env) u) _ _ _ from qC1 (qC3 (show wpAny _ _ (pure Unit.unit:Sem Unit) _ _ _ from h6) (λ_ s7 h7=>?_) λ_ _ z=>z.elim));obtain⟨xv,H7,I7,r7,y7,st7,fr7⟩:=h7;have I7':=I7.pinned (stat fr7) (T.obj _ _ st7);refine wpAny_assign_Name (Hb (X:=AB X N scope cl C s2 H2 fp) I7' O.nd O.fst (.inl hloc) r7 (λs8 I8=>?_) (.inr hloc));have again:∀{H9:Hp}{s9:Shared}{ys':List V}{m':Nat},Inv (AB X N scope cl C s2 H2 fp) ([]++Ks fp s7.heap) (some xv::DP σ idx) H9 s9->H9 D=some (.lst ys')->m'<n->W (i+1) m' ys' H9 ->
    ∃m,m<n/\∃i z H' ys,Inv (AB X N scope cl C s2 H2 fp) [] (z::DP σ idx) H' s9/\tn i s9.heap/\(∀b∈fp,H' b=none)/\H' D=some (.lst ys)/\W i m ys H':=λ{H9 s9 ys' m'} I9 hD9 hm w9=>by
    refine#[m',hm,i+1,some xv,H9,ys',I9.unpinned,T.keep _ _ _ st7 λb hb o e=>(I9.pin (b,o) (qAF _ (qAF _ (Dt hb e)))).1,λb hb=>?_,hD9,w9];obtain⟨o,e,d⟩:=T.obj _ _ st7 b hb;exact(I9.pin (b,o) (qAF _ (qAF _ (Dt hb e)))).2.1
   refine qC3 (hifs cl C s2 H2 fp _ s8 _ H7 _ I8 (next xv H7 y7)) (λb s9 hh=>?_) λ_ _ z=>z.elim;obtain⟨H9,I9,q9⟩:=hh;cases b with
   |true=>
    rw[qC6 rfl]at q9 ⊢;refine qC3 (helt cl C s2 H2 fp _ s9 _ H9 _ I9 q9) (λy s10 hh=>?_) λ_ _ z=>z.elim;obtain⟨v,H10,I10,r10,hD10,hl,m',hm,w'⟩:=hh;refine qC3 (AV (X:=AB X N scope cl C s2 H2 fp) _ s10 _ H10 (.ref D) [v] (.ref D) [y] (λ_ H'=>H'=upd H10 D (.lst (ys++[v]))) I10 rfl (.cons r10 .nil) #[D,ys,v,rfl,rfl,hD10,hl,rfl]) (λ_ s11 hh=>?_) λ_ _ z=>z.elim;obtain⟨_,H11,I11,_,e11⟩:=hh;subst e11;exact again I11 As hm w'
   |false=>
    rw[qC5 qAq]at q9 ⊢;obtain⟨hD9,m',hm,w'⟩:=q9;exact again I9 hD9 hm w'
 exact codeAny_compStart_list (loop _ rfl) (T.self X.A 0 _ _ _ st4 (loop _ rfl))
def Vp {elt iter:Expr}{ifs:List Expr}{wi:TI}{tt:Hp->TT}{te:Hp->TE}{pos:Pos}(O:Bl X x scope N idx)(hc:X.calm=true)(hi:PI X (.Name x px) iter wi)
 (hifs:∀cl C s₀ H₀ fp,WL (AB X N scope cl C s₀ H₀ fp) ifs (tt H₀))(helt:∀cl C s₀ H₀ fp,PE (AB X N scope cl C s₀ H₀ fp) elt (te H₀))
 (hs:∀x,foldedSetIterable iter X.env x=pure x:=by intro _;rfl):PE X (.ListComp elt [#[.Name x px,iter,ifs,0]] scope pos) (SV X.K idx wi tt te):=by
 intro pins s σ H Q I h;rw[eval_ListComp];refine N6 (use:=none) O hc hi hifs helt hs I h λs2 H2 fp cl C D σ' H' s' I2 f2 hC I' q=>?_;obtain⟨m,hn,_⟩:=I'.loc;exact#[m,hn,λh' hs'=>#[.ref D,H',Hc I2 f2 hC I' hs',rfl,q]]
def Qe {C:Addr}{h':Heap}{H:Hp}{s:Shared}(I:Inv X pins σ H s)(hs:Heap.SameBut C s.heap h')(h0:X.s₀.heap.objs.size<=C)(hH:H C=none)(hL:C≠X.env.locals)(hc:∀y c,X.env.cells.lookup y=some c->c≠C)(hp:∀p∈X.pn++pins,p.1≠C) :
 Inv X pins σ H { s with heap:=h' }:=by
 obtain⟨m,hn,hl⟩:=I.loc;have ne:∀b o,X.s₀.heap.get? b=some o->b≠C:=λb o e=>qAs (qAl (qAj e) h0);refine#[I.ok,I.os,I.bare,#[λb o e n hb hx=>(hs.2 b (ne b o e)).trans (I.base.keep b o e n hb hx),λb o e n hb hx=>?_,I.base.free,λb o e hx=>?_,I.base.tups,I.base.frzs,I.base.tbls],#[m,hn.sameBut hs (Ne.symm hL),λi y v e1 e2 e3=>?_],λy c e=>?_,I.free,I.freeC,λp hq=>?_,λb ob e=>?_,I.len]
 .obtain⟨sl,e1⟩:=I.base.slot b o e n hb hx;exact#[sl,(hs.2 b (ne b o e)).trans e1]
 .obtain⟨o',e1⟩:=I.base.there b o e hx;exact#[o',(hs.2 b (ne b o e)).trans e1]
 .obtain⟨u,ru,lk⟩:=hl i y v e1 e2 e3;refine#[u,ru,?_];rcases lk with lk|⟨k,c,e,ic⟩
  .exact .inl lk
  .exact .inr #[k,c,e,ic.sameBut hs (hc y c e)]
 .obtain⟨v,ic⟩:=I.cell y c e;exact#[v,ic.sameBut hs (hc y c e)]
 .obtain⟨e,n,ne',nf,d⟩:=I.pin p hq;exact#[(hs.2 p.1 (hp p hq)).trans e,n,ne',nf,d]
 .refine(I.hok b ob e).stay (λc w' hc' q=>(hs.2 c ?_).trans q) (λ_ q=>q) λ_ _ q=>q;rintro rfl;rcases hc' with rfl|hc'
  .rw[hH]at e;cases e
  .rw[hH]at hc';cases hc'
def Y0 (i:Nat)(te:TE):TS:=λD σ H=>te σ H λv H1=>D.nx (σ.set i (some v)) H1
def Pz {i:Nat}{y:Str}{py spos:Pos}{elt iter:Expr}{ifs:List Expr}{wi:TI}{tt:Hp->TT}{te:Hp->TE}{pos:Pos}(O:Bl X x scope N idx)(hc:X.calm=true)(hi:PI X (.Name x px) iter wi)
 (hifs:∀cl C s₀ H₀ fp,WL (AB X N scope cl C s₀ H₀ fp) ifs (tt H₀))(helt:∀cl C s₀ H₀ fp,PE (AB X N scope cl C s₀ H₀ fp) elt (te H₀))(hN:X.N.Nodup)(hy:X.N[i]? = some y)(hly:Loc X.env.scope y)
 (hsw:swapsWith (.ListComp elt [#[.Name x px,iter,ifs,0]] scope pos) (some (.Name y py)) spos.line X.env=pure true:=by rfl)(hs:∀x,foldedSetIterable iter X.env x=pure x:=by intro _;rfl)
 (hfn:X.fn y=true\/X.env.scope.names.lookup y=some .local:=by first|exact .inl rfl|exact .inr rfl|assumption) :
 PS X (.Assign [.Name y py] (.ListComp elt [#[.Name x px,iter,ifs,0]] scope pos) spos) (Y0 i (SV X.K idx wi tt te)):=by
 intro pins s σ H D I h;rw[exec_Assign_Name_used _ _ _ _ hsw];refine qC1 (wpAny_standAt (qC1 ?_));show wpAny _ X.A (do let _ <-comprehension (.ListComp elt [#[.Name x px,iter,ifs,0]] scope pos) scope X.env _ (newList []) false (eval iter X.env) (some (assign (.Name y py) X.env))) _ _ s;refine qC1 (qC3 (N6 (use:=some (assign (.Name y py) X.env)) (QQ:=λ_ s'=>SP X pins D .next s') O hc hi hifs helt hs I h λs2 H2 fp cl C E σ' H' s' I2 f2 hC I' q=>?_) (λ_ s' hq=>qC2 (qC2 hq)) λ_ _ e=>e);have I3:Inv X pins σ H' s':=Hc (h':=s'.heap) I2 f2 hC I' #[rfl,λ_ _=>rfl];obtain⟨mC,hnC,_⟩:=I'.loc;have h0:X.s₀.heap.objs.size<=C:=qAO I2.sz (qBt hC);have hCL:C≠X.env.locals:=qBg (qBh I2.lt hC);have hCc:∀y c,X.env.cells.lookup y=some c->c≠C:=λy c e=>by
  obtain⟨v,ic⟩:=I2.cell y c e;exact qAs (qBh ic.lt hC)
 have hCp:∀p∈X.pn++pins,p.1≠C:=λp hp=>qAs (qBh (qAj (I2.pin p hp).1) hC);show wpAny _ X.A (assign (.Name y py) X.env (.ref E)) _ _ _;refine wpAny_assign_Name (JL (v:=.ref E) I3 hN hy hly rfl (λs4 I4 hb=>?_) hfn);obtain⟨a,hsa,ha⟩:=hb;have hCa:C≠a:=by
  rcases ha with rfl|ha
  .exact hCL
  .exact λz=>hCc y a ha z.symm
 exact#[mC,hnC.sameBut hsa hCa,λh' hs'=>#[_,H',Qe I4 hs' h0 I'.free hCL hCc hCp,q]]
end
abbrev TX3:=Tau->(List D->Prop)->Prop
def Src (X:Cx)(wi:TI)(ws:TX3):Prop:=∀(B:HZ)(τ:Tau)(σ:St)(H z:Hp)(P:List D->Prop)(R:It->Hp->Prop),Rep X B τ σ #[H,z]->ws τ P ->
 (∀(J:It)(q:HZ)(xs:List D),Ext #[H,z] q->P xs->(∀H',Bp q.h H'->(∀i,i<↥xs->J.go i H'/\∀x H'',J.yld i H' x H''->H''=H'/\∃d,xs[i]? = some d/\Is X.K q.z x d)/\∀i,↥xs<=i->J.stop i H')->R J q.h)->wi σ H R
def eW (te:TE3):TX3:=λτ P=>te τ λs=>match items s with
 |some xs=>P xs
 |none=>False
def Lx {X:Cx}{q:HZ}{a:Addr}{vs:List V}{xs:List D}(h:SqL X.K q.h a vs)(hi:Iss X.K q.z vs xs):∀H',Bp q.h H'->(∀i,i<↥xs->(Itl X.K a).go i H'/\∀x H'',(Itl X.K a).yld i H' x H''->H''=H'/\∃d,xs[i]? = some d/\Is X.K q.z x d)/\∀i,↥xs<=i->(Itl X.K a).stop i H':=by
 intro H' e;have h':SqL X.K H' a vs:=e.seq h;refine#[λi hlt=>#[#[vs,vs[i]'(by rw[hi.1];exact hlt),h',qAb (by rw[hi.1];exact hlt)],λx H'' hy=>#[hy.1,?_]],λi hle=>#[vs,h',by rw[hi.1];exact hle]];obtain⟨d,h1,h2⟩:=EA hi (hy.2 vs h');exact#[d,h1,h2]
def V4 {X:Cx}{q:HZ}{a:Addr}{vs:List V}{xs:List D}(h:SqT X.K q.h a vs)(hi:Iss X.K q.z vs xs):∀H',Bp q.h H'->(∀i,i<↥xs->(Itt X.K a).go i H'/\∀x H'',(Itt X.K a).yld i H' x H''->H''=H'/\∃d,xs[i]? = some d/\Is X.K q.z x d)/\∀i,↥xs<=i->(Itt X.K a).stop i H':=by
 intro H' e;have h':SqT X.K H' a vs:=SqT.same e h;refine#[λi hlt=>#[#[vs,vs[i]'(by rw[hi.1];exact hlt),h',qAb (by rw[hi.1];exact hlt)],λx H'' hy=>#[hy.1,?_]],λi hle=>#[vs,h',by rw[hi.1];exact hle]];obtain⟨d,h1,h2⟩:=EA hi (hy.2 vs h');exact#[d,h1,h2]
section
variable {X:Cx}{e:Expr}{te:TE3}{ta:TA3}
def DA:Src X (Yc X.K (FE X te)) (eW te):=by
 intro B τ σ H z P R r ht k;refine#[B,z,τ,_,r,ht,λs v H1 e1 i1 f1 h1=>?_]
 try dsimp only at h1
 split at h1
 .rename_i xs hx;cases s with
  |d z=>
   cases z with
   |tup zs=>
    cases hx;obtain⟨p,vs,rfl,h3,h4⟩:=Is.tup_inv i1;exact#[p,rfl,.inr #[#[vs,SqT.same e1.sub h3],k _ H1 _ e1 h1 (V4 (SqT.same e1.sub h3) h4)]]
   |lst zs=>
    cases hx;obtain⟨p,vs,rfl,h3,h4⟩:=Is.lst_inv i1;exact#[p,rfl,.inl #[#[vs,e1.sub.seq h3],k _ H1 _ e1 h1 (Lx (e1.sub.seq h3) h4)]]
   |_=>cases hx
  |l zs=>
   cases hx;obtain⟨p,vs,rfl,h3,h4⟩:=i1;exact#[p,rfl,.inl #[#[vs,SqL.of h3],k _ H1 _ e1 h1 (Lx (SqL.of h3) h4)]]
  |r zs=>
   cases hx;obtain⟨p,vs,rfl,h3,h4⟩:=i1;exact#[p,rfl,.inl #[#[vs,h3],k _ H1 _ e1 h1 (Lx h3 h4)]]
 .exact h1.elim
def Xg (lo st:Int)(n:Nat):List D:=(List.range n).map fun(i:Nat)=>D.int (lo+i*st)
def BZ (lo st:Int)(n:Nat):(Xg lo st n).length=n:=by unfold Xg;rw[qAa,qAx]
def OO {lo st:Int}{n i:Nat}(h:i<n):(Xg lo st n)[i]? = some (.int (lo+i*st)):=by
 unfold Xg;rw[qAd,qAJ h];rfl
def ZC (ta:TA3):TX3:=λτ P=>ta τ λss=>match ss with
 |[.d (.int i),.d (.int j)]=>(-(2^62)<=i/\i<2^62/\-(2^62)<=j/\j<2^62)/\P (Xg i 1 (j-i).toNat)
 |_=>False
def GV:Src X (Xf (FA X ta)) (ZC ta):=by
 intro B τ σ H z P R r ht k;refine#[B,z,τ,_,r,ht,λss vs H1 e1 i1 h1=>?_]
 try dsimp only at h1
 split at h1
 .rename_i i0 j;obtain⟨v,u,rfl,hv,hu⟩:=Xp i1;cases Is.int_inv hv;cases Is.int_inv hu;obtain⟨q,hP⟩:=h1;refine#[i0,j,rfl,q,k _ H1 _ e1 hP λH' e=>#[λi hlt=>?_,λi hle=>?_]]
  .rw[BZ]at hlt;refine#[hlt,λx H'' hy=>#[hy.1,_,OO hlt,?_]];rw[hy.2,Int.mul_one];exact .int _
  .rw[BZ]at hle;exact hle
 .exact h1.elim
end
def UI (τ:Tau)(idx:List Nat)(x:D):Tau:=some (.d x)::(DP τ idx).map (Option.map S.share)
structure Q5 (X:Cx)(ifs:List Expr)(t:TT3):Prop where
 out:WL X ifs (FT X t)
def eV:TT3:=λ_ R=>R true
def CM {X:Cx}:Q5 X [] eV:=#[λpins s σ H Q I #[B,z,τ,R,r,ht,q]=>UC pins s σ H Q I (q true #[H,z] (Ext.refl r.ext.sub) ht)]
def Ni {X:Cx}{c:Expr}{t:TT3}(h:PT3 X c t):Q5 X [c] t:=#[Ur h.out]
abbrev cxC (X:Cx)(N:List Str)(scope:Scope)(H₀:Hp):Cx:=AB X N scope [] 0 X.s₀ H₀ []
section
variable {X:Cx}{x:Str}{px pos:Pos}{scope:Scope}{N:List Str}{idx:List Nat}{cl:List (Str×Addr)}{C:Addr}{s₀:Shared}{H₀ H H':Hp}{fp:List Addr}{σ:St}{τ:Tau}
def Vd {B p:HZ}(r:Rep (cxC X N scope H₀) B τ σ p):Rep (AB X N scope cl C s₀ H₀ fp) B τ σ p:=#[r.len,r.ext,r.val,r.own,r.sep,r.top,r.pin]
def S6 {α β:Type}(a:List (Option α))(b:List (Option β))(idx:List Nat):(DP a idx).length=(DP b idx).length:=by unfold DP;rw[qAa,qAa]
def OT {B p p0 q:HZ}{d:D}{v:V}(r:Rep X B τ σ p)(e:Ext p p0)(e':Ext p0 q)(iv:Is X.K q.z v d):Rep (cxC X N scope p0.h) p0 (UI τ idx d) (some v::DP σ idx) q:=by
 have no:∀(i:Nat)(xs:List D),¬(UI τ idx d)[i]? = some (some (.l xs)):=λi xs z=>by
  cases i with
  |zero=>cases z
  |succ k=>
   have z':((DP τ idx).map (Option.map S.share))[k]? = some (some (.l xs)):=z;rw[qAd]at z';cases q:(DP τ idx)[k]? with
   |none=>rw[q]at z';cases z'
   |some o=>
    rw[q]at z';cases o with
    |none=>cases z'
    |some s0=>
     have z2:s0.share=.l xs:=qAn (qAn z');cases s0<;>cases z2
 refine#[?_,e',λi s hs=>?_,λi xs a z _=>absurd z (no i xs),λi j xs s a _ z _ _ _=>absurd z (no i xs),λ_=>Bp.refl _,λk a h=>by cases h]
 .unfold UI;rw[qAU,qAU,qAa,S6]
 .cases i with
  |zero=>
   cases hs;exact#[v,rfl,iv]
  |succ k=>
   have z':((DP τ idx).map (Option.map S.share))[k]? = some (some s):=hs;rw[qAd]at z';cases q:(DP τ idx)[k]? with
   |none=>rw[q]at z';cases z'
   |some o=>
    rw[q]at z';cases o with
    |none=>cases z'
    |some s0=>
     have z2:s0.share=s:=qAn (qAn z');obtain⟨j,hj,hτ⟩:=IP q;obtain⟨w,hw,iw⟩:=r.val j s0 hτ;refine#[w,?_,?_]
     .show(DP σ idx)[k]? = some (some w);unfold DP;rw[qAd,hj];show some ((σ[j]?).getD none)=_;rw[hw];rfl
     .rw[<-z2];exact(iw.mono (e.trans e')).share
end
def WR (idx:List Nat)(ws:TX3)(tt:TT3)(te:TE3):TE3:=λτ R=>ws τ λxs=>∃os:List (Option D),↥os=↥xs /\
 (∀(n:Nat)(x:D),xs[n]? = some x->tt (UI τ idx x) λb=>if b=true then te (UI τ idx x) (λs=>dd s.arg λy=>os[n]? = some (some y)) else os[n]? = some none)/\↥xs<=100000/\R (.l (os.filterMap id))
section
variable {X:Cx}{x:Str}{px pos:Pos}{scope:Scope}{N:List Str}{idx:List Nat}{elt iter:Expr}{ifs:List Expr}{wi:TI}{ws:TX3}{tt:TT3}{te:TE3}
def Oz (hsrc:Src X wi ws){σ:St}{H:Hp}{Q:VK}(h:FE X (WR idx ws tt te) σ H Q):SV X.K idx wi (λH₀=>FT (cxC X N scope H₀) tt) (λH₀=>FE (cxC X N scope H₀) te) σ H Q:=by
 obtain⟨B,z,τ,R,r,ht,q⟩:=h;refine hsrc B τ σ H z _ _ r ht λJ p1 xs e1 hP hJ=>λD' hD hK=>?_;obtain⟨os,hlen,hel,hsz,hR⟩:=hP;have sz:(100000:Nat)<sizeLine:=∅;refine#[λi m ys H'=>m=↥xs-i/\i<=↥xs/\∃z',Ext p1 #[H',z']/\z' D'=none/\Iss X.K z' ys ((os.take i).filterMap id),#[↥xs,rfl,qA9 _,p1.z,Ext.own e1.sub hD _,e1.sub.free hD,Iss.nil],?_];rintro i m ys H' hD' ⟨rfl,hi,z',hs,hzD,hiss⟩;by_cases hlt:i<↥xs
 .obtain⟨go,yl⟩:=(hJ H' hs.hh).1 i hlt;refine .inr #[go,λv H'' hy=>?_];obtain⟨rfl,d,hx,iv⟩:=yl v H'' hy;have rr:Rep (cxC X N scope p1.h) p1 (UI τ idx d) (some v::DP σ idx) #[H'',z']:=OT r e1 hs (iv.mono hs.zz);have hys:↥ys<=i:=by
   rw[hiss.1];refine qAO (qB7 _ _) ?_;rw[qAP];omega
  have keep:∀q:HZ,Ext #[H'',z'] q->q.z D'=none:=λq e=>by
   cases y:q.z D' with
   |none=>rfl
   |some o=>
    rcases e.new D' o y with y|y
    .exact nomatch (hzD.symm.trans y)
    .exact nomatch (hD'.symm.trans y)
  refine#[_,_,_,_,rr,hel i d hx,λb q3 e3 hb=>?_];cases b with
  |true=>
   rw[qC6 rfl]at hb ⊢;refine#[_,_,_,_,rr.mono e3,hb,λs v2 q4 e4 i4 f4 h4=>?_];obtain⟨y,hy',h4⟩:=FW h4;obtain⟨z5,e5,i5⟩:=Fm e4 i4 f4;rw[hy']at i5;have e35:=e3.trans e5;have hD4:q4.h D'=some (.lst ys):=e35.hh _ _ hD';have hz5:z5 D'=none:=keep _ e35;refine#[hD4,(),↥xs-(i+1),(),rfl,hlt,z5,?_,hz5,?_]
   .have e15:=hs.trans e35;refine#[λb o hb'=>?_,e15.zz,λb o hb'=>?_,e15.new]
    .have hne:b≠D':=by rintro rfl;rw[hD]at hb';cases hb'
     show upd q4.h D' _ b=some o;rw[An hne];exact e15.hh b o hb'
    .have hne:b≠D':=by
      rintro rfl;have hb2:z5 b=some o:=hb';rw[hz5]at hb2;cases hb2
     show upd q4.h D' _ b=some o;rw[An hne];exact e15.sub b o hb'
   .rw[qBx,h4,qCV];exact(hiss.mono e35.zz).snoc i5
  |false=>
   rw[qC5 qAq]at hb ⊢;refine#[e3.hh _ _ hD',↥xs-(i+1),(),rfl,hlt,q3.z,hs.trans e3,keep _ e3,?_];rw[qBx,hb,qCV];have:([none]:List (Option D)).filterMap id=[]:=rfl;show Iss X.K q3.z ys ((os.take i).filterMap id++([none]:List (Option D)).filterMap id);rw[this,qA2];exact hiss.mono e3.zz
 .have ei:i=↥xs:=();subst ei;refine .inl #[(hJ H' hs.hh).2 _ (qAg _),q (.l (os.filterMap id)) _ #[H',z'] (e1.trans hs) #[D',ys,rfl,hD',?_] (λxs a _ h2=>?_) hR]
  .rw[<-hlen,List.take_length]at hiss;exact hiss
  .cases h2;exact#[e1.hh.free hD,hK,hzD]
def R6 (hifs:∀cl C s₀ H₀ fp,Q5 (AB X N scope cl C s₀ H₀ fp) ifs tt):∀cl C s₀ H₀ fp,WL (AB X N scope cl C s₀ H₀ fp) ifs (FT (cxC X N scope H₀) tt):=λcl C s₀ H₀ fp pins s σ H Q I #[B,z,τ,R,r,ht,q]=>
 (hifs cl C s₀ H₀ fp).out pins s σ H Q I #[B,z,τ,R,Vd r,ht,q]
def LN (helt:∀cl C s₀ H₀ fp,PE3 (AB X N scope cl C s₀ H₀ fp) elt te):∀cl C s₀ H₀ fp,PE (AB X N scope cl C s₀ H₀ fp) elt (FE (cxC X N scope H₀) te):=λcl C s₀ H₀ fp pins s σ H Q I #[B,z,τ,R,r,ht,q]=>
 (helt cl C s₀ H₀ fp).out pins s σ H Q I #[B,z,τ,R,Vd r,ht,q]
def Gd (O:Bl X x scope N idx)(hc:X.calm=true)(hi:PI X (.Name x px) iter wi)(hsrc:Src X wi ws)(hifs:∀cl C s₀ H₀ fp,Q5 (AB X N scope cl C s₀ H₀ fp) ifs tt)(helt:∀cl C s₀ H₀ fp,PE3 (AB X N scope cl C s₀ H₀ fp) elt te)
 (hs:∀x,foldedSetIterable iter X.env x=pure x:=by intro _;rfl):PE3 X (.ListComp elt [#[.Name x px,iter,ifs,0]] scope pos) (WR idx ws tt te):=
 #[BL (Vp O hc hi (R6 hifs) (LN helt) hs) λσ H Q h=>Oz hsrc h]
def Ky {i:Nat}{y:Str}{py spos:Pos}(O:Bl X x scope N idx)(hc:X.calm=true)(hi:PI X (.Name x px) iter wi)(hsrc:Src X wi ws)(hifs:∀cl C s₀ H₀ fp,Q5 (AB X N scope cl C s₀ H₀ fp) ifs tt)(helt:∀cl C s₀ H₀ fp,PE3 (AB X N scope cl C s₀ H₀ fp) elt te)
 (hN:X.N.Nodup)(hy:X.N[i]? = some y)(hly:Loc X.env.scope y)
 (hsw:swapsWith (.ListComp elt [#[.Name x px,iter,ifs,0]] scope pos) (some (.Name y py)) spos.line X.env=pure true:=by rfl)(hs:∀x,foldedSetIterable iter X.env x=pure x:=by intro _;rfl)
 (hfn:X.fn y=true\/X.env.scope.names.lookup y=some .local:=by first|exact .inl rfl|exact .inr rfl|assumption)(hp:EL X i:=by first|exact ED rfl|exact EF rfl ∅|assumption) :
 PS3 X (.Assign [.Name y py] (.ListComp elt [#[.Name x px,iter,ifs,0]] scope pos) spos) (Zg i (WR idx ws tt te)):=
 #[C4 (Pz O hc hi (R6 hifs) (LN helt) hN hy hly hsw hs hfn) λD2 σ H hh=>by obtain⟨B,z,τ,D3,r,ht,c⟩:=hh;exact Oz hsrc #[B,z,τ,_,r,ht,λs v H' e i f h=>by
  cases s with
  |r _=>exact h.elim
  |d y=>exact c.nx _ _ _ (r.set e i f rfl hp) h
  |l ys=>exact c.nx _ _ _ (r.set e i f rfl hp) h]]
end
def Om (fN:List Str)(scope:Scope)(N:List Str):Nat->List Nat->Bool
 |_,[]=>true
 |k,j::r=>(match N[k+1]?,fN[j]? with
  |some y,some y'=>y==y'&&(scope.names.lookup y==some NameKind.free)
  |_,_=>false)&&Om fN scope N (k+1) r
def Q7 (fsc:Scope)(fN:List Str)(x:Str)(scope:Scope)(N:List Str)(idx:List Nat):Bool:=
 (scope.kind == .function)&&scope.names.all (λy=>!(y.2 == .cell))&&scope.names.all (λy=>!(y.2 == .local)||scope.names.lookup y.1==some .local)&&(scope.names.lookup x==some NameKind.local) &&
 scope.names.all (λy=>!(y.2 == .free)||fsc.names.lookup y.1==some .cell)&&decide N.Nodup&&(N[0]? == some x)&&(↥N==↥idx+1)&&Om fN scope N 0 idx
theorem UR {fN:List Str}{scope:Scope}{N:List Str}:∀{idx:List Nat}{k0:Nat},Om fN scope N k0 idx=true->∀(k j:Nat),idx[k]? = some j->∃y,N[k0+k+1]? = some y/\fN[j]? = some y/\scope.names.lookup y=some .free
 |[],_,_,_,_,h=>by simp at h
 |i::r,k0,h,k,j,hk=>by
  unfold Om at h;rw[qAZ]at h;cases k with
  |zero=>
   have e:i=j:=by simpa using hk
   subst e;obtain⟨h1,_⟩:=h;split at h1
   .rename_i y y' e1 e2;rw[qAZ]at h1;have ey:y=y':=by simpa using h1.1
    subst ey;exact#[y,e1,e2,by simpa using h1.2]
   .cases h1
  |succ k=>
   obtain⟨y,a,b,c⟩:=UR h.2 k j (by simpa using hk);exact#[y,by rw[<-a];congr 1;omega,b,c]
def Bl.mk' {X:Cx}{x:Str}{scope:Scope}{N:List Str}{idx:List Nat}(fsc:Scope)(fN:List Str)(h1:X.env.scope=fsc)(h2:X.N=fN)(h:Q7 fsc fN x scope N idx=true):Bl X x scope N idx:=by
 subst h1 h2;unfold Q7 at h;simp only[qAZ]at h;obtain⟨⟨⟨⟨⟨⟨⟨⟨a1,a2⟩,a3⟩,a4⟩,a5⟩,a6⟩,a7⟩,a8⟩,a9⟩:=h;refine#[by simpa using a1,λy hy=>?_,λy hy hl=>?_,by simpa using a4,λy hy hf=>?_,by simpa using a6,by simpa using a7,by simpa using a8,λk j hk=>?_]
 .have:=qAK.mp a2 y hy;simpa using this
 .have:=qAK.mp a3 y hy;rw[hl]at this;simpa using this
 .have:=qAK.mp a5 y hy;rw[hf]at this;show X.env.scope.names.lookup y.1=some .cell;simpa using this
 .have:=UR a9 k j hk;simpa using this
section
variable {X:Cx}{e a b c:Expr}{te ta tb tc:TE3}{pos:Pos}
def Zd {t:TE}(h:PE X e t):PE X e (λσ H Q=>t σ H λv H'=>(∀a o,H' a=some o->X.K.lookup a=none)->Q v H'):=λpins s σ H Q I q=>
 thn (h pins s σ H _ I q) λu s1 #[v,H1,I1,r1,q1]=>#[v,H1,I1,r1,q1 λa o e=>by
  cases y:X.K.lookup a with
  |none=>rfl
  |some o'=>
   have:=(I1.bs a o' (I1.ok.mod.kin a o' y)).2;rw[e]at this;cases this]
def RO:D->Bool
 |.non=>true
 |_=>false
def MG {K:W.Frag}{z:Hp}{v:V}{x:D}(h:Is K z v x):decide (v=.non)=RO x:=by cases h<;>rfl
def bB:R3:=λdx dy R=>match dy with
 |.non=>R (.bl (RO dx))
 |_=>False
def Zb:R3:=λdx dy R=>match dy with
 |.non=>R (.bl (!RO dx))
 |_=>False
def aX:IF X (compareOp .Is) bB:=EW XM λx y H Q hh=>by
 obtain⟨z,dx,dy,R,hz,hx,hy,h3,q⟩:=hh;unfold bB at h3;split at h3
 .exact#[hy.non_inv,q _ _ #[H,z] (Ext.refl hz) (.bl _) (by rw[MG hx];exact h3)]
 .exact h3.elim
def Q9:IF X (compareOp .IsNot) Zb:=EW Wk λx y H Q hh=>by
 obtain⟨z,dx,dy,R,hz,hx,hy,h3,q⟩:=hh;unfold Zb at h3;split at h3
 .exact#[hy.non_inv,q _ _ #[H,z] (Ext.refl hz) (.bl _) (by rw[MG hx];exact h3)]
 .exact h3.elim
def aE:R3:=λdx dy R=>match dx,dy with
 |.tup xs,.tup ys=>xs≠[]/\↥xs+↥ys<=100000/\R (.tup (xs++ys))
 |.lst xs,.lst ys=>↥xs+↥ys<=100000/\R (.lst (xs++ys))
 |.int i,.int j=>R (.int (i+j))
 |_,_=>False
def Iss.append {K:W.Frag}{H:Hp}{vs ws:List V}{xs ys:List D}(h:Iss K H vs xs)(h':Iss K H ws ys):Iss K H (vs++ws) (xs++ys):=by
 refine#[by simp[h.1,h'.1],λi v x h1 h2=>?_];by_cases hi:i<↥vs
 .rw[qAu hi]at h1;rw[qAu (by have:=h.1;omega)]at h2;exact h.2 i v x h1 h2
 .rw[qAw ()]at h1;rw[qAw (by have:=h.1;omega)]at h2;have:=h.1;exact h'.2 (i-↥vs) v x h1 (by rw[this];exact h2)
def Jh {K:W.Frag}{H:Hp}{vs:List V}{xs:List D}(h:Iss K H vs xs):vs=[] ↔ xs=[]:=by
 have:=h.1;constructor
 .rintro rfl;exact qAV (by simpa using this.symm)
 .rintro rfl;exact qAV (by simpa using this)
def Nr:IF X (binaryOp .Add) aE:=EW ((WN.or XQ).or UK) λx y H Q hh=>by
 obtain⟨z,dx,dy,R,hz,hx,hy,h3,q⟩:=hh;have sz:(100000:Nat)<sizeLine:=∅;unfold aE at h3;split at h3
 .rename_i xs ys;obtain⟨h1,h2,h3⟩:=h3;obtain⟨p,vs,rfl,g1,g2⟩:=Is.tup_inv hx;obtain⟨p',ws,rfl,g1',g2'⟩:=Is.tup_inv hy;refine .inl (.inl #[p,p',vs,ws,rfl,rfl,SqT.same hz g1,SqT.same hz g1',λw=>h1 ((Jh g2).mp w),by rw[g2.1,g2'.1];omega,λw=>?_,λw l hl=>?_])
  .have:ys=[]:=(Jh g2').mp w;subst this;rw[qA2]at h3;exact q _ _ #[H,z] (Ext.refl hz) hx h3
  .have j:=(g2.append g2').mono (Cg (hz.free hl) (.tup (vs++ws)));exact q _ _ _ (Ext.lay hz hl (.tup (vs++ws))) (Is.tup (SqT.of As) j.1 j.2) h3
 .rename_i xs ys;obtain⟨h2,h3⟩:=h3;obtain⟨p,vs,rfl,g1,g2⟩:=Is.lst_own hx;obtain⟨p',ws,rfl,g1',g2'⟩:=Is.lst_own hy;refine .inl (.inr #[p,p',vs,ws,rfl,rfl,hz _ _ g1,hz _ _ g1',by rw[g2.1,g2'.1];omega,λl hl=>?_]);have j:=(g2.append g2').mono (Cg (hz.free hl) (.lst (vs++ws)));exact q _ _ _ (Ext.lay hz hl (.lst (vs++ws))) (Is.lst As j.1 j.2) h3
 .rename_i i j;exact .inr #[i,j,hx.int_inv,hy.int_inv,q _ _ #[H,z] (Ext.refl hz) (.int _) h3]
 .exact h3.elim
def Ij (xs:List D)(lo hi:Option Int):List D:=(xs.drop (HT.sIx ↥xs 0 lo)).take (HT.sIx ↥xs ↥xs hi-HT.sIx ↥xs 0 lo)
def Qz {K:W.Frag}{H:Hp}{vs:List V}{xs:List D}(h:Iss K H vs xs)(lo hi:Option Int):Iss K H (P4 vs lo hi) (Ij xs lo hi):=by
 unfold P4 Ij;rw[h.1];refine#[by simp[h.1],λi v x h1 h2=>?_];rw[List.getElem?_take]at h1 h2;split at h1
 .rename_i hlt;rw[qC6 hlt]at h2;rw[qBE]at h1 h2;exact h.2 _ v x h1 h2
 .cases h1
abbrev TO3:=Tau->(Option Int->Prop)->Prop
structure PO3 (X:Cx)(e:Option Expr)(t:TO3):Prop where
 out:PO X e (λσ H Q=>∃B z τ R,Rep X B τ σ #[H,z]/\t τ R/\∀o q,Ext #[H,z] q->R o->Q o q.h)
def oNo:TO3:=λ_ R=>R none
def dF (te:TE3):TO3:=λτ R=>te τ λs=>match s with
 |.d (.int i)=>R (some i)
 |_=>False
def Yj:PO3 X none oNo:=#[λpins s σ H Q I #[B,z,τ,R,r,ht,q]=>WH pins s σ H Q I (q none #[H,z] (Ext.refl r.ext.sub) ht)]
def LB (h:PE3 X e te):PO3 X (some e) (dF te):=#[λpins s σ H Q I #[B,z,τ,R,r,ht,q]=>Ws h.out pins s σ H Q I #[B,z,τ,_,r,ht,λs v q1 e1 i1 f1 h1=>by
 split at h1
 .rename_i i;exact#[i,Is.int_inv i1,q _ _ e1 h1]
 .exact h1.elim]]
def vSl (te:TE3)(lo hi:TO3):TE3:=λτ R=>te τ λx=>lo τ λl=>hi τ λu=>match x with
 |.d (.tup xs)=>¬(HT.sIx ↥xs 0 l=0/\HT.sIx ↥xs ↥xs u=↥xs)/\R (.d (.tup (Ij xs l u)))
 |.d (.lst xs)=>R (.l (Ij xs l u))
 |.l xs=>R (.l (Ij xs l u))
 |.r xs=>R (.l (Ij xs l u))
 |_=>False
def WU {lo hi:Option Expr}{tl th:TO3}{p2:Pos}(he:PE3 X e te)(hl:PO3 X lo tl)(hh:PO3 X hi th):PE3 X (.Subscript e (.Slice lo hi none p2) pos) (vSl te tl th):=
 #[BL (Zd (Tt (XF.or Xc) he.out hl.out hh.out)) λσ H Q hh=>by
  obtain⟨B,z,τ,R,r,ht,q⟩:=hh;refine#[B,z,τ,_,r,ht,λx v q1 e1 i1 f1 h1=>?_];refine#[B,_,τ,_,r.mono e1,h1,λl q2 e2 h2=>?_];refine#[B,_,τ,_,(r.mono e1).mono e2,h2,λu q3 e3 h3=>?_];have e23:=e2.trans e3;have i1':=IsS.mono e23 i1;have lists:∀(p:Addr)(vs:List V)(xs:List D),v=.ref p->SqL X.K q3.h p vs->Iss X.K q3.z vs xs->R (.l (Ij xs l u))->∃a xs,v=.ref a/\SqL X.K q3.h a xs/\∀p,q3.h p=none->((∀a o,upd q3.h p (.lst (P4 xs l u)) a=some o->X.K.lookup a=none)->Q (.ref p) (upd q3.h p (.lst (P4 xs l u)))):=λp vs xs hv hs hi hR=>
   #[p,vs,hv,hs,λd hd hk=>q (.l (Ij xs l u)) _ #[_,q3.z] ((e1.trans e23).trans (Ext.own e23.sub hd _)) #[d,_,rfl,As,Qz hi l u] (λys a _ h2=>by
    cases h2;exact#[(e1.trans e23).hh.free hd,hk d _ As,e23.sub.free hd]) hR]
  split at h3
  .rename_i xs;obtain⟨p,vs,rfl,g1,g2⟩:=Is.tup_inv i1';refine .inl #[p,vs,rfl,SqT.same e23.sub g1,by rw[g2.1];exact h3.1,λd hd _=>?_];have j:=(Qz g2 l u).mono (Cg (e23.sub.free hd) (.tup (P4 vs l u)));exact q (.d _) _ _ ((e1.trans e23).trans (Ext.lay e23.sub hd (.tup (P4 vs l u)))) (Is.tup (SqT.of As) j.1 j.2) FP h3.2
  .rename_i xs;obtain⟨p,vs,rfl,g1,g2⟩:=Is.lst_inv i1';exact .inr (lists p vs xs rfl (e23.sub.seq g1) g2 h3)
  .rename_i xs;obtain⟨p,vs,rfl,g1,g2⟩:=i1';exact .inr (lists p vs xs rfl (SqL.of g1) g2 h3)
  .rename_i xs;obtain⟨p,vs,rfl,g1,g2⟩:=i1';exact .inr (lists p vs xs rfl g1 g2 h3)
  .exact h3.elim]
def X3 (te:TE3):TE3:=λτ R=>te τ λs=>match items s with
 |some xs=>R (.d (.tup xs))
 |none=>False
def YD {K:W.Frag}{p:HZ}{v:V}{s:S}{xs:List D}(i:IsS K p v s)(hz:Bp p.z p.h)(h:items s=some xs):∃a vs,v=.ref a/\Iss K p.z vs xs/\((SqL K p.h a vs)\/(SqT K p.z a vs/\s=.d (.tup xs))):=by
 cases s with
 |d z=>
  cases z with
  |tup zs=>cases h;obtain⟨a,vs,rfl,g1,g2⟩:=Is.tup_inv i;exact#[a,vs,rfl,g2,.inr #[g1,rfl]]
  |lst zs=>cases h;obtain⟨a,vs,rfl,g1,g2⟩:=Is.lst_inv i;exact#[a,vs,rfl,g2,.inl (hz.seq g1)]
  |_=>cases h
 |l zs=>cases h;obtain⟨a,vs,rfl,g1,g2⟩:=i;exact#[a,vs,rfl,g2,.inl (SqL.of g1)]
 |r zs=>cases h;obtain⟨a,vs,rfl,g1,g2⟩:=i;exact#[a,vs,rfl,g2,.inl g1]
def RS {p:Pos}(he:PE3 X e te)(hg:Gl X "tuple")(hm:X.mg "tuple"=none)(hs:starEach [e] X.env=(false,eval e X.env)::starEach [] X.env:=by exact Cm rfl):PE3 X (.Call (.Name "tuple" p) [e] [] pos) (X3 te):=
 #[BL (Sy Lu hg hm qBd (AM he.out Br hs) (he:=hs)) λσ H Q hh=>by obtain⟨B,z,τ,R,r,ht,q⟩:=hh;exact#[B,z,τ,_,r,ht,λs v q1 e1 i1 f1 h1=>by
  split at h1
  .rename_i xs hx;obtain⟨a,vs,rfl,g2,g1⟩:=YD i1 e1.sub hx;refine#[a,vs,rfl,?_];rcases g1 with g1|⟨g1,rfl⟩
   .refine .inl #[g1,λd hd=>?_];have j:=g2.mono (Cg (e1.sub.free hd) (.tup vs));exact q (.d _) _ _ (e1.trans (Ext.lay e1.sub hd (.tup vs))) (Is.tup (SqT.of As) j.1 j.2) FP h1
   .exact .inr #[SqT.same e1.sub g1,q (.d _) _ q1 e1 i1 FP h1]
  .exact h1.elim]]
end
section
variable {X:Cx}{e a b c:Expr}{te ta tb tc ti:TE3}{pos:Pos}
def Rep.put {B:HZ}{H z:Hp}{τ:Tau}{σ:St}{i:Nat}{xs ys':List D}{l:Addr}{vs vs':List V}(r:Rep X B τ σ #[H,z])(hi:τ[i]? = some (some (.l xs)))(hσ:σ[i]? = some (some (.ref l)))
 (hl:H l=some (.lst vs))(hv:Iss X.K z vs' ys'):Rep X B (τ.set i (some (.l ys'))) σ #[upd H l (.lst vs'),z]:=by
 obtain⟨o1,o2,o3⟩:=r.own i xs l hi hσ;refine#[by simp[r.len],#[λb o h=>?_,r.ext.zz,λb o h=>?_,r.ext.new],λj s hj=>?_,λj ys a hj ha=>?_,λj k ys s a hjk hj hk hs ha=>?_,r.top,r.pin]
 .have hb:b≠l:=by
   rintro rfl;rw[h]at o1;cases o1
  show upd H l _ b=some o;rw[An hb];exact r.ext.hh b o h
 .have hb:b≠l:=by
   rintro rfl;have h':z b=some o:=h;rw[show z b=none from o3]at h';cases h'
  show upd H l _ b=some o;rw[An hb];exact r.ext.sub b o h
 .rcases Ay hj with⟨rfl,rfl⟩|⟨hn,hj⟩
  .exact#[.ref l,hσ,l,_,rfl,As,hv]
  .obtain⟨v,h1,h2⟩:=r.val j s hj;refine#[v,h1,?_];cases s with
   |d x=>exact h2
   |l ys=>
    obtain⟨b,ws,rfl,h3,h4⟩:=h2;have hb:b≠l:=by
     rintro rfl;exact r.sep i j xs (.l ys) b (λz=>hn z.symm) hi hj rfl hσ h1
    exact#[b,ws,rfl,by show upd H l _ b=_;rw[An hb];exact h3,h4]
   |r ys=>
    obtain⟨b,ws,rfl,h3,h4⟩:=h2;have hb:b≠l:=by
     rintro rfl;exact r.sep i j xs (.r ys) b (λz=>hn z.symm) hi hj rfl hσ h1
    refine#[b,ws,rfl,?_,h4];rcases h3 with (h3|⟨o,h3⟩)|h3
    .exact .inl (.inl (by show upd H l _ b=_;rw[An hb];exact h3))
    .exact .inl (.inr #[o,by show upd H l _ b=_;rw[An hb];exact h3])
    .exact .inr h3
 .rcases Ay hj with⟨rfl,_⟩|⟨hn,hj⟩
  .exact r.own j xs a hi ha
  .exact r.own j ys a hj ha
 .rcases Ay hj with⟨rfl,_⟩|⟨hn,hj'⟩
  .rcases Ay hk with⟨e3,_⟩|⟨hkn,hk'⟩
   .exact absurd e3.symm hjk
   .exact r.sep j k xs s a hjk hi hk' hs ha
  .rcases Ay hk with⟨rfl,rfl⟩|⟨hkn,hk'⟩
   .exact r.sep j k ys (.l xs) a hjk hj' hi rfl ha
   .exact r.sep j k ys s a hjk hj' hk' hs ha
def bU (i:Nat)(te ti:TE3):TS3:=λD3 τ=>match τ[i]? with
 |some (some (.l xs))=>te τ λs=>dd s.arg λd=>ti τ λk=>match k with
  |.d (.int n)=>∃j,ixN ↥xs n=some j/\D3.nx (τ.set i (some (.l (xs.set j d))))
  |_=>False
 |_=>False
def Iss.set {K:W.Frag}{H:Hp}{vs:List V}{xs:List D}{v:V}{x:D}(h:Iss K H vs xs)(j:Nat)(hx:Is K H v x):Iss K H (vs.set j v) (xs.set j x):=by
 refine#[by simp[h.1],λi w y h1 h2=>?_];rw[List.getElem?_set]at h1 h2;by_cases hij:j=i
 .rw[qC6 hij]at h1 h2;split at h1
  .cases h1;split at h2
   .cases h2;exact hx
   .cases h2
  .cases h1
 .rw[qC5 hij]at h1 h2;exact h.2 i w y h1 h2
def ZK {i:Nat}{x:Str}{ix:Expr}{px ps:Pos}(h:PS X (.Assign [.Subscript (.Name x px) ix ps] e pos) (Z3 (FE X te) (bG (O1 i) (FE X ti) XO))):PS3 X (.Assign [.Subscript (.Name x px) ix ps] e pos) (bU i te ti):=#[C4 h λD2 σ H hh=>by
 obtain⟨B,z,τ,D3,r,ht,c⟩:=hh;unfold bU at ht;split at ht
 .rename_i xs hs;refine#[B,z,τ,_,r,ht,λs v q1 e1 i1 f1 h1=>?_];obtain⟨d,hd,h1⟩:=FW h1;obtain⟨z2,e2,i2⟩:=Fm e1 i1 f1;rw[hd]at i2;have r2:=r.mono e2;obtain⟨w,g1,l,vs,rfl,g2,g3⟩:=r2.val i _ hs;refine#[.ref l,g1,B,z2,τ,_,r2,h1,λk kv q3 e3 i3 f3 h3=>?_];split at h3
  .rename_i n;obtain⟨j,hj,hn⟩:=h3;cases Is.int_inv i3;exact#[l,vs,n,j,rfl,rfl,e3.hh _ _ g2,by rw[g3.1];exact hj,c.nx _ _ _ ((r2.mono e3).put hs g1 (e3.hh _ _ g2) ((g3.mono e3.zz).set j (Is.mono e3.zz i2))) hn]
  .exact h3.elim
 .exact ht.elim]
def aO:S->Option (List D)
 |.d (.lst xs)=>some xs
 |.l xs=>some xs
 |.r xs=>some xs
 |_=>none
def Qn {K:W.Frag}{p:HZ}{v:V}{s:S}{xs:List D}(i:IsS K p v s)(hz:Bp p.z p.h)(h:aO s=some xs):∃a vs,v=.ref a/\Iss K p.z vs xs/\SqL K p.h a vs:=by
 cases s with
 |d z=>
  cases z with
  |lst zs=>cases h;obtain⟨a,vs,rfl,g1,g2⟩:=Is.lst_inv i;exact#[a,vs,rfl,g2,hz.seq g1]
  |_=>cases h
 |l zs=>cases h;obtain⟨a,vs,rfl,g1,g2⟩:=i;exact#[a,vs,rfl,g2,SqL.of g1]
 |r zs=>cases h;obtain⟨a,vs,rfl,g1,g2⟩:=i;exact#[a,vs,rfl,g2,g1]
end
section
variable {X:Cx}{e:Expr}{es:List Expr}{tr:TA3}{th:TS3}
def ZD (sp:Sp3)(ok:Str->Prop)(tr:TA3)(th:TS3):TS3:=λD3 τ=>tr τ λss=>sp ss (λ_=>D3.nx τ) (λy=>ok y/\th D3 τ)
end
structure GC (K:W.Frag)(mg:Str->Option Value)(x:Str)(d:D):Prop where
 ex:∃u v,mg x=some u/\Cq v u/\∀H,Is K H v d
def Ip {X:Cx}{x:Str}{d:D}{pos:Pos}(hg:Gl X x)(c:GC X.K X.mg x d)(hd:(x==("__debug__":Str))=false:=by decide):PE3 X (.Name x pos) (vC d):=by
 obtain⟨u,v,hm,hr,hi⟩:=c.ex;exact#[BL (Wm hg hm hr hd) λσ H Q hh=>by obtain⟨B,z,τ,R,r,ht,q⟩:=hh;exact q (.d d) v #[H,z] (Ext.refl r.ext.sub) (hi _) FP ht]
def KD (K:W.Frag)(u:Value)(d:D):Prop:=∃v,Cq v u/\∀H,Is K H v d
def KD.of {K:W.Frag}{mg:Str->Option Value}{x:Str}{u:Value}{d:D}(hm:mg x=some u)(h:KD K u d):GC K mg x d:=by
 obtain⟨v,r,i⟩:=h;exact#[u,v,hm,r,i]
section
variable {K:W.Frag}
def KD.int {i:Int}{t}:KD K (Value.int i t) (.int i):=#[.int i,#[t,rfl],λ_=>.int i]
inductive KDs (K:W.Frag):List Value->List D->Prop where
 |nil:KDs K [] []
 |cons {u:Value}{us:List Value}{d:D}{ds:List D}:KD K u d->KDs K us ds->KDs K (u::us) (d::ds)
def KDs.out:∀{us:List Value}{ds:List D},KDs K us ds->∃vs,B4 vs us/\∀H,Iss K H vs ds
 |_,_,.nil=>#[[],.nil,λ_=>#[rfl,λi v x h=>by simp at h]]
 |_,_,.cons #[v,r,i] t=>by
  obtain⟨vs,rs,is⟩:=t.out;refine#[v::vs,.cons r rs,λH=>#[by simp[(is H).1],λj w x h1 h2=>?_]];cases j with
  |zero=>simp at h1 h2;subst h1;subst h2;exact i H
  |succ j=>exact(is H).2 j w x (by simpa using h1) (by simpa using h2)
def KD.tup {a:Addr}{od:Option Addr}{its:Array Value}{n:Nat}{sl:Array (Option Value)}{ds:List D}(h:K.lookup a=some #[.type "tuple",od,.seq its n,sl])(hz:its.size<=sizeLine)(hs:KDs K its.toList ds):KD K (.ref a) (.tup ds):=by
 obtain⟨vs,rs,is⟩:=hs.out;exact#[.ref a,rfl,λH=>.tup (.inr #[_,its,n,h,rfl,rfl,hz,rs]) (is H).1 (is H).2]
end
section
variable {X:Cx}{e:Expr}{es:List Expr}{tr:TA3}
end
end L3
namespace CH
open PySem L2 L3
def AE {i j:Int}{m n:Nat}(hi:i.natAbs<2^m)(hj:j.natAbs<2^n)(h:m+n<=134217728):IntMulOk i j:=
 PyProof.Rows.mulOk_of_bits (qCJ hi) (qCJ hj) h
def dg (n:Int):Nat:=if n==0 then 0 else n.natAbs.log2/30+1
def RB {i:Int}{m:Nat}(h:i.natAbs<2^m):dg i<=m/30+1:=by
 unfold dg;by_cases h0:(i==0)=true
 .rw[qC6 h0];omega
 .rw[qC5 h0];have hn:i.natAbs≠0:=by
   intro z;apply h0;have:i=0:=();rw[this];rfl
  have:i.natAbs.log2<m:=(Nat.log2_lt hn).mpr h;omega
def X4 {i j:Int}(h:i.natAbs<2^13000):Builtin.divisionGoesByPylong i j=false:=by
 have k:=RB h;clear h;show(decide (dg j>300)&&decide (dg i>dg j+150))=false;rw[Bool.and_eq_false_iff];by_cases hq:dg j>300
 .exact .inr (qC8 ())
 .exact .inl (qC8 hq)
def EK {i j:Int}(h:j.natAbs<1073741824):Builtin.divisionGoesByPylong i j=false:=PyProof.noPylong_small h
def nz2:(2:Int)≠0:=∅
def Qd (i:Int):0<=(if i<0 then -i else i):=by split<;>omega
def cell (ns:List Int)(k:Int):Int:=ns.getD k.toNat 0
def Tn {ns:List Int}{k:Int}(h0:0<=k)(h1:k<(↥ns:Int)):atI (ns.map D.int) k=some (.int (cell ns k)):=by
 have hk:k.toNat<↥ns:=();have ek:k=((k.toNat:Nat):Int):=();have q:atI (ns.map D.int) ((k.toNat:Nat):Int)=some (.int ns[k.toNat]):=atI_nat (by rw[qAd,qAb hk]<;>rfl);rw[<-ek]at q;rw[q];unfold cell;rw[qAf,qAb hk];rfl
abbrev I (i:Int):Option S:=some (.d (.int i))
def BH {c A B:Prop} [Decidable c](h1:c->A)(h2:¬c->B):if decide c=true then A else B:=by
 by_cases h:c
 .rw[qC7 h,qC6 rfl];exact h1 h
 .rw[qC8 h,qC5 qAq];exact h2 h
def Lk {c A B:Prop} [Decidable c](h1:¬c->A)(h2:c->B):if (!decide c)=true then A else B:=by
 by_cases h:c
 .rw[qC7 h];exact h2 h
 .rw[qC8 h];exact h1 h
def iF {b:Bool}{A B:Prop}(h:B)(hb:b=false:=by rfl):if b=true then A else B:=by subst hb;rw[qC5 qAq];exact h
end CH
namespace L3
def boot_max:PySem.bootBuiltins "max"=some (.builtin "max"):=by decide +kernel
open PySem PySem.Spec PyProof.Rows L2
section
variable {prog:Program}{w:World}{A:Around}{R:Result->Shared->Prop}{s:Shared}
def WQ {fa:Addr}{ag:PySem.Args}{ob:Obj}{f:FuncData}{bd:Expr}{nm:Str}(hroom:A.depth<recursionLimit)(hob:s.heap.get? fa=some ob)(hdt:ob.data=.func f)
 (hc1:f.scope.isCoroutine=false)(hc2:f.scope.isGenerator=false)(hbd:f.body=.expr bd)(hcd:s.heap.CodeRec f.code nm)
 (k:wpAny (model prog w) A.in1 (bindArgs f ag) (λbs s1=>wpAny (model prog w) A.in1 (newFunctionEnv f.scope f.globals f.closure bs (nm ++ ".<locals>.") (some fa) f.code none f.builtins)
  (λen s2=>s2.heap.NoLimit/\codeAny (model prog w) A (.expr bd en) R s2) (λx s3=>R (.error x) s3) s1) (λx s3=>R (.error x) s3) s) :
 codeAny (model prog w) A (.call (.ref fa) ag) R s:=by
 refine codeAny_of_tree ?_;show wpAny _ A.in1 (callAny (.ref fa) ag) _ _ s;simp only[callAny];refine qC1 (wpAny_load hob ?_);obtain⟨cc,oc,fs,tq,hc,hoc,hdc,hq⟩:=hcd;simp only[hdt,callFunction,hc1,hc2,hbd,hc];rw[hc]at k;refine qC1 (m:=field (.ref cc) 1) (qC4 hoc hdc hq (qC1 (qC2 ?_)));exact qC1 (qC3 k (λbs s1 k1=>qC1 (qC3 k1 (λen s2 k2=>qC1 (wpAny_enterFrame k2.1 hroom (qC2 (And.intro rfl k2.2)))) λ_ _ z=>z)) λ_ _ z=>z)
end
structure Ue (P:Program)(w:World)(K:W.Frag)(mg:Str->Option Value)(base:Heap)(k:Nat)(s:Shared)(H:Hp)(fs:List Addr)(a:Addr)(dom:D->Prop)(p:D->Bool):Prop where
 obj:∃o u fd,H a=some (.frz o u)/\o.data=.func fd
 run:∀(A:Around)(outer:List Env)(s':Shared)(H':Hp)(v:V)(u:Value)(x:D),DC k A->Tr P w K mg base A outer s' H' ->
  (∀b o,s.heap.get? b=some o->H b=none->b∉fs->s'.heap.get? b=some o/\H' b=none)->Bp H H'->Cq v u->Is K H' v x->dom x ->
  codeAny (model P w) A (.call (.ref a) #[[u],[]]) (CR CX0 outer P w H' s' (λr H2=>r=.bl (p x)/\Bp H' H2) λ_ _ _=>False) s'
def Wu (X:Cx)(N:List Str)(scope:Scope)(cl:List (Str×Addr))(nm:Str)(a:Addr)(cdv:Value)(A:Around)(outer:List Env)(s:Shared)(H:Hp):Cx:=
 { X with A:=A.deeper (W.envX nm scope s.heap.objs.size a cdv cl),N:=N,s₀:=s,H₀:=H,env:=W.envX nm scope s.heap.objs.size a cdv cl,outer:=outer,stack:=W.envX nm scope s.heap.objs.size a cdv cl::outer,ex:=[],fn:=λ_=>false,calm:=true,pn:=[],xe:=λ_ _=>False,lent:=none }
def Mj (τ:Tau)(idx:List Nat):Tau:=idx.map λj=>match τ[j]? with
 |some (some (S.d y))=>some (S.d y)
 |_=>none
section
variable {X:Cx}{pins:List (Addr×Obj)}{σ:St}{H1 H:Hp}{s1 s:Shared}{x:Str}{scope:Scope}{N:List Str}{idx:List Nat}{cl:List (Str×Addr)}
def Pa (I1:Inv X pins σ H1 s1)(hfn:∀y,X.fn y=true){y:Str}{c:Addr}(e:X.env.cells.lookup y=some c):c∉frs X.stack:=λhb=>by
 rcases qAi.mp (I1.stkSub c hb) with z|z
 .exact I1.cne y c e z
 .obtain⟨_,o,ho,_⟩:=I1.ok.funs.mem z;exact absurd (qAl (qAj ho) (I1.ok.cab y c (hfn y) e)) (qAY _)
def RU (O:Bl X x scope N idx)(hfn:∀y,X.fn y=true)(I1:Inv X pins σ H1 s1)(hcl:∀y c,cl.lookup y=some c->X.env.cells.lookup y=some c)(hcl2:∀y,(y,NameKind.free)∈scope.names->∃c,cl.lookup y=some c)
 {A:Around}{outer:List Env}{s':Shared}{H':Hp}(e0:Tr X.prog X.w X.K X.mg X.base A outer s' H') (hd:A.handled=none)
 (st:∀b o,s1.heap.get? b=some o->H1 b=none->b∉frs X.stack->s'.heap.get? b=some o/\H' b=none){v:V}{u:Value}(r:Cq v u)
 {h1:Heap}(hns:h1.Ns s'.heap.objs.size (λy=>[(x,u)].reverse.lookup y)) (old:∀b o,s'.heap.get? b=some o->h1.get? b=some o){tk:Nat}{nm:Str}{a:Addr}{cdv:Value} :
 Inv (Wu X N scope cl nm a cdv A outer s' H') [] (some v::DP σ idx) H' { s' with heap:=h1,toks:=tk }:=by
 have kept:∀y c,X.env.cells.lookup y=some c->∀z,s1.heap.IsCell c z->h1.IsCell c z/\H' c=none:=λy c e z hh=>by
  obtain⟨o,ho,hd⟩:=hh;obtain⟨g1,g2⟩:=st c o ho (I1.freeC y c e) (Pa I1 hfn e);exact#[#[o,old _ _ g1,hd],g2]
 refine#[#[e0.mod,O.kind,rfl,rfl,qAg _,λy z c h1 h2=>I1.ok.inj y z c (hcl y c h1) (hcl z c h2),λy hy=>?_,(λ_ _ z=>by cases z),λ_=>hd,Around.frames_deeper e0.frames,.inr #[rfl,rfl],(λb z=>by cases z),e0.bs,e0.bsz,(λ_ _ _ z=>by cases z),(λb z=>by cases z),e0.funs,e0.frf,e0.tb],
  rfl,e0.bare,Un.kept old,#[_,hns,λi y v' e1 e2 e3=>?_],λy c e=>?_,e0.hok.fresh (qAg _),λy c e=>?_,(λp hp=>by cases hp),e0.hok.kept old,?_]
 .have hy':scope.names.lookup y=some .cell\/scope.names.lookup y=some .free:=hy;rcases hy' with z|z
  .exact absurd rfl (O.cell _ (BD z))
  .exact hcl2 y (BD z)
 .cases i with
  |zero=>
   have e1':y=x:=qAn (e1.symm.trans O.fst);subst e1';cases e2;exact#[u,r,.inl #[O.own,by simp]]
  |succ k=>
   obtain⟨j,ej,es⟩:=IP (k:=k) e2;obtain⟨y',n1,n2,n3⟩:=O.cap k j ej;have ey:y'=y:=qAn (n1.symm.trans e1);subst ey;have kc:=O.free _ (BD n3) rfl;obtain⟨m0,hn0,hl0⟩:=I1.loc;obtain⟨u',ru,lk⟩:=hl0 j y' v' n2 es (.inr (.inl kc));refine#[u',ru,?_];rcases lk with⟨k1,_⟩|⟨_,c,hc,ic⟩
   .rw[kc]at k1;cases k1
   .obtain⟨c',hc'⟩:=hcl2 y' (BD n3);have:c'=c:=qAn ((hcl y' c' hc').symm.trans hc);subst this;exact .inr #[.inr n3,c',hc',(kept y' c' hc _ ic).1]
 .obtain⟨z,ic⟩:=I1.cell y c (hcl y c e);exact#[z,(kept y c (hcl y c e) z ic).1]
 .obtain⟨z,ic⟩:=I1.cell y c (hcl y c e);exact(kept y c (hcl y c e) z ic).2
 .show(some v::DP σ idx).length=↥N;rw[O.len,qAU];unfold DP;rw[qAa]
def MR {τ:Tau}{idx:List Nat}{k:Nat}{y:S}(h:(Mj τ idx)[k]? = some (some y)):∃j d,idx[k]? = some j/\y=.d d/\τ[j]? = some (some (.d d)):=by
 unfold Mj at h;rw[qAd]at h;cases e:idx[k]? with
 |none=>rw[e]at h;cases h
 |some j=>
  rw[e]at h;have h':=qAn h;dsimp only at h';split at h'
  .rename_i d hd;exact#[j,d,rfl,(qAn h').symm,hd]
  .cases h'
def YO (O:Bl X x scope N idx)(hfn:∀y,X.fn y=true)(I1:Inv X pins σ H1 s1)(hcl:∀y c,cl.lookup y=some c->X.env.cells.lookup y=some c)(hcl2:∀y,(y,NameKind.free)∈scope.names->∃c,cl.lookup y=some c)
 {a c':Addr}{fo oc:Obj}{fs:Array Value}{nm qual:Str}{tq kb:Nat}{u1 u2:HO}{params:Arguments}{body:Expr}{pm ctv:Value}{tb:TE3}{dom:D->Prop}{p:D->Bool}{B:HZ}{z:Hp}{τ:Tau}
 (ha:H1 a=some (.frz fo u1))(hfo:fo.data=.func (qCt "<lambda>" qual params body scope cl pm (.ref c') ctv))(hc:H1 c'=some (.frz oc u2))(hoc:oc.data=.fields fs)(hfs:fs[1]? = some (.str nm tq))
 (hco:scope.isCoroutine=false)(hgen:scope.isGenerator=false)(hbind:∀(q:Str)(cl:List (Str×Addr))(pm cv ct u:Value),bindArgs (qCt "<lambda>" q params body scope cl pm cv ct) #[[u],[]]=pure [(x,u)])
 (hb:∀cl nm a cdv A outer s H,DC kb (A.deeper (W.envX nm scope s.heap.objs.size a cdv cl))->PE3 (Wu X N scope cl nm a cdv A outer s H) body tb)
 (rep:Rep X B τ σ #[H1,z]) (hdom:∀x,dom x->tb (some (.d x)::Mj τ idx) λs=>s=.d (.bl (p x))):Ue X.prog X.w X.K X.mg X.base (kb+1) s1 H1 (frs X.stack) a dom p:=by
 refine#[#[fo,u1,_,ha,hfo],λA outer s' H' v u d hr e0 st sm rv is dm=>?_];have ga:s'.heap.get? a=some fo:=(e0.hok a _ (sm _ _ ha)).1;have gc:s'.heap.get? c'=some oc:=(e0.hok c' _ (sm _ _ hc)).1;have lim:s'.heap.NoLimit:=e0.mod.nolimit.keeps λb o e=>(e0.bs b o e).1;refine WQ (nm:=nm) hr.depth ga hfo hco hgen rfl #[c',oc,fs,tq,rfl,gc,hoc,hfs] ?_;rw[hbind];refine qC2 (wpAny_newFunctionEnv O.cell (λy hy=>?_) (λh1 hns hsb=>?_) O.kind)
 .have:y=(x,u):=by simpa using hy
  subst this;exact O.own
 have old:∀b o,s'.heap.get? b=some o->h1.get? b=some o:=λb o e=>hsb.extBut b o (qAs (qAj e)) (qAh _ e);refine#[lim.keeps old,?_];show codeAny _ _ (.expr body (W.envX nm scope s'.heap.objs.size a (.ref c') cl)) _ _;have J:=RU (nm:=nm) (a:=a) (cdv:=.ref c') (tk:=s'.toks + [(x,u)].length) O hfn I1 hcl hcl2 e0 hr.hd st rv hns old;refine W.kla_codeExpr (qC3 ((hb cl nm a (.ref c') A outer s' H' (hr.deeper _)).out [] _ _ H' (λr H2=>r=.bl (p d)/\Bp H' H2) J #[#[H',H'],H',some (.d d)::Mj τ idx,λs=>s=.d (.bl (p d)),?_,hdom d dm,λs2 v2 q2 e2 i2 f2 h2=>?_])
  (λr s2 #[v2,H2,J2,r2,hq]=>#[v2,H2,J2.os,J2.bare,J2.base,J2.hok,r2,hq]) λ_ _ z=>z.elim)
 .have noL:∀(i:Nat)(xs:List D),¬(some (S.d d)::Mj τ idx)[i]? = some (some (.l xs)):=λi xs z=>by
   cases i with
   |zero=>cases z
   |succ k=>obtain⟨_,_,_,e,_⟩:=MR (k:=k) z;cases e
  refine#[by simp[DP,Mj],Ext.refl (Bp.refl _),λi y hy=>?_,λi xs _ z _=>absurd z (noL i xs),λi _ xs _ _ _ z _ _ _=>absurd z (noL i xs),λ_=>Bp.refl _,λk a h=>by cases h];cases i with
  |zero=>cases hy;exact#[v,rfl,is]
  |succ k=>
   obtain⟨j,y',ej,ey,et⟩:=MR (k:=k) hy;subst ey;obtain⟨v',e1,e2⟩:=rep.val j _ et;refine#[v',?_,(Is.mono rep.ext.sub e2).mono sm];show(DP σ idx)[k]? = _;unfold DP;rw[qAd,ej];show some ((σ[j]?).getD none)=_;rw[e1];rfl
 .subst h2;exact#[Is.bl_inv i2,e2.hh]
end
section
variable {X:Cx}{pins:List (Addr×Obj)}{σ:St}{H:Hp}{s:Shared}
def Li {pos pos':Pos}{c cv:Value}:∀(l:List Value),TriplesOk l->codeAmong pos' (l++[rawInt pos.line,rawInt pos.col,c])=some cv->codeAmong pos' l=some cv\/cv=c:=by
 intro l h
 fun_induction TriplesOk l with
 |case1=>
  intro e;simp only[List.nil_append,codeAmong,rawInt]at e;split at e
  .exact .inr (qAn e).symm
  .cases e
 |case2 a t b u x rest ih=>
  intro e;simp only[List.cons_append,codeAmong]at e ⊢;split at e
  .rename_i hc;rw[qC6 hc];exact .inl e
  .rename_i hc;rw[qC5 hc];exact ih h e
 |case3 l h1 h2=>exact h.elim
def Tg {x:Str}{c T:Addr}{params:Arguments}{body:Expr}{scope:Scope}{pos:Pos}{cl:List (Str×Addr)}{E:Value->Shared->Prop}{QQ:Value->Shared->Prop}(I:Inv X pins σ H s)(ht:W.tabIn X.K x=some (c,T))(hp:(recsOf X.prog).any (λd=>d.name==x)=true)
 (hcode:X.env.code=.ref c)(hdef:defaultsOf params X.env=([],[]))(hcl:closureFor scope X.env=pure cl)
 (h:∀(a c':Addr)(H':Hp)(s':Shared)(fo oc:Obj)(fs:Array Value)(nm qual:Str)(tq:Nat)(pm ctv:Value),Inv X pins σ H' s'->Bp H H'->H' a=some (.frz fo (.own T))->fo.data=.func (qCt "<lambda>" qual params body scope cl pm (.ref c') ctv) ->
  H' c'=some (.frz oc (.own T))->oc.data=.fields fs->fs[1]? = some (.str nm tq)->QQ (.ref a) s') :
 wpAny (model X.prog X.w) X.A (eval (.Lambda params body scope pos) X.env) QQ E s:=by
 obtain⟨hd,ps,hT⟩:=I.tb.tab x c T ht hp;obtain⟨bm,ob,b1,b2,b3,b4,b5,b6⟩:=I.tb.bm;obtain⟨tab,e1,tr,cod⟩:=(show ND H s.heap T from I.hok T _ hT);have tabNe:∀{b:Addr}{o:Obj},X.base.get? b=some o->b≠T:=λ{b o} e z=>by
  have:=(I.bs b o e).2;rw[z,hT]at this;cases this
 have hgs:s.heap.Ns mainGlobals X.mg:=I.mod.glob.keeps I.bk;have hgT:mainGlobals≠T:=by
  obtain⟨o,_,_,e,_⟩:=I.mod.glob;exact tabNe e
 have hbG:bm≠mainGlobals:=λz=>by
  obtain⟨o,es,ep,e,d,_⟩:=I.mod.glob;rw[z,e]at b3;cases b3;rw[d]at b6;cases b6
 have hB:s.heap.BuiltinsAt X.mg T:=#[bm,ob,b1,b2,hbG,tabNe b3,I.bk _ _ b3,b4,b5,b6];refine W.kla_eval hdef ?_;cases hf:codeAmong pos tab.toList with
 |some cv=>
  obtain⟨c',oc,fs,nm,tq,rfl,hc',hoc,hfs⟩:=cod pos cv hf;refine W.kla_makeFunctionHit (mg:=X.mg) hcl I.ok.glob hgs hcode (hd.keeps I.bk) e1 tr hf hB λctv h' tk old sz=>?_;refine h h'.objs.size c' (upd H h'.objs.size (.frz _ (.own T))) _ _ oc fs nm _ tq _ ctv (I.laid (λb o e=>qAh _ (old b o e)) sz #[qAy _ rfl,_,qAy _ rfl]) (Cg (I.hok.fresh sz) _) As rfl ?_ hoc hfs;rw[An (qAs (qAl (I.hok.lt hc') sz))];exact hc'
 |none=>
  refine W.kla_makeFunction (mg:=X.mg) hcl I.ok.glob hgs hcode (hd.keeps I.bk) e1 tr hf hgT hB λc' ctv h' tk hx hge hlt hrec htb=>?_;obtain⟨c2,oc,fs,tq,ec,hoc,hdt,hfs⟩:=hrec;cases ec;have nT:∀{b:Addr}{o:Obj},s.heap.get? b=some o->b≠T->h'.get? b=some o:=λ{b o} e z=>hx b o z e;have fresh1:H c'=none:=I.hok.fresh hge;have cT:T≠c':=qAs (qAl (qAj e1) hge);have s1:Bp H (upd H c' (.frz oc (.own T))):=Cg fresh1 _;have ok1:HOk X.prog X.w (upd H c' (.frz oc (.own T))) h':=λb u e=>by
   by_cases hb:b=c'
   .subst hb;rw[As]at e;cases e;exact#[hoc,oc,hoc]
   .rw[An hb]at e;by_cases hb2:b=T
    .subst hb2;rw[hT]at e;cases e;refine#[_,htb,by rw[Array.toList_append];exact TriplesOk_snoc _ _ _ _ tr,λpos' cv z=>?_];rw[Array.toList_append]at z;rcases Li _ tr z with z|z
     .obtain⟨c3,o3,f3,n3,t3,q1,q2,q3⟩:=cod pos' cv z;exact#[c3,o3,f3,n3,t3,q1,s1 _ _ q2,q3]
     .exact#[c',oc,fs,_,tq,z,As,hdt,hfs]
    .refine(I.hok b u e).stay (hf:=λd w1 w2 q=>s1 _ _ q) (λd o hdd q=>nT q ?_) (λd q=>s1 _ _ q) λd xs q=>s1 _ _ q;rcases hdd with rfl|hdd
     .exact hb2
     .rintro rfl;rw[hT]at hdd;cases hdd
  have un1:Un X.fs [] H (upd H c' (.frz oc (.own T))) s.heap h':=by
   refine#[λb o e n _ _=>nT e (λz=>by rw[z,hT]at n;cases n),λb o e n _ _=>#[o.slots,nT e (λz=>by rw[z,hT]at n;cases n)],λb o e n _=>?_,λb o e _=>?_,λb xs q=>s1 _ _ q,λb o u q=>s1 _ _ q,λb ps q=>#[(List.toArray []),by rw[s1 _ _ q];simp]]
   .rw[An (qAs (qAl (qAj e) hge))];exact n
   .by_cases z:b=T
    .subst z;exact#[_,htb]
    .exact#[o,nT e z]
  have I1:Inv X pins σ (upd H c' (.frz oc (.own T))) { s with heap:=h',toks:=tk }:=I.un un1 ok1;have I2:=I1.laid (a:=h'.objs.size) (o:=.frz (W.kla_obj "<lambda>" (X.env.qual ++ "<lambda>") params body scope cl ((X.mg "__name__").getD .none) c' ctv) (.own T)) (t':=tk) (h':=h'.push (W.kla_obj "<lambda>" (X.env.qual ++ "<lambda>") params body scope cl ((X.mg "__name__").getD .none) c' ctv))
   (λb o e=>qAh _ e) (qAg _) #[qAy _ rfl,_,qAy _ rfl]
  refine h h'.objs.size c' _ _ _ oc fs _ _ tq _ ctv I2 (s1.trans (Cg (I1.hok.fresh (qAg _)) _)) As rfl ?_ hdt hfs;rw[An (qAs hlt)];exact As
end
abbrev SpL:=Addr->(D->Prop)->(D->Bool)->Sp3
structure Pl (P:Program)(w:World)(K:W.Frag)(mg:Str->Option Value)(base:Heap)(k kl:Nat)(f:Addr)(fd:FuncData)(ps:List Str)(sp:SpL):Prop where
 len:∀a dom p ss R U,sp a dom p ss R U->↥ss=↥ps
 run:∀(A:Around)(outer:List Env)(s:Shared)(H:Hp)(args:PySem.Args)(us:List Value)(vs:List V)(Q:VK)(E:XK)(a:Addr)(dom:D->Prop)(p:D->Bool),DC k A->Tr P w K mg base A outer s H->BindsTo s fd args (ps.zip us)->B4 vs us ->
  Ue P w K mg base kl s H (frs outer) a dom p->Af K mg (sp a dom p) vs H Q E->codeAny (model P w) A (.call (.ref f) args) (CR CX0 outer P w H s Q E) s
structure aG (P:Program)(w:World)(K:W.Frag)(mg:Str->Option Value)(base:Heap)(k kl:Nat)(x:Str)(ps:List Str)(sp:SpL):Prop where
 ex:∃f fd,Pl P w K mg base k kl f fd ps sp/\mg x=some (.ref f)/\W.keepIn K (.ref f)=true/\Binds K fd ps []
section
variable {P:Program}{w:World}{K:W.Frag}{mg:Str->Option Value}{base:Heap}
def fnL {x qual:Str}{st:Stmt}{f:Addr}{fd:FuncData}{N ps:List Str}{k kl:Nat}{sp:SpL}(F:Fun K x qual st f fd)(Sc:Ae N ps (Aa st))(len:∀a dom p ss R U,sp a dom p ss R U->↥ss=↥ps)
 (hbody:∀(cdv:Value)(A:Around)(outer:List Env)(s:Shared)(H:Hp)(E:XK)(a:Addr)(dom:D->Prop)(p:D->Bool)(ss:List S)(R:S->Prop)(U:Str->Prop),DC k (A.deeper (envOfC qual (Aa st) s.heap.objs.size f cdv))->Ue P w K mg base kl s H (frs outer) a dom p->sp a dom p ss R U ->
  ∃t,Dp (JW CX0 P w K mg base N qual (Aa st) f cdv A outer s H E).nox (BV st) t/\t { nx:=λ_=>R (.d .non),rt:=R } (BI N ss)):Pl P w K mg base (k+1) kl f fd ps sp:=by
 obtain⟨oc,od,kV,doc,pm,an,cdv,ct,osl,rfl,lk,hcd⟩:=F.ex;refine#[len,λA outer s H args us vs Q E a dom p hr e0 hb rv hL hh=>?_];obtain⟨z,ss,R,U,hz,ha,h3,q,qe⟩:=hh;have hl:↥vs=↥ps:=ha.1.trans (len _ _ _ _ _ _ h3);have KX:K.In s.heap:=e0.mod.kin.keeps λb o e=>(e0.bs b o e).1;have lim:s.heap.NoLimit:=e0.mod.nolimit.keeps λb o e=>(e0.bs b o e).1;refine codeAny_call_function hr.depth (KX _ _ lk) rfl Sc.co Sc.gen rfl (qCx KX hcd) (hb _ _ _ _ ?_);refine wpAny_newFunctionEnv_cells Sc.kind (λy hy=>?_) λenv he s1 xx=>?_
 .obtain⟨n,v⟩:=y;rcases Sc.par n (qB3 hy).1 with g|g
  .exact .inl g
  .exact .inr #[g,qBT _ _ _ (.inl g)]
 subst he;refine#[lim.keeps xx.toInCall.keep,codeAny_func ?_];obtain⟨t,ht,hq⟩:=hbody cdv A outer s H E a dom p ss R U (hr.deeper _) hL h3;have I:Inv (JW CX0 P w K mg base N qual (Aa st) f cdv A outer s H E) [] (start N vs) H s1:=Je Sc hr.hd e0 hl rv xx;refine qC3 (ht.out.nox [] s1 (start N vs) H { nx:=λ_ H'=>Q .non H',rt:=Q } I #[#[H,z],z,BI N ss,_,C8 ha hz (Bp.refl H),hq,#[λτ σ p r h=>q (.d .non) _ p r.ext Is.non FP h,λ_ _ _ _ z=>z.elim,λ_ _ _ _ z=>z.elim,λs v p e i f h=>q s v p e i f h]]) (λfl s' hs=>?_) λe s' hs=>hs;have fin:∀{σ':St}{H':Hp}{v:V}{u:Value},Inv (JW CX0 P w K mg base N qual (Aa st) f cdv A outer s H E) [] σ' H' s'->Cq v u->Q v H'->CE outer P w H s Q u s':=
  λ{σ' H' v u} J rv q=>#[v,H',J.os,J.bare,J.base,J.hok,rv,q]
 cases fl with
 |ret u=>
  obtain⟨v,σ',H',J,rv,q⟩:=hs;exact fin J rv q
 |next=>
  obtain⟨σ',H',J,q⟩:=hs;exact fin (v:=V.non) (u:=Value.none) J rfl q
 |brk=>obtain⟨_,_,_,g⟩:=hs;exact False.elim g
 |cont=>obtain⟨_,_,_,g⟩:=hs;exact False.elim g
end
section
variable {X:Cx}{pos:Pos}{e:Expr}{te tb:TE3}
def Yb {outer:List Env}{P:Program}{w:World}{H:Hp}{s s':Shared}{Q Q':VK}{u:Value}(h:CE outer P w H s Q u s')(f:∀v H',Q v H'->Q' v H'):CE outer P w H s Q' u s':=
 let #[v,H',a,b,c,d,r,q]:=h;#[v,H',a,b,c,d,r,f _ _ q]
def XI (i:Nat)(a:Addr)(dom:D->Prop)(p:D->Bool)(te:TE3):TE3:=λτ R=>τ[i]? = some (some (.d (.ref a)))/\te τ λs=>dd s λx=>dom x/\R (.d (.bl (p x)))
def WI {i k:Nat}{x:Str}{np:Pos}{a:Addr}{dom:D->Prop}{p:D->Bool}(hL:Ue X.prog X.w X.K X.mg X.base k X.s₀ X.H₀ X.fs a dom p)(hr:DC k X.A)(hv:PE X (.Name x np) (O1 i))(he:PE3 X e te)(hex:X.ex=[]:=by rfl)(hl:X.lent=none:=by rfl)
 (hs:starEach [e] X.env=(false,eval e X.env)::starEach [] X.env:=by exact Cm rfl):PE3 X (.Call (.Name x np) [e] [] pos) (XI i a dom p te):=by
 refine#[λpins s σ H Q I hh=>?_];obtain⟨B,z,τ,R,r,⟨hi,ht⟩,q⟩:=hh;obtain⟨v,h1,h2⟩:=r.val i _ hi;have ev:v=.ref a:=by
  have h2':Is X.K z v (.ref a):=h2;cases h2';rfl
 subst ev;obtain⟨o,uu,fd,ho,hfd⟩:=hL.obj;refine wpAny_Call_Name_kw (thn (hv pins s σ H (λv' H'=>v'=.ref a/\H'=H) I #[_,h1,rfl,rfl]) λf s1 hh=>?_);obtain⟨v',H',I1,rv,e1,e2⟩:=hh;subst e1;subst e2;obtain rfl:f=Value.ref a:=rv;have pa:wpAny (model X.prog X.w) X.A (spliced (backTo pos (starEach [e] X.env))) _ X.xe s1:=(AM he.out Br hs) pos pins s1 σ H' (λvs H1=>∃y z1 x,vs=[y]/\Ext #[H',z] #[H1,z1]/\Is X.K z1 y x/\dom x/\R (.d (.bl (p x)))) I1 #[B,z,τ,_,r,ht,λs2 v2 q2 e2 i2 f2 h2=>by
  obtain⟨x,rfl,hx⟩:=FW h2;exact#[v2,q2.z,x,rfl,e2,i2,hx]]
 rw[hs]at pa ⊢;refine W.callWith_of (P:=λh=>∃ob,h.get? a=some ob/\ob.data=.func fd) rfl (λh #[ob,g1,g2]=>#[.frame,.inl rfl,?_]) (Calls.evalArgs_plain (thn pa λus s2 #[vs,H2,I2,rv2,y,z1,x,evs,e2,i2,dm,hR]=>?_))
 .obtain⟨oc,od,od2,osl⟩:=ob;cases g2;exact(W.Looks.ld (part:=none) g1).andThen .now
 subst evs;have sm:Bp X.H₀ H2:=(r.all hl).trans e2.hh;obtain⟨u,rfl,ru⟩:∃u,us=[u]/\Cq y u:=by
  cases rv2 with
  |cons a b=>cases b;exact#[_,rfl,a]
 refine#[#[o,(I2.hok a _ (sm _ _ ho)).1,hfd],wpAny_call (codeAny_mono (hL.run X.A X.stack s2 H2 y u x hr I2.env0 (λb ob g1 g2 g3=>#[I2.base.keep b ob g1 g2 g3 (by rw[hex];simp),I2.base.free b ob g1 g2 (by rw[hex];simp)]) sm ru (Is.mono e2.sub i2) dm) λr2 s3 hq=>?_)];cases r2 with
 |error e=>exact hq.elim
 |ok fl=>
  cases fl with
  |ret u2=>
   refine I2.after (Yb hq λv3 H3 h3=>?_);obtain⟨rfl,sm3⟩:=h3;exact q (.d (.bl (p x))) _ #[H3,z1] (e2.trans (Ext.grow e2.sub sm3)) (.bl _) FP hR
  |next=>exact False.elim hq
  |brk=>exact False.elim hq
  |cont=>exact False.elim hq
end
def Oo {K:W.Frag}{x:Str}{c T f:Addr}{oc:Value}{od:Option Addr}{fd:FuncData}{osl:Array (Option Value)}(ht:W.tabIn K x=some (c,T))(hn:W.nsIn K mainGlobals x=some (some (.ref f)))(lk:K.lookup f=some #[oc,od,.func fd,osl]):fd.code=.ref c:=by
 unfold W.tabIn at ht;rw[hn]at ht;dsimp only at ht;rw[lk]at ht;dsimp only at ht;split at ht
 .rename_i c2 hc;split at ht
  .split at ht
   .cases ht;exact hc
   .cases ht
  .cases ht
 .cases ht
section
variable {P:Program}{w:World}{K:W.Frag}{mg:Str->Option Value}{base:Heap}
def eK {x qual:Str}{st:Stmt}{f c T:Addr}{fd:FuncData}{N ps:List Str}{k:Nat}{sp:Sp3}(ht:W.tabIn K x=some (c,T))(hn:W.nsIn K mainGlobals x=some (some (.ref f)))(F:Fun K x qual st f fd)(Sc:Ae N ps (Aa st))(len:∀ss R U,sp ss R U->↥ss=↥ps)
 (hbody:∀(cdv:Value)(A:Around)(outer:List Env)(s:Shared)(H:Hp)(E:XK)(ss:List S)(R:S->Prop)(U:Str->Prop),cdv=.ref c->DC k (A.deeper (envOfC qual (Aa st) s.heap.objs.size f cdv))->sp ss R U ->
  VW (JW (CXU P w) P w K mg base N qual (Aa st) f cdv A outer s H E) U ->
  ∃t,Dp (JW (CXU P w) P w K mg base N qual (Aa st) f cdv A outer s H E) (BV st) t/\t { nx:=λ_=>R (.d .non),rt:=R } (BI N ss)):Ao P w K mg base (CXU P w) (k+1) f fd ps (Af K mg sp):=by
 obtain⟨oc,od,kV,doc,pm,an,cdv,ct,osl,rfl,lk,hcd⟩:=F.ex;have ec:cdv=.ref c:=Oo ht hn lk;refine RW lk hcd Sc (λvs H Q E hh=>by obtain⟨z,ss,R,U,hz,ha,h3,_⟩:=hh;exact ha.1.trans (len ss R U h3)) λA outer s H vs Q E hr hh9=>?_;obtain⟨z,ss,R,U,hz,ha,h3,q,qe⟩:=hh9;obtain⟨t,ht,hq⟩:=hbody cdv A outer s H E ss R U ec hr h3 (RA qe);exact#[_,ht.out,#[H,z],z,BI N ss,_,C8 ha hz (Bp.refl H),hq,#[λτ σ p r h=>q (.d .non) _ p r.ext Is.non FP h,λ_ _ _ _ z=>z.elim,λ_ _ _ _ z=>z.elim,λs v p e i f h=>q s v p e i f h]]
def ZA {x qual:Str}{st:Stmt}{f c T:Addr}{fd:FuncData}{N ps:List Str}{k:Nat}{sp:Sp3}(ht:W.tabIn K x=some (c,T))(hn:W.nsIn K mainGlobals x=some (some (.ref f)))(F:Fun K x qual st f fd)(Sc:Ae N ps (Aa st))(len:∀ss R U,sp ss R U->↥ss=↥ps)
 (hbody:∀(cdv:Value)(A:Around)(outer:List Env)(s:Shared)(H:Hp)(E:XK)(ss:List S)(R:S->Prop)(U:Str->Prop),cdv=.ref c->DC k (A.deeper (envOfC qual (Aa st) s.heap.objs.size f cdv))->sp ss R U ->
  ∃t,Dp (JW CX0 P w K mg base N qual (Aa st) f cdv A outer s H E).nox (BV st) t/\t { nx:=λ_=>R (.d .non),rt:=R } (BI N ss)):Ao P w K mg base CX0 (k+1) f fd ps (Af K mg sp):=by
 obtain⟨oc,od,kV,doc,pm,an,cdv,ct,osl,rfl,lk,hcd⟩:=F.ex;have ec:cdv=.ref c:=Oo ht hn lk;refine RW lk hcd Sc (λvs H Q E hh=>by obtain⟨z,ss,R,U,hz,ha,h3,_⟩:=hh;exact ha.1.trans (len ss R U h3)) λA outer s H vs Q E hr hh9=>?_;obtain⟨z,ss,R,U,hz,ha,h3,q,qe⟩:=hh9;obtain⟨t,ht,hq⟩:=hbody cdv A outer s H E ss R U ec hr h3;exact#[_,ht.out.nox,#[H,z],z,BI N ss,_,C8 ha hz (Bp.refl H),hq,#[λτ σ p r h=>q (.d .non) _ p r.ext Is.non FP h,λ_ _ _ _ z=>z.elim,λ_ _ _ _ z=>z.elim,λs v p e i f h=>q s v p e i f h]]
end
def J7 {us:List Value}{n:Nat}(h:↥us=n+1):∃x r,us=x::r/\↥r=n:=by
 cases us with
 |nil=>cases h
 |cons x r=>exact#[x,r,rfl,Nat.succ.inj h]
def V8 {us:List Value}(h:↥us=1):∃x0,us=[x0]:=by
 obtain⟨x0,r0,e0,h0⟩:=J7 h;have e:=qAV h0;exact#[x0,by rw[e0,e]]
def N2 {us:List Value}(h:↥us=2):∃x0 x1,us=[x0,x1]:=by
 obtain⟨x0,r0,e0,h0⟩:=J7 h;obtain⟨x1,r1,e1,h1⟩:=J7 h0;have e:=qAV h1;exact#[x0,x1,by rw[e0,e1,e]]
def Nd {us:List Value}(h:↥us=3):∃x0 x1 x2,us=[x0,x1,x2]:=by
 obtain⟨x0,r0,e0,h0⟩:=J7 h;obtain⟨x1,r1,e1,h1⟩:=J7 h0;obtain⟨x2,r2,e2,h2⟩:=J7 h1;have e:=qAV h2;exact#[x0,x1,x2,by rw[e0,e1,e2,e]]
def Vm {us:List Value}(h:↥us=4):∃x0 x1 x2 x3,us=[x0,x1,x2,x3]:=by
 obtain⟨x0,r0,e0,h0⟩:=J7 h;obtain⟨x1,r1,e1,h1⟩:=J7 h0;obtain⟨x2,r2,e2,h2⟩:=J7 h1;obtain⟨x3,r3,e3,h3⟩:=J7 h2;have e:=qAV h3;exact#[x0,x1,x2,x3,by rw[e0,e1,e2,e3,e]]
open Classical in
def QW {P q:Program}{loose:List Str}{mean:ExcName->Option Value}{w:World}{K:W.Frag}{mg mb:Str->Option Value}{k:Nat}{fa a:Addr}{fd:FuncData}{x:Str}{s₁:Shared}{vs:List Value}{ns:List Int}
 (T:Top q loose mean mg mb s₁.heap) (hq:∀y:Str,(recsOf P).any (λd=>d.name==y)=true->(recsOf q).any (λd=>d.name==y)=true) (hnt:W.noTabs K=true) (KX:K.In s₁.heap) (hg:s₁.gens=(List.toArray []))
 (ha:s₁.heap.get? a=some { cls:=.type "list",data:=.seq vs.toArray })(hi:IntsAre vs ns)(hl:↥ns<=63)(hr:DC k callerA)
 (F:∀base:Heap,K.In base->base.Ns mainGlobals mg->∃mg',Ao P w K mg base CX0 k fa fd [x] (Af K mg' Oy)) (hbind:∀(s:Shared)(u:Value),BindsTo s fd #[[u],[]] [(x,u)]) :
 codeAny (model P w) callerA (.call (.ref fa) #[[.ref a],[]]) (λr s'=>r=.ok (.ret (.bool true))/\OldK s₁.heap s'.heap/\s'.os=s₁.os/\AllBare s'.gens) s₁:=by
 have rv:=GQ hi;have lenV:=↥hi;have sz:(63:Nat)<=sizeLine:=∅
 let IsT:Addr->Prop:=λb=>∃y c,W.tabIn K y=some (c,b)/\(recsOf P).any (λd=>d.name==y)=true
 have tabs:∀{y:Str}{c b:Addr},W.tabIn K y=some (c,b)->(recsOf P).any (λd=>d.name==y)=true->W.CodeHd s₁.heap c b/\s₁.heap.get? b=some (W.tabObj (List.toArray [])):=λ{y c b} h1 h2=>by
  have h3:=hq y h2;cases e:(recsOf q).find? (λd=>d.name==y) with
  |some d=>exact W.tab_of T KX e h1
  |none=>
   obtain⟨d,hd,hn⟩:=List.any_eq_true.mp h3;exact absurd hn (List.find?_eq_none.mp e d hd)
 have tabG:∀{b:Addr},IsT b->s₁.heap.get? b=some (W.tabObj (List.toArray [])):=fun#[_,_,h1,h2]=>(tabs h1 h2).2
 let H:Hp:=λb=>if b=a/\K.lookup a=none then some (.frz { cls:=.type "list",data:=.seq vs.toArray } (.lst (ns.map V.int))) else if IsT b then some (.tbl (List.toArray [])) else none
 have Ha:K.lookup a=none->H a=some (.frz { cls:=.type "list",data:=.seq vs.toArray } (.lst (ns.map V.int))):=λh=>qC6 #[rfl,h];have neT:∀{b:Addr},IsT b->b≠a:=λt z=>by
  have:=tabG t;rw[z,ha]at this;cases this
 have Ht:∀{b:Addr},IsT b->H b=some (.tbl (List.toArray [])):=λ{b} t=>(qC5 (λz=>neT t z.1)).trans (qC6 t);have Hn:∀{b:Addr},¬(b=a/\K.lookup a=none)->¬IsT b->H b=none:=λ{b} h1 h2=>(qC5 h1).trans (qC5 h2);have three:∀b,H b=none\/(b=a/\K.lookup a=none)\/IsT b:=λb=>by
  by_cases h1:b=a/\K.lookup a=none
  .exact .inr (.inl h1)
  .by_cases h2:IsT b
   .exact .inr (.inr h2)
   .exact .inl (Hn h1 h2)
 have free_of:∀{b:Addr}{o:Obj},s₁.heap.get? b=some o->(∀xs n,o.data≠.seq xs n)->o≠W.tabObj (List.toArray [])->H b=none:=λ{b o} e h1 h2=>by
  refine Hn (λz=>?_) (λz=>?_)
  .rw[z.1,ha]at e;cases e;exact h1 _ _ rfl
  .have:=tabG z;rw[e]at this;exact h2 (qAn this)
 have hok:HOk P w H s₁.heap:=λb u e=>by
  rcases three b with z|z|z
  .rw[z]at e;cases e
  .obtain⟨rfl,z⟩:=z;rw[Ha z]at e;cases e;exact#[ha,by rw[qAa];exact qAO hl sz,vs,_,rv,ha]
  .rw[Ht z]at e;cases e;exact#[(List.toArray []),tabG z,trivial,λpos cv z=>by cases z]
 have base_of:∀{b:Addr}{o:Obj},s₁.heap.get? b=some o->H b=none->(SO s₁.heap H).get? b=some o:=λe n=>Uo e n;have nsK:∀{b:Addr}{m:Str->Option Value},s₁.heap.Ns b m->(SO s₁.heap H).Ns b m:=λ{b m} #[o,es,ep,e,d,r]=>#[o,es,ep,base_of e (free_of e (λxs n z=>by rw[d]at z;cases z) (λz=>by rw[z]at d;cases d)),d,r];have hKb:K.In (SO s₁.heap H):=λb o e=>base_of (KX b o e) (Hn (λz=>by rw[z.1,z.2]at e;cases e) (λz=>by
  have h1:=tabG z;rw[KX b o e]at h1;have h2:=qAK.mp hnt (b,o) (W.mem_of_lookupK e);rw[qAn h1]at h2;exact absurd (show false=true from h2) qAq))
 have hM:Mod K mg (SO s₁.heap H):=#[hKb,nsK T.g,#[mb,nsK T.b,T.builtins],let #[mc,h1,h2]:=T.nolimit;#[mc,nsK h1,h2]];have hTB:TB P K mg (SO s₁.heap H) H:=by
  refine#[?_,λy c b h1 h2=>#[?_,(List.toArray []),Ht #[y,c,h1,h2]]]
  .obtain⟨bm,ob,b1,b2,b3,b4,b5,b6⟩:=T.bmain;exact#[bm,ob,b1,b2,base_of b3 (free_of b3 (λxs n z=>by rw[b6]at z;cases z) (λz=>by rw[z]at b4;cases b4)),b4,b5,b6]
  .obtain⟨o,fs,file,tf,flags,tg,inF,text,tt,g1,g2,g3,g4⟩:=(tabs h1 h2).1;exact#[o,fs,file,tf,flags,tg,inF,text,tt,base_of g1 (free_of g1 (λxs n z=>by rw[g3]at z;cases z) (λz=>by rw[z]at g2;cases g2)),g2,g3,g4]
 have e0:Tr P w K mg (SO s₁.heap H) callerA [] s₁ H:=#[rfl,hM,λb o e=>WT e,Nat.le_of_eq (Sj _ _),trivial,λb hb=>absurd (show b∈([]:List Addr) from hb) (by simp),hok,.of_eq hg,hTB];have hS:SqL K H a (ns.map V.int):=by
  cases hk:K.lookup a with
  |some o=>
   have e:=KX a o hk;rw[ha]at e;cases e;exact .inr #[_,vs.toArray,_,hk,rfl,rfl,rfl,by rw[qAt,lenV];exact qAO hl sz,by simpa using rv]
  |none=>exact .inl (.inr #[_,Ha hk])
 obtain⟨mg',FF⟩:=F _ hKb (nsK T.g);refine codeAny_mono (FF.run callerA [] s₁ H #[[.ref a],[]] [.ref a] [.ref a] (λv _=>v=.bl true) (λ_ _ _=>False) hr e0 (hbind s₁ (.ref a)) (.cons rfl .nil) #[H,[.r (ns.map D.int)],λs=>s=.d (.bl true),NoU,Bp.refl H,#[rfl,λi v s h1 h2=>?_],#[ns,rfl,hl,rfl],λs v q _ i _ e=>?_,λ_ _ _ _ _ z=>z.elim]) λr s' h=>?_
 .cases i with
  |zero=>
   cases h1;cases h2;exact#[#[a,_,rfl,hS,KW ns],rfl]
  |succ i=>cases h1
 .subst e;exact Is.bl_inv i
 cases r with
 |error e=>exact(show False from h).elim
 |ok fl=>
  cases fl with
  |next=>exact False.elim h
  |brk=>exact False.elim h
  |cont=>exact False.elim h
  |ret u=>
   obtain⟨v,H',os,bare,un,hok',r',g⟩:=h;have g':v=.bl true:=g;subst g';obtain rfl:u=Value.bool true:=r';refine#[rfl,#[λb o e=>?_,λb o e=>un.there b o e (by simp)],os,bare];rcases three b with z|z|z
   .exact .inl (un.keep b o e z (by intro z;exact absurd (show b∈([]:List Addr) from z) (by simp)) (by simp))
   .obtain⟨rfl,z⟩:=z;obtain⟨e2,_⟩:=hok' b _ (un.frzs b _ _ (Ha z));rw[ha]at e;cases e;exact .inl e2
   .have e1:=tabG z;obtain⟨y,c,h1,h2⟩:=id z;rw[e]at e1;cases e1;obtain⟨more,e3⟩:=un.tbls b _ (Ht z);obtain⟨tab,e4,_⟩:=(show ND H' s'.heap b from hok' b _ e3);exact .inr (.inl #[((tabs h1 h2).1.tab (tabs h1 h2).2).isCodeTable,rfl,(List.toArray []),tab,rfl,by rw[e4];simp])
def walk3 {l:W.OpenLaw}{k:Nat}{q:Program}{loose:List Str}{XP:(Str->Option Value)->Heap->Prop}{YP:World->Heap->Prop}{d:DefRec}{K:Params->W.Frag}{x:Str}(hn:l.most=some 63)(hdf:d.params.defaults=[])(hr:DC k callerA)
 (hq:∀y:Str,(recsOf l.prog).any (λd=>d.name==y)=true->(recsOf q).any (λd=>d.name==y)=true)
 (hY:∀(w:World)(h:Heap),YP w h->(K w.params).In h)(hnt:∀w:World,W.noTabs (K w.params)=true)
 (F:∀(w:World)(mg:Str->Option Value)(fa:Addr)(h:Heap),(K w.params).In h->h.Ns mainGlobals mg->mg d.name=some (.ref fa) ->
  ∃fd:FuncData,(∀(s:Shared)(u:Value),BindsTo s fd #[[u],[]] [(x,u)])/\∀base:Heap,(K w.params).In base->base.Ns mainGlobals mg->∃mg',Ao l.prog w (K w.params) mg base CX0 k fa fd [x] (Af (K w.params) mg' Oy)) :
 W.WalkO q loose XP YP l.row.toRowW d [] (λf vs=>PySem.call f vs):=by
 refine Att.attach_call hn hdf λw s₀ s₁ mg mb fa o pm cd doc a vs ns G Y ho hd hcd hmg hobj hints hlen hg=>?_;have KX:=hY w _ Y;obtain⟨fd,hb,hF⟩:=F w mg fa _ KX G.T.g hmg;exact QW G.T hq (hnt w) KX hg hobj hints hlen hr hF hb
open PySem L2
def S.wk:S->S
 |.d (.lst xs)=>.r xs
 |s=>s
def S.nl:S->Bool
 |.d (.lst _)=>false
 |_=>true
def Xw:∀s:S,s.wk.own=s.own
 |.d (.lst _)=>rfl
 |.d .non|.d (.bl _)|.d (.int _)|.d (.str _)|.d (.ty _)|.d (.ref _)|.d (.tup _)|.l _|.r _=>rfl
def Xy:∀s:S,s.wk.nl=true
 |.d (.lst _)=>rfl
 |.d .non|.d (.bl _)|.d (.int _)|.d (.str _)|.d (.ty _)|.d (.ref _)|.d (.tup _)|.l _|.r _=>rfl
def Kc {y:S}{l:List D}(h:y=.r l\/y=.d (.lst l))(n:y.nl=true):y=.r l:=by
 rcases h with rfl|rfl
 .rfl
 .cases n
def ZG {K:W.Frag}{p:HZ}{v:V}(hz:Bp p.z p.h):∀s:S,IsS K p v s->IsS K p v s.wk
 |.d (.lst _),h=>by
  have h:Is K p.z v (.lst _):=h;cases h with
  |lst e hl r=>exact#[_,_,rfl,.inl (.inl (hz _ _ e)),hl,r]
 |.d .non,h|.d (.bl _),h|.d (.int _),h|.d (.str _),h|.d (.ty _),h|.d (.ref _),h|.d (.tup _),h|.l _,h|.r _,h=>h
def NL (sp:Sp3):Sp3:=λss R U=>sp ss R U/\∀s∈ss,s.nl=true
def QP {K:W.Frag}{mg:Str->Option Value}{sp:Sp3}(hs:∀ss R U,sp ss R U->sp (ss.map S.wk) R U){vs:List V}{H:Hp}{Q:VK}{E:XK}(h:Af K mg sp vs H Q E):Af K mg (NL sp) vs H Q E:=by
 obtain⟨z,ss,R,U,hz,⟨hl,ha⟩,h3,q⟩:=h;refine#[z,ss.map S.wk,R,U,hz,#[by rw[qAa];exact hl,λi v s hv h=>?_],#[hs _ _ _ h3,λs h=>?_],q]
 .rw[qAd]at h;obtain⟨t,e,rfl⟩:=Option.map_eq_some_iff.mp h;have:=ha i v t hv e;exact#[ZG hz _ this.1,(Xw t).trans this.2]
 .obtain⟨t,_,rfl⟩:=qAI.mp h;exact Xy t
section
variable {P:Program}{w:World}{K:W.Frag}{mg:Str->Option Value}{base:Heap}{f:Addr}{fd:FuncData}{ps:List Str}{k:Nat}
def fnW {CX:CXT}{sp:Sp3}(hs:∀ss R U,sp ss R U->sp (ss.map S.wk) R U)(F:Ao P w K mg base CX k f fd ps (Af K mg (NL sp))):Ao P w K mg base CX k f fd ps (Af K mg sp):=F.imp λ_ _ _ _=>QP hs
def cJ {kl:Nat}{sp:SpL}(hs:∀a d p ss R U,sp a d p ss R U->sp a d p (ss.map S.wk) R U)(F:Pl P w K mg base k kl f fd ps (λa d p=>NL (sp a d p))):Pl P w K mg base k kl f fd ps sp:=
 #[λa d p ss R U h=>by have:=F.len a d p _ R U #[hs _ _ _ _ _ _ h,λs h=>by obtain⟨t,_,rfl⟩:=qAI.mp h;exact Xy t];rw[qAa]at this;exact this,
  λA outer s H args us vs Q E a d p hr e0 hb rv hL hh=>F.run A outer s H args us vs Q E a d p hr e0 hb rv hL (QP (hs a d p) hh)]
end
section
variable {X:Cx}{e a b:Expr}{es:List Expr}{te ta tb:TE3}{tr:TA3}{pos:Pos}
def vN (i:Nat){x:Str}(hN:X.N[i]? = some x:=by rfl)(hv:Vis X.env.scope x:=by first|exact Or.inl rfl|exact Or.inr (Or.inl rfl)|exact Or.inr (Or.inr rfl))(hd:(x==("__debug__":Str))=false:=by decide)(hcd:(x==("__classdict__":Str))=false:=by decide):PE3 X (.Name x pos) (Zh i):=ZS (pv i hN hv hd hcd)
def vK (i:Nat){x:Str}{n:Int}{j:Nat}{p q:Pos}(hN:X.N[i]? = some x:=by rfl)(hv:Vis X.env.scope x:=by first|exact Or.inl rfl|exact Or.inr (Or.inl rfl)|exact Or.inr (Or.inr rfl))(hd:(x==("__debug__":Str))=false:=by decide)(hcd:(x==("__classdict__":Str))=false:=by decide):PE3 X (.Subscript (.Name x p) (.Constant (.int n) j q) pos) (vIx (Zh i) (vC (.int n))):=A4 (vN i hN hv hd hcd) Ad
def a1 (ha:PE3 X e te)(hs:starEach [e] X.env=(false,eval e X.env)::starEach [] X.env:=by exact Cm rfl):PA3 X [e] (Qm te Zf):=Au ha Nk hs
def a2 (ha:PE3 X a ta)(hb:PE3 X b tb)(h1:starEach [a,b] X.env=(false,eval a X.env)::starEach [b] X.env:=by exact Cm rfl)(h2:starEach [b] X.env=(false,eval b X.env)::starEach [] X.env:=by exact Cm rfl):PA3 X [a,b] (Qm ta (Qm tb Zf)):=Au ha (Au hb Nk h2) h1
def HA {k k':Nat}{x:Str}{ps:List Str}{sp:Sp3}{p:Pos}{U:Str->Prop}(xo:VW X U)(hr:DC k' X.A)(c:Cal X.prog X.w X.K X.mg X.base (CXU X.prog X.w) k x ps sp)(ha:PA3 X (e::es) tr)(hk:k<=k':=by decide)(hg:Gl X x:=by exact rfl)
 (hdb:(x==("__debug__":Str))=false:=by decide)(he:starEach (e::es) X.env=(false,eval e X.env)::starEach es X.env:=by exact Cm rfl)(hpl:(backTo pos (starEach es X.env)).any (·.1)=false:=by exact C7 rfl)(hl:X.lent=none\/∀y,¬U y:=by first|exact .inl rfl|exact .inr (λ_ z=>z)) :
 PE3 X (.Call (.Name x p) (e::es) [] pos) (N7 U sp tr):=R9 xo c (hr.mono hk) hg ha hdb he hpl hl
def Ak {k k':Nat}{x:Str}{ps:List Str}{sp:Sp3}{p:Pos}(hr:DC k' X.A)(c:Cal X.prog X.w X.K X.mg X.base (CXU X.prog X.w) k x ps sp)(ha:PA3 X (e::es) tr)(hk:k<=k':=by decide)(hg:Gl X x:=by exact rfl)
 (hdb:(x==("__debug__":Str))=false:=by decide)(he:starEach (e::es) X.env=(false,eval e X.env)::starEach es X.env:=by exact Cm rfl)(hpl:(backTo pos (starEach es X.env)).any (·.1)=false:=by exact C7 rfl) :
 PE3 X (.Call (.Name x p) (e::es) [] pos) (N7 NoU sp tr):=R9 Xe c (hr.mono hk) hg ha hdb he hpl (.inr λ_ z=>z)
def Cn {p:Pos}(hm:X.mg "len"=none)(ha:PE3 X e te)(hg:Gl X "len":=by exact rfl)(he:starEach [e] X.env=(false,eval e X.env)::starEach [] X.env:=by exact Cm rfl)(hpl:(backTo pos (starEach [] X.env)).any (·.1)=false:=by exact C7 rfl) :
 PE3 X (.Call (.Name "len" p) [e] [] pos) (vCB ZJ (Qm te Zf)):=La Zp hg hm PySem.boot_len (Au ha Nk he) ∅ ∅ he hpl
def AI (i:Nat){x:Str}{pos':Pos}{ps:List Str}{sc:Scope}(O:Ae X.N ps sc)(he:PE3 X e te)(hi:X.N[i]? = some x:=by rfl)(hx:Loc X.env.scope x:=by first|exact Or.inl rfl|exact Or.inr rfl)(hs:swapsWith e (some (.Name x pos')) pos.line X.env=pure false:=by rfl)(hf:X.fn x=true\/X.env.scope.names.lookup x=some .local:=by first|exact .inl rfl|exact .inr rfl|assumption)(hp:EL X i:=by first|exact ED rfl|exact EF rfl ∅|assumption) :
 PS3 X (.Assign [.Name x pos'] e pos) (Zg i te):=Z6 O.nd hi hx he hs hf hp
def AR (he:PE3 X e te):Dp X [.Return (some e) pos] (bQ te):=Ag (Zv he)
def B6 {op:CmpOp}{r3:R3}(ho:IF X (compareOp op) r3)(ha:PE3 X a ta)(hb:PE3 X b tb)(hm:behindInMarks op b=false:=by exact DF _):PT3 X (.Compare a [op] [b] pos) (VV (vOp r3 ta tb)):=Zo ho ha hb hm
end
def scN {N P:List Str}{sc:Scope}(h1:(sc.kind=.function/\sc.isCoroutine=false/\sc.isGenerator=false):=by exact#[rfl,rfl,rfl])(h2:N.take ↥P=P:=by rfl)(h3:N.Nodup/\(∀x∈P,sc.names.lookup x=some .local\/sc.names.lookup x=some .cell)/\∀y∈sc.names,y.2≠.free:=by decide +kernel):Ae N P sc:=#[h1.1,h1.2.1,h1.2.2,h3.1,h2,h3.2.1,h3.2.2]
def Bnd (st:Stmt)(n:Str)(ps:List Str):Prop:=∀(kV doc pm:Value)(an:Option Addr)(cdv ct:Value)(us:List Value),↥us=↥ps->bindArgs (W.fnOf n n (Gr st) (BV st) (Aa st) .none kV doc pm an cdv ct) #[us,[]]=pure (ps.zip us)
section
variable {P:Program}{w:World}{K:W.Frag}{mg:Str->Option Value}{base h:Heap}
def mkC (X:K.In h)(G:h.Ns mainGlobals mg){n:Str}{st:Stmt}(r:Rw K n st){k:Nat}{ps:List Str}{sp:Sp3}(ok:∀{f:Addr}{fd:FuncData},Fun K n n st f fd->rA K n f->Ao P w K mg base (CXU P w) k f fd ps (Af K mg sp))
 (hb:Bnd st n ps:=by(intro _ _ _ _ _ _ us hl;first|(obtain⟨x0,rfl⟩:=V8 hl;rfl)|(obtain⟨x0,x1,rfl⟩:=N2 hl;rfl)|(obtain⟨x0,x1,x2,rfl⟩:=Nd hl;rfl)|(obtain⟨x0,x1,x2,x3,rfl⟩:=Vm hl;rfl))):Cal P w K mg base (CXU P w) k n ps sp:=by
 obtain⟨a,l,c,k⟩:=r;have F:=KJ (st:=st) l c k;exact#[#[_,_,ok F a,qBn X G a,k,F.binds hb]]
def mkL (X:K.In h)(G:h.Ns mainGlobals mg){n:Str}{st:Stmt}(r:Rw K n st){k kl:Nat}{ps:List Str}{sp:SpL}(ok:∀{f:Addr}{fd:FuncData},Fun K n n st f fd->rA K n f->Pl P w K mg base k kl f fd ps sp)
 (hb:Bnd st n ps:=by(intro _ _ _ _ _ _ us hl;first|(obtain⟨x0,rfl⟩:=V8 hl;rfl)|(obtain⟨x0,x1,rfl⟩:=N2 hl;rfl)|(obtain⟨x0,x1,x2,rfl⟩:=Nd hl;rfl)|(obtain⟨x0,x1,x2,x3,rfl⟩:=Vm hl;rfl))):aG P w K mg base k kl n ps sp:=by
 obtain⟨a,l,c,k⟩:=r;have F:=KJ (st:=st) l c k;exact#[#[_,_,ok F a,qBn X G a,k,F.binds hb]]
end
section
variable {X:Cx}{e a b:Expr}{te ta tb:TE3}{pos:Pos}
def bC (i:Nat)(te:TE3):TS3:=λD3 τ=>match τ[i]? with
 |some (some (S.d (D.int n)))=>te τ λs=>dd s λd=>match d with
  |.int j=>D3.nx (τ.set i (some (.d (.int (n+j)))))
  |_=>False
 |_=>False
def OD {i:Nat}{x:Str}{px:Pos}(hN:X.N.Nodup)(hi:X.N[i]? = some x)(hx:Loc X.env.scope x)(he:PE3 X e te)(hf:X.fn x=true\/X.env.scope.names.lookup x=some .local:=by first|exact .inl rfl|exact .inr rfl|assumption)(hp:EL X i:=by first|exact ED rfl|exact EF rfl ∅|assumption) :
 PS3 X (.AugAssign (.Name x px) .Add e pos) (bC i te):=#[C4 (Yv hN hi hx he.out YA hf) λD2 σ H hh=>by
 obtain⟨B,z,τ,D3,r,ht,c⟩:=hh;unfold bC at ht;split at ht
 .rename_i n hs;obtain⟨v,h1,h2⟩:=r.val i _ hs;have ev:v=.int n:=Is.int_inv h2;subst ev;refine#[.int n,h1,B,_,τ,_,r,ht,λs v q1 e1 i1 f1 h3=>?_];obtain⟨d,rfl,h4⟩:=FW h3;split at h4
  .rename_i j;have ev:v=.int j:=Is.int_inv i1;subst ev;refine#[n,j,rfl,rfl,?_];exact c.nx _ _ _ ((r.mono e1).setd (.int (n+j)) hp) h4
  .exact h4.elim
 .exact ht.elim]
def cS (r3:R3)(ta tb:TE3):TE3:=λτ R=>ta τ λx=>tb τ λy=>dd x.arg λdx=>dd y.arg λdy=>r3 dx dy λd=>R (.d d)
def M4 {op:Operator}{r3:R3}(ho:IF X (binaryOp op) r3)(ha:PE3 X a ta)(hb:PE3 X b tb):PE3 X (.BinOp a op b pos) (cS r3 ta tb):=#[BL (Y5 ho ha.out hb.out) λσ H Q hh=>by
 obtain⟨B,z,τ,R,r,ht,q⟩:=hh;refine#[B,z,τ,_,r,ht,λs v q1 e1 i1 f1 h1=>?_];obtain⟨z1,e1',i1'⟩:=Fm e1 i1 f1;refine#[B,z1,τ,_,r.mono e1',h1,λs2 v2 q2 e2 i2 f2 h2=>?_];obtain⟨z2,e2',i2'⟩:=Fm e2 i2 f2;obtain⟨dx,ex,h2⟩:=FW h2;obtain⟨dy,ey,h2⟩:=FW h2;rw[ex]at i1';rw[ey]at i2';refine#[z2,dx,dy,_,e2'.sub,(show Is X.K z1 v dx from i1').mono e2'.zz,i2',h2,λd w q3 e3 i3 h3=>?_];exact q (.d d) w q3 (e1'.trans (e2'.trans e3)) i3 FP h3]
end
def Ite (K:W.Frag)(a:Addr):It:=
 #[λi H=>∃xs x,SqL K H a xs/\xs[i]? = some x,λi H x H'=>∃p y,H p=none/\x=.ref p/\(∀xs,SqL K H a xs->xs[i]? = some y)/\H'=upd H p (.tup [.int i,y]),λi H=>∃xs,SqL K H a xs/\↥xs<=i]
def Ss {P:Program}{w:World}{K:W.Frag}{elts:List Expr}{x1:Nat}{tpos:Pos}(a e it:Addr)(hne:e≠it):U3 P w K (.Tuple elts x1 tpos) (Ite K a) [e,it] e (λi h=>(∃old,IsEnum h e it ((i:Nat):Int) old)/\h.IsListIter it a i) where
 mem:=by simp
 obj:=λi h st b hb=>by
  obtain⟨⟨old,he⟩,hi⟩:=st;rcases qAi.mp hb with rfl|hb
  .exact#[_,he,λv z=>by cases z]
  .have:b=it:=by simpa using hb
   subst this;obtain⟨o,e1,c,d⟩:=hi;exact#[o,e1,λv z=>by rw[d]at z;cases z]
 keep:=λi h h' st k=>#[let #[old,he]:=st.1;#[old,k e (by simp) _ he],st.2.at λo e1=>k it (by simp) o e1]
 item:=by
  intro X hP hw hK hc i pins s σ H E I hf st hg;subst hP hw hK;obtain⟨xs,x,hq,hx⟩:=hg;obtain⟨its,rv,p,hz⟩:=I.list hq;obtain⟨u,hu,ru⟩:=rv.get hx;obtain⟨⟨old,he⟩,hi⟩:=st;obtain⟨f0,f1,f2,f3,f4,f5⟩:=hf e (by simp);obtain⟨g0,g1,g2,g3,g4,g5⟩:=hf it (by simp);refine wpAny_pyNext_enum_item he hi p.isList (x:=u) (by simpa using hu) hne λh1 heo hit1 ht1 hz1 hk1=>#[_,rfl,wpAny_letOwnedTupleGo_enum (s:={ s with heap:=h1,toks:=s.toks+1 }) heo λh2 he2 hs2=>?_];have hs2':Heap.SameBut e h1 h2:=hs2;have el:e<s.heap.objs.size:=qAj he;have sz:s.heap.objs.size≠e:=qBg el;have hn:H s.heap.objs.size=none:=I.hok.fresh (qAg _);have old2:∀b o,b≠e->b≠it->s.heap.get? b=some o->h2.get? b=some o:=λb o n1 n2 z=>(hs2'.2 b n1).trans (hk1 b o n1 n2 z);have tup2:h2.get? s.heap.objs.size=some { cls:=.type "tuple",data:=.seq (List.toArray [.int i s.toks,u]) }:=(hs2'.2 _ sz).trans ht1;have trk:∀{b:Addr}{o:HO},H b=some o->b≠e/\b≠it:=λ{b o} z=>#[(λy=>by rw[y,f0]at z;cases z),(λy=>by rw[y,g0]at z;cases z)];have hok2:HOk X.prog X.w (upd H s.heap.objs.size (.tup [.int i,x])) h2:=λb o z=>by
   by_cases hb:b=s.heap.objs.size
   .subst hb;rw[As]at z;cases z;exact#[by show 2<=sizeLine;decide,[.int i s.toks,u],.cons #[_,rfl] (.cons ru .nil),#[_,tup2,rfl,_,rfl]]
   .rw[An hb]at z;refine(I.hok b o z).stay (hf:=λc w1 w2 y=>by rw[An (AG y hn)];exact y) (λc v hc' y=>?_) (λc y=>by rw[An (AG y hn)];exact y) λc ys y=>by rw[An (AG y hn)];exact y
    have t:c≠e/\c≠it:=by
     rcases hc' with rfl|hc'
     .exact trk z
     .exact trk hc'
    exact old2 c v t.1 t.2 y
  have I2:Inv X pins σ (upd H s.heap.objs.size (.tup [.int i,x])) { s with heap:=h2,toks:=s.toks+1 }:=by
   refine I.step (g':=s.gens) (d':=s.drawn) (ch:=[e,it]) (λb hb=>?_) (λb o _ _ hb z _=>old2 b o (λy=>hb (by simp[y])) (λy=>hb (by simp[y])) z) (λb o _ _ hb z _=>#[o.slots,old2 b o (λy=>hb (by simp[y])) (λy=>hb (by simp[y])) z])
    (λb o _ z n=>by rw[An (qAs (qAj z))];exact n) (λb o hb z=>#[o,old2 b o (λy=>hb (by simp[y])) (λy=>hb (by simp[y])) z])
    (λb ys y=>by rw[An (AG y hn)];exact y) (λb o ys y=>by rw[An (AG y hn)];exact y) (λb ps y=>#[(List.toArray []),by rw[An (AG y hn),y];simp]) (λm hm=>?_) hok2 I.bare
   .rcases qAi.mp hb with rfl|hb
    .exact#[f3,f1,f4,f5]
    .have:b=it:=by simpa using hb
     subst this;exact#[g3,g1,g4,g5]
   .obtain⟨o,es,ep,ho,r⟩:=hm;exact#[o,es,ep,old2 _ o (Ne.symm f1) (Ne.symm g1) ho,r]
  refine#[.ref s.heap.objs.size,_,I2,rfl,#[_,x,hn,rfl,λys hy=>by rw[I.list_inj hy hq];exact hx,rfl],#[#[u,?_],hit1.extBut hs2'.extBut (Ne.symm hne)],λb hb=>?_]
  .have:((i+1:Nat):Int)=(i:Int)+1:=();rw[this];exact he2
  .rcases qAi.mp hb with rfl|hb
   .rw[An (Ne.symm sz)];exact f0
   .have:b=it:=by simpa using hb
    subst this;obtain⟨o,e1,_⟩:=hi;rw[An (qAs (qAj e1))];exact g0
 done:=by
  intro X hP hw hK hc i pins s σ H E I hf st hg;subst hP hw hK;obtain⟨xs,hq,hx⟩:=hg;obtain⟨its,rv,p,hz⟩:=I.list hq;obtain⟨⟨old,he⟩,hi⟩:=st;obtain⟨g0,g1,g2,g3,g4,g5⟩:=hf it (by simp);refine wpAny_pyNext_enum_end (I.ok.hd hc) he hi p.isList (by rw[qBG];rw[qAQ,<-↥rv];exact hx) λh' hx'=>#[rfl,?_];exact I.turned (t':=s.toks) (λb o hb z=>hx' b o hb z) g0 g1 g3 g4 g5
 self:=λA i s Q E st h=>by
  obtain⟨⟨old,he⟩,_⟩:=st;exact wpAny_pyIter_enum he h
section
variable {X:Cx}{pos:Pos}
def X6 (K:W.Frag)(tl:TE):TI:=λσ H R=>tl σ H λx H1=>∃a,x=.ref a/\(∃xs,Rd H1 a (.lst xs))/\R (Ite K a) H1
def Sn {elts:List Expr}{x1:Nat}{tpos p:Pos}{l:Expr}{tl:TE}(hg:Gl X "enumerate")(hm:X.mg "enumerate"=none)(hl:PE X l tl)(hs:starEach [l] X.env=[(false,eval l X.env)]:=by rfl):PI X (.Tuple elts x1 tpos) (.Call (.Name "enumerate" p) [l] [] pos) (X6 X.K tl):=by
 intro pins s σ H R I h;refine Call_ (JO I hg hm PyProof.Rows.boot_enumerate (qBC ?_ hs rfl));rw[hs];refine Calls.spliced_cons (thn (hl pins s σ H _ I h) λv s1 #[x,H1,I1,r1,q1]=>Calls.spliced_nil ?_);obtain⟨a,e,⟨xs,hq⟩,q⟩:=q1;subst e;cases r1;obtain⟨_,its,n,rv,ho⟩:=hq.ok I1.hok;refine call_enumerate_1 (items:=its.toArray) (n:=n) ho λh' he hit hz old=>?_;have I2:Inv X pins σ H1 { s1 with heap:=h' }:=I1.kept (t':=s1.toks) old;refine wpAny_pyIter_enum (s:={ s1 with heap:=h' }) he ?_;refine#[s1.heap.objs.size+1,[s1.heap.objs.size+1,s1.heap.objs.size],_,_,H1,rfl,I2,Ss a (s1.heap.objs.size+1) s1.heap.objs.size (Nat.succ_ne_self _),#[#[_,he],hit],λb hb=>?_,q];rcases qAi.mp hb with rfl|hb
 .exact I1.fpOk (qB2 _) (I1.hok.fresh (qB2 _))
 .have:b=s1.heap.objs.size:=by simpa using hb
  subst this;exact I1.fpOk (qAg _) (I1.hok.fresh (qAg _))
def Xo (i1 i2:Nat)(xs:List D)(tb:TS3)(D3:Md)(τ0:Tau):Prop:=∃I:Nat->Tau->Prop,I 0 τ0 /\
 (∀n τ x,xs[n]? = some x->I n τ->tb { D3 with nx:=I (n+1),ct:=I (n+1),bk:=D3.nx } ((τ.set i1 (some (.d (.int n)))).set i2 (some (.d x))))/\∀τ,I ↥xs τ->D3.nx τ
def YJ (j i1 i2:Nat)(tb:TS3):TS3:=λD3 τ=>match τ[j]? with
 |some (some (.l xs))=>Xo i1 i2 xs tb D3 (τ.set j (some (.r xs)))
 |_=>False
def Vk {j i1 i2:Nat}{x1 x2 y:Str}{p1 p2 pt py pn pc:Pos}{kt:Nat}{body:List Stmt}{tb:TS3}
 (h:PS X (.For (.Tuple [.Name x1 p1,.Name x2 p2] kt pt) (.Call (.Name "enumerate" pn) [.Name y py] [] pc) body [] pos) (Xh (X6 X.K (O1 j)) (Z7 X.K 2 (Qi (Gw i1) (Qi (Gw i2) Z1))) (FS X tb)))(hp1:EL X i1:=by first|exact ED rfl|exact EF rfl ∅|assumption)(hp2:EL X i2:=by first|exact ED rfl|exact EF rfl ∅|assumption) :
 PS3 X (.For (.Tuple [.Name x1 p1,.Name x2 p2] kt pt) (.Call (.Name "enumerate" pn) [.Name y py] [] pc) body [] pos) (YJ j i1 i2 tb):=#[C4 h λD2 σ H hh=>by
 obtain⟨B,z,τ,D3,r,ht,c⟩:=hh;unfold YJ at ht;split at ht
 .rename_i xs hs;obtain⟨v,h1,a,vs,rfl,h3,h4⟩:=r.val j _ hs;have r':=r.freeze hs rfl;obtain⟨I,i0,turn,out⟩:=ht;have hno:∀(m:Nat)(ys:List D),(τ.set j (some (.r xs)))[m]? = some (some (S.l ys))->σ[m]?≠some (some (V.ref a)):=λm ys hm hσ=>by
   rcases Ay hm with⟨rfl,z⟩|⟨hn,hm'⟩
   .cases z
   .have hl:j<↥τ:=(qAe.mp hs).1;exact r'.sep m j ys (.r xs) a hn hm (by rw[qBA hl]) rfl hσ h1
  have hB:SqL X.K (Nb (τ.set j (some (.r xs))) σ H) a vs:=.inl (.inl (by rw[Iz hno];exact h3));refine#[.ref a,h1,a,rfl,#[vs,.inl h3],λn m σ1 H1=>m=↥vs-n/\n<=↥vs/\∃z1 τ1,Rep X #[Nb (τ.set j (some (.r xs))) σ H,z] τ1 σ1 #[H1,z1]/\I n τ1,#[↥vs,by simp,qA9 _,z,_,r'.inB,i0],?_];rintro n m σ1 H1 ⟨rfl,hn,z1,τ1,r1,ih1⟩;have q:=r1.ext.hh.seq hB;by_cases hlt:n<↥vs
  .refine .inr #[#[vs,vs[n],q,by simp[hlt]],λσ' H'=>∃z' τ',Rep X #[Nb (τ.set j (some (.r xs))) σ H,z] τ' σ' #[H',z']/\I (n+1) τ',λσ' H' p'=>#[↥vs-(n+1),(),rfl,hlt,p'],λx H' y=>?_];obtain⟨p,w,hp,rfl,hy,rfl⟩:=y;have hw:=hy vs q;obtain⟨d,hd,id⟩:=EA h4 hw;have e1:Ext #[H1,z1] #[upd H1 p (.tup [.int n,w]),z1]:=Ext.own r1.ext.sub hp _;have r2:=r1.mono e1;refine#[p,[.int n,w],rfl,.inl (.inl As),rfl,.int n,[w],rfl,w,[],rfl,rfl,?_];exact#[_,_,_,_,(r2.setd (i:=i1) (.int (n:Int)) hp1).setd (i:=i2) (id.mono r1.ext.zz) hp2,turn n τ1 d hd ih1,c.inB r'.leB λτ' σ' p' r' h'=>#[p'.z,τ',r',h']]
  .have e:n=↥vs:=();subst e;exact .inl #[#[vs,q,qAg _],c.nx _ _ _ (r1.outB r'.leB) (out τ1 (by rw[<-h4.1];exact ih1))]
 .exact ht.elim]
end
section
variable {X:Cx}
def K3 {ns:List Int}:∀{its:List Value},B4 (ns.map V.int) its->PyProof.Rows.IntsAre its ns:=by
 induction ns with
 |nil=>intro its h;cases h;exact .nil
 |cons n ns ih=>
  intro its h;cases h with
  |cons r t=>
   obtain⟨k,rfl⟩:=r;exact .cons n k (ih t)
def GQ {vs:List Value}{ns:List Int}(h:PyProof.Rows.IntsAre vs ns):B4 (ns.map V.int) vs:=by
 induction h with
 |nil=>exact .nil
 |cons n t _ ih=>exact .cons #[t,rfl] ih
def P7 {vs:List Value}{ns:List Int}(h:PyProof.Rows.IntsAre vs ns):↥vs=↥ns:=by
 induction h with
 |nil=>rfl
 |cons n t _ ih=>rw[qAU,qAU,ih]
def Kr {pins:List (Addr×Obj)}{σ:St}{H:Hp}{s:Shared}{Q:VK}{its:List Value}{out:Array Value}{ns:List Int}(I:Inv X pins σ H s)(a1:PyProof.Rows.IntsAre out.toList ns)(hl:↥ns<=sizeLine)
 (q:∀l,H l=none->Q (.ref l) (upd H l (.lst (ns.map V.int)))):EP X pins σ Q (.ref (s.heap.objs.size+1)) { s with heap:=PyProof.Rows.sortedAll s.heap its out }:=by
 obtain⟨e,he⟩:=PyProof.Rows.sortedAll_at s.heap its out;refine#[.ref (s.heap.objs.size+1),_,I.laid (t':=s.toks) (λb o=>PyProof.Rows.sortedAll_old) (qB2 _) (show Dm X.prog X.w _ _ _ (.lst (ns.map V.int)) from #[by rw[qAa];exact hl,out.toList,e,GQ a1,he]),rfl,q _ (I.hok.fresh (qB2 _))]
def M8 (X:Cx):List V->Hp->VK->Prop:=λxs H Q=>∃p ns,xs=[.ref p]/\SqL X.K H p (ns.map V.int)/\↥ns<64/\∀ns':List Int,ns'.Perm ns->∀l,H l=none->Q (.ref l) (upd H l (.lst (ns'.map V.int)))
def NC:Iv X (.builtin "sorted") (M8 X):=by
 intro pins s σ H xs us Q I r h;obtain⟨p,ns,rfl,hq,h64,q⟩:=h;obtain⟨u,rfl,rx⟩:=NJ r;cases rx;obtain⟨its,r',pl,hz⟩:=I.list hq;have hI:=K3 r';refine PyProof.Rows.sorted_ints pl.isList hI (by rw[P7 hI];exact h64) λout ns' a1 a2 a3=>?_;exact Kr I a1 (by rw[a2.length_eq];rw[qAa]at hz;exact hz) (q ns' a2)
def Ua {p pos kpos:Pos}{e:Expr}{t:TA}{b:Bool}{kj:Nat}{kp:Pos}(hg:Gl X "sorted")(hm:X.mg "sorted"=none)(ha:PA X [e] t)
 (he:starEach [e] X.env=(false,eval e X.env)::starEach [] X.env:=by rfl) :
 PE X (.Call (.Name "sorted" p) [e] [#[some "reverse",.Constant (.bool b) kj kp,kpos]] pos) (tCB (M8 X) t):=by
 intro pins s σ H Q I h;refine wpAny_Call_Name_kw (JO I hg hm qCH ?_ ∅ ∅);refine PyProof.Rows.callWith_kw (thn (ha pos pins s σ H _ I h) λus s1 #[vs,H1,I1,r1,q1]=>?_) (by rw[he];rfl) (by rw[he];rfl);refine thn ((WZ Y2 Yo:PK X [#[some "reverse",.Constant (.bool b) kj kp,kpos]] _) pos pins s1 σ H1 (λws H2=>ws=[V.bl b]/\M8 X vs H2 Q) I1 #[rfl,q1]) λws s2 #[zs,H2,I2,rz,ez,q1]=>?_;subst ez;obtain⟨w,rfl,rw⟩:=NJ rz;cases rw;obtain⟨pp,ns,rfl,hq,h64,q⟩:=q1;obtain⟨u,rfl,rx⟩:=NJ r1;cases rx;obtain⟨its,r',pl,hz⟩:=I2.list hq;have hI:=K3 r';refine PyProof.Rows.sorted_ints_rev pl.isList hI (by rw[P7 hI];exact h64) λout ns' a1 a2 a3=>?_;exact Kr I2 a1 (by rw[a2.length_eq];rw[qAa]at hz;exact hz) (q ns' a2)
def Lf {K:W.Frag}{H:Hp}{vs:List V}{ns:List Int}(h:Iss K H vs (ns.map D.int)):vs=ns.map V.int:=by
 refine qCE λi=>?_;have hl:=h.1;rw[qAa]at hl;rw[qAd];by_cases c:i<↥vs
 .have e:=qAb c;have e2:ns[i]? = some ns[i]:=qAb ();have:=h.2 i vs[i] (.int ns[i]) e (by rw[qAd,e2];rfl);rw[e,e2,Is.int_inv this];rfl
 .rw[qAQ.mpr (),qAQ.mpr ()];rfl
def Rk (te:TE3):TE3:=λτ R=>te τ λs=>match aO s with
 |some xs=>∃ns:List Int,xs=ns.map D.int/\↥ns<64/\∀ns':List Int,ns'.Perm ns->R (.l (ns'.map D.int))
 |none=>False
def Ud {e:Expr}{te:TE3}{p pos:Pos}(he:PE3 X e te)(hg:Gl X "sorted")(hm:X.mg "sorted"=none)(hs:starEach [e] X.env=(false,eval e X.env)::starEach [] X.env:=by exact Cm rfl):PE3 X (.Call (.Name "sorted" p) [e] [] pos) (Rk te):=
 #[BL (Zd (GR NC hg hm qCH (AM he.out Br hs) (he:=hs))) λσ H Q hh=>by
  obtain⟨B,z,τ,R,r,ht,q⟩:=hh;exact#[B,z,τ,_,r,ht,λs v q1 e1 i1 f1 h1=>by
   split at h1
   .rename_i xs hx;obtain⟨ns,rfl,h64,h1⟩:=h1;obtain⟨a,vs,rfl,g2,g1⟩:=Qn i1 e1.sub hx;have ev:=Lf g2;subst ev;refine#[a,ns,rfl,g1,h64,λns' pm d hd hk=>?_];exact q (.l (ns'.map D.int)) _ #[_,q1.z] (e1.trans (Ext.own e1.sub hd _)) #[d,ns'.map V.int,rfl,As,KW ns'] (λys a _ h2=>by
     cases h2;exact#[e1.hh.free hd,hk d _ As,e1.sub.free hd]) (h1 ns' pm)
   .exact h1.elim]]
def Sw {e:Expr}{te:TE3}{p pos kpos kp:Pos}{b:Bool}{kj:Nat}(he:PE3 X e te)(hg:Gl X "sorted")(hm:X.mg "sorted"=none)(hs:starEach [e] X.env=(false,eval e X.env)::starEach [] X.env:=by exact Cm rfl):PE3 X (.Call (.Name "sorted" p) [e] [#[some "reverse",.Constant (.bool b) kj kp,kpos]] pos) (Rk te):=
 #[BL (Zd (Ua hg hm (AM he.out Br hs) hs)) λσ H Q hh=>by
  obtain⟨B,z,τ,R,r,ht,q⟩:=hh;exact#[B,z,τ,_,r,ht,λs v q1 e1 i1 f1 h1=>by
   split at h1
   .rename_i xs hx;obtain⟨ns,rfl,h64,h1⟩:=h1;obtain⟨a,vs,rfl,g2,g1⟩:=Qn i1 e1.sub hx;have ev:=Lf g2;subst ev;refine#[a,ns,rfl,g1,h64,λns' pm d hd hk=>?_];exact q (.l (ns'.map D.int)) _ #[_,q1.z] (e1.trans (Ext.own e1.sub hd _)) #[d,ns'.map V.int,rfl,As,KW ns'] (λys a _ h2=>by
     cases h2;exact#[e1.hh.free hd,hk d _ As,e1.sub.free hd]) (h1 ns' pm)
   .exact h1.elim]]
end
end L3
namespace CH
open PySem L2 L3
def qd (q:Rat):D:=.tup [.int q.num,.int (q.den:Int)]
abbrev tp (a b:Int):D:=.tup [.int a,.int b]
abbrev Cs:=List (Rat×Rat)
def cd (c:Rat×Rat):D:=.tup [qd c.1,qd c.2]
def tt (cs:Cs)(k:Nat):Rat:=(cs.getD k (0,0)).1
def vv (cs:Cs)(k:Nat):Rat:=(cs.getD k (0,0)).2
def slp (cs:Cs)(m:Rat)(k:Nat):Rat:=if k+1<↥cs then (vv cs (k+1)-vv cs k)/(tt cs (k+1)-tt cs k) else m
def Up (cs:Cs):Prop:=∀k,k+1<↥cs->tt cs k<tt cs (k+1)
def SzC (n:Nat)(cs:Cs):Prop:=∀k,k<↥cs->Sz n (tt cs k)/\Sz n (vv cs k)
def QB {cs:Cs}{k:Nat}(h:k<↥cs):atI (cs.map cd) (k:Int)=some (.tup [qd (tt cs k),qd (vv cs k)]):=by
 refine atI_nat ?_;rw[qAd,qAb h];unfold tt vv;rw[qAf,qAb h];rfl
def atR {o:Option D}{d:D}{F:D->Prop}(e:o=some d)(h:F d):(match (generalizing:=false) o with|some d=>F d|none=>False):=by subst e;exact h
def BK {cs:Cs}{i:Int}(k:Nat)(hi:i=(k:Int))(h:k<↥cs):atI (cs.map cd) i=some (.tup [qd (tt cs k),qd (vv cs k)]):=by subst hi;exact QB h
def L4 (k:Nat)(a b c d:Int):Prop:=a.natAbs<2^k/\b.natAbs<2^k/\c.natAbs<2^k/\d.natAbs<2^k
def l4 {k m:Nat}{p q:Rat}(hp:Sz m p)(hq:Sz m q)(h:m<=k):L4 k p.num p.den q.num q.den:=#[A6 hp.1 h,A6 (AA hp) h,A6 hq.1 h,A6 (AA hq) h]
def Lb (k:Nat)(a:Int):Prop:=a.natAbs<2^k
def Bo {cs:Cs}{m:Rat}{k:Nat}(h:k+1<↥cs):slp cs m k=(vv cs (k+1)-vv cs k)/(tt cs (k+1)-tt cs k):=qC6 h
def AF {cs:Cs}{m:Rat}{k:Nat}(h:¬k+1<↥cs):slp cs m k=m:=qC5 h
def RF (q:Rat):((q.num:Int):Rat)=q*(((q.den:Nat):Int):Rat):=by rw[Rat.intCast_natCast];exact GB q
def Hq {a b:Rat}(h:a<b):b-a≠0:=⋯
def crv (cs:Cs)(m:Rat):D:=.tup [.tup (cs.map cd),qd m]
structure Crv (cs:Cs)(m:Rat):Prop where
 ne:0<↥cs
 t0:tt cs 0=0
 v0:0<=vv cs 0
 m0:0<=m
 up:Up cs
 vu:∀k,k+1<↥cs->vv cs k<=vv cs (k+1)
 bend:∀k,k+1<↥cs->slp cs m k≠slp cs m (k+1)
structure SzK (n:Nat)(cs:Cs)(m:Rat):Prop where
 len:↥cs<=100000
 cs:SzC n cs
 m:Sz n m
def OQ {q:Rat}(h:0<=q):¬q.num<0:=by have:=Rat.num_nonneg.mpr h;omega
def DZ {cs:Cs}{n:Nat}{x:D}(h:(cs.map cd)[n]? = some x):n<↥cs/\x=.tup [qd (tt cs n),qd (vv cs n)]:=by
 have hl:n<↥cs:=by
  have:=(qAe.mp h).1;rwa [qAa]at this
 have a:=QB hl;rw[show atI (cs.map cd) (n:Int)=(cs.map cd)[n]? from ?_,h]at a
 .exact#[hl,qAn a]
 .rw[h];exact atI_nat h
def kp (cs:Cs)(m:Rat):Nat->Cs
 |0=>[(tt cs 0,vv cs 0)]
 |n+1=>if slp cs m n=slp cs m (n+1) then kp cs m n else kp cs m n++[(tt cs (n+1),vv cs (n+1))]
def Sm {cs:Cs}{m:Rat}{n:Nat}(h:¬slp cs m n=slp cs m (n+1)):kp cs m (n+1)=kp cs m n++[(tt cs (n+1),vv cs (n+1))]:=qC5 h
def IW {cs:Cs}{m:Rat}{n:Nat}(h:slp cs m n=slp cs m (n+1)):kp cs m (n+1)=kp cs m n:=qC6 h
theorem Kt (cs:Cs)(m:Rat):∀n,(kp cs m n).length<=n+1
 |0=>qAg _
 |n+1=>by
  have:=Kt cs m n;by_cases h:slp cs m n=slp cs m (n+1)
  .rw[IW h];omega
  .rw[Sm h,qAr];simp;omega
def MM {L M:Cs}{k:Nat}(h:k<↥L):tt (L++M) k=tt L k:=by
 unfold tt;rw[qAf,qAf,qAu h]
def NY {L M:Cs}{k:Nat}(h:k<↥L):vv (L++M) k=vv L k:=by
 unfold vv;rw[qAf,qAf,qAu h]
def OV {L:Cs}{c:Rat×Rat}:tt (L++[c]) ↥L=c.1:=by
 unfold tt;rw[qAf,qAw (qAg _)];simp
def O3 {L:Cs}{c:Rat×Rat}:vv (L++[c]) ↥L=c.2:=by
 unfold vv;rw[qAf,qAw (qAg _)];simp
def Bf {L:Cs}{c:Rat×Rat}:(L++[c]).length=↥L+1:=by simp
def Fy {L:Cs}{c:Rat×Rat}{M M':Rat}{i:Nat}(hi:i<↥L)(h:(c.2-vv L (↥L-1))/(c.1-tt L (↥L-1))=M):slp (L++[c]) M' i=slp L M i:=by
 rw[Bo (by rw[Bf];omega)];by_cases e:i+1<↥L
 .rw[Bo e,MM e,MM hi,NY e,NY hi]
 .rw[AF e,MM hi,NY hi];have e':i+1=↥L:=();rw[e',OV,O3,show i=↥L-1 from ()];exact h
def IG {L:Cs}{c:Rat×Rat}{M':Rat}:slp (L++[c]) M' ↥L=M':=AF (by rw[Bf];omega)
structure Ord (cs:Cs):Prop where
 ne:0<↥cs
 t0:tt cs 0=0
 v0:0<=vv cs 0
 up:Up cs
 vu:∀k,k+1<↥cs->vv cs k<=vv cs (k+1)
def Ord.snoc {L:Cs}{c:Rat×Rat}(h:Ord L)(ht:tt L (↥L-1)<c.1)(hv:vv L (↥L-1)<=c.2):Ord (L++[c]):=by
 have n:=h.ne;refine#[by rw[Bf];omega,by rw[MM n];exact h.t0,by rw[NY n];exact h.v0,λk hk=>?_,λk hk=>?_]
 all_goals
  rw[Bf]at hk;by_cases e:k+1<↥L
 .rw[MM e,MM ()];exact h.up k e
 .have e':k+1=↥L:=();rw[e',OV,MM (),show k=↥L-1 from ()];exact ht
 .rw[NY e,NY ()];exact h.vu k e
 .have e':k+1=↥L:=();rw[e',O3,NY (),show k=↥L-1 from ()];exact hv
def Ord.one {v:Rat}(h:0<=v):Ord [(0,v)]:=#[Nat.one_pos,rfl,h,λk hk=>by simp at hk,λk hk=>by simp at hk]
structure cU (cs:Cs)(m:Rat)(n:Nat)(L:Cs):Prop where
 ord:Ord L
 bend:∀k,k+1<↥L->slp L (slp cs m n) k≠slp L (slp cs m n) (k+1)
 at_:∃j,j<=n/\tt L (↥L-1)=tt cs j/\vv L (↥L-1)=vv cs j/\vv cs n-vv cs j=slp cs m n*(tt cs n-tt cs j)/\tt cs j<=tt cs n/\vv cs j<=vv cs n
def seg {a b x y z v w s:Rat}(h1:w-v=s*(b-a))(h2:(x-w)/(y-b)=s)(h3:b<y):x-v=s*(y-a):=by
 have h4:y-b≠0:=Hq h3;have h5:x-w=s*(y-b):=⋯;grind
def Ol {x y s:Rat}(h:x=s*y)(hy:y≠0):x/y=s:=⋯
theorem KS {cs:Cs}{m:Rat}(o:Ord cs):∀n,n<↥cs->cU cs m n (kp cs m n)
 |0,h=>#[by
  have e:kp cs m 0=[(0,vv cs 0)]:=by show [(tt cs 0,vv cs 0)]=_;rw[o.t0]
  rw[e];exact Ord.one o.v0,λk hk=>by simp[kp]at hk,0,qAg _,rfl,rfl,⋯,qAc,qAc]
 |n+1,h=>by
  obtain⟨ko,kb,j,hj,ht,hv,hs,tn,vn⟩:=KS o n ();have u:=o.up n h;have w:=o.vu n h;have sn:=Bo (m:=m) h;have g:vv cs (n+1)-vv cs j=slp cs m n*(tt cs (n+1)-tt cs j):=seg (z:=0) hs sn.symm u;by_cases e:slp cs m n=slp cs m (n+1)
  .rw[IW e];exact#[ko,e ▸ kb,j,(),ht,hv,e ▸ g,⋯,⋯]
  .rw[Sm e];have lt:tt cs j<tt cs (n+1):=⋯;have sl:(vv cs (n+1)-vv (kp cs m n) ((kp cs m n).length-1))/(tt cs (n+1)-tt (kp cs m n) ((kp cs m n).length-1))=slp cs m n:=by
    rw[ht,hv];exact Ol g (Hq lt)
   have nl:=ko.ne;refine#[ko.snoc (by rw[ht];exact lt) (by rw[hv];grind),λk hk=>?_,n+1,qAg _,?_,?_,⋯,qAc,qAc]
   .rw[Bf]at hk;by_cases e1:k+1<(kp cs m n).length
    .rw[Fy (c:=(tt cs (n+1),vv cs (n+1))) () sl,Fy (c:=(tt cs (n+1),vv cs (n+1))) e1 sl];exact kb k e1
    .have e2:k+1=(kp cs m n).length:=();rw[Fy (c:=(tt cs (n+1),vv cs (n+1))) () sl,AF e1,e2,IG];exact e
   .rw[Bf,qBF,OV]
   .rw[Bf,qBF,O3]
def IH {cs:Cs}{m:Rat}(o:Ord cs)(hm:0<=m):Crv (kp cs m (↥cs-1)) m:=by
 have n:=o.ne;have k:=KS (m:=m) o (↥cs-1) ();have e:slp cs m (↥cs-1)=m:=AF ();exact#[k.ord.ne,k.ord.t0,k.ord.v0,hm,k.ord.up,k.ord.vu,by have b:=k.bend;rw[e]at b;exact b]
def Y9 {lo hi:Int}(c:lo<hi):lo<=(lo+hi)/2/\(lo+hi)/2<hi:=()
def cK {a b c:Int}(h:b<c)(h2:a<=b):(b-a).toNat<(c-a).toNat:=()
def eC {m lo:Int}{L:Nat}(h1:0<=lo)(h2:lo<=m){hi:Int}(h3:m<hi)(h4:hi<=L):m.toNat<L:=()
def Fs {lo st:Int}{n i:Nat}{x:D}(h:(Xg lo st n)[i]? = some x):i<n/\x=.int (lo+i*st):=by
 have hl:i<n:=by
  have:=(qAe.mp h).1;rwa [BZ]at this
 rw[OO hl]at h;exact#[hl,(qAn h).symm]
def fm {a m:Int}(h:0<m):0<=a.fmod m/\a.fmod m<m:=#[qCc a h,qB8 a h]
def VM (f:Nat->Int)(n:Nat):((List.range n).map λi=>some (D.int (f i))).filterMap id=((List.range n).map f).map D.int:=by
 rw[qBD,qBi,<-qCe];rfl
def MQ {a b c:Int}(hc:0<c)(h:a<b):Rat.divInt a c<Rat.divInt b c:=by
 have hc':(0:Rat)<(c:Rat):=qA0.mpr hc;rw[qAB,qAB,Rat.div_lt_iff hc',qBa (λz=>absurd (z ▸ hc') qA5)];exact qBj.mpr h
def P8 {a b c:Int}(hc:0<c)(h:a<=b):Rat.divInt a c<=Rat.divInt b c:=by
 by_cases e:a=b
 .rw[e];exact qAc
 .exact qAm (MQ hc ())
def Jo {a c:Int}(hc:0<c)(h:0<=a):0<=Rat.divInt a c:=(Rat.divInt_nonneg_iff_of_pos_right hc).mpr h
def SzC.one {n:Nat}{v:Rat}(h0:1<=n)(h:Sz n v):SzC n [(0,v)]:=λk hk=>by
 have:k=0:=by simp at hk;omega
 subst this;exact#[Sz.zero.mono h0,h]
def SzC.mono {n m:Nat}{L:Cs}(h:SzC n L)(hk:n<=m):SzC m L:=λk hl=>#[(h k hl).1.mono hk,(h k hl).2.mono hk]
def GH {ms:List Int}{i:Int}(k:Nat)(hi:i=(k:Int))(h:k<↥ms):atI (ms.map D.int) i=some (.int (cell ms k)):=by
 subst hi;exact Tn () ()
def J9 {a b:Int}{k:Nat}(hb:0<b)(h1:a.natAbs<2^k)(h2:b.natAbs<2^k):Sz k (Rat.divInt a b):=D5 () h1 h2
def Rx {cs:Cs}(j:Nat)(h0:0<j)(h:j<=↥cs):atI (cs.map cd) (-(j:Int))=some (.tup [qd (tt cs (↥cs-j)),qd (vv cs (↥cs-j))]):=by
 have e:=QB (cs:=cs) (k:=↥cs-j) ();rw[<-e];unfold atI ixN;rw[qAa,qC5 (),qC6 (),qC6 (),qC6 ()];rw[show(-(j:Int)+(↥cs:Int)).toNat=(((↥cs-j:Nat):Int)).toNat from ()]
def plc (cs:Cs)(t:Rat):Nat->Nat
 |0=>0
 |n+1=>if t<tt cs n then plc cs t n else n
theorem JP {cs:Cs}{t:Rat}(h:0<↥cs):∀n,n<=↥cs->plc cs t n<↥cs
 |0,_=>h
 |n+1,hn=>by
  unfold plc;split
  .exact JP h n ()
  .omega
def val (cs:Cs)(m t:Rat):Rat:=vv cs (plc cs t ↥cs)+slp cs m (plc cs t ↥cs)*(t-tt cs (plc cs t ↥cs))
structure Wq (k:Nat)(a b:Int)(q:Rat):Prop where
 pos:0<b
 eq:(a:Rat)=q*b
 la:Lb k a
 lb:Lb k b
def Wq.mono {k n:Nat}{a b:Int}{q:Rat}(h:Wq k a b q)(hk:k<=n):Wq n a b q:=#[h.pos,h.eq,A6 h.la hk,A6 h.lb hk]
def Wq.of {k:Nat}{q:Rat}(h:Sz k q):Wq k q.num q.den q:=#[by have:=den_pos q;omega,RF q,h.1,AA h]
def Wq.minus {k:Nat}{a b c d:Int}{p q:Rat}(h:Wq k a b p)(g:Wq k c d q):Wq (k+k+1) (a*d-c*b) (b*d) (p-q):=by
 refine#[qBb h.pos g.pos,?_,GJ (Aq h.la g.lb) (Aq g.la h.lb),A6 (Aq h.lb g.lb) ()];rw[qBv,qAp,qAp,qAp,h.eq,g.eq];grind
def Wq.mul {k n:Nat}{a b c d:Int}{p q:Rat}(h:Wq k a b p)(g:Wq n c d q):Wq (k+n) (a*c) (b*d) (p*q):=by
 refine#[qBb h.pos g.pos,?_,Aq h.la g.la,Aq h.lb g.lb];rw[qAp,qAp,h.eq,g.eq];grind
def Wq.inv {k:Nat}{a b:Int}{q:Rat}(h:Wq k a b q)(hq:0<q):0<a/\Wq k b a (1/q):=by
 have hb:(0:Rat)<(b:Rat):=qA0.mpr h.pos;have ha:(0:Rat)<(a:Rat):=by rw[h.eq];exact qBB hq hb
 have ha':0<a:=qA0.mp ha;have q0:q≠0:=λz=>absurd (z ▸ hq) qA5;refine#[ha',ha',?_,h.lb,h.la];rw[h.eq];grind
def Wq.lt_iff {k n:Nat}{a b c d:Int}{p q:Rat}(h:Wq k a b p)(g:Wq n c d q):a*d<c*b ↔ p<q:=by
 have hb:(0:Rat)<(b:Rat):=qA0.mpr h.pos;have hd:(0:Rat)<(d:Rat):=qA0.mpr g.pos;rw[<-qBj,qAp,qAp,h.eq,g.eq];rw[show p*(b:Rat)*(d:Rat)=p*((b:Rat)*d) from ⋯,show q*(d:Rat)*(b:Rat)=q*((b:Rat)*d) from ⋯];have hp:=qBB hb hd;constructor
 .intro e;by_cases z:p<q
  .exact z
  .exact absurd e (qAN.mpr (Rat.mul_le_mul_of_nonneg_right (qAN.mp z) (qAm hp)))
 .intro e;exact Rat.mul_lt_mul_of_pos_right e hp
def Wq.plus {k n:Nat}{a b c d:Int}{p q:Rat}(h:Wq k a b p)(g:Wq n c d q):Wq (k+n+1) (a*d+c*b) (b*d) (p+q):=by
 refine#[qBb h.pos g.pos,?_,Ii (Aq h.la g.lb) (A6 (Aq g.la h.lb) ()),A6 (Aq h.lb g.lb) ()];rw[qBu,qAp,qAp,qAp,h.eq,g.eq];grind
def Wq.cast {k:Nat}{a b:Int}{p q:Rat}(h:Wq k a b p)(e:p=q):Wq k a b q:=e ▸ h
def Wq.l4 {k n:Nat}{a b c d:Int}{p q:Rat}(h:Wq k a b p)(g:Wq k c d q)(hk:k<=n):L4 n a b c d:=#[A6 h.la hk,A6 h.lb hk,A6 g.la hk,A6 g.lb hk]
def Vf {cs:Cs}{t:Rat}{n:Nat}(h:t<tt cs n):plc cs t (n+1)=plc cs t n:=qC6 h
def OA {cs:Cs}{t:Rat}{n:Nat}(h:¬t<tt cs n):plc cs t (n+1)=n:=qC5 h
def Uz {a b:Rat}(h:a<b):0<b-a:=⋯
def sat (cs:Cs)(m t:Rat):Rat:=slp cs m (plc cs t ↥cs)
theorem XW {L M:Cs}{t:Rat}:∀n,n<=↥L->plc (L++M) t n=plc L t n
 |0,_=>rfl
 |n+1,h=>by
  unfold plc;rw[MM (),XW n ()]
def Og {L:Cs}{c:Rat×Rat}{t:Rat}:plc (L++[c]) t (L++[c]).length=if t<c.1 then plc L t ↥L else ↥L:=by
 rw[Bf]
 conv=>lhs;unfold plc
 rw[OV,XW _ (qAg _)]
def OM {L:Cs}{c:Rat×Rat}{M M' t:Rat}(n:0<↥L)(h:(c.2-vv L (↥L-1))/(c.1-tt L (↥L-1))=M):sat (L++[c]) M' t=if t<c.1 then sat L M t else M':=by
 unfold sat;rw[Og];split
 .exact Fy (JP n _ (qAg _)) h
 .exact IG
def LG {L:Cs}{c:Rat×Rat}{M M' t:Rat}(n:0<↥L)(h:(c.2-vv L (↥L-1))/(c.1-tt L (↥L-1))=M):val (L++[c]) M' t=if t<c.1 then val L M t else c.2+M'*(t-c.1):=by
 unfold val;rw[Og];split
 .have p:=JP (t:=t) n _ (qAg _);rw[Fy p h,NY p,MM p]
 .rw[IG,O3,OV]
def NV {L:Cs}{t:Rat}(n:0<↥L)(h:tt L (↥L-1)<=t):plc L t ↥L=↥L-1:=by
 have e:↥L=↥L-1+1:=();rw[e,OA (qAN.mpr h),qBF]
def Nh {L:Cs}{M t:Rat}(n:0<↥L)(h:tt L (↥L-1)<=t):sat L M t=M:=by
 unfold sat;rw[NV n h,AF ()]
def CA {L:Cs}{M t:Rat}(n:0<↥L)(h:tt L (↥L-1)<=t):val L M t=vv L (↥L-1)+M*(t-tt L (↥L-1)):=by
 unfold val;rw[NV n h,AF ()]
def pre (cs:Cs)(n:Nat):Cs:=cs.take (n+1)
def QM {cs:Cs}{n:Nat}(h:n<↥cs):(pre cs n).length=n+1:=by unfold pre;rw[qAP];omega
def X9 {cs:Cs}{n:Nat}(h:n+1<↥cs):pre cs (n+1)=pre cs n++[(tt cs (n+1),vv cs (n+1))]:=by
 unfold pre tt vv;rw[List.take_succ,qAb h,qAf,qAb h];rfl
def YI {cs:Cs}{n k:Nat}(h:n<↥cs)(hk:k<=n):tt (pre cs n) k=tt cs k/\vv (pre cs n) k=vv cs k:=by
 have e:cs=pre cs n++cs.drop (n+1):=(qCS _ _).symm;have l:=QM h;constructor
 .conv=>rhs;rw[e]
  rw[MM ()]
 .conv=>rhs;rw[e]
  rw[NY ()]
def Vo {cs:Cs}(n:0<↥cs):pre cs (↥cs-1)=cs:=by
 unfold pre;exact qBk ()
theorem Ru {cs:Cs}{m:Rat}(o:Ord cs)(t:Rat):∀n,n<↥cs->val (kp cs m n) (slp cs m n) t=val (pre cs n) (slp cs m n) t/\sat (kp cs m n) (slp cs m n) t=sat (pre cs n) (slp cs m n) t
 |0,h=>by
  have e:pre cs 0=kp cs m 0:=by
   cases cs with
   |nil=>exact absurd h (by simp)
   |cons c r=>rfl
  rw[e];exact#[rfl,rfl]
 |n+1,h=>by
  obtain⟨iv,is⟩:=Ru (m:=m) o t n ();have k:=KS (m:=m) o n ();obtain⟨j,hj,ht,hv,hs,tn,vn⟩:=k.at_;have u:=o.up n h;have sn:=Bo (m:=m) h;have g:vv cs (n+1)-vv cs j=slp cs m n*(tt cs (n+1)-tt cs j):=seg (z:=0) hs sn.symm u;have lp:=QM (cs:=cs) (n:=n) ();have pl:=YI (cs:=cs) (n:=n) (k:=n) () (qAg _);have sp:(vv cs (n+1)-vv (pre cs n) ((pre cs n).length-1))/(tt cs (n+1)-tt (pre cs n) ((pre cs n).length-1))=slp cs m n:=by
   rw[lp,qBF,pl.1,pl.2,sn]
  rw[X9 h,LG (c:=(tt cs (n+1),vv cs (n+1))) () sp,OM (c:=(tt cs (n+1),vv cs (n+1))) () sp];have lt:tt cs j<tt cs (n+1):=⋯;by_cases e:slp cs m n=slp cs m (n+1)
  .rw[IW e,<-e,iv,is];by_cases c:t<tt cs (n+1)
   .rw[qC6 c,qC6 c];exact#[rfl,rfl]
   .rw[qC5 c,qC5 c];have c':=qAN.mp c;have en:tt (pre cs n) ((pre cs n).length-1)<=t:=by rw[lp,qBF,pl.1];grind
    rw[CA () en,Nh () en,lp,qBF,pl.1,pl.2];refine#[?_,rfl];have q:vv cs (n+1)-vv cs n=slp cs m n*(tt cs (n+1)-tt cs n):=by
     have:=Hq u;rw[sn];grind
    show _=vv cs (n+1)+slp cs m n*(t-tt cs (n+1));grind
  .have sl:(vv cs (n+1)-vv (kp cs m n) ((kp cs m n).length-1))/(tt cs (n+1)-tt (kp cs m n) ((kp cs m n).length-1))=slp cs m n:=by
    rw[ht,hv];exact Ol g (Hq lt)
   rw[Sm e,LG (c:=(tt cs (n+1),vv cs (n+1))) k.ord.ne sl,OM (c:=(tt cs (n+1),vv cs (n+1))) k.ord.ne sl,iv,is];exact#[rfl,rfl]
def HX {cs:Cs}{m:Rat}(o:Ord cs)(t:Rat):val (kp cs m (↥cs-1)) m t=val cs m t/\sat (kp cs m (↥cs-1)) m t=sat cs m t:=by
 have n:=o.ne;have k:=Ru (m:=m) o t (↥cs-1) ();rw[AF (show ¬↥cs-1+1<↥cs from ()),Vo n]at k;exact k
theorem Bc {cs:Cs}(u:Up cs){i:Nat}:∀{j:Nat},i<=j->j<↥cs->tt cs i<=tt cs j
 |0,h,_=>by have:i=0:=()
            subst this;exact qAc
 |j+1,h,hl=>by
  by_cases e:i=j+1
  .subst e;exact qAc
  .have:=Bc u (i:=i) (j:=j) () ();have:=u j hl;grind
theorem Nt {cs:Cs}(u:∀k,k+1<↥cs->vv cs k<=vv cs (k+1)){i:Nat}:∀{j:Nat},i<=j->j<↥cs->vv cs i<=vv cs j
 |0,h,_=>by have:i=0:=()
            subst this;exact qAc
 |j+1,h,hl=>by
  by_cases e:i=j+1
  .subst e;exact qAc
  .have:=Nt u (i:=i) (j:=j) () ();have:=u j hl;grind
theorem JS {cs:Cs}(u:Up cs){t:Rat}{k:Nat}(h1:tt cs k<=t)(h2:k+1<↥cs->t<tt cs (k+1)):∀n,k<n->n<=↥cs->plc cs t n=k
 |0,h,_=>()
 |n+1,h,hn=>by
  by_cases e:n=k
  .subst e;exact OA (qAN.mpr h1)
  .rw[Vf,JS u h1 h2 n () ()];have a:=h2 ();have b:=Bc u (i:=k+1) (j:=n) () ();grind
structure On (cs:Cs)(k:Nat)(t:Rat):Prop where
 lt:k<↥cs
 lo:tt cs k<=t
 hi:k+1<↥cs->t<=tt cs (k+1)
def P9 {cs:Cs}{m:Rat}(u:Up cs){k:Nat}(h:k+1<↥cs):vv cs (k+1)=vv cs k+slp cs m k*(tt cs (k+1)-tt cs k):=by
 have:=Hq (u k h);rw[Bo h];grind
def B7 {cs:Cs}{m t:Rat}(u:Up cs){k:Nat}(o:On cs k t):val cs m t=vv cs k+slp cs m k*(t-tt cs k):=by
 have hl:=o.lt;by_cases e:k+1<↥cs/\t=tt cs (k+1)
 .obtain⟨e1,e2⟩:=e;have p:plc cs t ↥cs=k+1:=JS u (by rw[e2];exact qAc) (λh=>by rw[e2];exact u _ h) _ e1 (qAg _);unfold val;rw[p,P9 (m:=m) u e1,e2];grind
 .have p:plc cs t ↥cs=k:=JS u o.lo (λh=>by
   have a:=o.hi h;have b:t≠tt cs (k+1):=λz=>e #[h,z];grind) _ hl (qAg _)
  unfold val;rw[p]
def Wq.sz {k:Nat}{a b:Int}{q:Rat}(h:Wq k a b q):Sz k q:=by
 have hb:(b:Rat)≠0:=λz=>absurd (qBy.mp z) (qBl h.pos);have e:q=Rat.divInt a b:=by
  rw[qAB,h.eq];grind
 rw[e];exact J9 h.pos h.la h.lb
def Wq.div {k n:Nat}{a b c d:Int}{p q:Rat}(h:Wq k a b p)(g:Wq n c d q)(hq:0<q):Wq (k+n) (a*d) (b*c) (p/q):=by
 refine(h.mul (g.inv hq).2).cast ?_;grind
def Vc (p q:Rat):eqN 1 (qd p) (qd q)=decide (p=q):=by
 by_cases h:p=q
 .subst h;rw[qC7 rfl];exact IU 1 _ rfl
 .rw[qC8 h];cases e:eqN 1 (qd p) (qd q) with
  |false=>rfl
  |true=>
   exfalso
   apply h;have e':((p.num==q.num&&((p.den:Int)==(q.den:Int)&&true))&&true)=true:=e;rw[qCB,qCB,qAZ,beq_iff_eq,beq_iff_eq]at e';exact Rat.ext e'.1 (Int.ofNat.inj e'.2)
def neT (p q:Rat){A B:Prop}(h1:¬p=q->A)(h2:p=q->B):if (!eqN 1 (qd p) (qd q))=true then A else B:=by
 rw[Vc];exact Lk h1 h2
def eqT (p q:Rat){A B:Prop}(h1:p=q->A)(h2:¬p=q->B):if eqN 1 (qd p) (qd q)=true then A else B:=by
 rw[Vc];exact BH h1 h2
def Bgn (cs:Cs):Prop:=0<↥cs/\tt cs 0=0/\0<=vv cs 0
def Ris (cs:Cs)(n:Nat):Prop:=∀k,k<n->k+1<↥cs->tt cs k<tt cs (k+1)/\vv cs k<=vv cs (k+1)
def HY (cs:Cs)(m:Rat):List Rat:=(List.range ↥cs).map (slp cs m)
def Dh (cs:Cs)(m:Rat):(HY cs m).length=↥cs:=by unfold HY;rw[qAa,qAx]
def atI_nat {α:Type}{xs:List α}{k:Nat}(h:k<↥xs):atI xs (k:Int)=xs[k]? := by
 unfold atI ixN;rw[qC6 (),qC6 ()];simp
def NQ {cs:Cs}{m:Rat}{i:Int}(k:Nat)(hi:i=(k:Int))(h:k<↥cs):atI ((HY cs m).map qd) i=some (qd (slp cs m k)):=by
 subst hi;rw[atI_nat (by rw[qAa,Dh];exact h)];unfold HY;rw[qAd,qAd,qAJ h];rfl
def OS (cs:Cs)(m:Rat)(h:0<↥cs):(((List.range (↥cs-1)).map λi=>some (qd (slp cs m i))).filterMap id)++[qd m]=(HY cs m).map qd:=by
 have e:((List.range (↥cs-1)).map λi=>some (qd (slp cs m i))).filterMap id=(List.range (↥cs-1)).map λi=>qd (slp cs m i):=by
  rw[qBD];exact congrFun (qCe (f:=λi=>qd (slp cs m i))) _
 rw[e];unfold HY;rw[qBi];have e2:↥cs=↥cs-1+1:=()
 conv=>rhs;rw[e2,List.range_succ,qAM]
 show _++[qd m]=_++[qd (slp cs m (↥cs-1))];rw[AF (cs:=cs) (m:=m) (k:=↥cs-1) ()];rfl
def tOf:D->Rat
 |.tup (.tup [.int a,.int b]::_)=>Rat.divInt a b
 |_=>0
def UP (a b:Rat):tOf (.tup [qd a,qd b])=a:=qCy a
theorem Ez {cs:Cs}{t:Rat}(h0:tt cs 0<=t):∀n,0<n->tt cs (plc cs t n)<=t/\plc cs t n<n/\∀i,plc cs t n<i->i<n->t<tt cs i
 |1,_=>by
  have e:plc cs t 1=0:=by rw[OA (n:=0) (qAN.mpr h0)]
  rw[e];exact#[h0,Nat.one_pos,λi h1 h2=>()]
 |n+2,_=>by
  obtain⟨h1,h2,h3⟩:=Ez h0 (n+1) (Nat.succ_pos n);by_cases c:t<tt cs (n+1)
  .rw[Vf c];refine#[h1,(),λi i1 i2=>?_];by_cases e:i=n+1
   .rw[e];exact c
   .exact h3 i i1 ()
  .rw[OA c];exact#[qAN.mp c,(),λi i1 i2=>()]
def Vz {cs:Cs}{t:Rat}(up:Up cs)(h0:tt cs 0<=t){i:Nat}(hi:i<↥cs):(!decide (t<tt cs i))=decide (i<plc cs t ↥cs+1):=by
 obtain⟨h1,h2,h3⟩:=Ez h0 ↥cs ();by_cases c:i<plc cs t ↥cs+1
 .rw[qC7 c,qC8 (qAN.mpr (qAv (Bc up (i:=i) (j:=plc cs t ↥cs) () h2) h1))];rfl
 .rw[qC8 c,qC7 (h3 i () hi)];rfl
def Sx {a b:Rat}(ha:0<=a)(hb:0<b):0<=a/b:=by
 by_cases h:0<=a/b
 .exact h
 .have h':0 < -(a/b):=⋯;have:=qBB h' hb;have e:-(a/b)*b=-a:=⋯;rw[e]at this;grind
def TH {a b:Rat}(ha:0<a)(hb:0<b):0<a/b:=by
 have h:=Sx (qAm ha) hb;by_cases e:a/b=0
 .have:a=0:=by
   have e2:a=a/b*b:=⋯;rw[e2,e];grind
  grind
 .exact qCz h (λz=>e z.symm)
structure EO (cs:Cs)(m:Rat):Prop where
 o:Ord cs
 m0:0<=m
def Mz {cs:Cs}{m:Rat}(r:EO cs m)(k:Nat):0<=slp cs m k:=by
 by_cases c:k+1<↥cs
 .rw[Bo c];have h1:=r.o.vu k c;have h2:=r.o.up k c;exact Sx ⋯ ⋯
 .rw[AF c];exact r.m0
def EG {cs:Cs}(o:Ord cs){t:Rat}(ht:0<=t):On cs (plc cs t ↥cs) t:=by
 have n:=o.ne;obtain⟨h1,h2,h3⟩:=Ez (cs:=cs) (t:=t) (by rw[o.t0];exact ht) ↥cs n;exact#[h2,h1,λc=>qAm (h3 _ () c)]
def QN {cs:Cs}{m t:Rat}(r:EO cs m){k:Nat}(hk:k<↥cs)(h:tt cs k<=t):vv cs k<=val cs m t:=by
 have t0:0<=t:=by
  have:=Bc r.o.up (i:=0) (j:=k) () hk;rw[r.o.t0]at this;grind
 have n:=r.o.ne;obtain⟨h1,h2,h3⟩:=Ez (cs:=cs) (t:=t) (by rw[r.o.t0];exact t0) ↥cs n;have kj:k<=plc cs t ↥cs:=by
  by_cases c:k<=plc cs t ↥cs
  .exact c
  .have:=h3 k () hk;grind
 have:=Nt r.o.vu kj h2;have s:=Mz r (plc cs t ↥cs);have p:=qAk s (show 0<=t-tt cs (plc cs t ↥cs) from ⋯);show vv cs k<=vv cs (plc cs t ↥cs)+slp cs m (plc cs t ↥cs)*(t-tt cs (plc cs t ↥cs));grind
def YZ {cs:Cs}{m t:Rat}(r:EO cs m){k:Nat}(hk:k<↥cs)(t0:0<=t)(h:t<=tt cs k):val cs m t<=vv cs k:=by
 have on:=EG r.o t0;generalize hj:plc cs t ↥cs=j at on;by_cases c:j<k
 .have c1:j+1<↥cs:=();have:=Nt r.o.vu (i:=j+1) (j:=k) () hk;have e:=P9 (m:=m) r.o.up c1;have s:=Mz r j;have p:=qAk s (show 0<=tt cs (j+1)-t by have:=on.hi c1;grind);rw[B7 r.o.up on];grind
 .have e1:=Bc r.o.up (i:=k) (j:=j) () on.lt;have e2:=on.lo;have e:t=tt cs k:=⋯;by_cases c2:j=k
  .subst c2;rw[B7 r.o.up on,e];grind
  .have e3:=Bc r.o.up (i:=k+1) (j:=j) () on.lt;have e4:=r.o.up k (by have:=on.lt;omega);grind
def Cu {cs:Cs}{m x y:Rat}(r:EO cs m)(x0:0<=x)(h:x<=y):val cs m x<=val cs m y:=by
 have ox:=EG r.o x0;have oy:=EG r.o (qAv x0 h);by_cases c:plc cs y ↥cs<=plc cs x ↥cs
 .have e1:=Bc r.o.up c ox.lt;have oy2:On cs (plc cs x ↥cs) y\/plc cs y ↥cs<plc cs x ↥cs:=by
   by_cases e:plc cs y ↥cs=plc cs x ↥cs
   .rw[<-e];exact .inl oy
   .exact .inr ()
  rcases oy2 with oy2|oy2
  .rw[B7 r.o.up ox,B7 r.o.up oy2];have s:=Mz r (plc cs x ↥cs);have p:=qAk s (show 0<=y-x from ⋯);grind
  .have h3:=(Ez (cs:=cs) (t:=y) (by rw[r.o.t0];exact qAv x0 h) ↥cs r.o.ne).2.2 _ oy2 ox.lt;have:=ox.lo;grind
 .have c':plc cs x ↥cs+1<↥cs:=by have:=oy.lt;omega
  have h1:=YZ (m:=m) r c' x0 (ox.hi c');have h2:=QN (m:=m) (t:=y) r c' (by
   have e3:=Bc r.o.up (i:=plc cs x ↥cs+1) (j:=plc cs y ↥cs) () oy.lt;have:=oy.lo;grind)
  exact qAv h1 h2
def oD:Option Rat->D
 |none=>.non
 |some q=>qd q
def B1 {cs:Cs}{m:Rat}(o:Ord cs){k:Nat}(hk:k<↥cs):val cs m (tt cs k)=vv cs k:=by
 rw[B7 (k:=k) o.up #[hk,qAc,λc=>qAm (o.up k c)]];grind
def Cy {cs:Cs}{m:Rat}(o:Ord cs):val cs m 0=vv cs 0:=by
 have:=B1 (m:=m) o o.ne;rw[o.t0]at this;exact this
def T (ts:List Rat)(i:Nat):Rat:=ts.getD i 0
structure Tms (cs ds:Cs)(ts:List Rat):Prop where
 ne:0<↥ts
 t0:T ts 0=0
 up:∀i,i+1<↥ts->T ts i<T ts (i+1)
 a:∀k,k<↥cs->∃i,i<↥ts/\T ts i=tt cs k
 b:∀k,k<↥ds->∃i,i<↥ts/\T ts i=tt ds k
 of:∀i,i<↥ts->(∃k,k<↥cs/\T ts i=tt cs k)\/∃k,k<↥ds/\T ts i=tt ds k
theorem KA {ts:List Rat}(u:∀i,i+1<↥ts->T ts i<T ts (i+1)){i:Nat}:∀{j:Nat},i<=j->j<↥ts->T ts i<=T ts j
 |0,h,_=>by have:i=0:=()
            subst this;exact qAc
 |j+1,h,hj=>by
  by_cases e:i=j+1
  .subst e;exact qAc
  .have h1:=KA u (i:=i) (j:=j) () ();have h2:=u j hj;grind
def Le {cs ds:Cs}{ts:List Rat}(t:Tms cs ds ts){i:Nat}(h:i<↥ts):0<=T ts i:=by
 have:=KA t.up (i:=0) (j:=i) () h;rw[t.t0]at this;exact this
def Tms.swap {cs ds:Cs}{ts:List Rat}(t:Tms cs ds ts):Tms ds cs ts:=#[t.ne,t.t0,t.up,t.b,t.a,λi h=>(t.of i h).symm]
def OJ {cs ds:Cs}{ts:List Rat}(o:Ord cs)(t:Tms cs ds ts){i:Nat}(hi:i<↥ts){x:Rat}(h1:T ts i<=x)(h2:i+1<↥ts->x<=T ts (i+1)):On cs (plc cs (T ts i) ↥cs) x:=by
 have on:=EG o (Le t hi);obtain⟨_,p2,p3⟩:=Ez (cs:=cs) (t:=T ts i) (by rw[o.t0];exact Le t hi) ↥cs o.ne;refine#[on.lt,by have:=on.lo;grind,λc=>?_];have lt:=p3 _ (qCd _) c;obtain⟨j,hj,ej⟩:=t.a _ c;have ij:i<j:=by
  by_cases z:i<j
  .exact z
  .have:=KA t.up (i:=j) (j:=i) () hi;rw[ej]at this;grind
 have:=h2 ();have h3:=KA t.up (i:=i+1) (j:=j) () hj;rw[ej]at h3;grind
def IC {cs ds:Cs}{ts:List Rat}{m:Rat}(o:Ord cs)(t:Tms cs ds ts){i:Nat}(hi:i<↥ts){x:Rat}(h1:T ts i<=x)(h2:i+1<↥ts->x<=T ts (i+1)) :
 val cs m x=val cs m (T ts i)+slp cs m (plc cs (T ts i) ↥cs)*(x-T ts i):=by
 rw[B7 o.up (OJ o t hi h1 h2),B7 o.up (OJ o t hi qAc (λc=>qAm (t.up i c)))];grind
def IS {cs ds:Cs}{ts:List Rat}{m:Rat}(o:Ord cs)(t:Tms cs ds ts):slp cs m (plc cs (T ts (↥ts-1)) ↥cs)=m:=by
 have n:=o.ne;obtain⟨j,hj,ej⟩:=t.a (↥cs-1) ();have:=KA t.up (i:=j) (j:=↥ts-1) () (by have:=t.ne;omega);rw[ej]at this;rw[NV n this];exact AF ()
def OG {ts:List Rat}(ne:0<↥ts)(t0:T ts 0=0){x:Rat}(x0:0<=x):∃i,i<↥ts/\T ts i<=x/\(i+1<↥ts->x<=T ts (i+1)):=by
 have all:∀n,n<↥ts->T ts n<=x\/∃i,i<↥ts/\T ts i<=x/\(i+1<↥ts->x<=T ts (i+1)):=by
  intro n
  induction n with
  |zero=>intro _;exact .inl (by rw[t0];exact x0)
  |succ n ih=>
   intro h;rcases ih () with h1|h1
   .by_cases c:T ts (n+1)<=x
    .exact .inl c
    .exact .inr #[n,(),h1,λ_=>⋯]
   .exact .inr h1
 rcases all (↥ts-1) () with h|h
 .exact#[↥ts-1,(),h,λc=>()]
 .exact h
def gap (cs:Cs)(m:Rat)(ds:Cs)(k:Rat)(x:Rat):Rat:=val cs m x-val ds k x
def Va {cs ds:Cs}{ts:List Rat}{m k:Rat}(o:Ord cs)(p:Ord ds)(t:Tms cs ds ts){i:Nat}(hi:i<↥ts):∃s:Rat,(¬i+1<↥ts->s=m-k)/\∀x,T ts i<=x->(i+1<↥ts->x<=T ts (i+1))->gap cs m ds k x=gap cs m ds k (T ts i)+s*(x-T ts i):=by
 refine#[slp cs m (plc cs (T ts i) ↥cs)-slp ds k (plc ds (T ts i) ↥ds),λc=>?_,λx h1 h2=>?_]
 .have e:i=↥ts-1:=();rw[e,IS o t,IS p t.swap]
 .unfold gap;rw[IC (m:=m) o t hi h1 h2,IC (m:=k) p t.swap hi h1 h2];grind
def Abv (cs:Cs)(m:Rat)(ds:Cs)(k:Rat):Option Rat->Prop
 |none=>∀x,0<=x->val cs m x<=val ds k x
 |some t=>0<=t/\val ds k t<val cs m t
def Tw {cs ds:Cs}{ts:List Rat}{m k:Rat}(o:Ord cs)(p:Ord ds)(t:Tms cs ds ts)(h:∀i,i<↥ts->gap cs m ds k (T ts i)<=0)(hl:m-k<=0):Abv cs m ds k none:=λx x0=>by
 obtain⟨i,hi,h1,h2⟩:=OG t.ne t.t0 x0;obtain⟨s,s1,s2⟩:=Va (m:=m) (k:=k) o p t hi;have g:=s2 x h1 h2;have gi:=h i hi;suffices gap cs m ds k x<=0 by unfold gap at this;grind
 by_cases sn:s<=0
 .have:=qAk (show 0<=-s from ⋯) (show 0<=x-T ts i from ⋯);grind
 .by_cases c:i+1<↥ts
  .have g2:=s2 _ (qAm (t.up i c)) (λ_=>qAc);have gj:=h (i+1) c;have:=qAk (show 0<=s from ⋯) (show 0<=T ts (i+1)-x by have:=h2 c;grind);grind
  .have:=s1 c;grind
def Vq {cs ds:Cs}{ts:List Rat}{m k:Rat}(o:Ord cs)(p:Ord ds)(t:Tms cs ds ts)(h:gap cs m ds k (T ts (↥ts-1))<=0)(hl:0<m-k):Abv cs m ds k (some (T ts (↥ts-1)+(0-gap cs m ds k (T ts (↥ts-1)))/(m-k)+1)):=by
 have n:=t.ne;obtain⟨s,s1,s2⟩:=Va (m:=m) (k:=k) o p t (i:=↥ts-1) ();have es:=s1 ();subst es;have d:=Sx (show 0<=0-gap cs m ds k (T ts (↥ts-1)) from ⋯) hl;have g:=s2 (T ts (↥ts-1)+(0-gap cs m ds k (T ts (↥ts-1)))/(m-k)+1) ⋯ (λc=>());have t0:=Le t (i:=↥ts-1) ();refine#[⋯,?_];have e:(m-k)*(T ts (↥ts-1)+(0-gap cs m ds k (T ts (↥ts-1)))/(m-k)+1-T ts (↥ts-1))=(0-gap cs m ds k (T ts (↥ts-1)))+(m-k):=by
  generalize gap cs m ds k (T ts (↥ts-1))=G;have hne:m-k≠0:=⋯;generalize m-k=S at hne;grind
 rw[e]at g;have:0<gap cs m ds k (T ts (↥ts-1)+(0-gap cs m ds k (T ts (↥ts-1)))/(m-k)+1):=⋯;unfold gap at this ⊢;grind
structure Mrg (cs ds:Cs)(i p:Nat)(ts:List Rat):Prop where
 inc:ts.Pairwise (· < ·)
 of:∀x∈ts,(∃a,a<i/\x=tt cs a)\/∃b,b<p/\x=tt ds b
 a:∀k,k<i->tt cs k∈ts
 b:∀k,k<p->tt ds k∈ts
 lt:∀x∈ts,∀k,p<=k->k<↥ds->x<tt ds k
 len:↥ts<=i+p
def JA {cs:Cs}(u:Up cs){i j:Nat}(h:i<j)(hj:j<↥cs):tt cs i<tt cs j:=by
 have h1:=u i ();have h2:=Bc u (i:=i+1) (j:=j) () hj;grind
def Mrg.nil (cs ds:Cs):Mrg cs ds 0 0 []:=#[List.Pairwise.nil,(λx h=>by cases h),(λk h=>()),(λk h=>()),(λx h=>by cases h),qA9 _]
def Mrg.other {cs ds:Cs}{i p:Nat}{ts:List Rat}(g:Mrg cs ds i p ts)(up:Up ds)(hp:p<↥ds)(hi:∀x∈ts,x<tt cs i)(h:tt ds p<tt cs i):Mrg cs ds i (p+1) (ts++[tt ds p])/\∀x∈ts++[tt ds p],x<tt cs i:=by
 refine#[#[?_,λx hx=>?_,λk hk=>qAR _ (g.a k hk),λk hk=>?_,λx hx k k1 k2=>?_,by rw[qAr];have:=g.len;simp;omega],λx hx=>?_]
 .rw[qCm];exact#[g.inc,qCK _ _,λx hx y hy=>by rw[qAG.mp hy];exact g.lt x hx p (qAg _) hp]
 .rcases qAo.mp hx with hx|hx
  .rcases g.of x hx with z|⟨b,hb,e⟩
   .exact .inl z
   .exact .inr #[b,(),e]
  .exact .inr #[p,(),qAG.mp hx]
 .by_cases e:k=p
  .subst e;exact qAF _ (qAG.mpr rfl)
  .exact qAR _ (g.b k ())
 .rcases qAo.mp hx with hx|hx
  .exact g.lt x hx k () k2
  .rw[qAG.mp hx];exact JA up () k2
 .rcases qAo.mp hx with hx|hx
  .exact hi x hx
  .rw[qAG.mp hx];exact h
def Mrg.one {cs ds:Cs}{i p q:Nat}{ts:List Rat}(g:Mrg cs ds i p ts)(hpq:q=p\/(q=p+1/\p<↥ds/\tt ds p=tt cs i))(hi:∀x∈ts,x<tt cs i)(hb:∀k,q<=k->k<↥ds->tt cs i<tt ds k):Mrg cs ds (i+1) q (ts++[tt cs i]):=by
 refine#[?_,λx hx=>?_,λk hk=>?_,λk hk=>?_,λx hx k k1 k2=>?_,?_]
 .rw[qCm];exact#[g.inc,qCK _ _,λx hx y hy=>by rw[qAG.mp hy];exact hi x hx]
 .rcases qAo.mp hx with hx|hx
  .rcases g.of x hx with⟨a,ha,e⟩|⟨b,hb,e⟩
   .exact .inl #[a,(),e]
   .exact .inr #[b,(),e]
  .exact .inl #[i,(),qAG.mp hx]
 .by_cases e:k=i
  .subst e;exact qAF _ (qAG.mpr rfl)
  .exact qAR _ (g.a k ())
 .by_cases e:k<p
  .exact qAR _ (g.b k e)
  .rcases hpq with z|⟨z,_,e2⟩
   .omega
   .have:k=p:=();subst this;rw[e2];exact qAF _ (qAG.mpr rfl)
 .rcases qAo.mp hx with hx|hx
  .exact g.lt x hx k () k2
  .rw[qAG.mp hx];exact hb k k1 k2
 .rw[qAr];have:=g.len;simp;omega
def NS {ts:List Rat}{i:Nat}(h:i<↥ts):T ts i=ts[i]:=by
 unfold T;rw[qAf,qAb h];rfl
def Uh {ts:List Rat}{x:Rat}(h:x∈ts):∃i,i<↥ts/\T ts i=x:=by
 obtain⟨i,hi,e⟩:=qA8.mp h;exact#[i,hi,by rw[NS hi];exact e]
def rst (ds:Cs)(p:Nat):List Rat:=(ds.drop p).map (·.1)
def Hh {ds:Cs}{p j:Nat}(h:p+j<↥ds):(rst ds p)[j]? = some (tt ds (p+j)):=by
 unfold rst;rw[qAd,qBE,qAb h];unfold tt;rw[qAf,qAb h];rfl
def Oq {ds:Cs}{p:Nat}{x:Rat}(h:x∈rst ds p):∃k,p<=k/\k<↥ds/\x=tt ds k:=by
 obtain⟨j,hj,e⟩:=qA8.mp h;have hj':p+j<↥ds:=by unfold rst at hj;rw[qAa,qAT]at hj;omega
 have:=Hh hj';rw[qAb hj,e]at this;exact#[p+j,(),hj',qAn this]
def SX {ds:Cs}{p k:Nat}(h:p<=k)(hk:k<↥ds):tt ds k∈rst ds p:=by
 have:=Hh (ds:=ds) (p:=p) (j:=k-p) ();rw[show p+(k-p)=k from ()]at this;exact qAE this
def Xq {cs ds:Cs}{p:Nat}{ts:List Rat}(o:Ord cs)(q:Ord ds)(g:Mrg cs ds ↥cs p ts)(hp:p<=↥ds):Tms cs ds (ts++rst ds p):=by
 have inc:(ts++rst ds p).Pairwise (· < ·):=by
  rw[qCm];refine#[g.inc,?_,λx hx y hy=>?_]
  .rw[qB5];intro i j hi hj hij;have lr:(rst ds p).length=↥ds-p:=by unfold rst;rw[qAa,qAT]
   have e1:=Hh (ds:=ds) (p:=p) (j:=i) ();have e2:=Hh (ds:=ds) (p:=p) (j:=j) ();rw[qAb hi]at e1;rw[qAb hj]at e2;rw[qAn e1,qAn e2];exact JA q.up () ()
  .obtain⟨k,k1,k2,e⟩:=Oq hy;rw[e];exact g.lt x hx k k1 k2
 have z:tt cs 0∈ts++rst ds p:=qAR _ (g.a 0 o.ne);have ne:0<(ts++rst ds p).length:=qCO z;have of:∀x∈ts++rst ds p,(∃k,k<↥cs/\x=tt cs k)\/∃k,k<↥ds/\x=tt ds k:=λx hx=>by
  rcases qAo.mp hx with hx|hx
  .rcases g.of x hx with h|⟨b,hb,e⟩
   .exact .inl h
   .exact .inr #[b,(),e]
  .obtain⟨k,_,k2,e⟩:=Oq hx;exact .inr #[k,k2,e]
 have up:∀i,i+1<(ts++rst ds p).length->T (ts++rst ds p) i<T (ts++rst ds p) (i+1):=λi hi=>by
  rw[NS (),NS hi];exact qB5.mp inc i (i+1) () hi ()
 refine#[ne,?_,up,λk hk=>Uh (qAR _ (g.a k hk)),λk hk=>?_,λi hi=>?_]
 .obtain⟨i,hi,e⟩:=Uh z;rw[o.t0]at e;have h1:=KA up (i:=0) (j:=i) () hi;rw[e]at h1;have nn:0<=T (ts++rst ds p) 0:=by
   rw[NS ne];rcases of _ (qBp ne) with⟨k,hk,ek⟩|⟨k,hk,ek⟩
   .rw[ek];have:=Bc o.up (i:=0) (j:=k) () hk;rw[o.t0]at this;exact this
   .rw[ek];have:=Bc q.up (i:=0) (j:=k) () hk;rw[q.t0]at this;exact this
  grind
 .by_cases c:k<p
  .exact Uh (qAR _ (g.b k c))
  .exact Uh (qAF _ (SX () hk))
 .rw[NS hi];exact of _ (qBp hi)
def KY {ds:Cs}{p:Int}(k:Nat)(hp:p=(k:Int))(h:k<↥ds):atI ((rst ds 0).map qd) p=some (qd (tt ds k)):=by
 subst hp;have lr:(rst ds 0).length=↥ds:=by unfold rst;rw[qAa,qAT];omega
 rw[atI_nat (by rw[qAa,lr];exact h),qAd];have:=Hh (ds:=ds) (p:=0) (j:=k) ();rw[this,Nat.zero_add];rfl
def DL (ds:Cs)(p:Nat):(rst ds p).length=↥ds-p:=by unfold rst;rw[qAa,qAT]
def Uu {ds:Cs}{p:Nat}(h:p<=↥ds):Ij ((rst ds 0).map qd) (some (p:Int)) none=(rst ds p).map qd:=by
 unfold Ij;have lr:((rst ds 0).map qd).length=↥ds:=by rw[qAa,DL];omega
 rw[lr,HT.sIx_nat,HT.sIx_none,qB6 h];rw[qBk (by rw[qAT,lr];omega),<-qCC]
 congr 1
 unfold rst;rw[<-qCC,List.drop_drop,Nat.zero_add]
def rw3 (cs:Cs)(m:Rat)(ds:Cs)(k:Rat)(t:Rat):D:=.tup [qd t,qd (val cs m t),qd (val ds k t)]
def gcs (cs:Cs)(m:Rat)(ds:Cs)(k:Rat)(ts:List Rat):Cs:=ts.map λt=>(t,gap cs m ds k t)
def CN {cs:Cs}{m:Rat}{ds:Cs}{k:Rat}{ts:List Rat}:(gcs cs m ds k ts).length=↥ts:=by unfold gcs;rw[qAa]
def BB {cs:Cs}{m:Rat}{ds:Cs}{k:Rat}{ts:List Rat}{i:Nat}(h:i<↥ts):tt (gcs cs m ds k ts) i=T ts i/\vv (gcs cs m ds k ts) i=gap cs m ds k (T ts i):=by
 have e:(gcs cs m ds k ts).getD i (0,0)=(T ts i,gap cs m ds k (T ts i)):=by
  unfold gcs;rw[qAf,qAd,qAb h,NS h];rfl
 unfold tt vv;rw[e];exact#[rfl,rfl]
def UN {ts:List Rat}{i:Nat}{t:Rat}(h:ts[i]? = some t):i<↥ts/\T ts i=t:=by
 obtain⟨h1,h2⟩:=qAe.mp h;exact#[h1,by rw[NS h1];exact h2]
def Cf {α:Type}{f:α->D}{xs:List α}{i:Nat}{x:D}(h:(xs.map f)[i]? = some x):∃a,xs[i]? = some a/\x=f a:=by
 rw[qAd]at h;cases e:xs[i]? with
 |none=>rw[e]at h;cases h
 |some a=>rw[e]at h;exact#[a,rfl,(qAn h).symm]
def EV {α:Type}(xs:List α)(f:α->D):(xs.map λa=>some (f a)).filterMap id=xs.map f:=by
 rw[qBD];exact congrFun (qCe (f:=f)) _
def Sh {n:Nat}{a b:Int}(hb:0<b)(h1:a.natAbs<2^n)(h2:b.natAbs<2^n):Wq n a b (Rat.divInt a b):=by
 refine#[hb,?_,h1,h2];rw[qAB];have:(b:Rat)≠0:=by
  intro z;have:b=0:=by exact_mod_cast z
  omega
 grind
def IsL (h:Rat->Rat)(t v:Rat):Prop:=0<=v/\(v=0\/∃s,0<=s/\s<=t/\h s=v)/\∀s,0<=s->s<=t->h s<=v
def IsL.uniq {h:Rat->Rat}{t v w:Rat}(a:IsL h t v)(b:IsL h t w):v=w:=by
 have le:∀{v w:Rat},IsL h t v->IsL h t w->v<=w:=λ{v w} a b=>by
  rcases a.2.1 with e|⟨s,s0,st,e⟩
  .rw[e];exact b.1
  .rw[<-e];exact b.2.2 s s0 st
 exact Rat.le_antisymm (le a b) (le b a)
def IsL.on {h:Rat->Rat}{T B G s t:Rat}(a:IsL h T B)(T0:0<=T)(hG:h T=G)(tT:T<=t)(lin:∀x,T<=x->x<=t->h x=G+s*(x-T)){v:Rat}(hv:v=B\/v=G+s*(t-T))(h1:B<=v)(h2:G+s*(t-T)<=v):IsL h t v:=by
 have gB:G<=B:=by rw[<-hG];exact a.2.2 T T0 qAc
 refine#[qAv a.1 h1,?_,λx x0 xt=>?_]
 .rcases hv with e|e
  .rcases a.2.1 with z|⟨y,y0,y1,ey⟩
   .exact .inl (e.trans z)
   .exact .inr #[y,y0,qAv y1 tT,ey.trans e.symm]
  .exact .inr #[t,qAv T0 tT,qAc,(lin t tT qAc).trans e.symm]
 .by_cases c:x<=T
  .exact qAv (a.2.2 x x0 c) h1
  .rw[lin x ⋯ xt];by_cases s0:0<=s
   .have:=qAk s0 (show 0<=t-x from ⋯);grind
   .have:=qAk (show 0<=-s from ⋯) (show 0<=x-T from ⋯);grind
structure Lft (h:Rat->Rat)(C:Cs)(T B M:Rat)(nx:Option Rat):Prop where
 o:Ord C
 lo:T<=tt C (↥C-1)
 hi:∀t,nx=some t->tt C (↥C-1)<t
 b:vv C (↥C-1)=B
 M0:0<=M
 v:∀t,0<=t->(∀u,nx=some u->t<=u)->IsL h t (val C M t)
 l:IsL h T B
def Lft.next {h:Rat->Rat}{C:Cs}{T B M u B':Rat}(a:Lft h C T B M (some u))(hB:IsL h u B'):Ord (C++[(u,B')])/\∀(M' t:Rat),0<=t->t<=u->val (C++[(u,B')]) M' t=val C M t:=by
 have n:=a.o.ne;have lt:=a.hi u rfl;have t0:0<=tt C (↥C-1):=by
  have:=Bc a.o.up (i:=0) (j:=↥C-1) () ();rw[a.o.t0]at this;exact this
 have eB:B'=val C M u:=hB.uniq (a.v u ⋯ (λw hw=>by cases hw;exact qAc));have ev:val C M u=vv C (↥C-1)+M*(u-tt C (↥C-1)):=CA n (qAm lt);have mn:=qAk a.M0 (show 0<=u-tt C (↥C-1) from ⋯);have sl:(B'-vv C (↥C-1))/(u-tt C (↥C-1))=M:=by
  rw[eB,ev];have ne:u-tt C (↥C-1)≠0:=⋯;generalize tt C (↥C-1)=X at ne;generalize vv C (↥C-1)=Y;grind
 refine#[a.o.snoc (c:=(u,B')) lt (by show _<=B';rw[eB,ev];grind),λM' t t0 tu=>?_];rw[LG (c:=(u,B')) (M:=M) n sl];by_cases c:t<u
 .rw[qC6 c]
 .rw[qC5 c];have e:t=u:=⋯;show B'+M'*(t-u)=_;rw[e,eB];grind
structure Lf0 (h:Rat->Rat)(C:Cs)(T B:Rat):Prop where
 o:Ord C
 t:tt C (↥C-1)=T
 b:vv C (↥C-1)=B
 l:IsL h T B
 v:∀(M t:Rat),0<=t->t<=T->IsL h t (val C M t)
def Lf0.t0 {h:Rat->Rat}{C:Cs}{T B:Rat}(a:Lf0 h C T B):0<=T:=by
 have:=Bc a.o.up (i:=0) (j:=↥C-1) () (by have:=a.o.ne;omega);rw[a.o.t0,a.t]at this;exact this
def Lf0.go {h:Rat->Rat}{C:Cs}{T B G s M:Rat}{nx:Option Rat}(a:Lf0 h C T B)(hG:h T=G)(hnx:∀u,nx=some u->T<u)(lin:∀x,T<=x->(∀u,nx=some u->x<=u)->h x=G+s*(x-T))(M0:0<=M)
 (val':∀x,T<=x->(∀u,nx=some u->x<=u)->(B+M*(x-T)=B\/B+M*(x-T)=G+s*(x-T))/\G+s*(x-T)<=B+M*(x-T)):Lft h C T B M nx:=by
 refine#[a.o,by rw[a.t];exact qAc,λu hu=>by rw[a.t];exact hnx u hu,a.b,M0,λt t0 ht=>?_,a.l];by_cases c:t<=T
 .exact a.v M t t0 c
 .have cT:T<=t:=⋯;have e:val C M t=B+M*(t-T):=by rw[CA a.o.ne (by rw[a.t];exact cT),a.t,a.b]
  rw[e];obtain⟨v1,v2⟩:=val' t cT ht;have mn:=qAk M0 (show 0<=t-T from ⋯);exact a.l.on a.t0 hG cT (λx x1 x2=>lin x x1 (λu hu=>qAv x2 (ht u hu))) v1 ⋯ v2
def Lf0.flat {h:Rat->Rat}{C:Cs}{T B G s X:Rat}(a:Lf0 h C T B)(hG:h T=G)(hX:T<X)(lin:∀x,T<=x->x<=X->h x=G+s*(x-T))(hB:G+s*(X-T)=B):Lf0 h (C++[(X,B)]) X B:=by
 have f:Lft h C T B 0 (some X):=a.go (s:=s) hG (λu hu=>by cases hu;exact hX) (λx x1 x2=>lin x x1 (x2 X rfl)) qAc (λx x1 x2=>by
  have x2:=x2 X rfl;have gB:G<=B:=by rw[<-hG];exact a.l.2.2 T a.t0 qAc
  refine#[.inl ⋯,?_];by_cases s0:0<=s
  .have:=qAk s0 (show 0<=X-x from ⋯);grind
  .have:=qAk (show 0<=-s from ⋯) (show 0<=x-T from ⋯);grind)
 have lX:IsL h X B:=by
  have:=f.v X (by have:=a.t0;grind) (λw hw=>by cases hw;exact qAc);rw[CA a.o.ne (by rw[a.t];exact qAm hX),a.t,a.b]at this;have e:B+0*(X-T)=B:=⋯;rw[e]at this;exact this
 obtain⟨o,vs⟩:=f.next lX;have ln:(C++[(X,B)]).length-1=↥C:=by rw[Bf];omega
 exact#[o,by rw[ln,OV],by rw[ln,O3],lX,λM t t0 tX=>by rw[vs M t t0 tX];exact f.v t t0 (λw hw=>by cases hw;exact tX)]
def Lft.step {h:Rat->Rat}{C:Cs}{T B M u B':Rat}(a:Lft h C T B M (some u))(hB:IsL h u B'):Lf0 h (C++[(u,B')]) u B':=by
 obtain⟨o,vs⟩:=a.next hB;have ln:(C++[(u,B')]).length-1=↥C:=by rw[Bf];omega
 exact#[o,by rw[ln,OV],by rw[ln,O3],hB,λM t t0 tu=>by rw[vs M t t0 tu];exact a.v t t0 (λw hw=>by cases hw;exact tu)]
def mx (a b:Rat):Rat:=if a<b then b else a
def LD (a b:Rat):a<=mx a b/\b<=mx a b/\(mx a b=a\/mx a b=b):=by
 unfold mx;split<;>grind
def Ab (h:Rat->Rat)(B s:Rat):Option Rat->Prop
 |some u=>B<h u
 |none=>0<s
def Lf0.turn {h:Rat->Rat}{C:Cs}{T B G s:Rat}{nx:Option Rat}(a:Lf0 h C T B)(hG:h T=G)(hnx:∀u,nx=some u->T<u)(lin:∀x,T<=x->(∀u,nx=some u->x<=u)->h x=G+s*(x-T)) :
 (¬G<B->Lft h C T B (mx 0 s) nx) /\
 (G<B->¬Ab h B s nx->Lft h C T B 0 nx) /\
 (G<B->Ab h B s nx->0<s/\Lft h (C++[(T+(B-G)/s,B)]) T B s nx):=by
 have gB:G<=B:=by rw[<-hG];exact a.l.2.2 T a.t0 qAc
 have m0:=LD 0 s;refine#[λc=>?_,λc1 c2=>?_,λc1 c2=>?_]
 .have e:G=B:=⋯;refine a.go hG hnx lin m0.1 (λx x1 x2=>#[?_,?_])
  .rcases m0.2.2 with z|z
   .rw[z];exact .inl ⋯
   .rw[z,e];exact .inr rfl
  .have:=qAk (show 0<=mx 0 s-s from ⋯) (show 0<=x-T from ⋯);grind
 .refine a.go hG hnx lin qAc (λx x1 x2=>#[.inl ⋯,?_]);cases nx with
  |none=>
   have sn:¬0<s:=c2;have:=qAk (show 0<=-s from ⋯) (show 0<=x-T from ⋯);grind
  |some u=>
   have hu:¬B<h u:=c2;have tu:=hnx u rfl;have xu:=x2 u rfl;have e:=lin u (qAm tu) (λw hw=>by cases hw;exact qAc);by_cases s0:0<=s
   .have:=qAk s0 (show 0<=u-x from ⋯);grind
   .have:=qAk (show 0<=-s from ⋯) (show 0<=x-T from ⋯);grind
 .have s0:0<s:=by
   cases nx with
   |none=>exact c2
   |some u=>
    have hu:B<h u:=c2;have tu:=hnx u rfl;have e:=lin u (qAm tu) (λw hw=>by cases hw;exact qAc);by_cases z:0<s
    .exact z
    .have:=qAk (show 0<=-s from ⋯) (show 0<=u-T from ⋯);grind
  have ne:s≠0:=⋯;have d:=TH (show 0<B-G from ⋯) s0;have eX:s*(T+(B-G)/s-T)=B-G:=⋯;have inX:∀u,nx=some u->T+(B-G)/s<u:=λu hu=>by
   subst hu;have hu:B<h u:=c2;have tu:=hnx u rfl;have e:=lin u (qAm tu) (λw hw=>by cases hw;exact qAc);by_cases z:T+(B-G)/s<u
   .exact z
   .have:=qAk (qAm s0) (show 0<=T+(B-G)/s-u from ⋯);grind
  have f:=a.flat (X:=T+(B-G)/s) (s:=s) hG ⋯ (λx x1 x2=>lin x x1 (λu hu=>qAv x2 (qAm (inX u hu)))) (by rw[eX];grind);have hX:h (T+(B-G)/s)=B:=by rw[lin _ ⋯ (λu hu=>qAm (inX u hu)),eX];grind
  have g:=f.go (s:=s) (M:=s) (nx:=nx) hX inX (λx x1 x2=>by rw[lin x ⋯ x2];grind) (qAm s0) (λx x1 x2=>#[.inr rfl,qAc]);exact#[s0,g.o,by have:=g.lo;grind,g.hi,g.b,g.M0,g.v,a.l]
def IsL.nxt {h:Rat->Rat}{T B G s u:Rat}(a:IsL h T B)(T0:0<=T)(hG:h T=G)(tu:T<=u)(lin:∀x,T<=x->x<=u->h x=G+s*(x-T)):IsL h u (mx B (h u)):=by
 have e:=lin u tu qAc;obtain⟨m1,m2,m3⟩:=LD B (h u);refine a.on T0 hG tu lin ?_ m1 (by rw[<-e];exact m2);rcases m3 with z|z
 .exact .inl z
 .exact .inr (z.trans e)
def HN {cs ds:Cs}{ts:List Rat}{m k:Rat}(o:Ord cs)(q:Ord ds)(t:Tms cs ds ts){i:Nat}(hi:i<↥ts) :
 (∀x,T ts i<=x->(i+1<↥ts->x<=T ts (i+1))->gap cs m ds k x=gap cs m ds k (T ts i)+slp (gcs cs m ds k ts) (m-k) i*(x-T ts i)) /\
  slp (gcs cs m ds k ts) (m-k) i=slp cs m (plc cs (T ts i) ↥cs)-slp ds k (plc ds (T ts i) ↥ds):=by
 have main:∀x,T ts i<=x->(i+1<↥ts->x<=T ts (i+1))->gap cs m ds k x=gap cs m ds k (T ts i)+(slp cs m (plc cs (T ts i) ↥cs)-slp ds k (plc ds (T ts i) ↥ds))*(x-T ts i):=λx h1 h2=>by
  unfold gap;rw[IC (m:=m) o t hi h1 h2,IC (m:=k) q t.swap hi h1 h2];grind
 have e:slp (gcs cs m ds k ts) (m-k) i=slp cs m (plc cs (T ts i) ↥cs)-slp ds k (plc ds (T ts i) ↥ds):=by
  by_cases c:i+1<↥ts
  .rw[Bo (by rw[CN];exact c),(BB hi).1,(BB hi).2,(BB c).1,(BB c).2];have u:=t.up i c;have g:=main (T ts (i+1)) (qAm u) (λ_=>qAc);exact Ol ⋯ ⋯
  .rw[AF (by rw[CN];exact c)];have e:i=↥ts-1:=();rw[e,IS o t,IS q t.swap]
 exact#[λx h1 h2=>by rw[e];exact main x h1 h2,e]
def VX {f:Rat->Rat}{a b v p n s:Rat}(h:∀x,p<=x->x<=n->f x=a+b*x)(hp:f p<=v)(hn:f n<=v)(h1:p<=s)(h2:s<=n):f s<=v:=by
 have e1:=h p qAc (qAv h1 h2);have e2:=h n (qAv h1 h2) qAc;have e3:=h s h1 h2;by_cases b0:0<=b
 .have:=qAk b0 (show 0<=n-s from ⋯);grind
 .have:=qAk (show 0<=-b from ⋯) (show 0<=s-p from ⋯);grind
def Sf (cs:Cs)(a:Rat)(h:cs.Pairwise λx y=>x.1<y.1):∃j,j<=↥cs/\cs.filter (λc=>decide (c.1<a))=cs.take j/\(∀c∈cs.take j,c.1<a)/\∀c∈cs.drop j,a<=c.1:=by
 induction cs with
 |nil=>exact#[0,qAg _,rfl,(λc hc=>by cases hc),(λc hc=>by cases hc)]
 |cons x xs ih=>
  rw[List.pairwise_cons]at h;by_cases c:x.1<a
  .obtain⟨j,h1,h2,h3,h4⟩:=ih h.2;refine#[j+1,by simp;omega,?_,?_,?_]
   .rw[qA4,qC6 (qC7 c),h2];rfl
   .intro y hy;rcases qAi.mp hy with e|e
    .rw[e];exact c
    .exact h3 y e
   .exact h4
  .refine#[0,qA9 _,?_,(λc hc=>by cases hc),?_]
   .rw[qCu,List.filter_eq_nil_iff];intro y hy;rcases qAi.mp hy with e|e
    .rw[e];simpa using c
    .have:=h.1 y e;simp only[decide_eq_true_eq];grind
   .intro y hy;rcases qAi.mp hy with e|e
    .rw[e];exact qAN.mp c
    .have:=h.1 y e;grind
def Bs {cs:Cs}{k:Nat}(h:k<↥cs):tt cs k=cs[k].1/\vv cs k=cs[k].2:=by
 unfold tt vv;rw[qAf,qAb h];exact#[rfl,rfl]
def aK {cs:Cs}(u:Up cs):cs.Pairwise λx y=>x.1<y.1:=by
 rw[qB5];intro i j hi hj hij;have:=JA u hij hj;rw[(Bs hi).1,(Bs hj).1]at this;exact this
def mvd (a h:Rat)(ds:Cs):Cs:=ds.map λc=>(a+c.1,h+c.2)
def KU {a h:Rat}{ds:Cs}:(mvd a h ds).length=↥ds:=qAa _
def Yq {a h:Rat}{ds:Cs}{k:Nat}(hk:k<↥ds):tt (mvd a h ds) k=a+tt ds k/\vv (mvd a h ds) k=h+vv ds k:=by
 rw[(Bs (show k<(mvd a h ds).length by rw[KU];exact hk)).1,(Bs (show k<(mvd a h ds).length by rw[KU];exact hk)).2,(Bs hk).1,(Bs hk).2];unfold mvd;rw[List.getElem_map];exact#[rfl,rfl]
def bP {A B:Cs}{k:Nat}(h:↥A<=k):tt (A++B) k=tt B (k-↥A)/\vv (A++B) k=vv B (k-↥A):=by
 unfold tt vv;rw[qAf,qAw h,qAf];exact#[rfl,rfl]
def So {A:Cs}{j k:Nat}(h:k<j):tt (A.take j) k=tt A k/\vv (A.take j) k=vv A k:=by
 unfold tt vv;rw[qAf,qBJ h,qAf];exact#[rfl,rfl]
structure Spl (cs:Cs)(m a:Rat)(ds:Cs)(j:Nat)(L:Cs):Prop where
 jl:j<=↥cs
 e:L=cs.take j++mvd a (val cs m a-vv ds 0) ds
 lo:∀i,i<j->tt cs i<a
 hi:∀i,j<=i->i<↥cs->a<=tt cs i
def Y6 {cs ds:Cs}{m a:Rat}(u:Up cs):∃j,Spl cs m a ds j (cs.filter (λc=>decide (c.1<a))++mvd a (val cs m a-vv ds 0) ds):=by
 obtain⟨j,h1,h2,h3,h4⟩:=Sf cs a (aK u);refine#[j,h1,by rw[h2],λi hi=>?_,λi hi hl=>?_]
 .have il:i<(cs.take j).length:=by rw[qAP];omega
  have:=h3 (cs.take j)[i] (qBp il);rw[<-(Bs il).1,(So hi).1]at this;exact this
 .rw[(Bs hl).1];refine h4 _ ?_;rw[qA8];refine#[i-j,by rw[qAT];omega,?_];rw[List.getElem_drop]
  congr 1
  omega
def Spl.len {cs ds L:Cs}{m a:Rat}{j:Nat}(s:Spl cs m a ds j L):↥L=j+↥ds:=by
 have:=s.jl;rw[s.e,qAr,qAP,KU];omega
def Spl.one {cs ds L:Cs}{m a:Rat}{j:Nat}(s:Spl cs m a ds j L){i:Nat}(h:i<j):tt L i=tt cs i/\vv L i=vv cs i:=by
 have:=s.jl;have il:i<(cs.take j).length:=by rw[qAP];omega
 rw[s.e,MM il,NY il];exact So h
def Spl.two {cs ds L:Cs}{m a:Rat}{j:Nat}(s:Spl cs m a ds j L){k:Nat}(h:k<↥ds):tt L (j+k)=a+tt ds k/\vv L (j+k)=(val cs m a-vv ds 0)+vv ds k:=by
 have:=s.jl;have il:(cs.take j).length=j:=by rw[qAP];omega
 rw[s.e,(bP (show(cs.take j).length<=j+k from ())).1,(bP (show(cs.take j).length<=j+k from ())).2,il,show j+k-j=k from ()];exact Yq h
def Spl.ord {cs ds L:Cs}{m a:Rat}{j:Nat}(s:Spl cs m a ds j L)(r:EO cs m)(p:Ord ds)(a0:0<=a):Ord L:=by
 have n:=p.ne;have ll:=s.len;have jl:=s.jl;have o:=r.o;have z:=s.two (k:=0) n;rw[p.t0]at z;have z1:tt L j=a:=by have:=z.1;grind
 have z2:vv L j=val cs m a:=by have:=z.2;grind
 have j0:j=0->a=0:=λe=>by
  have:=s.hi 0 () o.ne;rw[o.t0]at this;grind
 refine#[(),?_,?_,λk hk=>?_,λk hk=>?_]
 .by_cases e:j=0
  .rw[show(0:Nat)=j from (),z1];exact j0 e
  .rw[(s.one (show 0<j from ())).1];exact o.t0
 .by_cases e:j=0
  .rw[show(0:Nat)=j from (),z2,j0 e,Cy o];exact o.v0
  .rw[(s.one (show 0<j from ())).2];exact o.v0
 .by_cases c:k+1<j
  .rw[(s.one c).1,(s.one (show k<j from ())).1];exact o.up k ()
  .by_cases c2:k+1=j
   .rw[c2,z1,(s.one (show k<j from ())).1];exact s.lo k ()
   .obtain⟨i,rfl⟩:∃i,k=j+i:=#[k-j,()];have:=p.up i ();rw[(s.two (show i<↥ds from ())).1,show j+i+1=j+(i+1) from (),(s.two (show i+1<↥ds from ())).1];grind
 .by_cases c:k+1<j
  .rw[(s.one c).2,(s.one (show k<j from ())).2];exact o.vu k ()
  .by_cases c2:k+1=j
   .rw[c2,z2,(s.one (show k<j from ())).2];exact QN r () (qAm (s.lo k ()))
   .obtain⟨i,rfl⟩:∃i,k=j+i:=#[k-j,()];have:=p.vu i ();rw[(s.two (show i<↥ds from ())).2,show j+i+1=j+(i+1) from (),(s.two (show i+1<↥ds from ())).2];grind
theorem Spl.val {cs ds L:Cs}{m k a:Rat}{j:Nat}(s:Spl cs m a ds j L)(r:EO cs m)(p:Ord ds)(a0:0<=a){t:Rat}(t0:0<=t):val L k t=if a<t then val cs m a+(val ds k (t-a)-vv ds 0) else val cs m t:=by
 have O:=s.ord r p a0;have n:=p.ne;have ll:=s.len;have jl:=s.jl;have o:=r.o;have z:=s.two (k:=0) n;rw[p.t0]at z;have z1:tt L j=a:=by have:=z.1;grind
 have z2:vv L j=CH.val cs m a:=by have:=z.2;grind
 by_cases c:a<=t
 .have on:=EG p (t:=t-a) ⋯;generalize plc ds (t-a) ↥ds=i at on;have il:=on.lt;have oL:On L (j+i) t:=#[(),by rw[(s.two il).1];have:=on.lo;grind,λh=>by
   have:=on.hi ();rw[show j+i+1=j+(i+1) from (),(s.two (show i+1<↥ds from ())).1];grind]
  have sl:slp L k (j+i)=slp ds k i:=by
   by_cases c2:i+1<↥ds
   .rw[Bo (show j+i+1<↥L from ()),Bo c2,show j+i+1=j+(i+1) from (),(s.two il).1,(s.two il).2,(s.two c2).1,(s.two c2).2];have e1:a+tt ds (i+1)-(a+tt ds i)=tt ds (i+1)-tt ds i:=⋯;have e2:CH.val cs m a-vv ds 0+vv ds (i+1)-(CH.val cs m a-vv ds 0+vv ds i)=vv ds (i+1)-vv ds i:=⋯;rw[e1,e2]
   .rw[AF (),AF c2]
  have e:CH.val L k t=CH.val cs m a+(CH.val ds k (t-a)-vv ds 0):=by
   rw[B7 O.up oL,B7 p.up on,sl,(s.two il).1,(s.two il).2];grind
  by_cases c3:a<t
  .rw[qC6 c3];exact e
  .rw[qC5 c3,e];have ea:t=a:=⋯;subst ea;rw[show t-t=0 from ⋯,Cy p];grind
 .have lt:t<a:=⋯;rw[qC5 ⋯];have on:=EG o t0;generalize plc cs t ↥cs=i at on;have il:=on.lt;have ij:i<j:=by
   by_cases h:i<j
   .exact h
   .have:=s.hi i () il;have:=on.lo;grind
  have oa:i+1=j->On cs i a:=λe=>#[il,qAm (s.lo i ij),λh=>s.hi _ () h];have oL:On L i t:=#[(),by rw[(s.one ij).1];exact on.lo,λh=>by
   by_cases c2:i+1<j
   .rw[(s.one c2).1];exact on.hi ()
   .rw[show i+1=j from (),z1];exact qAm lt]
  have sl:slp L k i=slp cs m i:=by
   rw[Bo (show i+1<↥L from ())];by_cases c2:i+1<j
   .rw[Bo (show i+1<↥cs from ()),(s.one c2).1,(s.one c2).2,(s.one ij).1,(s.one ij).2]
   .have e:=oa ();have lo:=s.lo i ij;have ev:=B7 (m:=m) o.up e;rw[show i+1=j from (),z1,z2,(s.one ij).1,(s.one ij).2,ev];have ne:a-tt cs i≠0:=⋯;generalize a-tt cs i=X at ne;generalize slp cs m i=Y;generalize vv cs i=Z;grind
  rw[B7 O.up oL,B7 o.up on,sl,(s.one ij).1,(s.one ij).2]
def Qg (cs:Cs)(a:Rat):(cs.map λc=>if c.1<a then some (cd c) else none).filterMap id=(cs.filter (λc=>decide (c.1<a))).map cd:=by
 induction cs with
 |nil=>rfl
 |cons x xs ih=>
  by_cases c:x.1<a
  .rw[qBO,qC6 c,qA4,qC6 (qC7 c),qBO,<-ih];rfl
  .rw[qBO,qC5 c,qA4,qC5 (by rw[qC8 c];decide),<-ih];rfl
def VL {a h:Rat}{ds:Cs}{n:Nat}(hn:n<↥ds):(mvd a h ds)[n]? = some (a+tt ds n,h+vv ds n):=by
 unfold mvd;rw[qAd,qAb hn,(Bs hn).1,(Bs hn).2];rfl
def Ord.mem {cs:Cs}(o:Ord cs){n:Nat}(z:SzC n cs){c:Rat×Rat}(h:c∈cs):Sz n c.1/\0<=c.1:=by
 obtain⟨k,hk,rfl⟩:=qA8.mp h;have:=Bc o.up (i:=0) (j:=k) () hk;rw[o.t0,(Bs hk).1]at this;have z:=(z k hk).1;rw[(Bs hk).1]at z;exact#[z,this]
def Wq.le_iff {k n:Nat}{a b c d:Int}{p q:Rat}(h:Wq k a b p)(g:Wq n c d q):a*d<=c*b ↔ p<=q:=by
 have:=g.lt_iff h;constructor
 .intro z;exact qAN.mp (λy=>absurd (this.mpr y) ())
 .intro z;exact Int.not_lt.mp (λy=>absurd (this.mp y) (qAN.mpr z))
def TM {cs:Cs}(h:1<↥cs):Ij (cs.map cd) none (some (-1))=(cs.take (↥cs-1)).map cd/\¬(HT.sIx (cs.map cd).length 0 none=0/\HT.sIx (cs.map cd).length (cs.map cd).length (some (-1))=(cs.map cd).length):=by
 have e:HT.sIx (cs.map cd).length (cs.map cd).length (some (-1))=↥cs-1:=by
  unfold HT.sIx;rw[qAa];simp;omega
 refine#[?_,λz=>?_]
 .unfold Ij;rw[e];show((cs.map cd).drop 0).take (↥cs-1-0)=_;rw[qCW,Nat.sub_zero,qCZ]
 .rw[e]at z;have:=z.2;rw[qAa]at this;omega
structure Chk (cs:Cs)(m:Rat)(ds:Cs)(k d:Rat):Prop where
 one:∀c∈cs,c.2<=val ds k (c.1+d)
 two:∀c∈ds,0<=c.1-d->val cs m (c.1-d)<=c.2
def Qk {cs ds:Cs}{m k d t:Rat}(o:Ord cs)(q:Ord ds)(mk:m<=k)(d0:0<=d)(h:Chk cs m ds k d)(t0:0<=t):val cs m t<=val ds k (t+d):=by
 have oi:=EG o t0;have oj:=EG q (show 0<=t+d from ⋯);generalize plc cs t ↥cs=i at oi;generalize plc ds (t+d) ↥ds=j at oj;have c0:∀i,i<↥cs->0<=tt cs i/\vv cs i<=val ds k (tt cs i+d)/\val cs m (tt cs i)=vv cs i:=λi hi=>by
  have:=Bc o.up (i:=0) (j:=i) () hi;rw[o.t0]at this;have a:=h.one cs[i] (qBp hi);rw[<-(Bs hi).1,<-(Bs hi).2]at a;exact#[this,a,B1 o hi]
 have d1:∀j,j<↥ds->0<=tt ds j-d->val cs m (tt ds j-d)<=vv ds j/\val ds k (tt ds j-d+d)=vv ds j:=λj hj z=>by
  have a:=h.two ds[j] (qBp hj);rw[<-(Bs hj).1,<-(Bs hj).2]at a;exact#[a z,by rw[show tt ds j-d+d=tt ds j from ⋯];exact B1 q hj]
 have P:∃p,tt cs i<=p/\tt ds j<=p+d/\p<=t/\val cs m p<=val ds k (p+d):=by
  have a:=c0 i oi.lt;have lo:=oj.lo;by_cases c:tt ds j<=tt cs i+d
  .exact#[tt cs i,qAc,c,oi.lo,by rw[a.2.2];exact a.2.1]
  .have b:=d1 j oj.lt ⋯;exact#[tt ds j-d,⋯,⋯,⋯,by rw[b.2];exact b.1]
 obtain⟨p,p1,p2,p3,p4⟩:=P;have lin:∀x,p<=x->(i+1<↥cs->x<=tt cs (i+1))->(j+1<↥ds->x+d<=tt ds (j+1))->val cs m x-val ds k (x+d)=(vv cs i-slp cs m i*tt cs i-(vv ds j+slp ds k j*(d-tt ds j)))+(slp cs m i-slp ds k j)*x:=λx x1 x2 x3=>by
  rw[B7 o.up (k:=i) #[oi.lt,⋯,x2],B7 q.up (k:=j) #[oj.lt,⋯,x3]];grind
 have fin:∀n,t<=n->(i+1<↥cs->n<=tt cs (i+1))->(j+1<↥ds->n+d<=tt ds (j+1))->val cs m n<=val ds k (n+d)->val cs m t<=val ds k (t+d):=λn n1 n2 n3 n4=>by
  have:=VX (f:=λx=>val cs m x-val ds k (x+d)) (v:=0) (p:=p) (n:=n) (s:=t) (λx x1 x2=>lin x x1 (λz=>qAv x2 (n2 z)) (λz=>by have:=n3 z;grind)) (by show val cs m p-val ds k (p+d)<=0;grind) (by show val cs m n-val ds k (n+d)<=0;grind) p3 n1;have:val cs m t-val ds k (t+d)<=0:=this;grind
 by_cases ci:i+1<↥cs
 .have a:=c0 (i+1) ci;by_cases cj:j+1<↥ds
  .by_cases c:tt cs (i+1)+d<=tt ds (j+1)
   .exact fin (tt cs (i+1)) (oi.hi ci) (λ_=>qAc) (λ_=>c) (by rw[a.2.2];exact a.2.1)
   .have hj:=oj.hi cj;have b:=d1 (j+1) cj ⋯;exact fin (tt ds (j+1)-d) ⋯ (λ_=>⋯) (λ_=>⋯) (by rw[b.2];exact b.1)
  .exact fin (tt cs (i+1)) (oi.hi ci) (λ_=>qAc) (λz=>absurd z cj) (by rw[a.2.2];exact a.2.1)
 .by_cases cj:j+1<↥ds
  .have hj:=oj.hi cj;have b:=d1 (j+1) cj ⋯;exact fin (tt ds (j+1)-d) ⋯ (λz=>absurd z ci) (λ_=>⋯) (by rw[b.2];exact b.1)
  .have e1:=lin t p3 (λz=>absurd z ci) (λz=>absurd z cj);have e2:=lin p qAc (λz=>absurd z ci) (λz=>absurd z cj);rw[AF ci,AF cj]at e1 e2;have:=qAk (show 0<=k-m from ⋯) (show 0<=t-p from ⋯);grind
theorem YY {cs:Cs}{m:Rat}:∀k,k<↥cs->∀i,i<(kp cs m k).length->∃j,j<↥cs/\tt (kp cs m k) i=tt cs j
 |0,hk=>λi hi=>by
  have:i=0:=by simp[kp]at hi;omega
  subst this;exact#[0,hk,rfl]
 |k+1,hk=>by
  have ih:=YY (cs:=cs) (m:=m) k ();by_cases e:slp cs m k=slp cs m (k+1)
  .rw[IW e];exact ih
  .rw[Sm e];intro i hi;by_cases c:i<(kp cs m k).length
   .rw[MM c];exact ih i c
   .rw[Bf]at hi;rw[show i=(kp cs m k).length from (),OV];exact#[k+1,hk,rfl]
def Zq {α:Type}{f:α->D}{xs:List α}{h:Nat}(hh:h<=↥xs):Ij (xs.map f) none (some (h:Int))=(xs.take h).map f:=by
 unfold Ij;rw[HT.sIx_nat,qAa,qB6 hh];show((xs.map f).drop 0).take (h-0)=_;rw[qCW,Nat.sub_zero,qCZ]
def YT {α:Type}{f:α->D}{xs:List α}{h:Nat}(hh:h<=↥xs):Ij (xs.map f) (some (h:Int)) none=(xs.drop h).map f:=by
 unfold Ij;rw[HT.sIx_nat,qAa,qB6 hh];show((xs.map f).drop h).take (↥xs-h)=_;rw[<-qCC,qBk (by rw[qAa,qAT];exact qAg _)]
end CH
namespace L3
open PySem PySem.Spec PyProof.Rows L2
section
variable {X:Cx}
end
end L3
namespace CH
open PySem L2 L3
structure LS (a b c:Nat)(cs:Cs)(m:Rat):Prop where
 tm:∀i,i<↥cs->Sz a (tt cs i)
 sl:∀t,0<=t->Sz b (sat cs m t)
 ic:∀t,0<=t->Sz c (val cs m t-sat cs m t*t)
def LS.va {a b c n:Nat}{cs:Cs}{m t:Rat}(z:LS a b c cs m)(t0:0<=t)(ht:Sz n t):Sz (b+n+c+1) (val cs m t):=by
 have h:=(z.ic t t0).add ((z.sl t t0).mul ht);rw[show val cs m t-sat cs m t*t+sat cs m t*t=val cs m t from ⋯]at h;exact h.mono ()
theorem LS.m {a b c:Nat}{cs:Cs}{m:Rat}(z:LS a b c cs m)(o:Ord cs):Sz b m:=by
 have n:=o.ne;have t0:=Bc o.up (i:=0) (j:=↥cs-1) () ();rw[o.t0]at t0;have:=z.sl _ t0;rw[Nh n qAc]at this;exact this
def LS.szk {a b c n:Nat}{cs:Cs}{m:Rat}(z:LS a b c cs m)(o:Ord cs)(hl:↥cs<=100000)(h:a+b+c+1<=n):SzK n cs m:=by
 refine#[hl,λi hi=>?_,(z.m o).mono ()];have t0:=Bc o.up (i:=0) (j:=i) () hi;rw[o.t0]at t0;have:=z.va t0 (z.tm i hi);rw[B1 o hi]at this;exact#[(z.tm i hi).mono (),this.mono ()]
def LS.mono {a b c a' b' c':Nat}{cs:Cs}{m:Rat}(z:LS a b c cs m)(h1:a<=a')(h2:b<=b')(h3:c<=c'):LS a' b' c' cs m:=
 #[λi hi=>(z.tm i hi).mono h1,λt t0=>(z.sl t t0).mono h2,λt t0=>(z.ic t t0).mono h3]
def LS.kept {a b c:Nat}{cs:Cs}{m:Rat}(z:LS a b c cs m)(o:Ord cs):LS a b c (kp cs m (↥cs-1)) m:=by
 have n:=o.ne;refine#[λi hi=>?_,λt t0=>by rw[(HX o t).2];exact z.sl t t0,λt t0=>by rw[(HX o t).1,(HX o t).2];exact z.ic t t0];obtain⟨j,hj,e⟩:=YY (cs:=cs) (m:=m) _ () i hi;rw[e];exact z.tm j hj
def QG {f0 g0 m k a:Rat}(h:∀x,a<=x->f0+m*(x-a)<=g0+k*(x-a)):m<=k:=by
 refine qAN.mp λc=>?_;have h0:=h a qAc;have d0:0<m-k:=⋯;have q0:0<=(g0-f0)/(m-k):=by
  rw[qCP];exact qAk ⋯ (qAm (Rat.inv_pos.mpr d0))
 have:=h (a+(g0-f0)/(m-k)+1) ⋯;have e:(m-k)*((g0-f0)/(m-k))=g0-f0:=by
  have:m-k≠0:=⋯;grind
 generalize (g0-f0)/(m-k)=y at *
 grind
section
variable {op:Rat->Rat->Rat}{cs ds:Cs}{m k:Rat}{us:List Rat}
end
def Ln (p g:Nat)(C:Cs)(M:Rat):Prop:=∀i,i<↥C->Sz p (slp C M i)/\Sz g (vv C i-slp C M i*tt C i)
def Ln.one {p g:Nat}{c:Rat×Rat}{M:Rat}(h1:Sz p M)(h2:Sz g (c.2-M*c.1)):Ln p g [c] M:=λi hi=>by
 have:i=0:=by have:i<1:=hi;omega
 subst this;rw[AF (by show ¬0+1<1;decide)];exact#[h1,h2]
def Ln.snoc {p g:Nat}{C:Cs}{c:Rat×Rat}{M M':Rat}(a:Ln p g C M)(h:(c.2-vv C (↥C-1))/(c.1-tt C (↥C-1))=M)(h1:Sz p M')(h2:Sz g (c.2-M'*c.1)):Ln p g (C++[c]) M':=λi hi=>by
 rw[Bf]at hi;by_cases e:i<↥C
 .rw[Fy e h,MM e,NY e];exact a i e
 .have:i=↥C:=();subst this;rw[IG,OV,O3];exact#[h1,h2]
def Lft.slope {h:Rat->Rat}{C:Cs}{T B M u B':Rat}(a:Lft h C T B M (some u))(hB:IsL h u B'):(B'-vv C (↥C-1))/(u-tt C (↥C-1))=M:=by
 have n:=a.o.ne;have lt:=a.hi u rfl;have t0:0<=tt C (↥C-1):=by
  have:=Bc a.o.up (i:=0) (j:=↥C-1) () ();rw[a.o.t0]at this;exact this
 have eB:B'=val C M u:=hB.uniq (a.v u ⋯ (λw hw=>by cases hw;exact qAc));have ev:val C M u=vv C (↥C-1)+M*(u-tt C (↥C-1)):=CA n (qAm lt);rw[eB,ev];have ne:u-tt C (↥C-1)≠0:=⋯;generalize tt C (↥C-1)=X at ne;generalize vv C (↥C-1)=Y;grind
def Ln.ls {a p g:Nat}{C:Cs}{M:Rat}(n:Ln p g C M)(o:Ord C)(ht:∀i,i<↥C->Sz a (tt C i)):LS a p g C M:=by
 refine#[ht,λt t0=>?_,λt t0=>?_]
 .exact(n _ (EG o t0).lt).1
 .have on:=EG o t0;have ev:val C M t=vv C (plc C t ↥C)+slp C M (plc C t ↥C)*(t-tt C (plc C t ↥C)):=rfl;have es:sat C M t=slp C M (plc C t ↥C):=rfl;generalize plc C t ↥C=j at on ev es;have z:=(n j on.lt).2;rw[ev,es];rw[show vv C j+slp C M j*(t-tt C j)-slp C M j*t=vv C j-slp C M j*tt C j from ⋯];exact z
section
variable {a b c a2 b2 c2:Nat}{cs ds:Cs}{m k:Rat}
def OB (z1:LS a b c cs m)(z2:LS a2 b2 c2 ds k){t:Rat}(t0:0<=t):Sz (c+c2+1) (gap cs m ds k t-(sat cs m t-sat ds k t)*t):=by
 have q:=(z1.ic t t0).sub (z2.ic t t0);have e:(val cs m t-sat cs m t*t)-(val ds k t-sat ds k t*t)=gap cs m ds k t-(sat cs m t-sat ds k t)*t:=by unfold gap;grind
 rw[e]at q;exact q
def UE (z1:LS a b c cs m)(z2:LS a2 b2 c2 ds k){t:Rat}{n:Nat}(t0:0<=t)(ht:Sz n t):Sz (b+b2+c+c2+n+3) (gap cs m ds k t):=by
 have q:=(OB z1 z2 t0).add (((z1.sl t t0).sub (z2.sl t t0)).mul ht);rw[show gap cs m ds k t-(sat cs m t-sat ds k t)*t+(sat cs m t-sat ds k t)*t=gap cs m ds k t from ⋯]at q;exact q.mono ()
def OI (z1:LS a b c cs m)(z2:LS a2 b2 c2 ds k){t B:Rat}{n:Nat}(t0:0<=t)(hB:Sz n B)(s0:sat cs m t-sat ds k t≠0):Sz (n+(b+b2+c+c2+3)) (t+(B-gap cs m ds k t)/(sat cs m t-sat ds k t)):=by
 have q:=(hB.sub (OB z1 z2 t0)).div ((z1.sl t t0).sub (z2.sl t t0)) s0;have e:t+(B-gap cs m ds k t)/(sat cs m t-sat ds k t)=(B-(gap cs m ds k t-(sat cs m t-sat ds k t)*t))/(sat cs m t-sat ds k t):=by
  generalize sat cs m t-sat ds k t=s at *
  generalize gap cs m ds k t=G at *
  grind
 rw[e];exact q.mono ()
end
def N9 {C:Cs}{x y:Rat}{p g:Nat}(h:∀j,j<↥C->Sz p (tt C j)/\Sz g (vv C j))(hx:Sz p x)(hy:Sz g y):∀j,j<(C++[(x,y)]).length->Sz p (tt (C++[(x,y)]) j)/\Sz g (vv (C++[(x,y)]) j):=λj hj=>by
 rw[Bf]at hj;by_cases e:j<↥C
 .rw[MM e,NY e];exact h j e
 .have:j=↥C:=();subst this;rw[OV,O3];exact#[hx,hy]
end CH
namespace L3
open PySem PySem.Spec PyProof.Rows L2
section
variable {X:L2.Cx}{e1 e2:Expr}{ti te:TE3}{pos:Pos}
end
end L3
namespace CH
open PySem L2 L3
section
variable {a b c a2 b2 c2:Nat}{cs ds:Cs}{m k:Rat}{ts:List Rat}
def V7 (o:Ord cs)(p:Ord ds)(t:Tms cs ds ts)(inc:∀x y,0<=x->x<=y->gap cs m ds k x<=gap cs m ds k y)(g0:0<=gap cs m ds k 0):Ord (gcs cs m ds k ts):=by
 have n:=t.ne;refine#[by rw[CN];exact n,by rw[(BB n).1];exact t.t0,by rw[(BB n).2,t.t0];exact g0,λi hi=>?_,λi hi=>?_]
 .rw[CN]at hi;rw[(BB (show i<↥ts from ())).1,(BB hi).1];exact t.up i hi
 .rw[CN]at hi;have i0:i<↥ts:=();rw[(BB i0).2,(BB hi).2];exact inc _ _ (Le t i0) (qAm (t.up i hi))
def Tu (o:Ord cs)(p:Ord ds)(t:Tms cs ds ts)(inc:∀x y,0<=x->x<=y->gap cs m ds k x<=gap cs m ds k y):0<=m-k:=by
 have n:=t.ne;have hi:↥ts-1<↥ts:=();obtain⟨l1,l2⟩:=HN (m:=m) (k:=k) o p t hi;rw[AF (by rw[CN];omega)]at l1;have t0:=Le t hi;have e:=l1 (T ts (↥ts-1)+1) ⋯ (λz=>absurd z ());have:=inc (T ts (↥ts-1)) (T ts (↥ts-1)+1) t0 ⋯;grind
def VR (o:Ord cs)(p:Ord ds)(t:Tms cs ds ts)(O:Ord (gcs cs m ds k ts)){x:Rat}(x0:0<=x):val (gcs cs m ds k ts) (m-k) x=gap cs m ds k x:=by
 obtain⟨i,hi,h1,h2⟩:=OG t.ne t.t0 x0;have on:On (gcs cs m ds k ts) i x:=#[by rw[CN];exact hi,by rw[(BB hi).1];exact h1,λz=>by rw[CN]at z;rw[(BB z).1];exact h2 z];rw[B7 O.up on,(BB hi).1,(BB hi).2,(HN (m:=m) (k:=k) o p t hi).1 x h1 h2]
def YM (o:Ord cs)(p:Ord ds)(t:Tms cs ds ts)(O:Ord (gcs cs m ds k ts))(z1:LS a b c cs m)(z2:LS a2 b2 c2 ds k){n:Nat}(h1:a<=n)(h2:a2<=n):LS n (b+b2+1) (c+c2+1) (gcs cs m ds k ts) (m-k):=by
 refine Ln.ls (λi hi=>?_) O (λi hi=>?_)
 .rw[CN]at hi;have t0:=Le t hi;have es:slp (gcs cs m ds k ts) (m-k) i=sat cs m (T ts i)-sat ds k (T ts i):=(HN (m:=m) (k:=k) o p t hi).2;rw[es,(BB hi).1,(BB hi).2];exact#[(z1.sl _ t0).sub (z2.sl _ t0),OB z1 z2 t0]
 .rw[CN]at hi;rw[(BB hi).1];rcases t.of i hi with⟨j,hj,e⟩|⟨j,hj,e⟩
  .rw[e];exact(z1.tm j hj).mono h1
  .rw[e];exact(z2.tm j hj).mono h2
end
def TU {C A L:Rat->Rat}(cm:∀x y,0<=x->x<=y->C x<=C y)(am:∀x y,0<=x->x<=y->A x<=A y)(hl:∀t,0<=t->IsL (λx=>C x-A x) t (L t)){x y:Rat}(x0:0<=x)(xy:x<=y):C x-L x<=C y-L y:=by
 have y0:=qAv x0 xy;have hx:=hl x x0;have hy:=hl y y0;have c1:=cm x y x0 xy;rcases hy.2.1 with e|⟨s,s0,s1,e⟩
 .have:=hx.1;grind
 .have e:C s-A s=L y:=e;by_cases c:s<=x
  .have h:=hx.2.2 s s0 c;have h:C s-A s<=L x:=h;grind
  .have h:=hx.2.2 x x0 qAc;have h:C x-A x<=L x:=h;have a1:=am x s x0 ⋯;have c2:=cm s y s0 s1;grind
def Qq {C A L:Rat->Rat}(c0:0<=C 0)(a0:0<=A 0)(hl:IsL (λx=>C x-A x) 0 (L 0)):0<=C 0-L 0:=by
 rcases hl.2.1 with e|⟨s,s0,s1,e⟩
 .grind
 .have e:C s-A s=L 0:=e;have:s=0:=⋯;subst this;grind
def LS.ln {a b c:Nat}{cs:Cs}{m:Rat}(z:LS a b c cs m)(o:Ord cs):Ln b c cs m:=λi hi=>by
 have t0:0<=tt cs i:=by
  have:=Bc o.up (i:=0) (j:=i) () hi;rw[o.t0]at this;exact this
 have e:sat cs m (tt cs i)=slp cs m i:=by
  unfold sat;rw[JS o.up (k:=i) qAc (λh=>o.up i h) _ hi (qAg _)]
 have z1:=z.sl _ t0;have z2:=z.ic _ t0;rw[e]at z1 z2;rw[B1 o hi]at z2;exact#[z1,z2]
def Te {a b c v g:Nat}{cs:Cs}{m l:Rat}(z:LS a b c cs m)(o:Ord cs)(hv:∀i,i<↥cs->Sz v (vv cs i))(hl:Sz b l)(h1:c<=g)(h2:v+(b+a)+1<=g):LS a b g cs l:=by
 have n:=z.ln o;refine Ln.ls (λi hi=>?_) o z.tm;by_cases e:i+1<↥cs
 .have:=n i hi;rw[Bo e]at this ⊢;exact#[this.1,this.2.mono h1]
 .rw[AF e];exact#[hl,((hv i hi).sub (hl.mul (z.tm i hi))).mono h2]
def Gx {cs:Cs}{i:Nat}(h:i<cs.dropLast.length):tt cs.dropLast i=tt cs i/\vv cs.dropLast i=vv cs i:=by
 have h2:i<↥cs:=by rw[qBw]at h;omega
 rw[(Bs h).1,(Bs h).2,(Bs h2).1,(Bs h2).2,List.getElem_dropLast];exact#[rfl,rfl]
def UU {cs:Cs}(o:Ord cs)(h:1<↥cs):Ord cs.dropLast:=by
 have ll:cs.dropLast.length=↥cs-1:=qBw;have n:0<cs.dropLast.length:=();refine#[n,by rw[(Gx n).1];exact o.t0,by rw[(Gx n).2];exact o.v0,λi hi=>?_,λi hi=>?_]
 .rw[(Gx hi).1,(Gx (show i<cs.dropLast.length from ())).1];exact o.up i ()
 .rw[(Gx hi).2,(Gx (show i<cs.dropLast.length from ())).2];exact o.vu i ()
def Z8 {a b c v g:Nat}{cs:Cs}{m l:Rat}(z:LS a b c cs m)(o:Ord cs)(h:1<↥cs)(hv:∀i,i<↥cs->Sz v (vv cs i))(hl:Sz b l)(h1:c<=g)(h2:v+(b+a)+1<=g):LS a b g cs.dropLast l:=by
 have ll:cs.dropLast.length=↥cs-1:=qBw;have n:=z.ln o;refine Ln.ls (λi hi=>?_) (UU o h) (λi hi=>by rw[(Gx hi).1];exact z.tm i ());have i2:i<↥cs:=();by_cases e:i+1<cs.dropLast.length
 .have e2:i+1<↥cs:=();have:=n i i2;rw[Bo e2]at this;rw[Bo e,(Gx e).1,(Gx e).2,(Gx hi).1,(Gx hi).2];exact#[this.1,this.2.mono h1]
 .rw[AF e,(Gx hi).1,(Gx hi).2];exact#[hl,((hv i i2).sub (hl.mul (z.tm i i2))).mono h2]
section
variable {h:Rat->Rat}{ts:List Rat}{S:Nat->Rat}{a b c g X:Nat}
end
end CH
namespace L3
open PySem PySem.Spec PyProof.Rows L2
section
variable {X:L2.Cx}{x:Str}{px pos:Pos}{scope:Scope}{N:List Str}{idx:List Nat}{elt iter:Expr}{ifs:List Expr}{wi:TI}{ws:TX3}{tt:TT3}{te:TE3}
end
section
variable {X:L2.Cx}{pos:Pos}
end
abbrev SpM:=List D->List D->(List D->Prop)->Prop
noncomputable def Po (a:Addr)(H:Hp):Hp:=λb=>if b=a then none else H b
def VD {a:Addr}{H:Hp}:Bp (Po a H) H:=λb o h=>by
 unfold Po at h;split at h
 .cases h
 .exact h
def JU {a b:Addr}{H:Hp}(h:b≠a):Po a H b=H b:=qC5 h
def Ww {a:Addr}{H:Hp}:Po a H a=none:=qC6 rfl
def PR (K:W.Frag)(sp:SpM):Sp:=λvs H Q _=>∃(z:Hp)(a:Addr)(ws vs0:List V)(xs0 ds:List D)(R:List D->Prop),
 vs=.ref a::ws/\Bp z H/\z a=none/\K.lookup a=none/\H a=some (.lst vs0)/\Iss K z vs0 xs0/\Iss K z ws ds/\sp xs0 ds R /\
 ∀(q:HZ)(vs1:List V)(xs1:List D),Ext #[Po a H,z] q->q.h a=some (.lst vs1)->q.z a=none->Iss K q.z vs1 xs1->R xs1->Q .non q.h
def PF (X:Cx)(a:Addr):Cx:={ X with lent:=some (0,a) }
section
variable {X:Cx}{pins:List (Addr×Obj)}{σ:St}{H H':Hp}{s s':Shared}{a:Addr}
def TY (I:Inv X pins σ H s):Inv (PF X a) pins σ H s:=
 #[#[I.ok.mod,I.ok.kind,I.ok.glob,I.ok.blt,I.ok.above,I.ok.inj,I.ok.has,I.ok.cab,I.ok.hd,I.ok.frames,I.ok.stk,I.ok.exf,I.ok.bs,I.ok.bsz,I.ok.noex,I.ok.exfs,I.ok.funs,I.ok.frf,I.ok.tb],I.os,I.bare,I.base,I.loc,I.cell,I.free,I.freeC,I.pin,I.hok,I.len]
def Fz (I:Inv (PF X a) pins σ H s):Inv X pins σ H s:=
 #[#[I.ok.mod,I.ok.kind,I.ok.glob,I.ok.blt,I.ok.above,I.ok.inj,I.ok.has,I.ok.cab,I.ok.hd,I.ok.frames,I.ok.stk,I.ok.exf,I.ok.bs,I.ok.bsz,I.ok.noex,I.ok.exfs,I.ok.funs,I.ok.frf,I.ok.tb],I.os,I.bare,I.base,I.loc,I.cell,I.free,I.freeC,I.pin,I.hok,I.len]
def SH {D2:Nu}{f:Flow}(h:SP (PF X a) pins D2 f s):SP X pins D2 f s:=by
 cases f with
 |next=>obtain⟨σ',H',I',q⟩:=h;exact#[σ',H',Fz I',q]
 |cont=>obtain⟨σ',H',I',q⟩:=h;exact#[σ',H',Fz I',q]
 |brk=>obtain⟨σ',H',I',q⟩:=h;exact#[σ',H',Fz I',q]
 |ret v=>obtain⟨x,σ',H',I',r,q⟩:=h;exact#[x,σ',H',Fz I',r,q]
def S7 {st:List Stmt}{t:TS}(h:PSs (PF X a) st t):PSs X st t:=λpins s σ H D I q=>
 thn (h pins s σ H D (TY I) q) λf s1 h1=>SH h1
def Ut {N:List Str}{ws vs0:List V}{xs0 ds:List D}{z:Hp}(hz:Bp z H)(hza:z a=none)(hk:X.K.lookup a=none)(hv:H a=some (.lst vs0))(iv:Iss X.K z vs0 xs0)(iw:Iss X.K z ws ds) :
 Rep (PF X a) #[Po a H,z] (BI N (.l xs0::ds.map S.d)) (L2.start N (.ref a::ws)) #[H,z]:=by
 have len:(V.ref a::ws).length=(S.l xs0::ds.map S.d).length:=by simp[iw.1]
 have st:∀(i:Nat)(s:S),(BI N (.l xs0::ds.map S.d))[i]? = some (some s)->(S.l xs0::ds.map S.d)[i]? = some s:=λi s h=>JK h;have sg:∀(i:Nat)(v:V),(V.ref a::ws)[i]? = some v->(L2.start N (.ref a::ws))[i]? = some (some v):=λi v h=>by
  have hi:=(qAe.mp h).1;unfold L2.start;rw[qAu (by simpa using hi),qAd,h];rfl
 have onlyl:∀(i:Nat)(s:S),(S.l xs0::ds.map S.d)[i]? = some s->s.isL=true->i=0:=λi s h hl=>by
  cases i with
  |zero=>rfl
  |succ i=>
   rw[qBN,qAd]at h;cases e:ds[i]? with
   |none=>rw[e]at h;cases h
   |some d=>rw[e]at h;cases h;cases hl
 refine#[by unfold L2.start BI;simp[iw.1],#[VD,Bp.refl _,hz,λ_ _ e=>.inl e],λi s h=>?_,λi xs c h1 h2=>?_,λi j xs s c hij h1 h2 hs h3=>?_,(λh=>by cases h),λi c h=>?_]
 .have h':=st i s h;cases i with
  |zero=>
   cases h';exact#[.ref a,sg 0 _ rfl,a,vs0,rfl,hv,iv]
  |succ i=>
   rw[qBN,qAd]at h';cases e:ds[i]? with
   |none=>rw[e]at h';cases h'
   |some d=>
    rw[e]at h';cases h';have hi:=(qAe.mp e).1;have hw:ws[i]? = some (ws[i]'(by rw[iw.1];exact hi)):=qAb (by rw[iw.1];exact hi);exact#[_,sg (i+1) _ (by rw[qBN];exact hw),iw.2 i _ d hw e]
 .have e0:=onlyl i _ (st i _ h1) rfl;subst e0;have:=sg 0 (.ref a) rfl;rw[h2]at this;cases this;exact#[Ww,hk,hza]
 .have e1:=onlyl i _ (st i _ h1) rfl;have e2:=onlyl j _ (st j _ h2) hs;exact absurd (e1.trans e2.symm) hij
 .cases h;exact sg 0 _ rfl
end
section
variable {P:Program}{w:World}{K:W.Frag}{mg:Str->Option Value}{base:Heap}
def fnM {x qual:Str}{st:Stmt}{f:Addr}{fd:FuncData}{N ps:List Str}{k:Nat}{sp:SpM}(F:Fun K x qual st f fd)(Sc:Ae N ps (Aa st))(len:∀xs ds R,sp xs ds R->↥ds+1=↥ps)
 (hbody:∀(cdv:Value)(A:Around)(outer:List Env)(s:Shared)(H:Hp)(E:XK)(a:Addr)(xs ds:List D)(R:List D->Prop),DC k (A.deeper (envOfC qual (Aa st) s.heap.objs.size f cdv))->sp xs ds R ->
  ∃t,Dp (PF (JW CX0 P w K mg base N qual (Aa st) f cdv A outer s H E).nox a) (BV st) t/\t { nx:=λτ=>∃ys,τ[0]? = some (some (.l ys))/\R ys,rt:=λ_=>False } (BI N (.l xs::ds.map S.d))):Ao P w K mg base CX0 (k+1) f fd ps (PR K sp):=by
 refine F.ok Sc (λvs H Q E hh=>by obtain⟨z,a,ws,vs0,xs0,ds,R,rfl,_,_,_,_,_,iw,h3,_⟩:=hh;rw[qAU,iw.1];exact len _ _ _ h3) λcdv A outer s H vs Q E hr hh=>?_;obtain⟨z,a,ws,vs0,xs0,ds,R,rfl,hz,hza,hk,hv,iv,iw,h3,q⟩:=hh;obtain⟨t,ht,hq⟩:=hbody cdv A outer s H E a xs0 ds R hr h3;refine#[_,S7 ht.out,#[Po a H,z],z,BI N (.l xs0::ds.map S.d),_,Ut hz hza hk hv iv iw,hq,#[λτ σ p r h=>?_,λ_ _ _ _ z=>z.elim,λ_ _ _ _ z=>z.elim,λs v p e i f h=>h.elim]];obtain⟨ys,hy,hR⟩:=h;have pn:=r.pin 0 a rfl;obtain⟨vs1,e1,e2⟩:=r.own_list hy pn;exact q p vs1 ys r.ext e1 (r.own 0 ys a hy pn).2.2 e2 hR
end
structure Zl (P:Program)(w:World)(K:W.Frag)(mg:Str->Option Value)(base:Heap)(k:Nat)(x:Str)(ps:List Str)(sp:SpM):Prop where
 ex:∃f fd,Ao P w K mg base CX0 k f fd ps (PR K sp)/\mg x=some (.ref f)/\W.keepIn K (.ref f)=true/\L2.Binds K fd ps []
def mkM {P:Program}{w:World}{K:W.Frag}{mg:Str->Option Value}{base h:Heap}(X:K.In h)(G:h.Ns mainGlobals mg){n:Str}{st:Stmt}(r:Rw K n st){k:Nat}{ps:List Str}{sp:SpM}(ok:∀{f:Addr}{fd:FuncData},L2.Fun K n n st f fd->rA K n f->Ao P w K mg base CX0 k f fd ps (PR K sp))
 (hb:Bnd st n ps:=by(intro _ _ _ _ _ _ us hl;first|(obtain⟨x0,rfl⟩:=V8 hl;rfl)|(obtain⟨x0,x1,rfl⟩:=N2 hl;rfl)|(obtain⟨x0,x1,x2,rfl⟩:=Nd hl;rfl)|(obtain⟨x0,x1,x2,x3,rfl⟩:=Vm hl;rfl))):Zl P w K mg base k n ps sp:=by
 obtain⟨a,l,c,k⟩:=r;have F:=KJ (st:=st) l c k;exact#[#[_,_,ok F a,qBn X G a,k,F.binds hb]]
section
variable {X:Cx}{e:Expr}{es:List Expr}{tr:TA3}
def Vl {K:W.Frag}{H:Hp}{a c:Addr}{vs:List V}(h:SqL K H c vs)(n:c≠a):SqL K (Po a H) c vs:=by
 rcases h with (h|⟨o,h⟩)|h
 .exact .inl (.inl (by rw[JU n];exact h))
 .exact .inl (.inr #[o,by rw[JU n];exact h])
 .exact .inr h
def Rep.grown {B p q:HZ}{τ:Tau}{σ:St}{j:Nat}{a:Addr}{xs xs1:List D}{vs1:List V}(r:Rep X B τ σ p)(hj:τ[j]? = some (some (.l xs)))(hσ:σ[j]? = some (some (.ref a)))(e:Ext #[Po a p.h,p.z] q)(hq:q.h a=some (.lst vs1))(hz:q.z a=none)(hi:Iss X.K q.z vs1 xs1) :
 Rep X B (τ.set j (some (.l xs1))) σ q:=by
 obtain⟨o1,o2,o3⟩:=r.own j xs a hj hσ;have up:∀b o,B.h b=some o->Po a p.h b=some o:=λb o h=>by
  have:b≠a:=λz=>by rw[z,o1]at h;cases h
  rw[JU this];exact r.ext.hh b o h
 have apart:∀(i:Nat)(s:S)(c:Addr),i≠j->τ[i]? = some (some s)->s.isL=true->σ[i]? = some (some (.ref c))->c≠a:=λi s c hn h1 h2 h3 z=>by
  rw[z]at h3;exact r.sep j i xs s a (λz=>hn z.symm) hj h1 h2 hσ h3
 refine#[by simp[r.len],#[λb o h=>e.hh b o (up b o h),r.ext.zz.trans e.zz,e.sub,λb o h=>?_],λi s h=>?_,λi ys c h1 h2=>?_,λi k ys s c hik h1 h2 hs h3=>?_,r.top,r.pin]
 .rcases e.new b o h with x|x
  .exact r.ext.new b o x
  .right;cases y:B.h b with
   |none=>rfl
   |some o'=>
    have x':Po a p.h b=none:=x;rw[up b o' y]at x';cases x'
 .rcases Ay h with⟨rfl,rfl⟩|⟨hn,h'⟩
  .exact#[.ref a,hσ,a,vs1,rfl,hq,hi]
  .obtain⟨v,h1,h2⟩:=r.val i s h';refine#[v,h1,?_];cases s with
   |d x=>exact Is.mono e.zz h2
   |l zs=>
    obtain⟨c,us,rfl,q1,q2⟩:=h2;exact#[c,us,rfl,e.hh c _ (by show Po a p.h c=_;rw[JU (apart i _ c hn h' rfl h1)];exact q1),q2.mono e.zz]
   |r zs=>
    obtain⟨c,us,rfl,q1,q2⟩:=h2;exact#[c,us,rfl,e.hh.seq (Vl q1 (apart i _ c hn h' rfl h1)),q2.mono e.zz]
 .rcases Ay h1 with⟨rfl,e1⟩|⟨hn,h1'⟩
  .rw[hσ]at h2;cases h2;exact#[o1,o2,hz]
  .obtain⟨w1,w2,w3⟩:=r.own i ys c h1' h2;refine#[w1,w2,?_];obtain⟨us,y1,_⟩:=r.own_list h1' h2;cases y:q.z c with
   |none=>rfl
   |some o=>
    rcases e.new c o y with x|x
    .have x':p.z c=some o:=x;rw[w3]at x';cases x'
    .have x':Po a p.h c=none:=x;rw[JU (apart i _ c hn h1' rfl h2),y1]at x';cases x'
 .rcases Ay h1 with⟨rfl,e1⟩|⟨hn,h1'⟩
  .rcases Ay h2 with⟨e3,_⟩|⟨_,h2'⟩
   .exact absurd e3.symm hik
   .exact r.sep i k xs s c hik hj h2' hs h3
  .rcases Ay h2 with⟨rfl,e4⟩|⟨_,h2'⟩
   .exact r.sep i k ys (.l xs) c hik h1' hj rfl h3
   .exact r.sep i k ys s c hik h1' h2' hs h3
def U7 (j:Nat)(sp:SpM)(tr:TA3):TS3:=λD3 τ=>match τ[j]? with
 |some (some (.l xs))=>tr τ λss=>match VT ss with
  |some ds=>sp xs ds (λys=>D3.nx (τ.set j (some (.l ys))))
  |none=>False
 |_=>False
def J3 {k j:Nat}{x y:Str}{ps:List Str}{sp:SpM}{p py pos pa:Pos}(c:Zl X.prog X.w X.K X.mg X.base k x ps sp)(hr:DC k X.A)(hg:Gl X x)(hv:PE X (.Name y py) (O1 j))(ha:PA3 X (e::es) tr)
 (hdb:(x==("__debug__":Str))=false:=by decide)(he:starEach (.Name y py::e::es) X.env=(false,eval (.Name y py) X.env)::starEach (e::es) X.env:=by exact Cm rfl)(hpl:(backTo pos (starEach (e::es) X.env)).any (·.1)=false:=by exact C7 rfl)
 (hs:swapsWith (.Call (.Name x p) (.Name y py::e::es) [] pos) none pa.line X.env=pure false:=by rfl) :
 PS3 X (.Expr (.Call (.Name x p) (.Name y py::e::es) [] pos) pa) (U7 j sp tr):=by
 refine#[?_];obtain⟨f,fd,F,hm,hk,hb⟩:=c.ex;refine C4 (Bx (RK F hr hg hm hk hb .nil Z2 (AM hv ha.out he) hdb he hpl) hs) λD2 σ H hh=>?_;obtain⟨B,z,τ,D3,r,ht,ct⟩:=hh;unfold U7 at ht;split at ht
 .rename_i xs hx;obtain⟨v,h1,a,vs,rfl,h3,h4⟩:=r.val j _ hx;refine#[.ref a,h1,B,_,τ,_,r,ht,λss ws q1 e1 i1 h2=>?_];split at h2
  .rename_i ds hd;rw[IJ hd]at i1;have iw:=Lj i1;have r1:=r.mono e1;obtain⟨o1,o2,o3⟩:=r1.own j xs a hx h1;obtain⟨vs',hv',iv'⟩:=r1.own_list hx h1;show PR X.K sp ((.ref a::ws)++[]) q1.h _ E0;rw[qA2];exact#[q1.z,a,ws,vs',xs,ds,_,rfl,e1.sub,o3,o2,hv',iv',iw,h2,λq vs1 xs1 e2 g1 g2 g3 hR=>ct.nx _ _ _ (r1.grown hx h1 e2 g1 g2 g3) hR]
  .exact h2.elim
 .exact ht.elim
end
section
variable {X:Cx}{e:Expr}
def bL (j:Nat):TT3:=λτ R=>match τ[j]? with
 |some (some (.l xs))=>R (!xs.isEmpty)
 |some (some (.r xs))=>R (!xs.isEmpty)
 |_=>False
def MJ {K:W.Frag}{H:Hp}{vs:List V}{xs:List D}(h:Iss K H vs xs):(!vs.isEmpty)=!xs.isEmpty:=by
 have:=h.1;cases vs<;>cases xs<;>first|rfl|(simp at this)
def ZU {j:Nat}(h:PE X e (O1 j))(he:∀whole,isTrue e X.env whole=(do let v <-whole;standAt e.pos;holding [v] (truthy v)):=by intro _;rfl):PT3 X e (bL j):=#[OP (Ui h he) λσ H Q hh=>by
 obtain⟨B,z,τ,R,r,ht,q⟩:=hh;unfold bL at ht;split at ht
 .rename_i xs hs;obtain⟨v,h1,a,vs,rfl,h3,h4⟩:=r.val j _ hs;exact#[.ref a,h1,!vs.isEmpty,.inl #[vs,SqL.of h3,rfl],q _ #[H,z] (Ext.refl r.ext.sub) (by rw[MJ h4];exact ht)]
 .rename_i xs hs;obtain⟨v,h1,a,vs,rfl,h3,h4⟩:=r.val j _ hs;exact#[.ref a,h1,!vs.isEmpty,.inl #[vs,h3,rfl],q _ #[H,z] (Ext.refl r.ext.sub) (by rw[MJ h4];exact ht)]
 .exact ht.elim]
end
open PySem PySem.Spec PyProof.Rows
structure QJ (P:Program)(w:World)(A:Around)(i l:Addr)(us:Array Value)(st:Nat->Heap->Prop):Prop where
 item:∀(t:Shared)(k:Nat)(u:Value)(Q:Value->Shared->Prop)(E:Value->Shared->Prop),st k t.heap->us[k]? = some u->(∀h1,st (k+1) h1->Heap.SameBut i t.heap h1->Q u { t with heap:=h1 })->wpAny (model P w) A (Builtin.SmallTypes.nextOf (.ref i)) Q E t
 done:∀(t:Shared)(k:Nat)(Q:Value->Shared->Prop)(E:Value->Shared->Prop),st k t.heap->us[k]? = none->(∀h1 x,Heap.ExtBut i t.heap h1->(∃o,h1.get? x=some o/\o.cls=.type "StopIteration")->E (.ref x) { t with heap:=h1 })->wpAny (model P w) A (Builtin.SmallTypes.nextOf (.ref i)) Q E t
 keep:∀(k:Nat)(h h1:Heap),st k h->(∀b o,b=i\/b=l->h.get? b=some o->h1.get? b=some o)->st k h1
def stL (i l:Addr)(us:Array Value)(k:Nat)(h:Heap):Prop:=h.IsListIter i l k/\h.IsList l us
def stT (i l:Addr)(us:Array Value)(k:Nat)(h:Heap):Prop:=h.IsTupleIter i l k/\h.IsTuple l us
section
variable {P:Program}{w:World}{A:Around}
def S5 (hd:A.handled=none){i l:Addr}(ne:l≠i)(us:Array Value):QJ P w A i l us (stL i l us) where
 item:=λt k u Q E s1 hu q=>wpAny_nextOf_list_item s1.1 s1.2 hu λh1 a b=>q h1 #[a,s1.2.extBut b.extBut ne] b
 done:=λt k Q E s1 hu q=>wpAny_nextOf_list_end hd s1.1 s1.2 hu q
 keep:=λk h h1 s1 e=>#[s1.1.at λo z=>e i o (.inl rfl) z,s1.2.at λo z=>e l o (.inr rfl) z]
def Sq (hd:A.handled=none){i l:Addr}(ne:l≠i)(us:Array Value):QJ P w A i l us (stT i l us) where
 item:=λt k u Q E s1 hu q=>by
  obtain⟨⟨ob,g1,g2,g3⟩,oT,f1,f2,nT,f3⟩:=id s1;have ty:=s1.1.typeIs (s:=t);refine qC1 (wpAny_callSpecial?_slot (name:=Str.ofString "__next__") ty qBI (wpAny_call_entry qBI ty qCA ?_ (qCv _)));refine(qC1 (qC4 g1 g3 (x:=Value.ref l) rfl ?_):wpAny _ _ (field (Value.ref i) 0 >>= _) _ _ t);refine(?_:wpAny _ _ (if (Value.ref l==Value.none)=true then _ else _) _ _ t);rw[qC5 (by intro z;cases z)];refine(qC1 (qC4 g1 g3 (x:=Value.int k 0) rfl ?_):wpAny _ _ (field (Value.ref i) 1 >>= _) _ _ t);refine(qC1 (wpAny_seqItems f1 f3 ?_):wpAny _ _ (seqItems? (Value.ref l) >>= _) _ _ t);simp only[qBV,hu];refine qC1 (wpAny_setField g1 g3 (by simp) (qC2 #[u,rfl,qC2 (q _ #[?_,s1.2.extBut (Heap.SameBut.update ..).extBut ne] (Heap.SameBut.update ..))]));refine#[_,qBq _ g1 (Obj.isFreed_of_fields (Obj.data_mapFields g3 _)),(Obj.cls_mapFields ..).trans g2,?_];rw[Obj.data_mapFields g3];simp[rawInt]
 done:=λt k Q E s1 hu q=>by
  obtain⟨⟨ob,g1,g2,g3⟩,oT,f1,f2,nT,f3⟩:=id s1;have ty:=s1.1.typeIs (s:=t);refine qC1 (wpAny_callSpecial?_slot (name:=Str.ofString "__next__") ty qBI (wpAny_call_entry qBI ty qCA ?_ (qCv _)));refine(qC1 (qC4 g1 g3 (x:=Value.ref l) rfl ?_):wpAny _ _ (field (Value.ref i) 0 >>= _) _ _ t);refine(?_:wpAny _ _ (if (Value.ref l==Value.none)=true then _ else _) _ _ t);rw[qC5 (by intro z;cases z)];refine(qC1 (qC4 g1 g3 (x:=Value.int k 0) rfl ?_):wpAny _ _ (field (Value.ref i) 1 >>= _) _ _ t);refine(qC1 (wpAny_seqItems f1 f3 ?_):wpAny _ _ (seqItems? (Value.ref l) >>= _) _ _ t);simp only[qBV,hu];refine qC1 (wpAny_rule (qC1 (wpAny_setField g1 g3 (by simp) ?_)));refine(qC1 ?_:wpAny _ _ (newExc (.type "StopIteration") [] >>= _) _ _ _);simp only[newExc,newTuple];refine qC1 (wpAny_newObj_type ?_ (by size_fits));refine qC1 (m:=firstArgMember _ _) (wpAny_of_eq (a:=Value.none) (by first|rfl|(unfold firstArgMember;rfl)) ?_);refine wpAny_newObj_type ?_ (by size_fits);unfold raiseNew;refine qC1 (wpAny_handled ?_);have hd1:A.in1.handled=none:=hd;rw[hd1];exact qC1 (qC2 (wpAny_throw (q _ _ (((Heap.SameBut.update ..).extBut.push _).push _) #[_,qAy _ rfl,rfl])))
 keep:=λk h h1 s1 e=>by
  obtain⟨⟨ob,g1,g2⟩,oT,f1,f2⟩:=s1;exact#[#[ob,e i ob (.inl rfl) g1,g2],oT,e l oT (.inr rfl) f1,f2]
structure ZAp (z TI TO i1 i2 l1 l2:Addr):Prop where
 a1:TI≠z/\TO≠z/\i1≠z/\i2≠z/\l1≠z/\l2≠z
 a2:TI≠TO/\i1≠TO/\i2≠TO/\l1≠TO/\l2≠TO
 a3:TI≠i1/\i2≠i1/\l2≠i1/\TI≠i2/\l1≠i2
 a4:l1≠i1/\l2≠i2
variable {z TI TO i1 i2 l1 l2:Addr}{us1 us2:Array Value}{st1 st2:Nat->Heap->Prop}{s:Shared}{E:Value->Shared->Prop}
def Ux (D:ZAp z TI TO i1 i2 l1 l2)(S1:QJ P w A i1 l1 us1 st1)(S2:QJ P w A i2 l2 us2 st2){k:Nat}{x y a b:Value}{Q:Value->Shared->Prop}(Hz:IsZip s.heap z TI TO .none)(Ht:IsPair s.heap TI (.ref i1) (.ref i2))(Ho:IsPair s.heap TO a b)
 (c1:st1 k s.heap) (c2:st2 k s.heap) (hx:us1[k]? = some x) (hy:us2[k]? = some y)
 (fin:∀h',IsZip h' z TI TO (rawInt s.heap.objs.size)->IsPair h' TO x y->st1 (k+1) h'->st2 (k+1) h'->IsPair h' s.heap.objs.size x y->(∀c o,c≠z->c≠TO->c≠i1->c≠i2->s.heap.get? c=some o->h'.get? c=some o)->Q (.ref s.heap.objs.size) { s with heap:=h' }) :
 wpAny (model P w) A (Builtin.«zip.__next__» #[[.ref z],[]]) (λf s'=>∃v,f=.done (.ret v)/\Q v s') E s:=by
 obtain⟨⟨d1,d2,d3,d4,d5,d6⟩,⟨e1,e2,e3,e4,e5⟩,⟨f1,f2,f3,f4,f5⟩,_⟩:=D;refine(qC1 (qC4 Hz rfl (x:=Value.bool false) rfl ?_):wpAny _ _ (field (Value.ref z) 2 >>= _) _ _ _);refine(qC1 (qC4 Hz rfl (x:=Value.ref TI) rfl ?_):wpAny _ _ (field (Value.ref z) 3 >>= _) _ _ _);refine qC1 (wpAny_seqItems Ht rfl ?_);refine(qC1 ?_:wpAny _ _ (Builtin.SmallTypes.ownedTupleIsFree (Value.ref z) >>= _) _ _ _);refine qC1 (qC4 Hz rfl (x:=Value.none) rfl (qC2 ?_));simp only[if_true];refine qC1 (wpAny_rule (qC1 (qC4 Hz rfl (x:=Value.ref TO) rfl (qC1 (wpAny_setField_rec Hz (by simp) λg1 Hz1 m1=>?_)))));have Hz1:IsZip g1 z TI TO .ellipsis:=Hz1;refine qC1 ?_;simp only[List.zipIdx_cons,List.zipIdx_nil,qB4,qCU];have c1a:st1 k g1:=S1.keep k _ _ c1 λb o hb e=>by
  rcases hb with rfl|rfl
  .exact m1.extBut _ _ d3 e
  .exact m1.extBut _ _ d5 e
 refine qC1 (qC1 (wpAny_onRaise (?_:wpAny _ _ (Builtin.SmallTypes.nextOf (Value.ref i1) >>= _) _ _ _)));refine qC1 (S1.item _ k x _ _ c1a hx λg2 c1b m2=>qC2 ?_);have Ho2:IsPair g2 TO a b:=m2.extBut _ _ (Ne.symm e2) (m1.extBut _ _ d2 Ho);refine qC1 (wpAny_seqItems Ho2 rfl (qC1 (wpAny_updateSeq_pair Ho2 λg3 Ho3 m3=>qC1 (wpAny_letGo (qC2 ?_)))));have Ho3:IsPair g3 TO x b:=Ho3;have c2a:st2 k g3:=S2.keep k _ _ c2 λb o hb e=>by
  rcases hb with rfl|rfl
  .exact m3.extBut _ _ e3 (m2.extBut _ _ f2 (m1.extBut _ _ d4 e))
  .exact m3.extBut _ _ e5 (m2.extBut _ _ f3 (m1.extBut _ _ d6 e))
 refine qC1 (qC1 (wpAny_onRaise (?_:wpAny _ _ (Builtin.SmallTypes.nextOf (Value.ref i2) >>= _) _ _ _)));refine qC1 (S2.item _ k y _ _ c2a hy λg4 c2b m4=>qC2 ?_);have Ho4:IsPair g4 TO x b:=m4.extBut _ _ (Ne.symm e3) Ho3;refine qC1 (wpAny_seqItems Ho4 rfl (qC1 (wpAny_updateSeq_pair Ho4 λg5 Ho5 m5=>qC1 (wpAny_letGo (qC2 (qC2 ?_))))));have Ho5:IsPair g5 TO x y:=Ho5;have sz:g5.objs.size=s.heap.objs.size:=by rw[m5.1,m4.1,m3.1,m2.1,m1.1]
 have Hz5:IsZip g5 z TI TO .ellipsis:=m5.extBut _ _ (Ne.symm d2) (m4.extBut _ _ (Ne.symm d4) (m3.extBut _ _ (Ne.symm d2) (m2.extBut _ _ (Ne.symm d3) Hz1)));have old:∀c o,c≠z->c≠TO->c≠i1->c≠i2->s.heap.get? c=some o->g5.get? c=some o:=λc o n1 n2 n3 n4 e=>
  m5.extBut _ _ n2 (m4.extBut _ _ n4 (m3.extBut _ _ n2 (m2.extBut _ _ n3 (m1.extBut _ _ n1 e))))
 have at5:∀b o,b≠TO->b≠i2->g2.get? b=some o->g5.get? b=some o:=λb o n1 n2 e=>m5.extBut _ _ n1 (m4.extBut _ _ n2 (m3.extBut _ _ n1 e));have lz:z<g5.objs.size:=qAj Hz5;refine qC1 (wpAny_seqItems Ho5 rfl (qC1 (wpAny_newTuple ?_)));refine(qC1 ?_:wpAny _ _ (Builtin.SmallTypes.ownedTupleHandOut (Value.ref z) (Value.ref g5.objs.size) >>= _) _ _ _);have Hz6:IsZip (g5.push { cls:=.type "tuple",data:=.seq (List.toArray [x,y]) }) z TI TO .ellipsis:=qAh _ Hz5;refine qC1 (wpAny_setField_rec Hz6 (by simp) λg7 Hz7 m7=>?_);have Hz7:IsZip g7 z TI TO (rawInt g5.objs.size):=Hz7;refine wpAny_setField_rec Hz7 (by simp) λg8 Hz8 m8=>?_;have Hz8:IsZip g8 z TI TO (rawInt g5.objs.size):=Hz8;have up:∀c o,c≠z->g5.get? c=some o->g8.get? c=some o:=λc o n e=>m8.extBut _ _ n (m7.extBut _ _ n (qAh _ e));have new8:IsPair g8 g5.objs.size x y:=m8.extBut _ _ (qBg lz) (m7.extBut _ _ (qBg lz) (qAy _ rfl));rw[sz]at Hz8 new8;have k1:st1 (k+1) g8:=S1.keep _ _ _ c1b λb o hb e=>by
  rcases hb with rfl|rfl
  .exact up _ _ d3 (at5 _ _ e2 (Ne.symm f2) e)
  .exact up _ _ d5 (at5 _ _ e4 f5 e)
 have k2:st2 (k+1) g8:=S2.keep _ _ _ c2b λb o hb e=>by
  rcases hb with rfl|rfl
  .exact up _ _ d4 (m5.extBut _ _ e3 e)
  .exact up _ _ d6 (m5.extBut _ _ e5 e)
 refine qC2 #[_,rfl,(?_:Q (.ref g5.objs.size) _)];rw[sz];exact fin g8 Hz8 (up _ _ d2 Ho5) k1 k2 new8 λc o n1 n2 n3 n4 e=>up c o n1 (old c o n1 n2 n3 n4 e)
def TK (hd:A.handled=none)(D:ZAp z TI TO i1 i2 l1 l2)(S1:QJ P w A i1 l1 us1 st1)(S2:QJ P w A i2 l2 us2 st2){k:Nat}{a b:Value}{Q:Fin->Shared->Prop}(Hz:IsZip s.heap z TI TO .none)(Ht:IsPair s.heap TI (.ref i1) (.ref i2))(Ho:IsPair s.heap TO a b)
 (c1:st1 k s.heap) (c2:st2 k s.heap) (he:us1[k]? = none\/us2[k]? = none)
 (fin:∀h' e,(∀c o,c≠z->c≠TO->c≠i1->c≠i2->s.heap.get? c=some o->h'.get? c=some o)->(∃o,h'.get? e=some o/\o.cls=.type "StopIteration")->E (.ref e) { s with heap:=h' }) :
 wpAny (model P w) A (Builtin.«zip.__next__» #[[.ref z],[]]) Q E s:=by
 obtain⟨⟨d1,d2,d3,d4,d5,d6⟩,⟨e1,e2,e3,e4,e5⟩,⟨f1,f2,f3,f4,f5⟩,_⟩:=D;refine(qC1 (qC4 Hz rfl (x:=Value.bool false) rfl ?_):wpAny _ _ (field (Value.ref z) 2 >>= _) _ _ _);refine(qC1 (qC4 Hz rfl (x:=Value.ref TI) rfl ?_):wpAny _ _ (field (Value.ref z) 3 >>= _) _ _ _);refine qC1 (wpAny_seqItems Ht rfl ?_);refine(qC1 ?_:wpAny _ _ (Builtin.SmallTypes.ownedTupleIsFree (Value.ref z) >>= _) _ _ _);refine qC1 (qC4 Hz rfl (x:=Value.none) rfl (qC2 ?_));simp only[if_true];refine qC1 (wpAny_rule (qC1 (qC4 Hz rfl (x:=Value.ref TO) rfl (qC1 (wpAny_setField_rec Hz (by simp) λg1 Hz1 m1=>?_)))));have Hz1:IsZip g1 z TI TO .ellipsis:=Hz1;refine qC1 ?_;simp only[List.zipIdx_cons,List.zipIdx_nil,qB4,qCU];have c1a:st1 k g1:=S1.keep k _ _ c1 λb o hb e=>by
  rcases hb with rfl|rfl
  .exact m1.extBut _ _ d3 e
  .exact m1.extBut _ _ d5 e
 refine qC1 (qC1 (wpAny_onRaise (?_:wpAny _ _ (Builtin.SmallTypes.nextOf (Value.ref i1) >>= _) _ _ _)));have out:∀{g:Heap}{x:Addr}(n:IsZip g z TI TO .ellipsis) (g':Heap) (m:Heap.SameBut z g g'),(∃o,g.get? x=some o/\o.cls=.type "StopIteration")->∃o,g'.get? x=some o/\o.cls=.type "StopIteration":=λ{g x} n g' m #[o,h1,h2]=>
  #[o,m.extBut _ _ (λy=>by subst y;rw[n]at h1;cases h1;simp at h2) h1,h2]
 cases hx:us1[k]? with
 |none=>
  refine qC1 (S1.done _ k _ _ c1a hx λg2 x m2 hs=>?_);have Hz2:IsZip g2 z TI TO .ellipsis:=m2 _ _ (Ne.symm d3) Hz1;exact wpAny_setField_rec Hz2 (by simp) λg3 _ m3=>fin g3 x (λc o n1 _ n3 _ e=>m3.extBut _ _ n1 (m2 _ _ n3 (m1.extBut _ _ n1 e))) (out Hz2 g3 m3 hs)
 |some x=>
  have hy:us2[k]? = none:=he.resolve_left (by rw[hx];simp);refine qC1 (S1.item _ k x _ _ c1a hx λg2 c1b m2=>qC2 ?_);have Ho2:IsPair g2 TO a b:=m2.extBut _ _ (Ne.symm e2) (m1.extBut _ _ d2 Ho);refine qC1 (wpAny_seqItems Ho2 rfl (qC1 (wpAny_updateSeq_pair Ho2 λg3 Ho3 m3=>qC1 (wpAny_letGo (qC2 ?_)))));have c2a:st2 k g3:=S2.keep k _ _ c2 λb o hb e=>by
   rcases hb with rfl|rfl
   .exact m3.extBut _ _ e3 (m2.extBut _ _ f2 (m1.extBut _ _ d4 e))
   .exact m3.extBut _ _ e5 (m2.extBut _ _ f3 (m1.extBut _ _ d6 e))
  refine qC1 (qC1 (wpAny_onRaise (?_:wpAny _ _ (Builtin.SmallTypes.nextOf (Value.ref i2) >>= _) _ _ _)));refine qC1 (S2.done _ k _ _ c2a hy λg4 x m4 hs=>?_);have Hz4:IsZip g4 z TI TO .ellipsis:=m4 _ _ (Ne.symm d4) (m3.extBut _ _ (Ne.symm d2) (m2.extBut _ _ (Ne.symm d3) Hz1));exact wpAny_setField_rec Hz4 (by simp) λg5 _ m5=>fin g5 x (λc o n1 n2 n3 n4 e=>m5.extBut _ _ n1 (m4 _ _ n4 (m3.extBut _ _ n2 (m2.extBut _ _ n3 (m1.extBut _ _ n1 e))))) (out Hz4 g5 m5 hs)
end
abbrev zpA (h:Heap)(l1:Addr):Heap:=h.push { cls:=.type "tuple_iterator",data:=.fields (List.toArray [.ref l1,.int 0 0]) }
abbrev zpB (h:Heap)(l1 l2:Addr):Heap:=(zpA h l1).push { cls:=.type "list_iterator",data:=.fields (List.toArray [.ref l2,.int 0 0]) }
abbrev zpC (h:Heap)(l1 l2:Addr):Heap:=(zpB h l1 l2).push { cls:=.type "tuple",data:=.seq (List.toArray [.ref h.objs.size,.ref (zpA h l1).objs.size]) }
abbrev zpD (h:Heap)(l1 l2:Addr):Heap:=(zpC h l1 l2).push { cls:=.type "tuple",data:=.seq (List.toArray [.none,.none]) }
abbrev zpE (h:Heap)(l1 l2:Addr):Heap:=(zpD h l1 l2).push { cls:=.type "zip",data:=.fields (List.toArray [.none,.bool false,.bool false,.ref (zpB h l1 l2).objs.size,.ref (zpC h l1 l2).objs.size]) }
def Qf (l1 l2:Addr)(xs ys:Array Value) :
 Meets (Builtin.«zip.__new__» #[[.type "zip",.ref l1,.ref l2],[]]) (λ_ R s=>s.heap.IsTuple l1 xs/\s.heap.IsList l2 ys/\R (.ok (.ret (.ref (zpD s.heap l1 l2).objs.size))) { s with heap:=zpE s.heap l1 l2 }):=
 .of_wp λprog w A R s h=>by
  obtain⟨hp,g,d,tk,os⟩:=s;obtain⟨t1,t2,h⟩:=h;have hsub:=sub_zip;have q1:Heap.IsTuple (Shared.heap #[hp,g,d,tk,os]) l1 xs:=t1;have q2:Heap.IsList (Shared.heap #[hp.push { cls:=.type "tuple_iterator",data:=.fields (List.toArray [.ref l1,.int 0 0]) },g,d,tk,os]) l2 ys:=Heap.IsList.push t2 _
  wp_walk using wpAny_pyIter_tuple q1,wpAny_pyIter_list q2
  exact#[_,rfl,h]
section
variable {P:Program}{w:World}{A:Around}{E:Value->Shared->Prop}{s:Shared}
def Pr {l1 l2:Addr}{xs ys:Array Value}{Q:Value->Shared->Prop}(t1:s.heap.IsTuple l1 xs)(t2:s.heap.IsList l2 ys)
 (fin:∀h',IsZip h' (s.heap.objs.size+4) (s.heap.objs.size+2) (s.heap.objs.size+3) .none->IsPair h' (s.heap.objs.size+2) (.ref s.heap.objs.size) (.ref (s.heap.objs.size+1))->IsPair h' (s.heap.objs.size+3) .none .none ->
  h'.IsTupleIter s.heap.objs.size l1 0->h'.IsListIter (s.heap.objs.size+1) l2 0->(∀c o,s.heap.get? c=some o->h'.get? c=some o)->Q (.ref (s.heap.objs.size+4)) { s with heap:=h' }) :
 wpAny (model P w) A (call (.type "zip") [.ref l1,.ref l2]) Q E s:=by
 refine callType_new F.called_zip ∅ (F.typeCall_zip_2 _ _) (F.newCall_zip_2 _ _) (λob=>F.args_object_init_3 ob _ _) F.entry_zip_new (Qf l1 l2 xs ys) #[t1,t2,?_];have n1:(zpA s.heap l1).objs.size=s.heap.objs.size+1:=qBW ..;have n2:(zpB s.heap l1 l2).objs.size=s.heap.objs.size+2:=by rw[qBW,n1]
 have n3:(zpC s.heap l1 l2).objs.size=s.heap.objs.size+3:=by rw[qBW,n2]
 have n4:(zpD s.heap l1 l2).objs.size=s.heap.objs.size+4:=by rw[qBW,n3]
 have o5:(zpE s.heap l1 l2).get? (zpD s.heap l1 l2).objs.size=some _:=qAy _ rfl;have o4:(zpE s.heap l1 l2).get? (zpC s.heap l1 l2).objs.size=some _:=qAh _ (qAy _ rfl);have o3:(zpE s.heap l1 l2).get? (zpB s.heap l1 l2).objs.size=some _:=qAh _ (qAh _ (qAy _ rfl));have o2:(zpE s.heap l1 l2).get? (zpA s.heap l1).objs.size=some _:=qAh _ (qAh _ (qAh _ (qAy _ rfl)));have o1:(zpE s.heap l1 l2).get? s.heap.objs.size=some _:=qAh _ (qAh _ (qAh _ (qAh _ (qAy _ rfl))));refine(?_:_/\_);rw[n2,n3,n4]at o5;rw[n1,n2]at o3;rw[n3]at o4;rw[n1]at o2;rw[n4];exact#[#[_,o5,rfl],fin _ o5 o3 o4 #[_,o1,rfl,rfl] #[_,o2,rfl,rfl] λc o x=>qAh _ (qAh _ (qAh _ (qAh _ (qAh _ x))))]
variable {z TI TO i1 i2 l1 l2:Addr}{us1 us2:Array Value}{st1 st2:Nat->Heap->Prop}
def T5 (D:ZAp z TI TO i1 i2 l1 l2)(S1:∀A':Around,A'.handled=A.handled->QJ P w A' i1 l1 us1 st1)(S2:∀A':Around,A'.handled=A.handled->QJ P w A' i2 l2 us2 st2){k:Nat}{x y a b:Value}{Q:Option Value->Shared->Prop}(Hz:IsZip s.heap z TI TO .none)(Ht:IsPair s.heap TI (.ref i1) (.ref i2))(Ho:IsPair s.heap TO a b)
 (c1:st1 k s.heap) (c2:st2 k s.heap) (hx:us1[k]? = some x) (hy:us2[k]? = some y)
 (fin:∀h',IsZip h' z TI TO (rawInt s.heap.objs.size)->IsPair h' TO x y->st1 (k+1) h'->st2 (k+1) h'->IsPair h' s.heap.objs.size x y->(∀c o,c≠z->c≠TO->c≠i1->c≠i2->s.heap.get? c=some o->h'.get? c=some o)->Q (some (.ref s.heap.objs.size)) { s with heap:=h' }) :
 wpAny (model P w) A (pyNext (.ref z)) Q E s:=by
 have ty:s.TypeIs (.ref z) "zip":=#[_,Hz,rfl];refine qC1 (wpAny_attempt (wpAny_callSpecial?_slot (name:=Str.ofString "__next__") ty qCn (wpAny_call_entry qCn ty F.entry_zip_next ?_ (F.args_zip_next_1 _))));refine Ux (A:=A.in1) D (S1 A.in1 rfl) (S2 A.in1 rfl) Hz Ht Ho c1 c2 hx hy λh' b1 b2 b3 b4 b5 b6=>?_;exact qC2 (fin h' b1 b2 b3 b4 b5 b6)
def TJ (hd:A.handled=none)(D:ZAp z TI TO i1 i2 l1 l2)(S1:∀A':Around,A'.handled=A.handled->QJ P w A' i1 l1 us1 st1)(S2:∀A':Around,A'.handled=A.handled->QJ P w A' i2 l2 us2 st2){k:Nat}{a b:Value}{Q:Option Value->Shared->Prop}(Hz:IsZip s.heap z TI TO .none)(Ht:IsPair s.heap TI (.ref i1) (.ref i2))(Ho:IsPair s.heap TO a b)
 (c1:st1 k s.heap) (c2:st2 k s.heap) (he:us1[k]? = none\/us2[k]? = none)
 (fin:∀h',(∀c o,c≠z->c≠TO->c≠i1->c≠i2->s.heap.get? c=some o->h'.get? c=some o)->Q none { s with heap:=h' }):wpAny (model P w) A (pyNext (.ref z)) Q E s:=by
 have ty:s.TypeIs (.ref z) "zip":=#[_,Hz,rfl];refine qC1 (wpAny_attempt (wpAny_callSpecial?_slot (name:=Str.ofString "__next__") ty qCn (wpAny_call_entry qCn ty F.entry_zip_next ?_ (F.args_zip_next_1 _))));refine TK (A:=A.in1) hd D (S1 A.in1 rfl) (S2 A.in1 rfl) Hz Ht Ho c1 c2 he λh' e kp hs=>?_;obtain⟨o,g1,g2⟩:=hs;exact qC1 (wpAny_isInstance (T:="StopIteration") (b:=true) #[o,g1,g2] isSubtype_stop (qC2 (fin _ kp)))
end
def SqB (K:W.Frag)(b:Bool)(H:Hp)(a:Addr)(xs:List V):Prop:=if b=true then SqT K H a xs else SqL K H a xs
def ItB (b:Bool)(h:Heap)(i l:Addr)(k:Nat):Prop:=if b=true then h.IsTupleIter i l k else h.IsListIter i l k
def Itz (K:W.Frag)(b1 b2:Bool)(l1 l2:Addr):It:=
 #[λi H=>∃xs ys x y,SqB K b1 H l1 xs/\SqB K b2 H l2 ys/\xs[i]? = some x/\ys[i]? = some y,
  λi H v H'=>∃p x y,H p=none/\v=.ref p/\(∀xs,SqB K b1 H l1 xs->xs[i]? = some x)/\(∀ys,SqB K b2 H l2 ys->ys[i]? = some y)/\H'=upd H p (.tup [x,y]),
  λi H=>∃xs ys,SqB K b1 H l1 xs/\SqB K b2 H l2 ys/\(↥xs<=i\/↥ys<=i)]
def IQ {b:Bool}{h h':Heap}{i l:Addr}{k:Nat}(a:ItB b h i l k)(e:∀o,h.get? i=some o->h'.get? i=some o):ItB b h' i l k:=by
 unfold ItB at *
 split at a
 .rename_i c;rw[qC6 c];obtain⟨o,g1,g2⟩:=a;exact#[o,e o g1,g2]
 .rename_i c;rw[qC5 c];exact a.at λo z=>e o z
def Lh {b:Bool}{h:Heap}{i l:Addr}{k:Nat}(a:ItB b h i l k):∃o,h.get? i=some o/\∀v,o.data≠.cell v:=by
 unfold ItB at a;split at a
 .obtain⟨o,g1,g2,g3⟩:=a;exact#[o,g1,λv z=>by rw[g3]at z;cases z]
 .obtain⟨o,g1,g2,g3⟩:=a;exact#[o,g1,λv z=>by rw[g3]at z;cases z]
def stB (b:Bool)(i l:Addr)(us:Array Value)(k:Nat)(h:Heap):Prop:=if b=true then stT i l us k h else stL i l us k h
def Uv {P:Program}{w:World}{A:Around}(hd:A.handled=none)(b:Bool){i l:Addr}(ne:l≠i)(us:Array Value):QJ P w A i l us (stB b i l us):=by
 cases b with
 |true=>exact Sq hd ne us
 |false=>exact S5 hd ne us
section
variable {X:Cx}{pins:List (Addr×Obj)}{σ:St}{H:Hp}{s:Shared}
def LF {b:Bool}{l:Addr}{xs:List V}(I:Inv X pins σ H s)(q:SqB X.K b H l xs):∃its:List Value,B4 xs its/\∀i k,ItB b s.heap i l k->stB b i l its.toArray k s.heap:=by
 unfold SqB at q;cases b with
 |true=>
  obtain⟨its,rv,p,hz⟩:=I.tuple q;exact#[its,rv,λi k a=>#[a,p]]
 |false=>
  obtain⟨its,rv,p,hz⟩:=I.list q;exact#[its,rv,λi k a=>#[a,p.isList]]
def RY {b:Bool}{l:Addr}{xs ys:List V}(I:Inv X pins σ H s)(q:SqB X.K b H l xs)(r:SqB X.K b H l ys):ys=xs:=by
 unfold SqB at q r;cases b with
 |true=>exact I.tuple_inj r q
 |false=>exact I.list_inj r q
end
def tnZ (b1 b2:Bool)(z TI TO i1 i2 l1 l2:Addr)(i:Nat)(h:Heap):Prop:=IsZip h z TI TO .none/\IsPair h TI (.ref i1) (.ref i2)/\(∃a b,IsPair h TO a b)/\ItB b1 h i1 l1 i/\ItB b2 h i2 l2 i
def UG {b:Bool}{i l:Addr}{us:Array Value}{k:Nat}{h:Heap}(a:stB b i l us k h):ItB b h i l k:=by
 unfold stB at a;unfold ItB;split at a
 .rename_i c;rw[qC6 c];exact a.1
 .rename_i c;rw[qC5 c];exact a.1
def S3 {P:Program}{w:World}{K:W.Frag}{elts:List Expr}{x1:Nat}{tpos:Pos}(b1 b2:Bool){z TI TO i1 i2 l1 l2:Addr}(D:ZAp z TI TO i1 i2 l1 l2):U3 P w K (.Tuple elts x1 tpos) (Itz K b1 b2 l1 l2) [z,TI,TO,i1,i2] z (tnZ b1 b2 z TI TO i1 i2 l1 l2) where
 mem:=by simp
 obj:=λi h st b hb=>by
  obtain⟨g1,g2,⟨a,c,g3⟩,g4,g5⟩:=st;simp only[qAi,qBK,or_false]at hb;rcases hb with rfl|rfl|rfl|rfl|rfl
  .exact#[_,g1,λv y=>by cases y]
  .exact#[_,g2,λv y=>by cases y]
  .exact#[_,g3,λv y=>by cases y]
  .exact Lh g4
  .exact Lh g5
 keep:=λi h h' st k=>by
  obtain⟨g1,g2,⟨a,c,g3⟩,g4,g5⟩:=st;exact#[k z (by simp) _ g1,k TI (by simp) _ g2,#[a,c,k TO (by simp) _ g3],IQ g4 λo e=>k i1 (by simp) o e,IQ g5 λo e=>k i2 (by simp) o e]
 item:=by
  intro X hP hw hK hc i pins s σ H E I hf st hg;subst hP hw hK;obtain⟨xs,ys,x,y,q1,q2,hx,hy⟩:=hg;obtain⟨its1,rv1,src1⟩:=LF I q1;obtain⟨its2,rv2,src2⟩:=LF I q2;obtain⟨u,hu,ru⟩:=rv1.get hx;obtain⟨v,hv,rv⟩:=rv2.get hy;obtain⟨g1,g2,⟨a,c,g3⟩,g4,g5⟩:=st;have hd:=I.ok.hd hc;have fz:=hf z (by simp);have fI:=hf TI (by simp);have fO:=hf TO (by simp);have f1:=hf i1 (by simp);have f2:=hf i2 (by simp);refine T5 D (λA' e=>Uv (e.trans hd) b1 D.a4.1 its1.toArray) (λA' e=>Uv (e.trans hd) b2 D.a4.2 its2.toArray) g1 g2 g3 (src1 i1 i g4) (src2 i2 i g5) (x:=u) (y:=v) (by simpa using hu) (by simpa using hv) λh1 k1 k2 k3 k4 k5 k6=>#[_,rfl,wpAny_letOwnedTupleGo_zip (s:={ s with heap:=h1 }) k1 λh2 m1 m2=>?_];have m2':Heap.SameBut z h1 h2:=m2;have lt:∀{b:Addr}{o:Obj},s.heap.get? b=some o->s.heap.objs.size≠b:=λe=>qBg (qAj e);have hn:H s.heap.objs.size=none:=I.hok.fresh (qAg _);have old2:∀b o,b≠z->b≠TO->b≠i1->b≠i2->s.heap.get? b=some o->h2.get? b=some o:=λb o n1 n2 n3 n4 y=>(m2'.2 b n1).trans (k6 b o n1 n2 n3 n4 y);have tup2:h2.get? s.heap.objs.size=some { cls:=.type "tuple",data:=.seq (List.toArray [u,v]) }:=(m2'.2 _ (lt g1)).trans k5;have trk:∀{b:Addr}{o:HO},H b=some o->b≠z/\b≠TO/\b≠i1/\b≠i2:=λ{b o} q=>#[(λy=>by rw[y,fz.1]at q;cases q),(λy=>by rw[y,fO.1]at q;cases q),(λy=>by rw[y,f1.1]at q;cases q),(λy=>by rw[y,f2.1]at q;cases q)];have hok2:HOk X.prog X.w (upd H s.heap.objs.size (.tup [x,y])) h2:=λb o q=>by
   by_cases hb:b=s.heap.objs.size
   .subst hb;rw[As]at q;cases q;exact#[by show 2<=sizeLine;decide,[u,v],.cons ru (.cons rv .nil),#[_,tup2,rfl,_,rfl]]
   .rw[An hb]at q;refine(I.hok b o q).stay (hf:=λc w1 w2 y=>by rw[An (AG y hn)];exact y) (λc o hc' y=>?_) (λc y=>by rw[An (AG y hn)];exact y) λc ys y=>by rw[An (AG y hn)];exact y
    have t:c≠z/\c≠TO/\c≠i1/\c≠i2:=by
     rcases hc' with rfl|hc'
     .exact trk q
     .exact trk hc'
    exact old2 c o t.1 t.2.1 t.2.2.1 t.2.2.2 y
  have nin:∀{b:Addr},b∉[z,TO,i1,i2]->b≠z/\b≠TO/\b≠i1/\b≠i2:=λ{b} h=>#[(λy=>h (by simp[y])),(λy=>h (by simp[y])),(λy=>h (by simp[y])),(λy=>h (by simp[y]))];have I2:Inv X pins σ (upd H s.heap.objs.size (.tup [x,y])) { s with heap:=h2,toks:=s.toks }:=by
   refine I.step (g':=s.gens) (d':=s.drawn) (ch:=[z,TO,i1,i2]) (λb hb=>?_) (λb o _ _ hb q _=>old2 b o (nin hb).1 (nin hb).2.1 (nin hb).2.2.1 (nin hb).2.2.2 q) (λb o _ _ hb q _=>#[o.slots,old2 b o (nin hb).1 (nin hb).2.1 (nin hb).2.2.1 (nin hb).2.2.2 q])
    (λb o _ q n=>by rw[An (qAs (qAj q))];exact n) (λb o hb q=>#[o,old2 b o (nin hb).1 (nin hb).2.1 (nin hb).2.2.1 (nin hb).2.2.2 q])
    (λb ys y=>by rw[An (AG y hn)];exact y) (λb o ys y=>by rw[An (AG y hn)];exact y) (λb ps y=>#[(List.toArray []),by rw[An (AG y hn),y];simp]) (λm hm=>?_) hok2 I.bare
   .simp only[qAi,qBK,or_false]at hb;rcases hb with rfl|rfl|rfl|rfl
    .exact#[fz.2.2.2.1,fz.2.1,fz.2.2.2.2.1,fz.2.2.2.2.2]
    .exact#[fO.2.2.2.1,fO.2.1,fO.2.2.2.2.1,fO.2.2.2.2.2]
    .exact#[f1.2.2.2.1,f1.2.1,f1.2.2.2.2.1,f1.2.2.2.2.2]
    .exact#[f2.2.2.2.1,f2.2.1,f2.2.2.2.2.1,f2.2.2.2.2.2]
   .obtain⟨o,es,ep,ho,r⟩:=hm;exact#[o,es,ep,old2 _ o (Ne.symm fz.2.1) (Ne.symm fO.2.1) (Ne.symm f1.2.1) (Ne.symm f2.2.1) ho,r]
  have ob1:=Lh g4;have ob2:=Lh g5;refine#[.ref s.heap.objs.size,_,I2,rfl,#[_,x,y,hn,rfl,λzs hz=>by rw[RY I q1 hz];exact hx,λzs hz=>by rw[RY I q2 hz];exact hy,rfl],#[m1,?_,#[u,v,?_],?_,?_],λb hb=>?_]
  .exact(m2'.2 _ D.a1.1).trans (k6 _ _ D.a1.1 D.a2.1 D.a3.1 D.a3.2.2.2.1 g2)
  .exact(m2'.2 _ D.a1.2.1).trans k2
  .exact IQ (UG k3) λo e=>(m2'.2 _ D.a1.2.2.1).trans e
  .exact IQ (UG k4) λo e=>(m2'.2 _ D.a1.2.2.2.1).trans e
  .have ne:∀{b:Addr}{o:Obj},s.heap.get? b=some o->b≠s.heap.objs.size:=λe=>qAs (qAj e);simp only[qAi,qBK,or_false]at hb;rcases hb with rfl|rfl|rfl|rfl|rfl
   .rw[An (ne g1)];exact fz.1
   .rw[An (ne g2)];exact fI.1
   .rw[An (ne g3)];exact fO.1
   .obtain⟨o,e,_⟩:=ob1;rw[An (ne e)];exact f1.1
   .obtain⟨o,e,_⟩:=ob2;rw[An (ne e)];exact f2.1
 done:=by
  intro X hP hw hK hc i pins s σ H E I hf st hg;subst hP hw hK;obtain⟨xs,ys,q1,q2,he⟩:=hg;obtain⟨its1,rv1,src1⟩:=LF I q1;obtain⟨its2,rv2,src2⟩:=LF I q2;obtain⟨g1,g2,⟨a,c,g3⟩,g4,g5⟩:=st;have hd:=I.ok.hd hc;have fz:=hf z (by simp);have fO:=hf TO (by simp);have f1:=hf i1 (by simp);have f2:=hf i2 (by simp);refine TJ hd D (λA' e=>Uv (e.trans hd) b1 D.a4.1 its1.toArray) (λA' e=>Uv (e.trans hd) b2 D.a4.2 its2.toArray) g1 g2 g3 (src1 i1 i g4) (src2 i2 i g5) ?_ λh' kp=>#[rfl,?_]
  .have e1:=↥rv1;have e2:=↥rv2;rcases he with he|he
   .left;rw[qBG,qAQ];omega
   .right;rw[qBG,qAQ];omega
  .have nin:∀{b:Addr},b∉[z,TO,i1,i2]->b≠z/\b≠TO/\b≠i1/\b≠i2:=λ{b} h=>#[(λy=>h (by simp[y])),(λy=>h (by simp[y])),(λy=>h (by simp[y])),(λy=>h (by simp[y]))];have old2:∀b o,b∉[z,TO,i1,i2]->s.heap.get? b=some o->h'.get? b=some o:=λb o hb q=>kp b o (nin hb).1 (nin hb).2.1 (nin hb).2.2.1 (nin hb).2.2.2 q;have trk:∀{b:Addr}{o:HO},H b=some o->b∉[z,TO,i1,i2]:=λ{b o} q hb=>by
    simp only[qAi,qBK,or_false]at hb;rcases hb with rfl|rfl|rfl|rfl
    .rw[fz.1]at q;cases q
    .rw[fO.1]at q;cases q
    .rw[f1.1]at q;cases q
    .rw[f2.1]at q;cases q
   have hok2:HOk X.prog X.w H h':=λb o q=>by
    refine(I.hok b o q).stay (λc o hc' y=>old2 c o ?_ y) (λ_ y=>y) λ_ _ y=>y;rcases hc' with rfl|hc'
    .exact trk q
    .exact trk hc'
   refine I.step (t':=s.toks) (g':=s.gens) (d':=s.drawn) (ch:=[z,TO,i1,i2]) (λb hb=>?_) (λb o _ _ hb q _=>old2 b o hb q) (λb o _ _ hb q _=>#[o.slots,old2 b o hb q]) (λb o _ q n=>n) (λb o hb q=>#[o,old2 b o hb q])
    (λb ys y=>y) (λb o ys y=>y) (λb ps y=>#[(List.toArray []),by rw[y];simp]) (λm hm=>?_) hok2 I.bare
   .simp only[qAi,qBK,or_false]at hb;rcases hb with rfl|rfl|rfl|rfl
    .exact#[fz.2.2.2.1,fz.2.1,fz.2.2.2.2.1,fz.2.2.2.2.2]
    .exact#[fO.2.2.2.1,fO.2.1,fO.2.2.2.2.1,fO.2.2.2.2.2]
    .exact#[f1.2.2.2.1,f1.2.1,f1.2.2.2.2.1,f1.2.2.2.2.2]
    .exact#[f2.2.2.2.1,f2.2.1,f2.2.2.2.2.1,f2.2.2.2.2.2]
   .obtain⟨o,es,ep,ho,r⟩:=hm;refine#[o,es,ep,kp _ o (Ne.symm fz.2.1) (Ne.symm fO.2.1) (Ne.symm f1.2.1) (Ne.symm f2.2.1) ho,r]
 self:=λA i s Q E st h=>wpAny_pyIter_zip st.1 h
section
variable {X:Cx}{pos:Pos}
def Ze (K:W.Frag)(ta:TA):TI:=λσ H R=>ta σ H λvs H1=>∃a1 a2,vs=[.ref a1,.ref a2]/\∃b:Bool,(∃xs,SqB K b H1 a1 xs)/\(∃ys,SqL K H1 a2 ys)/\R (Itz K b false a1 a2) H1
def Vw {n l1 l2:Addr}(h1:l1<n)(h2:l2<n):ZAp (n+4) (n+2) (n+3) n (n+1) l1 l2:=by
 have up:∀{a:Addr}(j:Nat),a<n->a≠n+j:=λ{a} j h=>qAs (qAl h (qBZ n j));have lt:∀{i j:Nat},i<j->n+i≠n+j:=λh=>qAs (Nat.add_lt_add_left h n);have gt:∀{i j:Nat},j<i->n+i≠n+j:=λh=>qBg (Nat.add_lt_add_left h n);exact#[#[lt ∅,lt ∅,lt (i:=0) ∅,lt ∅,up 4 h1,up 4 h2],#[lt ∅,lt (i:=0) ∅,lt ∅,up 3 h1,up 3 h2],#[gt (j:=0) ∅,gt (j:=0) ∅,up 0 h2,gt ∅,up 1 h1],#[up 0 h1,up 1 h2]]
def U9 {e1 e2:Expr}{elts:List Expr}{x1:Nat}{tpos p:Pos}{ta:TA}(hg:Gl X "zip")(hm:X.mg "zip"=none)(ha:PA X [e1,e2] ta)(hs:starEach [e1,e2] X.env=[(false,eval e1 X.env),(false,eval e2 X.env)]:=by rfl)(hs2:starEach [e2] X.env=[(false,eval e2 X.env)]:=by rfl) :
 PI X (.Tuple elts x1 tpos) (.Call (.Name "zip" p) [e1,e2] [] pos) (Ze X.K ta):=by
 intro pins s σ H R I h;refine Call_ (JO I hg hm PyProof.Rows.boot_zip (qBC (thn (ha pos pins s σ H _ I h) λus s1 #[vs,H1,I1,r1,q1]=>?_) (by rw[hs,hs2]) (by rw[hs2];rfl)));obtain⟨a1,a2,e,b,⟨xs,h1⟩,⟨ys,h2⟩,q⟩:=q1;subst e;cases r1 with
 |cons r rr=>
  cases rr with
  |cons r' rr=>
   cases rr;cases r;cases r';obtain⟨its2,rv2,p2,hz2⟩:=I1.list h2;have fin:∀h',IsZip h' (s1.heap.objs.size+4) (s1.heap.objs.size+2) (s1.heap.objs.size+3) .none->IsPair h' (s1.heap.objs.size+2) (.ref s1.heap.objs.size) (.ref (s1.heap.objs.size+1))->IsPair h' (s1.heap.objs.size+3) .none .none ->
    ItB b h' s1.heap.objs.size a1 0->ItB false h' (s1.heap.objs.size+1) a2 0->(∀c o,s1.heap.get? c=some o->h'.get? c=some o)->a1<s1.heap.objs.size->a2<s1.heap.objs.size ->
    wpAny (model X.prog X.w) X.A (pyIter (.ref (s1.heap.objs.size+4))) (PIE X pins σ (.Tuple elts x1 tpos) R) X.xe { s1 with heap:=h' }:=λh' g1 g2 g3 g4 g5 old n1 n2=>by
    have I2:Inv X pins σ H1 { s1 with heap:=h' }:=I1.kept (t':=s1.toks) old;refine wpAny_pyIter_zip (s:={ s1 with heap:=h' }) g1 ?_;refine#[s1.heap.objs.size+4,_,_,_,H1,rfl,I2,S3 b false (Vw n1 n2),#[g1,g2,#[_,_,g3],g4,g5],λc hc=>?_,q];have ge:s1.heap.objs.size<=c:=by
     simp only[qAi,qBK,or_false]at hc;rcases hc with rfl|rfl|rfl|rfl|rfl
     .exact qBZ _ 4
     .exact qBZ _ 2
     .exact qBZ _ 3
     .exact qAg _
     .exact qBZ _ 1
    exact I1.fpOk ge (I1.hok.fresh ge)
   have n2:a2<s1.heap.objs.size:=by obtain⟨o,e,_⟩:=p2.isList;exact qAj e
   cases b with
   |true=>
    obtain⟨its1,rv1,p1,hz1⟩:=I1.tuple h1;have t1:s1.heap.IsTuple a1 its1.toArray:=p1;have n1:a1<s1.heap.objs.size:=by obtain⟨o,e,_⟩:=t1;exact qAj e
    exact Pr t1 p2.isList λh' g1 g2 g3 g4 g5 old=>fin h' g1 g2 g3 g4 g5 old n1 n2
   |false=>
    obtain⟨its1,rv1,p1,hz1⟩:=I1.list h1;have n1:a1<s1.heap.objs.size:=by obtain⟨o,e,_⟩:=p1.isList;exact qAj e
    exact call_zip_2 p1.isList p2.isList λh' g1 g2 g3 g4 g5 _ old=>fin h' g1 g2 g3 g4 g5 old n1 n2
end
structure DX (X:Cx)(x y':Str)(scope:Scope)(N:List Str)(idx:List Nat):Prop where
 kind:scope.kind=.function
 cell:∀y∈scope.names,y.2≠.cell
 names:∀y∈scope.names,y.2=.local->scope.names.lookup y.1=some .local
 own:scope.names.lookup x=some .local
 own2:scope.names.lookup y'=some .local
 free:∀y∈scope.names,y.2=.free->X.env.kindOf y.1=some .cell
 nd:N.Nodup
 fst:N[0]? = some x
 snd:N[1]? = some y'
 len:↥N=↥idx+2
 cap:∀(k j:Nat),idx[k]? = some j->∃y,N[k+2]? = some y/\X.N[j]? = some y/\scope.names.lookup y=some .free
section
variable {X:Cx}{pins:List (Addr×Obj)}{σ:St}{H2:Hp}{s2:Shared}{x y':Str}{px py' pt:Pos}{kt:Nat}{tg:Expr}{scope:Scope}{N:List Str}{idx:List Nat}{J:It}{fp:List Addr}{it:Addr}{tn:Nat->Heap->Prop}{cl:List (Str×Addr)}
def M9 (O:DX X x y' scope N idx)(I2:Inv X pins σ H2 s2)(T:U3 X.prog X.w X.K tg J fp it tn)(st2:tn 0 s2.heap)(f2:∀b∈fp,Pk X pins H2 b)
 (hcl:∀y c,cl.lookup y=some c->X.env.cells.lookup y=some c)(hcl2:∀y,(y,NameKind.free)∈scope.names->∃c,cl.lookup y=some c)
 {h1:Heap}{C:Addr}{m:Str->Option Value}{tk:Nat}(hC:s2.heap.objs.size<C) (hns:h1.Ns C m) (old:∀b o,s2.heap.get? b=some o->h1.get? b=some o)
 (hD:h1.get? s2.heap.objs.size=some { cls:=.type "list",data:=.seq ([]:List Value).toArray }) :
 Inv (AB X N scope cl C s2 H2 fp) [] (none::none::DP σ idx) (upd H2 s2.heap.objs.size (.lst [])) { s2 with heap:=h1,toks:=tk }:=by
 have inHeap:∀b∈fp,b<s2.heap.objs.size:=λb hb=>by
  obtain⟨o,e,_⟩:=T.obj 0 _ st2 b hb;exact qAj e
 have hDn:H2 s2.heap.objs.size=none:=I2.hok.fresh (qAg _);refine#[#[I2.ok.mod,O.kind,I2.ok.glob,I2.ok.blt,?_,?_,?_,(λ_ _ z=>by cases z),I2.ok.hd,I2.ok.frames,.inl rfl,?_,λb o e=>I2.bs b o e,qAO I2.ok.bsz I2.sz,?_,?_,I2.stack,I2.stkFree,I2.tb],rfl,I2.bare,?_,#[m,hns,?_],?_,?_,?_,?_,?_,?_]
 .exact qBt hC
 .intro y z c h1 h2;exact I2.ok.inj y z c (hcl y c h1) (hcl z c h2)
 .intro y hy;have key:∀k,(relabel scope X.env).names.lookup y=some k->(k=.cell\/k=.free)->∃c,cl.lookup y=some c:=λk e hk=>by
   obtain⟨k0,h1,h2⟩:=CU e;have hf:k0=.free:=by
    rcases h2 with rfl|h2
    .rcases hk with rfl|rfl
     .exact absurd rfl (O.cell _ h1)
     .rfl
    .exact h2
   subst hf;exact hcl2 y h1
  rcases hy with e|e
  .exact key _ e (.inl rfl)
  .exact key _ e (.inr rfl)
 .intro b hb;have:=inHeap b hb;exact#[qAs (qBh this hC),λy c e=>(f2 b hb).2.2.2.2.1 y c (hcl y c e)]
 .intro b o e hb;rcases(f2 b hb).2.2.2.1 with z|z
  .exact I2.ok.noex b o e z
  .exact absurd (qAl (qAj e) (qAO I2.ok.bsz z)) (qAY _)
 .intro b hb hf;rcases qAi.mp (I2.stkSub b hf) with e|e
  .exact(f2 b hb).2.1 e
  .exact(f2 b hb).2.2.1 e
 .exact Un.laid old (qAg _) hDn
 .intro i y v e1 e2 e3;cases i with
  |zero=>cases e2
  |succ k=>
   cases k with
   |zero=>cases e2
   |succ k=>
    obtain⟨j,ej,es⟩:=IP (k:=k) e2;obtain⟨y',n1,n2,n3⟩:=O.cap k j ej;have ey:y'=y:=qAn (n1.symm.trans e1);subst ey;have kc:=O.free _ (BD n3) rfl;obtain⟨m0,hn0,hl0⟩:=I2.loc;obtain⟨u,ru,lk⟩:=hl0 j y' v n2 es (.inr (.inl kc));refine#[u,ru,?_];rcases lk with⟨k1,_⟩|⟨_,c,hc,ic⟩
    .rw[kc]at k1;cases k1
    .obtain⟨c',hc'⟩:=hcl2 y' (BD n3);have:c'=c:=qAn ((hcl y' c' hc').symm.trans hc);subst this;exact .inr #[.inl (Cr I2.ok.kind kc n3),c',hc',ic.keeps old]
 .intro y c e;obtain⟨v,ic⟩:=I2.cell y c (hcl y c e);exact#[v,ic.keeps old]
 .show upd H2 _ _ C=none;rw[An (qBg hC)];exact I2.hok.fresh (qBt hC)
 .intro y c e;obtain⟨v,ic⟩:=I2.cell y c (hcl y c e);rw[An (qAs ic.lt)];exact I2.freeC y c (hcl y c e)
 .intro p hp;cases hp
 .exact I2.hok.laid old (qAg _) #[qA9 _,[],_,.nil,hD]
 .show(none::none::DP σ idx).length=↥N;rw[O.len,qAU,qAU];unfold DP;rw[qAa]
def OR (K:W.Frag)(idx:List Nat)(wi:TI)(te:Hp->TE):TE:=λσ H Q=>wi σ H λJ H1=>∀D,H1 D=none->K.lookup D=none->∃W:Nat->Nat->List V->Hp->Prop,(∃m,W 0 m [] (upd H1 D (.lst []))) /\
 ∀i m ys H,H D=some (.lst ys)->W i m ys H->(J.stop i H/\Q (.ref D) H)\/(J.go i H/\∀x H',J.yld i H x H'->∃p v1 v2,x=.ref p/\SqT K H' p [v1,v2] /\
  te H1 (some v1::some v2::DP σ idx) H' (λv H3=>H3 D=some (.lst ys)/\↥ys<sizeLine/\∃m',m'<m/\W (i+1) m' (ys++[v]) (upd H3 D (.lst (ys++[v])))))
def MC {elt iter:Expr}{wi:TI}{te:Hp->TE}{pos:Pos}{s:Shared}{H:Hp}{Q:VK}{use:Option (Value->Sem Unit)}{QQ:Value->Shared->Prop}(O:DX X x y' scope N idx)(hc:X.calm=true)(hi:PI X (.Tuple [.Name x px,.Name y' py'] kt pt) iter wi)
 (helt:∀cl C s₀ H₀ fp,PE (AB X N scope cl C s₀ H₀ fp) elt (te H₀))
 (hs:∀x,foldedSetIterable iter X.env x=pure x)(I:Inv X pins σ H s)(h:OR X.K idx wi te σ H Q)
 (fin:∀(s2:Shared)(H2:Hp)(fp:List Addr)(cl:List (Str×Addr))(C D:Addr)(σ':St)(H':Hp)(s':Shared),Inv X pins σ H2 s2->(∀b∈fp,Pk X pins H2 b)->s2.heap.objs.size<C->Inv (AB X N scope cl C s2 H2 fp) [] σ' H' s'->Q (.ref D) H' ->
  compPost (model X.prog X.w) X.A X.xe use QQ (.ref D) C (.ok .next) s') :
 wpAny (model X.prog X.w) X.A (comprehension (.ListComp elt [#[.Tuple [.Name x px,.Name y' py'] kt pt,iter,[],0]] scope pos) scope X.env (firstIterPos [#[.Tuple [.Name x px,.Name y' py'] kt pt,iter,[],0]] pos) (newList []) false (eval iter X.env) use) QQ X.xe s:=by
 obtain⟨cl,ecl,hcl,hcl2⟩:=HE (scope:=scope) (env:=X.env) λy hy hf=>I.ok.has y.1 (.inl (O.free y hy hf));refine wpAny_comprehension_free (use:=use) (cl:=cl) rfl hs ecl O.kind O.names ?_;refine thn (hi pins s σ H _ I h) λv s1 h1=>thn h1 λitv s2 h2=>?_;obtain⟨it,fp,tn,J,H2,rfl,I2,T,st2,f2,hD⟩:=h2;refine wpAny_newObj_type (wpAny_newFunctionEnv O.cell (by intro y hy;simp at hy) (λh1 hns hsb=>?_) O.kind);dsimp only at hns hsb ⊢;generalize hG:s2.heap.push { cls:=.type "list",dict:=none,data:=.seq ([]:List Value).toArray }=G at hns hsb ⊢;have hCs:s2.heap.objs.size<G.objs.size:=by rw[<-hG,qBW];exact qCd _
 have old:∀b o,s2.heap.get? b=some o->h1.get? b=some o:=λb o e=>hsb.extBut b o (qAs (qBh (qAj e) hCs)) (qAh _ (hG ▸ qAh _ e));have hDl:h1.get? s2.heap.objs.size=some { cls:=.type "list",data:=.seq ([]:List Value).toArray }:=hsb.extBut _ _ (qAs hCs) (qAh _ (hG ▸ qAy _ rfl));have hDn:H2 s2.heap.objs.size=none:=I2.hok.fresh (qAg _);have hDk:X.K.lookup s2.heap.objs.size=none:=by
  cases e:X.K.lookup s2.heap.objs.size with
  |none=>rfl
  |some o=>exact absurd (qAj (I2.kIn _ _ e)) (qAY _)
 obtain⟨W,⟨m0,w0⟩,step⟩:=hD _ hDn hDk;have I4:Inv (AB X N scope cl G.objs.size s2 H2 fp) [] (none::none::DP σ idx) (upd H2 s2.heap.objs.size (.lst [])) { s2 with heap:=h1,toks:=s2.toks+([]:List (Str×Value)).length }:=
  M9 O I2 T st2 f2 hcl hcl2 hCs hns old hDl
 generalize hCC:G.objs.size=C at I4 hCs ⊢;clear hsb hns hG hCC;generalize hDD:s2.heap.objs.size=D at hDn hDk step w0 I4 hDl ⊢;have st4:tn 0 h1:=T.keep 0 _ _ st2 λb _ o e=>old b o e;have frD:∀b∈fp,(upd H2 D (.lst [])) b=none:=λb hb=>by
  obtain⟨o,e,_⟩:=T.obj 0 _ st2 b hb;rw[An (by rw[<-hDD];exact qAs (qAj e))];exact(f2 b hb).1
 have stat:∀{H':Hp},(∀b∈fp,H' b=none)->∀b∈fp,Pk (AB X N scope cl C s2 H2 fp) [] H' b:=λhn b hb=>
  #[hn b hb,(I4.ok.exf b hb).1,I4.ok.exfs b hb,.inl hb,(I4.ok.exf b hb).2,λp hp=>by cases hp]
 have hloc:(AB X N scope cl C s2 H2 fp).env.scope.names.lookup x=some .local:=lookup_relabel_local O.own;have hloc2:(AB X N scope cl C s2 H2 fp).env.scope.names.lookup y'=some .local:=lookup_relabel_local O.own2;have pg:PG (AB X N scope cl C s2 H2 fp) (.Tuple [.Name x px,.Name y' py'] kt pt) (Z7 X.K 2 (Qi (Gw 0) (Qi (Gw 1) Z1))):=
  Qb (X:=AB X N scope cl C s2 H2 fp) hc (FC (A9 O.nd O.fst (.inl hloc) (.inr hloc)) (FC (A9 O.nd O.snd (.inl hloc2) (.inr hloc2)) Ng))
 have loop:∀s3:Shared,s3={ s2 with heap:=h1,toks:=s2.toks+([]:List (Str×Value)).length } ->
  codeAny (model X.prog X.w) X.A (.compLoop (.ListComp elt [#[.Tuple [.Name x px,.Name y' py'] kt pt,iter,[],0]] scope pos) 0 (.ref it) (.ref D) (compEnvC scope cl C X.env)) (compPost (model X.prog X.w) X.A X.xe use QQ (.ref D) C) s3:=by
  rintro s3 rfl;refine LCp.codeAny_compLoop_pair (λn s'=>∃i z1 z2 H' ys,Inv (AB X N scope cl C s2 H2 fp) [] (z1::z2::DP σ idx) H' s'/\tn i s'.heap/\(∀b∈fp,H' b=none)/\H' D=some (.lst ys)/\W i n ys H') ?_ m0 #[0,none,none,_,[],I4,st4,frD,As,w0];rintro n s5 ⟨i,z1,z2,H5,ys,I5,st5,fr5,hD5,w5⟩;rcases step i n ys H5 hD5 w5 with⟨stop,q⟩|⟨go,next⟩
  .refine qC3 (T.done (AB X N scope cl C s2 H2 fp) rfl rfl rfl hc i [] s5 _ H5 (λ_ _=>False) I5 (stat fr5) st5 stop) (λr s6 hh=>?_) λ_ _ z=>z.elim;obtain⟨hr,I6⟩:=hh;subst hr;exact fin s2 H2 fp cl C D _ H5 s6 I2 f2 hCs I6 q
  .refine qC3 (T.item (AB X N scope cl C s2 H2 fp) rfl rfl rfl hc i [] s5 _ H5 (λ_ _=>False) I5 (stat fr5) st5 go) (λr s6 hh=>?_) λ_ _ z=>z.elim;obtain⟨u,hr,h6⟩:=hh;subst hr;dsimp only;refine qC3 h6 (λ_ s7 h7=>?_) λ_ _ z=>z.elim;obtain⟨xv,H7,I7,r7,y7,st7,fr7⟩:=h7;have I7':=I7.pinned (stat fr7) (T.obj _ _ st7);obtain⟨p,v1,v2,e7,sq7,nx7⟩:=next xv H7 y7
   subst e7;refine qC3 (pg _ s7 _ H7 (.ref p) u (λσ' H'=>σ'=some v1::some v2::DP σ idx/\H'=H7) I7' r7 #[p,[v1,v2],rfl,sq7,rfl,v1,[v2],rfl,v2,[],rfl,rfl,rfl,rfl]) (λ_ s8 h8=>?_) λ_ _ z=>z.elim;obtain⟨σ8,H8,I8,e8,e8'⟩:=h8;subst e8 e8';have again:∀{H9:Hp}{s9:Shared}{ys':List V}{m':Nat},Inv (AB X N scope cl C s2 H2 fp) ([]++Ks fp s7.heap) (some v1::some v2::DP σ idx) H9 s9->H9 D=some (.lst ys')->m'<n->W (i+1) m' ys' H9 ->
    ∃m,m<n/\∃i z1 z2 H' ys,Inv (AB X N scope cl C s2 H2 fp) [] (z1::z2::DP σ idx) H' s9/\tn i s9.heap/\(∀b∈fp,H' b=none)/\H' D=some (.lst ys)/\W i m ys H':=λ{H9 s9 ys' m'} I9 hD9 hm w9=>by
    refine#[m',hm,i+1,some v1,some v2,H9,ys',I9.unpinned,T.keep _ _ _ st7 λb hb o e=>(I9.pin (b,o) (qAF _ (qAF _ (Dt hb e)))).1,λb hb=>?_,hD9,w9];obtain⟨o,e,d⟩:=T.obj _ _ st7 b hb;exact(I9.pin (b,o) (qAF _ (qAF _ (Dt hb e)))).2.1
   refine qC3 (helt cl C s2 H2 fp _ s8 _ H8 _ I8 nx7) (λy s10 hh=>?_) λ_ _ z=>z.elim;obtain⟨v,H10,I10,r10,hD10,hl,m',hm,w'⟩:=hh;refine qC3 (AV (X:=AB X N scope cl C s2 H2 fp) _ s10 _ H10 (.ref D) [v] (.ref D) [y] (λ_ H'=>H'=upd H10 D (.lst (ys++[v]))) I10 rfl (.cons r10 .nil) #[D,ys,v,rfl,rfl,hD10,hl,rfl]) (λ_ s11 hh=>?_) λ_ _ z=>z.elim;obtain⟨_,H11,I11,_,e11⟩:=hh;subst e11;exact again I11 As hm w'
 exact codeAny_compStart_list (loop _ rfl) (T.self X.A 0 _ _ _ st4 (loop _ rfl))
def T4 {elt iter:Expr}{wi:TI}{te:Hp->TE}{pos:Pos}(O:DX X x y' scope N idx)(hc:X.calm=true)(hi:PI X (.Tuple [.Name x px,.Name y' py'] kt pt) iter wi)
 (helt:∀cl C s₀ H₀ fp,PE (AB X N scope cl C s₀ H₀ fp) elt (te H₀))
 (hs:∀x,foldedSetIterable iter X.env x=pure x:=by intro _;rfl):PE X (.ListComp elt [#[.Tuple [.Name x px,.Name y' py'] kt pt,iter,[],0]] scope pos) (OR X.K idx wi te):=by
 intro pins s σ H Q I h;rw[eval_ListComp];refine MC (use:=none) O hc hi helt hs I h λs2 H2 fp cl C D σ' H' s' I2 f2 hC I' q=>?_;obtain⟨m,hn,_⟩:=I'.loc;exact#[m,hn,λh' hs'=>#[.ref D,H',Hc I2 f2 hC I' hs',rfl,q]]
def Nn {i:Nat}{y:Str}{py spos:Pos}{elt iter:Expr}{wi:TI}{te:Hp->TE}{pos:Pos}(O:DX X x y' scope N idx)(hc:X.calm=true)(hi:PI X (.Tuple [.Name x px,.Name y' py'] kt pt) iter wi)
 (helt:∀cl C s₀ H₀ fp,PE (AB X N scope cl C s₀ H₀ fp) elt (te H₀))(hN:X.N.Nodup)(hy:X.N[i]? = some y)(hly:Loc X.env.scope y)
 (hsw:swapsWith (.ListComp elt [#[.Tuple [.Name x px,.Name y' py'] kt pt,iter,[],0]] scope pos) (some (.Name y py)) spos.line X.env=pure true:=by rfl)(hs:∀x,foldedSetIterable iter X.env x=pure x:=by intro _;rfl)
 (hfn:X.fn y=true\/X.env.scope.names.lookup y=some .local:=by first|exact .inl rfl|exact .inr rfl|assumption) :
 PS X (.Assign [.Name y py] (.ListComp elt [#[.Tuple [.Name x px,.Name y' py'] kt pt,iter,[],0]] scope pos) spos) (Y0 i (OR X.K idx wi te)):=by
 intro pins s σ H D I h;rw[exec_Assign_Name_used _ _ _ _ hsw];refine qC1 (wpAny_standAt (qC1 ?_));show wpAny _ X.A (do let _ <-comprehension (.ListComp elt [#[.Tuple [.Name x px,.Name y' py'] kt pt,iter,[],0]] scope pos) scope X.env _ (newList []) false (eval iter X.env) (some (assign (.Name y py) X.env))) _ _ s;refine qC1 (qC3 (MC (use:=some (assign (.Name y py) X.env)) (QQ:=λ_ s'=>SP X pins D .next s') O hc hi helt hs I h λs2 H2 fp cl C E σ' H' s' I2 f2 hC I' q=>?_) (λ_ s' hq=>qC2 (qC2 hq)) λ_ _ e=>e);have I3:Inv X pins σ H' s':=Hc (h':=s'.heap) I2 f2 hC I' #[rfl,λ_ _=>rfl];obtain⟨mC,hnC,_⟩:=I'.loc;have h0:X.s₀.heap.objs.size<=C:=qAO I2.sz (qBt hC);have hCL:C≠X.env.locals:=qBg (qBh I2.lt hC);have hCc:∀y c,X.env.cells.lookup y=some c->c≠C:=λy c e=>by
  obtain⟨v,ic⟩:=I2.cell y c e;exact qAs (qBh ic.lt hC)
 have hCp:∀p∈X.pn++pins,p.1≠C:=λp hp=>qAs (qBh (qAj (I2.pin p hp).1) hC);show wpAny _ X.A (assign (.Name y py) X.env (.ref E)) _ _ _;refine wpAny_assign_Name (JL (v:=.ref E) I3 hN hy hly rfl (λs4 I4 hb=>?_) hfn);obtain⟨a,hsa,ha⟩:=hb;have hCa:C≠a:=by
  rcases ha with rfl|ha
  .exact hCL
  .exact λz=>hCc y a ha z.symm
 exact#[mC,hnC.sameBut hsa hCa,λh' hs'=>#[_,H',Qe I4 hs' h0 I'.free hCL hCc hCp,q]]
end
def TV (τ:Tau)(idx:List Nat)(x y:D):Tau:=some (.d x)::some (.d y)::(DP τ idx).map (Option.map S.share)
section
variable {X:Cx}{x y':Str}{px py' pt pos:Pos}{kt:Nat}{scope:Scope}{N:List Str}{idx:List Nat}{σ:St}{τ:Tau}{elt:Expr}{ta:TA3}{te:TE3}
def Sr {B p p0 q:HZ}{d e:D}{v u:V}(r:Rep X B τ σ p)(e0:Ext p p0)(e':Ext p0 q)(iv:Is X.K q.z v d)(iu:Is X.K q.z u e):Rep (cxC X N scope p0.h) p0 (TV τ idx d e) (some v::some u::DP σ idx) q:=by
 have base:=OT (N:=N) (scope:=scope) (idx:=idx) r e0 e' iu;have no:∀(i:Nat)(xs:List D),¬(TV τ idx d e)[i]? = some (some (.l xs)):=λi xs z=>by
  cases i with
  |zero=>cases z
  |succ k=>
   have z':(UI τ idx e)[k]? = some (some (.l xs)):=z;cases k with
   |zero=>cases z'
   |succ k=>
    have z2:((DP τ idx).map (Option.map S.share))[k]? = some (some (.l xs)):=z';rw[qAd]at z2;cases q:(DP τ idx)[k]? with
    |none=>rw[q]at z2;cases z2
    |some o=>
     rw[q]at z2;cases o with
     |none=>cases z2
     |some s0=>
      have z3:s0.share=.l xs:=qAn (qAn z2);cases s0<;>cases z3
 refine#[?_,e',λi s hs=>?_,λi xs a z _=>absurd z (no i xs),λi j xs s a _ z _ _ _=>absurd z (no i xs),λ_=>Bp.refl _,λk a h=>by cases h]
 .have:=base.len;show(some u::DP σ idx).length+1=(UI τ idx e).length+1;rw[this]
 .cases i with
  |zero=>cases hs;exact#[v,rfl,iv]
  |succ k=>exact base.val k s hs
def Sg (idx:List Nat)(ta:TA3)(te:TE3):TE3:=λτ R=>ta τ λss=>∃(s1 s2:S)(xs ys:List D),ss=[s1,s2]/\items s1=some xs/\(s2=.r ys\/s2=.d (.lst ys))/\∃os:List D,↥os=min ↥xs ↥ys /\
 (∀(n:Nat)(x y:D),xs[n]? = some x->ys[n]? = some y->te (TV τ idx x y) (λs=>dd s.arg λd=>os[n]? = some d))/\↥os<=100000/\R (.l os)
def ZX {K:W.Frag}{p:HZ}{v:V}{s:S}{xs:List D}(h:IsS K p v s)(hz:Bp p.z p.h)(hs:items s=some xs):∃a vs b,v=.ref a/\SqB K b p.h a vs/\Iss K p.z vs xs:=by
 cases s with
 |d z=>
  cases z with
  |tup zs=>cases hs;obtain⟨a,vs,rfl,h3,h4⟩:=Is.tup_inv h;exact#[a,vs,true,rfl,SqT.same hz h3,h4]
  |lst zs=>cases hs;obtain⟨a,vs,rfl,h3,h4⟩:=Is.lst_inv h;exact#[a,vs,false,rfl,hz.seq h3,h4]
  |_=>cases hs
 |l zs=>cases hs;obtain⟨a,vs,rfl,h3,h4⟩:=h;exact#[a,vs,false,rfl,SqL.of h3,h4]
 |r zs=>cases hs;obtain⟨a,vs,rfl,h3,h4⟩:=h;exact#[a,vs,false,rfl,h3,h4]
def SqB.same {K:W.Frag}{b:Bool}{H H':Hp}{a:Addr}{vs:List V}(e:Bp H H')(h:SqB K b H a vs):SqB K b H' a vs:=by
 unfold SqB at *
 cases b with
 |true=>exact SqT.same e h
 |false=>exact e.seq h
def MW {Q:VK}{H:Hp}(h:FE X (Sg idx ta te) σ H Q):OR X.K idx (Ze X.K (FA X ta)) (λH₀=>FE (cxC X N scope H₀) te) σ H Q:=by
 obtain⟨B,z,τ,R,r,ht,q⟩:=h;refine#[B,z,τ,_,r,ht,λss vs p1 e1 i1 h1=>?_];obtain⟨s1,s2,xs,ys,rfl,hx,hy,os,hlen,hel,hsz,hR⟩:=h1;obtain⟨w1,w2,rfl,is1,is2⟩:∃w1 w2,vs=[w1,w2]/\IsS X.K p1 w1 s1/\IsS X.K p1 w2 s2:=by
  have hl:=i1.1
  match vs,hl with
  |[w1,w2],_=>exact#[w1,w2,rfl,(i1.2 0 w1 s1 rfl rfl).1,(i1.2 1 w2 s2 rfl rfl).1]
 obtain⟨a1,vs1,b,rfl,q1,j1⟩:=ZX is1 e1.sub hx;have hy':items s2=some ys:=by rcases hy with rfl|rfl<;>rfl
 obtain⟨a2,vs2,q2,j2,rfl⟩:∃a2 vs2,SqL X.K p1.h a2 vs2/\Iss X.K p1.z vs2 ys/\w2=.ref a2:=by
  rcases hy with rfl|rfl
  .obtain⟨p,us,e,h3,h4⟩:=is2;exact#[p,us,h3,h4,e]
  .obtain⟨p,us,e,h3,h4⟩:=Is.lst_inv is2;exact#[p,us,e1.sub.seq h3,h4,e]
 refine#[a1,a2,rfl,b,#[vs1,q1],#[vs2,q2],λD' hD hK=>?_];have sz:(100000:Nat)<sizeLine:=∅;have q2':SqB X.K false p1.h a2 vs2:=q2;refine#[λi m us H'=>m=↥os-i/\i<=↥os/\∃z',Ext p1 #[H',z']/\z' D'=none/\Iss X.K z' us (os.take i),#[↥os,rfl,qA9 _,p1.z,Ext.own e1.sub hD _,e1.sub.free hD,Iss.nil],?_];rintro i m us H' hD' ⟨rfl,hi,z',hs,hzD,hiss⟩;have q1h:SqB X.K b H' a1 vs1:=q1.same hs.hh;have q2h:SqB X.K false H' a2 vs2:=q2'.same hs.hh;have l1:=j1.1;have l2:=j2.1;by_cases hlt:i<↥os
 .have n1:i<↥vs1:=();have n2:i<↥vs2:=();refine .inr #[#[vs1,vs2,_,_,q1h,q2h,qAb n1,qAb n2],λv H'' hy2=>?_];obtain⟨p,v1,v2,hp,rfl,g1,g2,rfl⟩:=hy2;obtain⟨d1,hd1,id1⟩:=EA j1 (g1 vs1 q1h);obtain⟨d2,hd2,id2⟩:=EA j2 (g2 vs2 q2h);have eo:Ext #[H',z'] #[upd H' p (.tup [v1,v2]),z']:=Ext.own hs.sub hp _;have hs2:=hs.trans eo;refine#[p,v1,v2,rfl,.inl (.inl As),?_];have rr:Rep (cxC X N scope p1.h) p1 (TV τ idx d1 d2) (some v1::some v2::DP σ idx) #[upd H' p (.tup [v1,v2]),z']:=Sr r e1 hs2 (id1.mono hs.zz) (id2.mono hs.zz);have hDp:D'≠p:=by rintro rfl;rw[hD']at hp;cases hp
  have hD2:upd H' p (.tup [v1,v2]) D'=some (.lst us):=by rw[An hDp];exact hD'
  have hys:↥us<=i:=by rw[hiss.1,qAP];omega
  have keep:∀q:HZ,Ext #[upd H' p (.tup [v1,v2]),z'] q->q.z D'=none:=λq e=>by
   cases y:q.z D' with
   |none=>rfl
   |some o=>
    rcases e.new D' o y with y|y
    .exact nomatch (hzD.symm.trans y)
    .exact nomatch (hD2.symm.trans y)
  refine#[_,_,_,_,rr,hel i d1 d2 hd1 hd2,λs v3 q4 e4 i4 f4 h4=>?_];obtain⟨y,hy',h4⟩:=FW h4;obtain⟨z5,e5,i5⟩:=Fm e4 i4 f4;rw[hy']at i5;have hD4:q4.h D'=some (.lst us):=e5.hh _ _ hD2;have hz5:z5 D'=none:=keep _ e5;refine#[hD4,(),↥os-(i+1),(),rfl,hlt,z5,?_,hz5,?_]
  .have e15:=hs2.trans e5;refine#[λb o hb'=>?_,e15.zz,λb o hb'=>?_,e15.new]
   .have hne:b≠D':=by rintro rfl;rw[hD]at hb';cases hb'
    show upd q4.h D' _ b=some o;rw[An hne];exact e15.hh b o hb'
   .have hne:b≠D':=by
     rintro rfl;have hb2:z5 b=some o:=hb';rw[hz5]at hb2;cases hb2
    show upd q4.h D' _ b=some o;rw[An hne];exact e15.sub b o hb'
  .rw[qBx,h4];exact(hiss.mono e5.zz).snoc i5
 .have ei:i=↥os:=();subst ei;rw[List.take_length]at hiss;refine .inl #[#[vs1,vs2,q1h,q2h,()],q (.l os) _ #[H',z'] (e1.trans hs) #[D',us,rfl,hD',hiss] (λxs a _ h2=>?_) hR];cases h2;exact#[e1.hh.free hD,hK,hzD]
variable {e1 e2:Expr}{np pn:Pos}
def W6 (O:DX X x y' scope N idx)(hc:X.calm=true)(hi:PI X (.Tuple [.Name x px,.Name y' py'] kt pt) (.Call (.Name "zip" np) [e1,e2] [] pn) (Ze X.K (FA X ta)))(helt:∀cl C s₀ H₀ fp,PE3 (AB X N scope cl C s₀ H₀ fp) elt te)
 (hs:∀x,foldedSetIterable (.Call (.Name "zip" np) [e1,e2] [] pn) X.env x=pure x:=by intro _;rfl):PE3 X (.ListComp elt [#[.Tuple [.Name x px,.Name y' py'] kt pt,.Call (.Name "zip" np) [e1,e2] [] pn,[],0]] scope pos) (Sg idx ta te):=
 #[BL (T4 O hc hi (LN helt) hs) λσ H Q h=>MW h]
def X8 {i:Nat}{y:Str}{py spos:Pos}(O:DX X x y' scope N idx)(hc:X.calm=true)(hi:PI X (.Tuple [.Name x px,.Name y' py'] kt pt) (.Call (.Name "zip" np) [e1,e2] [] pn) (Ze X.K (FA X ta)))(helt:∀cl C s₀ H₀ fp,PE3 (AB X N scope cl C s₀ H₀ fp) elt te)
 (hN:X.N.Nodup)(hy:X.N[i]? = some y)(hly:Loc X.env.scope y)
 (hsw:swapsWith (.ListComp elt [#[.Tuple [.Name x px,.Name y' py'] kt pt,.Call (.Name "zip" np) [e1,e2] [] pn,[],0]] scope pos) (some (.Name y py)) spos.line X.env=pure true:=by rfl)(hs:∀x,foldedSetIterable (.Call (.Name "zip" np) [e1,e2] [] pn) X.env x=pure x:=by intro _;rfl)
 (hfn:X.fn y=true\/X.env.scope.names.lookup y=some .local:=by first|exact .inl rfl|exact .inr rfl|assumption)(hp:EL X i:=by first|exact ED rfl|exact EF rfl ∅|assumption) :
 PS3 X (.Assign [.Name y py] (.ListComp elt [#[.Tuple [.Name x px,.Name y' py'] kt pt,.Call (.Name "zip" np) [e1,e2] [] pn,[],0]] scope pos) spos) (Zg i (Sg idx ta te)):=
 #[C4 (Nn O hc hi (LN helt) hN hy hly hsw hs hfn) λD2 σ H hh=>by obtain⟨B,z,τ,D3,r,ht,c⟩:=hh;exact MW #[B,z,τ,_,r,ht,λs v H' e i f h=>by
  cases s with
  |r _=>exact h.elim
  |d y=>exact c.nx _ _ _ (r.set e i f rfl hp) h
  |l ys=>exact c.nx _ _ _ (r.set e i f rfl hp) h]]
end
def LR (fN:List Str)(scope:Scope)(N:List Str):Nat->List Nat->Bool
 |_,[]=>true
 |k,j::r=>(match N[k+2]?,fN[j]? with
  |some y,some y'=>y==y'&&(scope.names.lookup y==some NameKind.free)
  |_,_=>false)&&LR fN scope N (k+1) r
def Oj (fsc:Scope)(fN:List Str)(x z:Str)(scope:Scope)(N:List Str)(idx:List Nat):Bool:=
 (scope.kind == .function)&&scope.names.all (λy=>!(y.2 == .cell))&&scope.names.all (λy=>!(y.2 == .local)||scope.names.lookup y.1==some .local)&&(scope.names.lookup x==some NameKind.local)&&(scope.names.lookup z==some NameKind.local) &&
 scope.names.all (λy=>!(y.2 == .free)||fsc.names.lookup y.1==some .cell)&&decide N.Nodup&&(N[0]? == some x)&&(N[1]? == some z)&&(↥N==↥idx+2)&&LR fN scope N 0 idx
theorem SA {fN:List Str}{scope:Scope}{N:List Str}:∀{idx:List Nat}{k0:Nat},LR fN scope N k0 idx=true->∀(k j:Nat),idx[k]? = some j->∃y,N[k0+k+2]? = some y/\fN[j]? = some y/\scope.names.lookup y=some .free
 |[],_,_,_,_,h=>by simp at h
 |i::r,k0,h,k,j,hk=>by
  unfold LR at h;rw[qAZ]at h;cases k with
  |zero=>
   have e:i=j:=by simpa using hk
   subst e;obtain⟨h1,_⟩:=h;split at h1
   .rename_i y y' e1 e2;rw[qAZ]at h1;have ey:y=y':=by simpa using h1.1
    subst ey;exact#[y,e1,e2,by simpa using h1.2]
   .cases h1
  |succ k=>
   obtain⟨y,a,b,c⟩:=SA h.2 k j (by simpa using hk);exact#[y,by rw[<-a];congr 1;omega,b,c]
def DX.mk' {X:Cx}{x z:Str}{scope:Scope}{N:List Str}{idx:List Nat}(fsc:Scope)(fN:List Str)(h1:X.env.scope=fsc)(h2:X.N=fN)(h:Oj fsc fN x z scope N idx=true):DX X x z scope N idx:=by
 subst h1 h2;unfold Oj at h;simp only[qAZ]at h;obtain⟨⟨⟨⟨⟨⟨⟨⟨⟨⟨a1,a2⟩,a3⟩,a4⟩,b4⟩,a5⟩,a6⟩,a7⟩,b7⟩,a8⟩,a9⟩:=h;refine#[by simpa using a1,λy hy=>?_,λy hy hl=>?_,by simpa using a4,by simpa using b4,λy hy hf=>?_,by simpa using a6,by simpa using a7,by simpa using b7,by simpa using a8,λk j hk=>?_]
 .have:=qAK.mp a2 y hy;simpa using this
 .have:=qAK.mp a3 y hy;rw[hl]at this;simpa using this
 .have:=qAK.mp a5 y hy;rw[hf]at this;show X.env.scope.names.lookup y.1=some .cell;simpa using this
 .have:=SA a9 k j hk;simpa using this
theorem LK {α β:Type}{f g:α->Option β}:∀{l:List α},(∀a∈l,f a=g a)->l.filterMap f=l.filterMap g
 |[],_=>rfl
 |a::l,h=>by
  rw[qBf,qBf,h a (qAi.mpr (.inl rfl)),LK λb hb=>h b (qAi.mpr (.inr hb))]
def Uy (items:List Value):slicePick items.toArray none none (some (-1))=items.reverse.toArray:=by
 unfold slicePick
 congr 1
 have e:sliceBounds none none (some (-1)) items.toArray.size=((items.length:Int)-1,-1,-1):=by
  unfold sliceBounds;simp
 rw[e];unfold sliceRange;have c:(if (-1:Int)>0 then (if ((items.length:Int)-1) < -1 then ((-1:Int)-((items.length:Int)-1) + -1-1) / -1 else 0) else (if ((items.length:Int)-1) > -1 then (((items.length:Int)-1) - -1 - -1-1)/(- -1) else 0))=(items.length:Int):=by
  rw[qC5 ∅];split
  .rw[show(- -1:Int)=1 from ∅,Int.ediv_one];omega
  .omega
 show((List.range (if (-1:Int)>0 then (if ((items.length:Int)-1) < -1 then ((-1:Int)-((items.length:Int)-1) + -1-1) / -1 else 0) else (if ((items.length:Int)-1) > -1 then (((items.length:Int)-1) - -1 - -1-1)/(- -1) else 0)).toNat).map fun(k:Nat)=>(((items.length:Int)-1) + -1*(k:Int)).toNat).filterMap (items.toArray[·]?)=_;rw[c,qBV];have q:((List.range items.length).map fun(k:Nat)=>(((items.length:Int)-1) + -1*(k:Int)).toNat).filterMap (items.toArray[·]?)=(List.range items.length).filterMap λk=>items[items.length-1-k]? := by
  rw[qBD];refine LK λk hk=>?_;have hk:=qAH.mp hk;show items.toArray[(((items.length:Int)-1) + -1*(k:Int)).toNat]? = _;rw[show(((items.length:Int)-1) + -1*(k:Int)).toNat=items.length-1-k from (),qBG]
 rw[q];have g:(List.range items.length).filterMap (λk=>items[items.length-1-k]?)=(List.range items.length).filterMap (λk=>items.reverse[k]?):=by
  refine LK λk hk=>?_;have hk:=qAH.mp hk;rw[qBH hk]
 rw[g];have all:∀(l:List Value),(List.range ↥l).filterMap (λk=>l[k]?)=l:=λl=>by
  induction l with
  |nil=>rfl
  |cons a l ih=>
   rw[qAU,List.range_succ_eq_map,qBf,qBD];show a::_=_
   congr 1
 have:=all items.reverse;rw[qBz]at this;exact this
section
variable {X:Cx}{e st:Expr}{te ts:TE3}{pos p2:Pos}
def cD (K:W.Frag)(t:TE)(ts:TE):TE:=λσ H Q=>t σ H λx H1=>ts σ H1 λu H2=>u=.int (-1)/\∃a xs,x=.ref a/\SqL K H2 a xs/\∀p,H2 p=none->K.lookup p=none->Q (.ref p) (upd H2 p (.lst xs.reverse))
def Yd {t t2:TE}(he:PE X e t)(hs:PE X st t2):PE X (.Subscript e (.Slice none none (some st) p2) pos) (cD X.K t t2):=by
 intro pins s σ H Q I h;refine Subscript_ (thn (he pins s σ H _ I h) λv s1 hh=>?_);obtain⟨x,H1,I1,r1,q1⟩:=hh;refine wpAny_Slice ?_;rw[evalPart_none];refine qC2 (qC2 ?_);rw[evalPart_some];refine thn (hs pins s1 σ H1 _ I1 q1) λvs s3 hh=>?_;obtain⟨u,H3,I3,r3,e3,a,xs,e4,hx,q⟩:=hh;subst e3 e4;obtain⟨tk,rfl⟩:=r3;cases r1;have I4:Inv X pins σ H3 { s3 with heap:=s3.heap.push { cls:=.type "slice",data:=.fields (List.toArray [.none,.none,.int (-1) tk]) } }:=I3.kept (t':=s3.toks) λb ob q=>qAh _ q;obtain⟨its,r,ht,hz⟩:=I4.list hx;have hlen:=↥r;have go:wpAny (model X.prog X.w) X.A (getItem (.ref a) (.ref s3.heap.objs.size)) (EP X pins σ Q) X.xe { s3 with heap:=s3.heap.push { cls:=.type "slice",data:=.fields (List.toArray [.none,.none,.int (-1) tk]) } }:=by
  refine wpAny_getItem_list_slice ht.isList (Heap.IsSliceOf.new ..) .none .none (.int (-1) tk) ∅ ?_ (by rw[qAt]<;>omega);rw[Uy];refine#[.ref _,_,I4.laid (t':=s3.toks) (o:=.lst xs.reverse) (λb ob q=>qAh _ q) (qAg _) ?_,rfl,q _ (I4.hok.fresh (qAg _)) ?_]
  .exact#[by rw[qBz];exact hz,_,0,r.reverse,qAy _ rfl]
  .cases e:X.K.lookup _ with
   |none=>rfl
   |some o=>exact absurd (qAj (I4.kIn _ _ e)) (qAY _)
 show wpAny (model X.prog X.w) X.A (subscriptTail e (.Slice none none (some st) p2) (.ref a) (.ref s3.heap.objs.size)) (EP X pins σ Q) X.xe _;exact tail_any (ops:=[.ref a,.ref s3.heap.objs.size]) ht.isList.typeIs slot_list_getitem.lookup go (by with_unfolding_all rfl)
def cX (te ts:TE3):TE3:=λτ R=>te τ λs=>∃xs,(s=.r xs\/s=.l xs\/s=.d (.lst xs))/\ts τ λu=>u=.d (.int (-1))/\R (.l xs.reverse)
def Xb {K:W.Frag}{H:Hp}{vs:List V}{xs:List D}(h:Iss K H vs xs):Iss K H vs.reverse xs.reverse:=by
 refine#[by rw[qBz,qBz];exact h.1,λi v x h1 h2=>?_];have hi:i<↥vs:=by have:=(qAe.mp h1).1;rw[qBz]at this;exact this
 rw[qBH hi]at h1;rw[qBH (by rw[<-h.1];exact hi),<-h.1]at h2;exact h.2 _ v x h1 h2
def Z5 (he:PE3 X e te)(hs:PE3 X st ts):PE3 X (.Subscript e (.Slice none none (some st) p2) pos) (cX te ts):=
 #[BL (Yd he.out hs.out) λσ H Q hh=>by
  obtain⟨B,z,τ,R,r,ht,q⟩:=hh;refine#[B,z,τ,_,r,ht,λs v q1 e1 i1 f1 h1=>?_];obtain⟨xs,hx,h1⟩:=h1;refine#[B,_,τ,_,r.mono e1,h1,λu v2 q2 e2 i2 f2 h2=>?_];obtain⟨rfl,hR⟩:=h2;have i1':=IsS.mono e2 i1;refine#[Is.int_inv i2,?_];have fin:∀(a:Addr)(vs:List V),v=.ref a->SqL X.K q2.h a vs->Iss X.K q2.z vs xs->∃a xs,v=.ref a/\SqL X.K q2.h a xs/\∀p,q2.h p=none->X.K.lookup p=none->Q (.ref p) (upd q2.h p (.lst xs.reverse)):=λa vs hv hq hi=>
   #[a,vs,hv,hq,λp hp hk=>q (.l xs.reverse) _ #[_,q2.z] ((e1.trans e2).trans (Ext.own e2.sub hp _)) #[p,_,rfl,As,Xb hi] (λys a _ h2=>by
    cases h2;exact#[(e1.trans e2).hh.free hp,hk,e2.sub.free hp]) hR]
  rcases hx with rfl|rfl|rfl
  .obtain⟨a,vs,rfl,h3,h4⟩:=i1';exact fin a vs rfl h3 h4
  .obtain⟨a,vs,rfl,h3,h4⟩:=i1';exact fin a vs rfl (SqL.of h3) h4
  .obtain⟨a,vs,rfl,h3,h4⟩:=Is.lst_inv i1';exact fin a vs rfl (e2.sub.seq h3) h4]
end
section
variable {X:Cx}{pos:Pos}{e:Expr}{te tb:TE3}
def Vn (sp:SpL)(U:Str->Prop)(idx:List Nat)(te tb:TE3):TE3:=λτ R=>te τ λs=>∃(dom:D->Prop)(p:D->Bool),(∀x,dom x->tb (some (.d x)::Mj τ idx) λs=>s=.d (.bl (p x)))/\∀a,sp a dom p [s.arg,.d (.ref a)] R U
def IK {k kb:Nat}{g x y:Str}{np lp:Pos}{ps:List Str}{sp:SpL}{c T:Addr}{params:Arguments}{body:Expr}{scope:Scope}{N:List Str}{idx:List Nat}(cal:aG X.prog X.w X.K X.mg X.base k (kb+1) g ps sp)(hr:DC k X.A)(hg:Gl X g)
 (ht:W.tabIn X.K y=some (c,T))(hp:(recsOf X.prog).any (λd=>d.name==y)=true)(hcode:X.env.code=.ref c)(O:Bl X x scope N idx)(he:PE3 X e te)
 (hb:∀cl nm a cdv A outer s H,DC kb (A.deeper (W.envX nm scope s.heap.objs.size a cdv cl))->PE3 (Wu X N scope cl nm a cdv A outer s H) body tb)
 (hfn:∀y,X.fn y=true:=by intro _;rfl)(hdef:defaultsOf params X.env=([],[]):=by rfl)(hco:scope.isCoroutine=false:=by rfl)(hgen:scope.isGenerator=false:=by rfl)
 (hbind:∀(q:Str)(cl:List (Str×Addr))(pm cv ct u:Value),bindArgs (qCt "<lambda>" q params body scope cl pm cv ct) #[[u],[]]=pure [(x,u)]:=by intros;rfl)
 (hdb:(g==("__debug__":Str))=false:=by decide)(hs:starEach [e,.Lambda params body scope lp] X.env=(false,eval e X.env)::starEach [.Lambda params body scope lp] X.env:=by exact Cm rfl) :
 PE3 X (.Call (.Name g np) [e,.Lambda params body scope lp] [] pos) (Vn sp NoU idx te tb):=by
 refine#[λpins s σ H Q I hh=>?_];obtain⟨B,z,τ,R,r,ht1,q⟩:=hh;obtain⟨f,fd,F,hm,hk,hbi⟩:=cal.ex;obtain⟨cl,ecl,hcl,hcl2⟩:=HE (scope:=scope) (env:=X.env) λy hy hf=>I.ok.has y.1 (.inl (O.free y hy hf));refine wpAny_Call_Name_kw (DT I hg hm ?_ hdb);refine qBR (h₀:=X.base) I.ok.mod.kin hk ?_ hs rfl;rw[hs];refine Calls.spliced_cons (thn (he.out pins s σ H (λv1 H1=>∃z1 d,Ext #[H,z] #[H1,z1]/\IsS X.K #[H1,z1] v1 d/\d.own=false/\∃(dom:D->Prop)(p:D->Bool),(∀x,dom x->tb (some (.d x)::Mj τ idx) λs=>s=.d (.bl (p x)))/\∀a,sp a dom p [d,.d (.ref a)] R NoU) I #[B,z,τ,_,r,ht1,λs2 v2 q2 e2 i2 f2 h2=>?_]) λu1 s1 #[v1,H1,I1,rv1,z1,d,e1,i1,ow,dom,p,hdom,hsp]=>?_)
 .obtain⟨dom,p,hdom,h3⟩:=h2;obtain⟨z5,e5,i5⟩:=Fm e2 i2 f2;exact#[z5,s2.arg,e5,i5,Qu s2,dom,p,hdom,h3]
 have hs2:starEach [Expr.Lambda params body scope lp] X.env=(false,eval (.Lambda params body scope lp) X.env)::starEach [] X.env:=Cm rfl;rw[hs2];refine Calls.spliced_cons (Tg I1 ht hp hcode hdef ecl λa c' H2 s2 fo oc fs nm qual tq pm ctv I2 sm ha hfo hc hoc hfs=>?_);refine Calls.spliced_nil #[I2.kIn,?_];have e12:Ext #[H,z] #[H2,z1]:=e1.trans (Ext.grow e1.sub sm);have r2:Rep X B τ σ #[H2,z1]:=r.mono e12;have hL:=YO O hfn I2 hcl hcl2 ha hfo hc hoc hfs hco hgen hbind hb r2 hdom;have i1':IsS X.K #[H2,z1] v1 d:=IsS.mono (Ext.grow e1.sub sm) i1;have hl:[u1,Value.ref a].length=↥ps:=F.len a dom p _ _ _ (hsp a);have rvs:B4 [v1,V.ref a] [u1,Value.ref a]:=.cons rv1 (.cons rfl .nil);refine wpAny_call (codeAny_mono (F.run X.A X.stack s2 H2 #[[u1,.ref a],[]] [u1,.ref a] [v1,.ref a] Q (λ_ _ _=>False) a dom p hr I2.env0 ?_ rvs hL #[z1,[d,.d (.ref a)],R,NoU,e12.sub,#[rfl,λi v s h1 h2=>?_],hsp a,λs v q3 e3 i3 f3 h3=>q s v q3 (e12.trans e3) i3 (N3 e12 f3) h3,λ_ _ _ _ _ z=>z.elim]) λrr s3 hq=>?_)
 .have:=hbi s2 [u1,.ref a] I2.kIn (by simpa using hl);simpa using this
 .match i,h1,h2 with
  |0,h1,h2=>cases h1;cases h2;exact#[i1',ow]
  |1,h1,h2=>cases h1;cases h2;exact#[Is.ref a,rfl]
 cases rr with
 |error e=>exact(show False from hq).elim
 |ok fl=>
  cases fl with
  |ret u=>exact I2.after hq
  |next=>exact False.elim hq
  |brk=>exact False.elim hq
  |cont=>exact False.elim hq
end
section
variable {X:Cx}{e a b:Expr}{te ta tb:TE3}{pos:Pos}
end
end L3
namespace CH
abbrev Ln2:=Rat×Rat
def ev (l:Ln2)(t:Rat):Rat:=l.1*t+l.2
abbrev Ps:=List (Rat×Ln2)
def bg (P:Ps)(i:Nat):Rat:=(P.getD i (0,(0,0))).1
def ln (P:Ps)(i:Nat):Ln2:=(P.getD i (0,(0,0))).2
def LeO (t:Rat):Option Rat->Prop
 |none=>True
 |some u=>t<=u
def LtO (t:Rat):Option Rat->Prop
 |none=>True
 |some u=>t<u
def LtO.le {t:Rat}{T:Option Rat}(h:LtO t T):LeO t T:=by
 cases T with
 |none=>trivial
 |some u=>exact qAm h
structure PU (P:Ps)(h:Rat->Rat)(T:Option Rat):Prop where
 up:∀i,i+1<↥P->bg P i<bg P (i+1)
 lt:∀i,i<↥P->LtO (bg P i) T
 v:∀i,i<↥P->∀t,bg P i<=t->(i+1<↥P->t<=bg P (i+1))->LeO t T->h t=ev (ln P i) t
def Ml {P:Ps}{c:Rat×Ln2}{i:Nat}(h:i<↥P):bg (P++[c]) i=bg P i/\ln (P++[c]) i=ln P i:=by
 have e:(P++[c]).getD i (0,(0,0))=P.getD i (0,(0,0)):=by
  rw[qAf,qAf,qAu h]
 unfold bg ln;rw[e];exact#[rfl,rfl]
def Zj {P:Ps}{c:Rat×Ln2}:bg (P++[c]) ↥P=c.1/\ln (P++[c]) ↥P=c.2:=by
 have e:(P++[c]).getD ↥P (0,(0,0))=c:=by
  rw[qAf,qAw (qAg _),qC0];rfl
 unfold bg ln;rw[e];exact#[rfl,rfl]
def PU.push {P:Ps}{h:Rat->Rat}{T:Option Rat}{b:Rat}{l:Ln2}(p:PU P h (some b))(hb:LtO b T)(hv:∀t,b<=t->LeO t T->h t=ev l t):PU (P++[(b,l)]) h T:=by
 have hl:(P++[(b,l)]).length=↥P+1:=by simp
 have r:=Zj (P:=P) (c:=(b,l));refine#[λi hi=>?_,λi hi=>?_,λi hi t h1 h2 h3=>?_]
 .rw[hl]at hi;have hi':i<↥P:=();rw[(Ml hi').1];by_cases c:i+1<↥P
  .rw[(Ml c).1];exact p.up i c
  .rw[show i+1=↥P from (),r.1];exact p.lt i hi'
 .rw[hl]at hi;by_cases c:i<↥P
  .rw[(Ml c).1];have:=p.lt i c;cases T with
   |none=>trivial
   |some u=>
    have h1:bg P i<b:=this;have h2:b<u:=hb;show bg P i<u;grind
  .rw[show i=↥P from (),r.1];exact hb
 .rw[hl]at hi h2;by_cases c:i<↥P
  .rw[(Ml c).2];rw[(Ml c).1]at h1;have h2':=h2 ();by_cases c2:i+1<↥P
   .rw[(Ml c2).1]at h2';exact p.v i c t h1 (λ_=>h2') (by
     have:=p.lt _ c2;have h1:bg P (i+1)<b:=this;show t<=b;grind)
   .rw[show i+1=↥P from (),r.1]at h2';exact p.v i c t h1 (λz=>absurd z c2) h2'
  .have e:i=↥P:=();subst e;rw[r.1]at h1;rw[r.2];exact hv t h1 h3
def PU.skip {P:Ps}{h:Rat->Rat}{T:Option Rat}{b:Rat}{l:Ln2}(p:PU P h (some b))(hb:LtO b T)(ne:0<↥P)(e:ln P (↥P-1)=l)(hv:∀t,b<=t->LeO t T->h t=ev l t):PU P h T:=by
 refine#[p.up,λi hi=>?_,λi hi t h1 h2 h3=>?_]
 .have:=p.lt i hi;cases T with
  |none=>trivial
  |some u=>
   have h1:bg P i<b:=this;have h2:b<u:=hb;show bg P i<u;grind
 .by_cases c:t<=b
  .exact p.v i hi t h1 h2 c
  .have hn:¬i+1<↥P:=λz=>by
    have h4:=h2 z;have h5:bg P (i+1)<b:=p.lt _ z;grind
   rw[show i=↥P-1 from (),e];exact hv t ⋯ h3
def mp (a b:Rat):Rat:=if a<b then a else b
def Zk {a b:Rat}(h:a<=b):mp a b=a:=by unfold mp;split<;>grind
def ZP {a b:Rat}(h:b<=a):mp a b=b:=by unfold mp;split<;>grind
def bZ (l1 l2:Ln2)(a:Rat):Option Rat->Prop
 |some u=>a<u/\ev l1 u<=ev l2 u
 |none=>l1.1<=l2.1
def ZE (l1 l2:Ln2)(a:Rat):Option Rat->Prop
 |some u=>a<u/\ev l2 u<ev l1 u
 |none=>l2.1<l1.1
def MT {l1 l2:Ln2}{a t:Rat}{T:Option Rat}(ha:a<=t)(ht:LeO t T)(n:ev l1 a<=ev l2 a)(th:bZ l1 l2 a T):ev l1 t<=ev l2 t:=by
 cases T with
 |none=>
  unfold ev at *
  have h1:l1.1<=l2.1:=th;have h2:0<=(l2.1-l1.1)*(t-a):=qAk ⋯ ⋯;grind
 |some u=>
  obtain⟨h0,h1⟩:=th;unfold ev at *
  have h2:t<=u:=ht;have h3:0<u-a:=⋯;have k1:0<=(l2.1*a+l2.2-(l1.1*a+l1.2))*(u-t):=qAk ⋯ ⋯;have k2:0<=(l2.1*u+l2.2-(l1.1*u+l1.2))*(t-a):=qAk ⋯ ⋯;have k3:(l2.1*t+l2.2-(l1.1*t+l1.2))*(u-a)=(l2.1*a+l2.2-(l1.1*a+l1.2))*(u-t)+(l2.1*u+l2.2-(l1.1*u+l1.2))*(t-a):=⋯;refine qAN.mp λz=>?_;have k4:(l2.1*t+l2.2-(l1.1*t+l1.2))*(u-a)<0:=by
   have:=qBB (a:=l1.1*t+l1.2-(l2.1*t+l2.2)) (b:=u-a) ⋯ h3;grind
  grind
def xg (l1 l2:Ln2):Rat:=(l2.2-l1.2)/(l1.1-l2.1)
def PJ {l1 l2:Ln2}(h:l1.1≠l2.1):ev l1 (xg l1 l2)=ev l2 (xg l1 l2):=by
 unfold ev xg;have:l1.1-l2.1≠0:=⋯;have k:(l2.2-l1.2)/(l1.1-l2.1)*(l1.1-l2.1)=l2.2-l1.2:=qBa this;grind
def W5 {l1 l2:Ln2}:xg l1 l2=xg l2 l1:=by
 unfold xg;by_cases h:l1.1=l2.1
 .rw[h,show l2.1-l2.1=0 from ⋯];rw[qCP,qCP];simp
 .have x1:=PJ h;have x2:=PJ (l1:=l2) (l2:=l1) (Ne.symm h);unfold xg at x1 x2;unfold ev at x1 x2;have k:(l1.1-l2.1)*((l2.2-l1.2)/(l1.1-l2.1)-(l1.2-l2.2)/(l2.1-l1.1))=0:=⋯;rcases qBe.mp k with z|z
  .grind
  .grind
def Ja {l1 l2:Ln2}{a:Rat}{T:Option Rat}(n:ev l1 a<ev l2 a)(th:ZE l1 l2 a T):l1.1≠l2.1/\a<xg l1 l2/\LtO (xg l1 l2) T:=by
 have s:l2.1<l1.1:=by
  cases T with
  |none=>exact th
  |some u=>
   obtain⟨h0,h1⟩:=th;unfold ev at n h1;refine qA1.mp λz=>?_;have k:0<=(l2.1-l1.1)*(u-a):=qAk ⋯ ⋯;grind
 have ne:l1.1≠l2.1:=⋯;have x:=PJ ne;have key:∀t,(l1.1-l2.1)*(xg l1 l2-t)=ev l2 t-ev l1 t:=λt=>by
  unfold ev at x ⊢;grind
 have pos:∀t,ev l1 t<ev l2 t->t<xg l1 l2:=λt h=>by
  refine qA1.mp λz=>?_;have k1:=key t;have k2:0<=(l1.1-l2.1)*(t-xg l1 l2):=qAk ⋯ ⋯;grind
 have neg:∀t,ev l2 t<ev l1 t->xg l1 l2<t:=λt h=>by
  refine qA1.mp λz=>?_;have k1:=key t;have k2:0<=(l1.1-l2.1)*(xg l1 l2-t):=qAk ⋯ ⋯;grind
 refine#[ne,pos a n,?_];cases T with
 |none=>trivial
 |some u=>exact neg u th.2
def sg (x:Rat):Int:=if x<0 then -1 else if 0<x then 1 else 0
def P6 {x:Rat}:sg x<0 ↔ x<0:=by unfold sg;split<;>(try split)<;>constructor<;>intro h<;>first|grind|omega
def QA {x:Rat}:0<sg x ↔ 0<x:=by unfold sg;split<;>(try split)<;>constructor<;>intro h<;>first|grind|omega
def Wz {x:Rat}:sg x=0 ↔ x=0:=by unfold sg;split<;>(try split)<;>constructor<;>intro h<;>first|grind|omega
def D0 (l1 l2:Ln2):Option Rat->Rat
 |some u=>ev l1 u-ev l2 u
 |none=>l1.1-l2.1
def VH {l1 l2:Ln2}{a:Rat}{T:Option Rat}(ha:LtO a T)(h:D0 l1 l2 T<=0):bZ l1 l2 a T:=by
 cases T with
 |none=>exact(by have h':l1.1-l2.1<=0:=h;show l1.1<=l2.1;grind)
 |some u=>exact#[ha,by have h':ev l1 u-ev l2 u<=0:=h;grind]
def Pd {l1 l2:Ln2}{a:Rat}{T:Option Rat}(ha:LtO a T)(h:0<D0 l1 l2 T):ZE l1 l2 a T:=by
 cases T with
 |none=>exact(by have h':0<l1.1-l2.1:=h;show l2.1<l1.1;grind)
 |some u=>exact#[ha,by have h':0<ev l1 u-ev l2 u:=h;grind]
theorem Hx {l1 l2:Ln2}{T:Option Rat}:D0 l2 l1 T=- D0 l1 l2 T:=by
 cases T with
 |none=>show l2.1-l1.1=-(l1.1-l2.1);grind
 |some u=>show ev l2 u-ev l1 u=-(ev l1 u-ev l2 u);grind
def MV {l1 l2:Ln2}{a:Rat}{T:Option Rat}(n:ev l1 a<ev l2 a)(th:ZE l1 l2 a T) :
 a<xg l1 l2/\LtO (xg l1 l2) T/\(∀t,a<=t->t<=xg l1 l2->ev l1 t<=ev l2 t)/\∀t,xg l1 l2<=t->LeO t T->ev l2 t<=ev l1 t:=by
 obtain⟨ne,x1,x2⟩:=Ja n th;have x:=PJ ne;refine#[x1,x2,λt h1 h2=>?_,λt h1 h2=>?_]
 .exact MT (T:=some (xg l1 l2)) h1 h2 (qAm n) #[x1,by rw[x];exact qAc]
 .refine MT (T:=T) h1 h2 (by rw[x];exact qAc) ?_;cases T with
  |none=>exact qAm th
  |some u=>exact#[x2,qAm th.2]
open PySem L2 L3
abbrev RL:=Int×Int×Int
abbrev RP:=(Int×Int)×RL
def lnD (l:RL):D:=.tup [.int l.1,.int l.2.1,.int l.2.2]
def rpD (p:RP):D:=.tup [.tup [.int p.1.1,.int p.1.2],lnD p.2]
structure LW (k:Nat)(l:RL)(q:Ln2):Prop where
 s:Wq k l.1 l.2.2 q.1
 c:Wq k l.2.1 l.2.2 q.2
structure PW1 (k m:Nat)(p:RP)(q:Rat×Ln2):Prop where
 t:Wq m p.1.1 p.1.2 q.1
 l:LW k p.2 q.2
structure PL (k m:Nat)(ps:List RP)(P:Ps):Prop where
 len:↥ps=↥P
 at_:∀(i:Nat)(p:RP)(q:Rat×Ln2),ps[i]? = some p->(P:List (Rat×Ln2))[i]? = some q->PW1 k m p q
def PL.snoc {k m:Nat}{ps:List RP}{P:Ps}{p:RP}{q:Rat×Ln2}(h:PL k m ps P)(w:PW1 k m p q):PL k m (ps++[p]) (P++[q]):=by
 refine#[by simp[h.len],λi p' q' h1 h2=>?_];by_cases c:i<↥ps
 .rw[qAu c]at h1;rw[qAu (by rw[<-h.len];exact c)]at h2;exact h.at_ i p' q' h1 h2
 .rw[qAw ()]at h1;rw[qAw (by rw[<-h.len];omega),<-h.len]at h2;cases e:i-↥ps with
  |zero=>rw[e]at h1 h2;cases h1;cases h2;exact w
  |succ n=>rw[e]at h1;cases h1
def LW.at_ {k m:Nat}{l:RL}{q:Ln2}{tn td:Int}{t:Rat}(h:LW k l q)(w:Wq m tn td t):Wq (k+m+1) (l.1*tn+l.2.1*td) (l.2.2*td) (ev q t):=by
 have w1:=h.s.mul w;refine#[qBb h.s.pos w.pos,?_,?_,A6 w1.lb ()]
 .have e1:=h.s.eq;have e2:=h.c.eq;have e3:=w.eq;unfold ev;rw[qBu,qAp,qAp,qAp,e1,e2,e3];grind
 .have b1:=Aq h.s.la w.la;have b2:=Aq h.c.la w.lb;exact Ii b1 b2
def LW.uniq {k k':Nat}{l:RL}{q q':Ln2}(h:LW k l q)(h':LW k' l q'):q=q':=by
 have hb:(l.2.2:Rat)≠0:=by
  have:=h.s.pos;intro z;have:l.2.2=0:=qCo.mp z;omega
 have cn:∀a b:Rat,a*(l.2.2:Rat)=b*(l.2.2:Rat)->a=b:=λa b e=>by
  have:(a-b)*(l.2.2:Rat)=0:=⋯;rcases qBe.mp this with z|z
  .grind
  .exact absurd z hb
 have e1:=cn _ _ (h.s.eq.symm.trans h'.s.eq);have e2:=cn _ _ (h.c.eq.symm.trans h'.c.eq);exact Prod.ext e1 e2
def Y7 {a b:Int}{q:Rat}(hb:0<b)(e:(a:Rat)=q*(b:Rat)):sg q=a.sign:=by
 have hb:(0:Rat)<(b:Rat):=qA0.mpr hb;unfold sg;by_cases c1:q<0
 .rw[qC6 c1];have:(a:Rat)<0:=by
   have:=qBB (a:=-q) (b:=(b:Rat)) ⋯ hb;rw[e];grind
  have:a<0:=Rat.intCast_neg_iff.mp this;rw[qB0 this]
 .rw[qC5 c1];by_cases c2:0<q
  .rw[qC6 c2];have:(0:Rat)<(a:Rat):=by rw[e];exact qBB c2 hb
   have:0<a:=qA0.mp this;rw[qCb this]
  .rw[qC5 c2];have z:q=0:=⋯;rw[z]at e;have:(a:Rat)=0:=by rw[e];grind
   have:a=0:=qCo.mp this;rw[this];rfl
def Wf {k m:Nat}{l1 l2:RL}{q1 q2:Ln2}{tn td:Int}{t:Rat}(h1:LW k l1 q1)(h2:LW k l2 q2)(w:Wq m tn td t) :
 ((l1.1*tn+l1.2.1*td)*l2.2.2-(l2.1*tn+l2.2.1*td)*l1.2.2).sign=sg (ev q1 t-ev q2 t):=by
 refine(Y7 (b:=l1.2.2*l2.2.2*td) (qBb (qBb h1.s.pos h2.s.pos) w.pos) ?_).symm;have e1:=h1.s.eq;have e2:=h1.c.eq;have e3:=h2.s.eq;have e4:=h2.c.eq;have e5:=w.eq;unfold ev;simp only[qBv,qBu,qAp];rw[e1,e2,e3,e4,e5];grind
def Wh {k:Nat}{l1 l2:RL}{q1 q2:Ln2}(h1:LW k l1 q1)(h2:LW k l2 q2):(l1.1*l2.2.2-l2.1*l1.2.2).sign=sg (q1.1-q2.1):=by
 refine(Y7 (b:=l1.2.2*l2.2.2) (qBb h1.s.pos h2.s.pos) ?_).symm;have e1:=h1.s.eq;have e3:=h2.s.eq;simp only[qBv,qAp];rw[e1,e3];grind
def OU {k:Nat}{l1 l2:RL}{q1 q2:Ln2}(h1:LW k l1 q1)(h2:LW k l2 q2)(ne:q1.1≠q2.1) :
 l1.1*l2.2.2-l2.1*l1.2.2≠0/\Rat.divInt (l2.2.1*l1.2.2-l1.2.1*l2.2.2) (l1.1*l2.2.2-l2.1*l1.2.2)=xg q1 q2:=by
 have e1:=h1.s.eq;have e2:=h1.c.eq;have e3:=h2.s.eq;have e4:=h2.c.eq;have p1:(l1.2.2:Rat)≠0:=by have:=qA0.mpr h1.s.pos;grind
 have p2:(l2.2.2:Rat)≠0:=by have:=qA0.mpr h2.s.pos;grind
 have eb:((l1.1*l2.2.2-l2.1*l1.2.2:Int):Rat)=(q1.1-q2.1)*((l1.2.2:Rat)*(l2.2.2:Rat)):=by
  simp only[qBv,qAp];rw[e1,e3];grind
 have ea:((l2.2.1*l1.2.2-l1.2.1*l2.2.2:Int):Rat)=(q2.2-q1.2)*((l1.2.2:Rat)*(l2.2.2:Rat)):=by
  simp only[qBv,qAp];rw[e2,e4];grind
 have np:(l1.2.2:Rat)*(l2.2.2:Rat)≠0:=λz=>by
  rcases qBe.mp z with z|z
  .exact p1 z
  .exact p2 z
 have nb:((l1.1*l2.2.2-l2.1*l1.2.2:Int):Rat)≠0:=λz=>by
  rw[eb]at z;rcases qBe.mp z with z|z
  .grind
  .exact np z
 refine#[λz=>nb (by rw[z];rfl),?_];rw[qAB,ea,eb];unfold xg;have n1:q1.1-q2.1≠0:=⋯;generalize (l1.2.2:Rat)*(l2.2.2:Rat)=B at *
 have k1:(q2.2-q1.2)/(q1.1-q2.1)*(q1.1-q2.1)=q2.2-q1.2:=qBa n1;have n2:(q1.1-q2.1)*B≠0:=λz=>by
  rcases qBe.mp z with z|z
  .exact n1 z
  .exact np z
 have k2:(q2.2-q1.2)*B/((q1.1-q2.1)*B)*((q1.1-q2.1)*B)=(q2.2-q1.2)*B:=qBa n2;have k3:((q2.2-q1.2)*B/((q1.1-q2.1)*B)-(q2.2-q1.2)/(q1.1-q2.1))*((q1.1-q2.1)*B)=0:=⋯;rcases qBe.mp k3 with z|z
 .grind
 .exact absurd z n2
def ZZ {k:Nat}{l1 l2:RL}{q1 q2:Ln2}(h1:LW k l1 q1)(h2:LW k l2 q2)(ne:q1.1≠q2.1):Sz (k+k+1) (xg q1 q2):=by
 obtain⟨n,e⟩:=OU h1 h2 ne;rw[<-e];exact D5 n (GJ (Aq h2.c.la h1.s.lb) (Aq h1.c.la h2.s.lb)) (GJ (Aq h1.s.la h2.s.lb) (Aq h2.s.la h1.s.lb))
def XA (a b:RL):eqN 1 (lnD a) (lnD b)=decide (a=b):=by
 have e:eqN 1 (lnD a) (lnD b)=((a.1==b.1&&(a.2.1==b.2.1&&(a.2.2==b.2.2&&true)))&&true):=rfl;rw[e];by_cases h:a=b
 .subst h;simp
 .rw[qC8 h];cases c:((a.1==b.1&&(a.2.1==b.2.1&&(a.2.2==b.2.2&&true)))&&true) with
  |false=>rfl
  |true=>
   exfalso
   apply h;simp only[qCB,qAZ,beq_iff_eq]at c;exact Prod.ext c.1 (Prod.ext c.2.1 c.2.2)
def Lg {α:Type}{f:α->D}{xs:List α}{a:α}(h:xs[↥xs-1]? = some a):atI (xs.map f) (-1)=some (f a):=by
 have hl:0<↥xs:=by
  cases xs with
  |nil=>cases h
  |cons _ _=>simp
 unfold atI ixN;rw[qAa,qC5 (),qC6 ()];have e:((-1:Int)+(↥xs:Int)).toNat=↥xs-1:=();show(xs.map f)[((-1:Int)+(↥xs:Int)).toNat]? = _;rw[e,qAd,h];rfl
def dW {a b:RL}{A B:Prop}(h1:¬a=b->A)(h2:a=b->B):if (!eqN 1 (lnD a) (lnD b))=true then A else B:=by
 rw[XA];exact Lk h1 h2
def LW.moved {k m:Nat}{l:RL}{q:Ln2}{wn wd vn vd:Int}{w v:Rat}(h:LW k l q)(hw:Wq m wn wd w)(hv:Wq m vn vd v) :
 LW (k+m+m+2) (l.1*(wd*vd),l.2.1*(wd*vd)-l.1*wn*vd+l.2.2*vn*wd,l.2.2*(wd*vd)) (q.1,q.2-q.1*w+v):=by
 have e1:=h.s.eq;have e2:=h.c.eq;have e3:=hw.eq;have e4:=hv.eq;have pb:0<l.2.2*(wd*vd):=qBb h.s.pos (qBb hw.pos hv.pos);have sb:=Aq h.s.lb (Aq hw.lb hv.lb);refine#[#[pb,?_,A6 (Aq h.s.la (Aq hw.lb hv.lb)) (),A6 sb ()],#[pb,?_,?_,A6 sb ()]]
 .show((l.1*(wd*vd):Int):Rat)=_;simp only[qAp];rw[e1];grind
 .show((l.2.1*(wd*vd)-l.1*wn*vd+l.2.2*vn*wd:Int):Rat)=_;simp only[qAp,qBu,qBv];rw[e1,e2,e3,e4];grind
 .have b1:=A6 (Aq h.c.la (Aq hw.lb hv.lb)) (show k+(m+m)<=k+m+m from ());have b2:=Aq (Aq h.s.la hw.la) hv.lb;have b3:=Aq (Aq h.s.lb hv.la) hw.lb;have b4:=Ii (GJ b1 b2) (A6 b3 (qB2 _));exact b4
def Wq.moved {m n:Nat}{a b wn wd:Int}{t w:Rat}(h:Wq m a b t)(hw:Wq n wn wd w):Wq (m+n+1) (a*wd+wn*b) (b*wd) (t+w):=by
 refine#[qBb h.pos hw.pos,?_,?_,A6 (Aq h.lb hw.lb) ()]
 .have e1:=h.eq;have e2:=hw.eq;simp only[qAp,qBu];rw[e1,e2];grind
 .exact Ii (Aq h.la hw.lb) (A6 (Aq hw.la h.lb) ())
def Um {q:Ln2}{w v t:Rat}:ev (q.1,q.2-q.1*w+v) t=ev q (t-w)+v:=by
 unfold ev;grind
def mvP (w v:Rat)(p:Rat×Ln2):Rat×Ln2:=(p.1+w,(p.2.1,p.2.2-p.2.1*w+v))
def mvR (wn wd vn vd:Int)(p:RP):RP:=((p.1.1*wd+wn*p.1.2,p.1.2*wd),(p.2.1*(wd*vd),p.2.2.1*(wd*vd)-p.2.1*wn*vd+p.2.2.2*vn*wd,p.2.2.2*(wd*vd)))
def PL.get {k m:Nat}{ps:List RP}{P:Ps}(h:PL k m ps P){i:Nat}{p:RP}(hp:ps[i]? = some p):∃q:Rat×Ln2,(P:List (Rat×Ln2))[i]? = some q/\PW1 k m p q:=by
 have hi:=(qAe.mp hp).1;rw[h.len]at hi;exact#[_,qAb hi,h.at_ i p _ hp (qAb hi)]
def PL.moved {k m n:Nat}{ps:List RP}{P:Ps}{wn wd vn vd:Int}{w v:Rat}(h:PL k m ps P)(hw:Wq n wn wd w)(hv:Wq n vn vd v):PL (k+n+n+2) (m+n+1) (ps.map (mvR wn wd vn vd)) (P.map (mvP w v)):=by
 refine#[by simp[h.len],λi p q h1 h2=>?_];rw[qAd]at h1 h2;cases e1:ps[i]? with
 |none=>rw[e1]at h1;cases h1
 |some p0=>
  obtain⟨q0,e2,w0⟩:=h.get e1;rw[e1]at h1;rw[e2]at h2;cases h1;cases h2;exact#[w0.t.moved hw,w0.l.moved hw hv]
def GL {α:Type}{f:α->D}{xs:List α}:(xs.map λx=>some (f x)).filterMap id=xs.map f:=by
 induction xs with
 |nil=>rfl
 |cons x xs ih=>simp[ih]
def flP (p:Rat×Ln2):Rat×Ln2:=(p.1,(-p.2.1,-p.2.2))
def flR (p:RP):RP:=(p.1,(-p.2.1,-p.2.2.1,p.2.2.2))
def Wq.neg {k:Nat}{a b:Int}{q:Rat}(h:Wq k a b q):Wq k (-a) b (-q):=by
 refine#[h.pos,?_,?_,h.lb]
 .have e:=h.eq;rw[Rat.intCast_neg,e];grind
 .have l:=h.la;show(-a).natAbs<2^k;rw[Int.natAbs_neg];exact l
def PL.flipped {k m:Nat}{ps:List RP}{P:Ps}(h:PL k m ps P):PL k m (ps.map flR) (P.map flP):=by
 refine#[by simp[h.len],λi p q h1 h2=>?_];rw[qAd]at h1 h2;cases e1:ps[i]? with
 |none=>rw[e1]at h1;cases h1
 |some p0=>
  obtain⟨q0,e2,w0⟩:=h.get e1;rw[e1]at h1;rw[e2]at h2;cases h1;cases h2;exact#[w0.t,#[w0.l.s.neg,w0.l.c.neg]]
def VQ {p:Rat×Ln2}{t:Rat}:ev (flP p).2 t=- ev p.2 t:=by
 unfold flP ev;grind
def JE {k m:Nat}{p:RP}{q:Rat×Ln2}(w:PW1 k m p q):Rat.divInt p.1.1 p.1.2=q.1/\Rat.divInt (p.2.1*p.1.1+p.2.2.1*p.1.2) (p.2.2.2*p.1.2)=ev q.2 q.1:=by
 have wa:=w.l.at_ w.t;have key:∀{j:Nat}{a b:Int}{x:Rat},Wq j a b x->Rat.divInt a b=x:=λ{j a b x} h=>by
  have hb:(b:Rat)≠0:=by have:=qA0.mpr h.pos;grind
  rw[qAB,h.eq];have k2:x*(b:Rat)/(b:Rat)*(b:Rat)=x*(b:Rat):=qBa hb;have k3:(x*(b:Rat)/(b:Rat)-x)*(b:Rat)=0:=⋯;rcases qBe.mp k3 with z|z
  .grind
  .exact absurd z hb
 exact#[key w.t,key wa]
def Zm {k l:Nat}{a b c d:Int}{p q:Rat}(h1:Wq k a b p)(h2:Wq l c d q):decide (a*d<c*b)=decide (p<q):=by
 have pb:(0:Rat)<(b:Rat):=qA0.mpr h1.pos;have pd:(0:Rat)<(d:Rat):=qA0.mpr h2.pos;have pp:(0:Rat)<(b:Rat)*(d:Rat):=qBB pb pd;have ea:((a*d:Int):Rat)=p*((b:Rat)*(d:Rat)):=by rw[qAp,h1.eq];grind
 have eb:((c*b:Int):Rat)=q*((b:Rat)*(d:Rat)):=by rw[qAp,h2.eq];grind
 refine decide_eq_decide.mpr #[λh=>?_,λh=>?_]
 .have h':((a*d:Int):Rat)<((c*b:Int):Rat):=qBj.mpr h;rw[ea,eb]at h';refine qA1.mp λz=>?_;have:0<=(p-q)*((b:Rat)*(d:Rat)):=qAk ⋯ (qAm pp);grind
 .have h':=qBB (a:=q-p) (b:=(b:Rat)*(d:Rat)) ⋯ pp;refine qBj.mp ?_;rw[ea,eb];grind
def Su {n j:Nat}{m b:Rat}(hm:Sz n m)(hb:Sz j b):LW (n+j) (m.num*(b.den:Int),b.num*(m.den:Int),(m.den:Int)*(b.den:Int)) (m,b):=by
 have wm:=Wq.of hm;have wb:=Wq.of hb;refine#[#[qBb wm.pos wb.pos,?_,Aq wm.la wb.lb,Aq wm.lb wb.lb],#[qBb wm.pos wb.pos,?_,A6 (Aq wb.la wm.lb) (),Aq wm.lb wb.lb]]
 .have e:=wm.eq;simp only[qAp];rw[e];grind
 .have e:=wb.eq;simp only[qAp];rw[e];grind
structure Cnt (B S:List Rat)(P:Ps):Prop where
 up:∀i,i+1<↥P->bg P i<bg P (i+1)
 sl:∀i,i<↥P->(ln P i).1∈S
 st:∀i,i+1<↥P->bg P (i+1)∈B\/(ln P (i+1)).1<(ln P i).1
def bel (S:List Rat)(x:Rat):Nat:=(S.filter λs=>decide (s<x)).length
def UL {S:List Rat}{x y:Rat}(h:x∈S)(l:x<y):bel S x+1<=bel S y:=by
 unfold bel
 induction S with
 |nil=>cases h
 |cons a S ih=>
  have mono:∀T:List Rat,(T.filter λs=>decide (s<x)).length<=(T.filter λs=>decide (s<y)).length:=λT=>by
   induction T with
   |nil=>exact qAg _
   |cons b T ih2=>
    rw[qA4,qA4];by_cases c:b<x
    .have c2:b<y:=⋯;rw[qC6 (by simp[c]),qC6 (by simp[c2])];simp;exact ih2
    .rw[qC5 (by simp[c])];split
     .simp;omega
     .exact ih2
  rw[qA4,qA4];rcases qAi.mp h with rfl|h'
  .rw[qC5 (by simp[qA5]),qC6 (by simp[l])];have:=mono S;simp;omega
  .have:=ih h';by_cases c:a<x
   .have c2:a<y:=⋯;rw[qC6 (by simp[c]),qC6 (by simp[c2])];simp;omega
   .rw[qC5 (by simp[c])];split
    .simp;omega
    .exact this
def Q6 {S:List Rat}{x:Rat}(h:x∈S):bel S x+1<=S.length:=by
 unfold bel
 induction S with
 |nil=>cases h
 |cons a S ih=>
  rw[qA4];rcases qAi.mp h with rfl|h'
  .rw[qC5 (by simp[qA5])];have:=qA7 (λs=>decide (s<x)) S;simp;omega
  .have:=ih h';split
   .simp;omega
   .simp;omega
def Cnt.count {B S:List Rat}{P:Ps}(h:Cnt B S P):∀i,i<↥P->i+1+bel S (ln P i).1<=(bel B (bg P i)+(if bg P i∈B then 1 else 0)+1)*S.length:=by
 intro i
 induction i with
 |zero=>
  intro hi;have:=Q6 (h.sl 0 hi);have k:1*S.length<=(bel B (bg P 0)+(if bg P 0∈B then 1 else 0)+1)*S.length:=qBc _ ();omega
 |succ i ih=>
  intro hi;have ih:=ih ();have u:=h.up i hi;have sm:=h.sl (i+1) hi;have le1:bel B (bg P i)+(if bg P i∈B then 1 else 0)<=bel B (bg P (i+1)):=by
   split
   .exact UL (by assumption) u
   .unfold bel;have:∀T:List Rat,(T.filter λs=>decide (s<bg P i)).length<=(T.filter λs=>decide (s<bg P (i+1))).length:=λT=>by
     induction T with
     |nil=>exact qAg _
     |cons b T ih2=>
      rw[qA4,qA4];by_cases c:b<bg P i
      .have c2:b<bg P (i+1):=⋯;rw[qC6 (by simp[c]),qC6 (by simp[c2])];simp;exact ih2
      .rw[qC5 (by simp[c])];split
       .simp;omega
       .exact ih2
    exact this B
  by_cases c:bg P (i+1)∈B
  .rw[qC6 c];have b1:=Q6 sm;have k:(bel B (bg P i)+(if bg P i∈B then 1 else 0)+1)*S.length<=(bel B (bg P (i+1))+1)*S.length:=qBc _ ();have e:(bel B (bg P (i+1))+1+1)*S.length=(bel B (bg P (i+1))+1)*S.length+S.length:=Nat.succ_mul _ _;omega
  .rw[qC5 c];rcases h.st i hi with z|z
   .exact absurd z c
   .have b1:=UL sm z;have k:(bel B (bg P i)+(if bg P i∈B then 1 else 0)+1)*S.length<=(bel B (bg P (i+1))+0+1)*S.length:=qBc _ ();omega
def Cnt.len {B S:List Rat}{P:Ps}(h:Cnt B S P):↥P<=(↥B+1)*S.length:=by
 rcases qBr ↥P with z|z
 .rw[z];exact qA9 _
 .have c:=h.count (↥P-1) ();have k:(bel B (bg P (↥P-1))+(if bg P (↥P-1)∈B then 1 else 0)+1)*S.length<=(↥B+1)*S.length:=by
   refine qBc _ ?_;split
   .have:=Q6 (S:=B) (by assumption);omega
   .have:bel B (bg P (↥P-1))<=↥B:=qA7 _ _;omega
  omega
def MY (ps:List RP)(p:RP)(ps':List RP):Prop:=(ps'=ps++[p]/\∀q,ps[↥ps-1]? = some q->q.2≠p.2)\/(ps'=ps/\∃q,ps[↥ps-1]? = some q/\q.2=p.2)
def MY.len {ps ps':List RP}{p:RP}(h:MY ps p ps'):↥ps'<=↥ps+1:=by
 rcases h with⟨rfl,_⟩|⟨rfl,_⟩
 .simp
 .omega
structure FQ (B S:List Rat)(G:Ln2->Prop)(U:Rat->Prop)(k m:Nat)(h:Rat->Rat)(T:Option Rat)(qs:List RP)(Q:Ps):Prop where
 pl:PL k m qs Q
 pu:PU Q h T
 cn:Cnt B S Q
 gd:∀i,i<↥Q->G (ln Q i)/\U (bg Q i)
def Cnt.snoc {B S:List Rat}{P:Ps}{b:Rat}{l:Ln2}(c:Cnt B S P)(hb:0<↥P->bg P (↥P-1)<b)(hs:l.1∈S)(st:0<↥P->b∈B\/l.1<(ln P (↥P-1)).1):Cnt B S (P++[(b,l)]):=by
 have hl:(P++[(b,l)]).length=↥P+1:=by simp
 have r:=Zj (P:=P) (c:=(b,l));refine#[λi hi=>?_,λi hi=>?_,λi hi=>?_]
 .rw[hl]at hi;by_cases z:i+1<↥P
  .rw[(Ml (show i<↥P from ())).1,(Ml z).1];exact c.up i z
  .have:i=↥P-1:=();rw[(Ml (show i<↥P from ())).1,show i+1=↥P from (),r.1,this];exact hb ()
 .rw[hl]at hi;by_cases z:i<↥P
  .rw[(Ml z).2];exact c.sl i z
  .rw[show i=↥P from (),r.2];exact hs
 .rw[hl]at hi;by_cases z:i+1<↥P
  .rw[(Ml (show i<↥P from ())).2,(Ml z).1,(Ml z).2];exact c.st i z
  .have:i=↥P-1:=();rw[(Ml (show i<↥P from ())).2,show i+1=↥P from (),r.1,r.2,this];exact st ()
def Hi {P:Ps}{i:Nat}{q:Rat×Ln2}(h:(P:List (Rat×Ln2))[i]? = some q):bg P i=q.1/\ln P i=q.2:=by
 unfold bg ln;rw[qAf,h];exact#[rfl,rfl]
def PL.lnw {k m:Nat}{qs:List RP}{Q:Ps}(h:PL k m qs Q){i:Nat}{q:RP}(hq:qs[i]? = some q):LW k q.2 (ln Q i)/\Wq m q.1.1 q.1.2 (bg Q i)/\i<↥Q:=by
 obtain⟨r,h1,h2⟩:=h.get hq;rw[(Hi h1).1,(Hi h1).2];exact#[h2.l,h2.t,(qAe.mp h1).1]
def Few (B:List Rat)(qs:List RP)(k:Nat)(b:Rat)(p:RL)(l:Ln2):Prop:=b∈B\/qs=[]\/∃q ql,qs[↥qs-1]? = some q/\LW k q.2 ql/\(q.2=p\/l.1<ql.1)
def FQ.add {B S:List Rat}{G:Ln2->Prop}{U:Rat->Prop}{k m:Nat}{h:Rat->Rat}{T:Option Rat}{qs qs':List RP}{Q:Ps}{b:Rat}{p:RP}{l:Ln2}(r:FQ B S G U k m h (some b) qs Q)(w:PW1 k m p (b,l))(a:MY qs p qs')(hb:LtO b T)(hv:∀t,b<=t->LeO t T->h t=ev l t)(hs:l.1∈S)(hG:G l)(hU:U b)(few:Few B qs k b p.2 l) :
 ∃Q',FQ B S G U k m h T qs' Q'/\(∃q,qs'[↥qs'-1]? = some q/\q.2=p.2)/\(qs=[]->bg Q' 0=b)/\(qs≠[]->bg Q' 0=bg Q 0)/\(∀i,i<↥qs->qs'[i]? = qs[i]?):=by
 have len:=r.pl.len;rcases a with⟨rfl,hn⟩|⟨rfl,q,hq,e⟩
 .refine#[Q++[(b,l)],#[r.pl.snoc w,r.pu.push hb hv,r.cn.snoc (λz=>r.pu.lt _ ()) hs λz=>?_,λi hi=>?_],#[p,by simp,rfl],λz=>?_,λz=>?_,λi hi=>qAu hi]
  .rcases few with f|f|⟨q,ql,h1,h2,f⟩
   .exact .inl f
   .rw[f]at len;simp at len;omega
   .have u:=(r.pl.lnw h1).1;rw[len]at u;rcases f with f|f
    .exact absurd f (hn q h1)
    .right;rw[u.uniq h2];exact f
  .rw[qAr]at hi;by_cases z:i<↥Q
   .rw[(Ml z).1,(Ml z).2];exact r.gd i z
   .have hi':i<↥Q+1:=hi;rw[show i=↥Q from (),Zj.1,Zj.2];exact#[hG,hU]
  .subst z;simp at len;have:Q=[]:=qAV len.symm;subst this;rfl
  .have:0<↥qs:=List.length_pos_iff.mpr z;exact(Ml (show 0<↥Q from ())).1
 .have u:=r.pl.lnw hq;have e2:ln Q (↥Q-1)=l:=by
   rw[<-len];have:=u.1;rw[e]at this;exact this.uniq w.l
  have q0:0<↥Q:=by have:=u.2.2;omega
  refine#[Q,#[r.pl,r.pu.skip hb q0 e2 hv,r.cn,r.gd],#[q,hq,e],λz=>?_,λ_=>rfl,λ_ _=>rfl];rw[z]at hq;cases hq
def bM (qs:List RP)(r1 r2:RL)(now thn:Rat):Prop:=∃q,qs[↥qs-1]? = some q/\((q.2=r1/\(thn<0\/(now<0/\thn=0)))\/(q.2=r2/\(0<thn\/(thn=0/\0<=now))))
def Tq (ps:List RP)(tm:Int×Int)(l1 l2:RL)(now thn:Int)(x:Rat)(ps':List RP):Prop:=
 ∃ps1,(if now<0\/(now=0/\thn<0) then MY ps (tm,l1) ps1 else MY ps (tm,l2) ps1) /\
  (if now<0/\0<thn then MY ps1 ((x.num,(x.den:Int)),l2) ps' else if 0<now/\thn<0 then MY ps1 ((x.num,(x.den:Int)),l1) ps' else ps'=ps1)
def FQ.row {B S:List Rat}{G:Ln2->Prop}{U:Rat->Prop}{k m:Nat}{h f g:Rat->Rat}{T:Option Rat}{qs qs':List RP}{Q:Ps}{a:Rat}{tm:Int×Int}{r1 r2:RL}{l1 l2:Ln2}(r:FQ B S G U k m h (some a) qs Q)(ha:LtO a T)(wt:Wq m tm.1 tm.2 a)(w1:LW k r1 l1)(w2:LW k r2 l2)(hm:k+k+1<=m)
 (hf:∀t,a<=t->LeO t T->f t=ev l1 t)(hg:∀t,a<=t->LeO t T->g t=ev l2 t)(hh:∀t,a<=t->LeO t T->h t=mp (f t) (g t))(s1:l1.1∈S)(s2:l2.1∈S)(g1:G l1)(g2:G l2)(ua:U a)(ux:∀l l',G l->G l'->l.1≠l'.1->U (xg l l'))
 (few:a∈B\/qs=[]\/∃q ql,qs[↥qs-1]? = some q/\LW k q.2 ql/\if ev l1 a-ev l2 a<0\/(ev l1 a-ev l2 a=0/\D0 l1 l2 T<0) then (q.2=r1\/l1.1<ql.1) else (q.2=r2\/l2.1<ql.1))
 (ad:Tq qs tm r1 r2 (sg (ev l1 a-ev l2 a)) (sg (D0 l1 l2 T)) (xg l1 l2) qs') :
 ∃Q',FQ B S G U k m h T qs' Q'/\bM qs' r1 r2 (ev l1 a-ev l2 a) (D0 l1 l2 T)/\(qs=[]->bg Q' 0=a)/\(qs≠[]->bg Q' 0=bg Q 0):=by
 obtain⟨ps1,a1,a2⟩:=ad;have i1:∀x:Rat,(sg x<0)=(x<0):=λx=>propext P6;have i2:∀x:Rat,(0<sg x)=(0<x):=λx=>propext QA;have i3:∀x:Rat,(sg x=0)=(x=0):=λx=>propext Wz;simp only[i1,i2,i3]at a1 a2;have xw:l1.1≠l2.1->Wq m (xg l1 l2).num ((xg l1 l2).den:Int) (xg l1 l2):=λne=>(Wq.of (ZZ w1 w2 ne)).mono hm;have inT:∀{x:Rat},LtO x T->∀t,LeO t (some x)->LeO t T:=λ{x} hx t ht=>by
  cases T with
  |none=>trivial
  |some u=>
   have h1:t<=x:=ht;have h2:x<u:=hx;show t<=u;grind
 have id':∀t,LeO t T->LeO t T:=λ_ h=>h;have one:∀{V:Option Rat},(∀t,LeO t V->LeO t T)->(∀t,a<=t->LeO t V->ev l1 t<=ev l2 t)->∀t,a<=t->LeO t V->h t=ev l1 t:=λhU le t h1 h2=>by
  rw[hh t h1 (hU t h2),hf t h1 (hU t h2),hg t h1 (hU t h2)];exact Zk (le t h1 h2)
 have two:∀{V:Option Rat},(∀t,LeO t V->LeO t T)->(∀t,a<=t->LeO t V->ev l2 t<=ev l1 t)->∀t,a<=t->LeO t V->h t=ev l2 t:=λhU le t h1 h2=>by
  rw[hh t h1 (hU t h2),hf t h1 (hU t h2),hg t h1 (hU t h2)];exact ZP (le t h1 h2)
 have fewA:∀{c:RL}{l:Ln2},(∀q ql,(if ev l1 a-ev l2 a<0\/(ev l1 a-ev l2 a=0/\D0 l1 l2 T<0) then (q=r1\/l1.1<ql) else (q=r2\/l2.1<ql))->(q=c\/l.1<ql))->Few B qs k a c l:=λ{c l} F=>by
  rcases few with f|f|⟨q,ql,h1,h2,f⟩
  .exact .inl f
  .exact .inr (.inl f)
  .exact .inr (.inr #[q,ql,h1,h2,F q.2 ql.1 f])
 by_cases c1:ev l1 a-ev l2 a<0
 .rw[qC6 (.inl c1)]at a1;have F1:Few B qs k a r1 l1:=fewA (λq ql z=>by rw[qC6 (.inl c1)]at z;exact z);by_cases c2:0<D0 l1 l2 T
  .rw[qC6 #[c1,c2]]at a2;have am:=Ja (T:=T) (l1:=l1) (l2:=l2) (a:=a) ⋯ (Pd ha c2);obtain⟨x1,x2,y1,y2⟩:=MV (T:=T) (l1:=l1) (l2:=l2) (a:=a) ⋯ (Pd ha c2);obtain⟨Q1,R1,⟨q,hq,eq⟩,b1,b2,_⟩:=r.add (T:=some (xg l1 l2)) #[wt,w1] a1 x1 (one (inT x2) (λt h1 h2=>y1 t h1 h2)) s1 g1 ua F1;have ne1:ps1≠[]:=λz=>by rw[z]at hq;cases hq
   have sl:l2.1<l1.1:=by
    have e:=PJ am.1;unfold ev at e c1;refine qA1.mp λz=>?_;have:0<=(l2.1-l1.1)*(xg l1 l2-a):=qAk ⋯ ⋯;grind
   obtain⟨Q2,R2,E2,b3,b4,_⟩:=R1.add (T:=T) (l:=l2) #[xw am.1,w2] a2 x2 (λt h1 h2=>by
    have ht:a<=t:=⋯;rw[hh t ht h2,hf t ht h2,hg t ht h2];exact ZP (y2 t h1 h2)) s2 g2 (ux _ _ g1 g2 am.1) (.inr (.inr #[q,l1,hq,by rw[eq];exact w1,.inr sl]))
   obtain⟨q2,hq2,eq2⟩:=E2;exact#[Q2,R2,#[q2,hq2,.inr #[eq2,.inl c2]],λz=>(b4 ne1).trans (b1 z),λz=>(b4 ne1).trans (b2 z)]
  .rw[qC5 (λz=>c2 z.2),qC5 (λz=>⋯)]at a2;subst a2;obtain⟨Q1,R1,⟨q,hq,eq⟩,b1,b2,_⟩:=r.add (T:=T) #[wt,w1] a1 ha (one id' λt h1 h2=>MT h1 h2 ⋯ (VH ha ⋯)) s1 g1 ua F1;exact#[Q1,R1,#[q,hq,.inl #[eq,⋯]],b1,b2]
 .by_cases c3:ev l1 a-ev l2 a=0/\D0 l1 l2 T<0
  .rw[qC6 (.inr c3)]at a1;have F1:Few B qs k a r1 l1:=fewA (λq ql z=>by rw[qC6 (.inr c3)]at z;exact z);rw[qC5 (λz=>c1 z.1),qC5 (λz=>⋯)]at a2;subst a2;obtain⟨Q1,R1,⟨q,hq,eq⟩,b1,b2,_⟩:=r.add (T:=T) #[wt,w1] a1 ha (one id' λt h1 h2=>MT h1 h2 ⋯ (VH ha ⋯)) s1 g1 ua F1;exact#[Q1,R1,#[q,hq,.inl #[eq,.inl c3.2]],b1,b2]
  .have nc:¬(ev l1 a-ev l2 a<0\/(ev l1 a-ev l2 a=0/\D0 l1 l2 T<0)):=λz=>z.elim c1 c3;rw[qC5 nc]at a1;have F2:Few B qs k a r2 l2:=fewA (λq ql z=>by rw[qC5 nc]at z;exact z);rw[qC5 (λz=>c1 z.1)]at a2;by_cases c4:0<ev l1 a-ev l2 a/\D0 l1 l2 T<0
   .rw[qC6 c4]at a2;have c5:0<D0 l2 l1 T:=by rw[Hx];grind
    have am:=Ja (T:=T) (l1:=l2) (l2:=l1) (a:=a) ⋯ (Pd ha c5);obtain⟨x1,x2,y1,y2⟩:=MV (T:=T) (l1:=l2) (l2:=l1) (a:=a) ⋯ (Pd ha c5);have xc:xg l2 l1=xg l1 l2:=W5;rw[xc]at am x1 x2 y1 y2;obtain⟨Q1,R1,⟨q,hq,eq⟩,b1,b2,_⟩:=r.add (T:=some (xg l1 l2)) #[wt,w2] a1 x1 (two (inT x2) (λt h1 h2=>y1 t h1 h2)) s2 g2 ua F2;have ne1:ps1≠[]:=λz=>by rw[z]at hq;cases hq
    have sl:l1.1<l2.1:=by
     have e:=PJ (Ne.symm am.1);have c4':=c4.1;unfold ev at e c4';refine qA1.mp λz=>?_;have:0<=(l1.1-l2.1)*(xg l1 l2-a):=qAk ⋯ ⋯;grind
    obtain⟨Q2,R2,E2,b3,b4,_⟩:=R1.add (T:=T) (l:=l1) #[xw (Ne.symm am.1),w1] a2 x2 (λt h1 h2=>by
     have ht:a<=t:=⋯;rw[hh t ht h2,hf t ht h2,hg t ht h2];exact Zk (y2 t h1 h2)) s1 g1 (ux _ _ g1 g2 (Ne.symm am.1)) (.inr (.inr #[q,l2,hq,by rw[eq];exact w2,.inr sl]))
    obtain⟨q2,hq2,eq2⟩:=E2;exact#[Q2,R2,#[q2,hq2,.inl #[eq2,.inl c4.2]],λz=>(b4 ne1).trans (b1 z),λz=>(b4 ne1).trans (b2 z)]
   .rw[qC5 c4]at a2;subst a2;obtain⟨Q1,R1,⟨q,hq,eq⟩,b1,b2,_⟩:=r.add (T:=T) #[wt,w2] a1 ha (two id' λt h1 h2=>MT h1 h2 ⋯ (VH ha (by grind [Hx]))) s2 g2 ua F2;exact#[Q1,R1,#[q,hq,.inr #[eq,⋯]],b1,b2]
structure Sbs (P O:Ps)(N:Nat)(a:Nat->Rat)(i j:Nat->Nat):Prop where
 n0:0<N
 a0:a 0=bg O 0
 j0:j 0=0
 iP:∀n,n<N->i n<↥P
 jO:∀n,n<N->j n<↥O
 bi:∀n,n<N->bg P (i n)<=a n
 bj:∀n,n<N->bg O (j n)<=a n
 up:∀n,n+1<N->a n<a (n+1)
 ei:∀n,n<N->i n+1<↥P->n+1<N/\a (n+1)<=bg P (i n+1)
 ej:∀n,n<N->j n+1<↥O->n+1<N/\a (n+1)<=bg O (j n+1)
 si:∀n,n+1<N->i (n+1)=i n\/(i (n+1)=i n+1/\a (n+1)=bg P (i n+1))
 sj:∀n,n+1<N->j (n+1)=j n\/(j (n+1)=j n+1/\a (n+1)=bg O (j n+1))
 mv:∀n,n+1<N->i (n+1)=i n->j (n+1)≠j n
def TmN (N:Nat)(a:Nat->Rat)(n:Nat):Option Rat:=if n<N then some (a n) else none
section
variable {P O:Ps}{N:Nat}{a:Nat->Rat}{i j:Nat->Nat}{h g:Rat->Rat}
def Sbs.hP (s:Sbs P O N a i j)(p:PU P h none){n:Nat}(hn:n<N){t:Rat}(h1:a n<=t)(h2:LeO t (TmN N a (n+1))):h t=ev (ln P (i n)) t:=by
 refine p.v (i n) (s.iP n hn) t (qAv (s.bi n hn) h1) (λz=>?_) trivial;obtain⟨z1,z2⟩:=s.ei n hn z;unfold TmN at h2;rw[qC6 z1]at h2;exact qAv h2 z2
def Sbs.hO (s:Sbs P O N a i j)(p:PU O g none){n:Nat}(hn:n<N){t:Rat}(h1:a n<=t)(h2:LeO t (TmN N a (n+1))):g t=ev (ln O (j n)) t:=by
 refine p.v (j n) (s.jO n hn) t (qAv (s.bj n hn) h1) (λz=>?_) trivial;obtain⟨z1,z2⟩:=s.ej n hn z;unfold TmN at h2;rw[qC6 z1]at h2;exact qAv h2 z2
def Sbs.lt (s:Sbs P O N a i j){n:Nat}(hn:n<N):LtO (a n) (TmN N a (n+1)):=by
 unfold TmN;split
 .exact s.up n (by assumption)
 .trivial
def Sbs.ge (s:Sbs P O N a i j){n:Nat}:n<N->a 0<=a n:=by
 induction n with
 |zero=>intro _;exact qAc
 |succ n ih=>
  intro hn;have:=ih ();have:=s.up n hn;grind
def Sbs.next (s:Sbs P O N a i j)(p:PU P h none)(q:PU O g none){n:Nat}(hn:n+1<N):ev (ln P (i n)) (a (n+1))=ev (ln P (i (n+1))) (a (n+1))/\ev (ln O (j n)) (a (n+1))=ev (ln O (j (n+1))) (a (n+1)):=by
 have e:TmN N a (n+1)=some (a (n+1)):=qC6 hn;have l1:LeO (a (n+1)) (TmN N a (n+1)):=by rw[e];exact qAc
 have l2:=(s.lt (n:=n+1) hn).le;have u:=qAm (s.up n hn);rw[<-s.hP p () u l1,<-s.hP p hn qAc l2,<-s.hO q () u l1,<-s.hO q hn qAc l2];exact#[rfl,rfl]
def Sbs.thn (s:Sbs P O N a i j)(p:PU P h none)(q:PU O g none){n:Nat}(hn:n+1<N):D0 (ln P (i n)) (ln O (j n)) (TmN N a (n+1))=ev (ln P (i (n+1))) (a (n+1))-ev (ln O (j (n+1))) (a (n+1)):=by
 have e:TmN N a (n+1)=some (a (n+1)):=qC6 hn;rw[e];obtain⟨e1,e2⟩:=s.next p q hn;show ev _ _-ev _ _=_;rw[e1,e2]
end
def W3 (a0:Rat)(h g:Rat->Rat)(t:Rat):Rat:=if t<a0 then h t else mp (h t) (g t)
def VG (O:Ps):List Rat:=O.map (·.1)
def Oc {O:Ps}{j:Nat}(h:j<↥O):bg O j∈VG O:=by
 refine qAI.mpr #[O[j],qBp h,?_];exact(Hi (qAb h)).1.symm
structure WB (B S:List Rat)(G:Ln2->Prop)(U:Rat->Prop)(k m:Nat)(ps os:List RP)(P O:Ps)(h g:Rat->Rat)(N:Nat)(a:Nat->Rat)(i j:Nat->Nat)(n:Nat)(qs:List RP)(Q:Ps):Prop where
 r:FQ (B++VG O) S G U k m (W3 (bg O 0) h g) (TmN N a n) qs Q
 e:∀n',n=n'+1->∀p1 p2,ps[i n']? = some p1->os[j n']? = some p2->bM qs p1.2 p2.2 (ev (ln P (i n')) (a n')-ev (ln O (j n')) (a n')) (D0 (ln P (i n')) (ln O (j n')) (TmN N a n))
 b:(n=0->qs≠[]->bg Q 0=bg P 0)/\(0<n->qs≠[]/\bg Q 0=bg P 0)
def TX {l1 l2:Ln2}{a u:Rat}(h:a<u)(h1:ev l1 a<ev l2 a)(h2:ev l1 u=ev l2 u):l2.1<l1.1:=by
 unfold ev at *
 refine qA1.mp λz=>?_;have:0<=(l2.1-l1.1)*(u-a):=qAk ⋯ ⋯;grind
def W9 {l1 l2:Ln2}{a:Rat}{T:Option Rat}(ha:LtO a T)(h1:ev l1 a=ev l2 a)(h2:D0 l1 l2 T<0):l1.1<l2.1:=by
 cases T with
 |none=>have h:l1.1-l2.1<0:=h2;grind
 |some u=>
  have h:ev l1 u-ev l2 u<0:=h2;have hl:a<u:=ha;unfold ev at *
  refine qA1.mp λz=>?_;have:0<=(l1.1-l2.1)*(u-a):=qAk ⋯ ⋯;grind
section
variable {B S:List Rat}{G:Ln2->Prop}{U:Rat->Prop}{k m:Nat}{ps os:List RP}{P O:Ps}{h g:Rat->Rat}{N:Nat}{a:Nat->Rat}{i j:Nat->Nat}
def WB.step (rP:FQ B S G U k m h none ps P)(lo:PL k m os O)(pO:PU O g none)(sO:∀x,x<↥O->(ln O x).1∈S)(gO:∀x,x<↥O->G (ln O x)/\U (bg O x))(ux:∀l l',G l->G l'->l.1≠l'.1->U (xg l l'))(hm:k+k+1<=m)(s:Sbs P O N a i j)(hb:bg P 0<=bg O 0){n:Nat}{qs qs':List RP}{Q:Ps}(li:WB B S G U k m ps os P O h g N a i j n qs Q)(hn:n<N){tm:Int×Int}(wt:Wq m tm.1 tm.2 (a n)){p1 p2:RP}(h1:ps[i n]? = some p1)(h2:os[j n]? = some p2)
 (ad:Tq qs tm p1.2 p2.2 (sg (ev (ln P (i n)) (a n)-ev (ln O (j n)) (a n))) (sg (D0 (ln P (i n)) (ln O (j n)) (TmN N a (n+1)))) (xg (ln P (i n)) (ln O (j n))) qs') (h0:n=0->qs=[]->bg P 0=bg O 0) :
 ∃Q',WB B S G U k m ps os P O h g N a i j (n+1) qs' Q':=by
 have lp:=rP.pl;have pP:=rP.pu;have cP:=rP.cn;have ua:U (a n):=by
  cases n with
  |zero=>rw[s.a0];exact(gO 0 (by have:=s.jO 0 hn;omega)).2
  |succ n=>
   rcases s.sj n hn with jj|⟨jj,ja⟩
   .rcases s.si n hn with ii|⟨ii,ia⟩
    .exact absurd jj (s.mv n hn ii)
    .rw[ia];exact(rP.gd _ (by rw[<-ii];exact s.iP _ hn)).2
   .rw[ja];exact(gO _ (by rw[<-jj];exact s.jO _ hn)).2
 have w1:=(lp.lnw h1).1;have w2:=(lo.lnw h2).1;have eT:TmN N a n=some (a n):=qC6 hn;have r:=li.r;rw[eT]at r;have hg0:bg O 0<=a n:=by rw[<-s.a0];exact s.ge hn
 have few:a n∈B++VG O\/qs=[]\/∃q ql,qs[↥qs-1]? = some q/\LW k q.2 ql/\if ev (ln P (i n)) (a n)-ev (ln O (j n)) (a n)<0\/(ev (ln P (i n)) (a n)-ev (ln O (j n)) (a n)=0/\D0 (ln P (i n)) (ln O (j n)) (TmN N a (n+1))<0) then (q.2=p1.2\/(ln P (i n)).1<ql.1) else (q.2=p2.2\/(ln O (j n)).1<ql.1):=by
  cases n with
  |zero=>
   left;rw[s.a0];exact qAo.mpr (.inr (Oc (by have:=s.jO 0 hn;omega)))
  |succ n=>
   rcases s.sj n hn with jj|⟨jj,ja⟩
   .rcases s.si n hn with ii|⟨ii,ia⟩
    .exact absurd jj (s.mv n hn ii)
    .have il:=s.iP (n+1) hn;rw[ii]at il;rcases cP.st (i n) il with z|z
     .left;rw[ia];exact qAo.mpr (.inl z)
     .right;right;have i0:=s.iP n ();have hp:i n<↥ps:=by rw[lp.len];exact i0
      have h1':=qAb hp;have h2':os[j n]? = some p2:=by rw[<-jj];exact h2
      obtain⟨q,hq,e⟩:=li.e n rfl _ _ h1' h2';have w1':=(lp.lnw h1').1;have tn:=s.thn pP pO hn;have u:=s.up n hn;have hl:=s.lt (n:=n+1) hn;rw[tn]at e;have nx:=s.next pP pO hn;rw[jj]at e ⊢;rw[ii]at e nx ⊢;rw[jj]at nx;rcases e with⟨e1,e2⟩|⟨e1,e2⟩
      .refine#[q,ln P (i n),hq,by rw[e1];exact w1',?_];split
       .exact .inr z
       .right;rename_i nc;have:ev (ln P (i n)) (a n)-ev (ln O (j n)) (a n)<0/\ev (ln P (i n+1)) (a (n+1))-ev (ln O (j n)) (a (n+1))=0:=by
         rcases e2 with e2|e2
         .exact absurd (.inl e2) nc
         .exact e2
        exact TX u ⋯ ⋯
      .refine#[q,ln O (j n),hq,by rw[e1,<-jj];exact w2,?_];split
       .right;rename_i c;have:ev (ln P (i n+1)) (a (n+1))-ev (ln O (j n)) (a (n+1))=0/\D0 (ln P (i n+1)) (ln O (j n)) (TmN N a (n+1+1))<0:=by
         rcases c with c|c
         .rcases e2 with e2|e2<;>grind
         .exact c
        exact W9 hl ⋯ this.2
       .exact .inl e1
   .left;rw[ja];exact qAo.mpr (.inr (Oc (by have:=s.jO (n+1) hn;omega)))
 obtain⟨Q',R',E',b1,b2⟩:=r.row (T:=TmN N a (n+1)) (f:=h) (g:=g) (s.lt hn) wt w1 w2 hm (λt t1 t2=>s.hP pP hn t1 t2) (λt t1 t2=>s.hO pO hn t1 t2) (λt t1 _=>by
  unfold W3;rw[qC5 ⋯]) (cP.sl _ (s.iP n hn)) (sO _ (s.jO n hn)) (rP.gd _ (s.iP n hn)).1 (gO _ (s.jO n hn)).1 ua ux few ad
 have ne':qs'≠[]:=λz=>by obtain⟨q,hq,_⟩:=E';rw[z]at hq;cases hq
 refine#[Q',R',λn' e p1' p2' g1 g2=>?_,λz=>absurd z (),λ_=>#[ne',?_]]
 .have:n'=n:=();subst this;rw[h1]at g1;rw[h2]at g2;cases g1;cases g2;exact E'
 .rcases qBr n with z|z
  .by_cases c:qs=[]
   .rw[b1 c,z,s.a0];exact(h0 z c).symm
   .rw[b2 c];exact li.b.1 z c
  .have:=li.b.2 z;rw[b2 this.1];exact this.2
def Bi {P:Ps}{c x:Nat}(h:x<c):bg (P.take c) x=bg P x/\ln (P.take c) x=ln P x:=by
 unfold bg ln;rw[qAf,qAf,qBJ h];exact#[rfl,rfl]
def WB.zero (rP:FQ B S G U k m h none ps P)(s:Sbs P O N a i j){c:Nat}(hc:c<=↥P)(c1:∀x,x<c->bg P x<bg O 0)(c2:c<↥P->bg O 0<=bg P c)(hj:0<c->h (bg O 0)<=g (bg O 0)):WB B S G U k m ps os P O h g N a i j 0 (ps.take c) (P.take c):=by
 have lp:=rP.pl;have pP:=rP.pu;have cP:=rP.cn;have tl:(P.take c).length=c:=by rw[qAP];omega
 have eT:TmN N a 0=some (bg O 0):=by unfold TmN;rw[qC6 s.n0,s.a0]
 refine#[#[#[by rw[qAP,qAP,lp.len],λx p q h1 h2=>?_],?_,#[λx hx=>?_,λx hx=>?_,λx hx=>?_],λx hx=>by rw[tl]at hx;rw[(Bi hx).1,(Bi hx).2];exact rP.gd x ()],λn' e=>absurd e (),λ_ z=>?_,λz=>absurd z ()]
 .have hx:x<c:=by
   have:=(qAe.mp h2).1;rw[tl]at this;exact this
  rw[qBJ hx]at h1 h2;exact lp.at_ x p q h1 h2
 .rw[eT];refine#[λx hx=>?_,λx hx=>?_,λx hx t t1 t2 t3=>?_]
  .rw[tl]at hx;rw[(Bi (show x<c from ())).1,(Bi hx).1];exact pP.up x ()
  .rw[tl]at hx;rw[(Bi hx).1];exact c1 x hx
  .rw[tl]at hx t2;rw[(Bi hx).1]at t1;rw[(Bi hx).2];have t3:t<=bg O 0:=t3;have ev1:h t=ev (ln P x) t:=by
    refine pP.v x () t t1 (λz=>?_) trivial;by_cases z2:x+1<c
    .have:=t2 z2;rw[(Bi z2).1]at this;exact this
    .have:x+1=c:=();rw[this];exact qAv t3 (c2 ())
   unfold W3;split
   .exact ev1
   .have:t=bg O 0:=⋯;rw[this]at ev1 ⊢;rw[Zk (hj ())];exact ev1
 .rw[tl]at hx;rw[(Bi (show x<c from ())).1,(Bi hx).1];exact pP.up x ()
 .rw[tl]at hx;rw[(Bi hx).2];exact cP.sl x ()
 .rw[tl]at hx;rw[(Bi (show x<c from ())).2,(Bi hx).1,(Bi hx).2];rcases cP.st x () with z|z
  .exact .inl (qAo.mpr (.inl z))
  .exact .inr z
 .have:0<c:=by
   rcases qBr c with y|y
   .subst y;exact absurd rfl z
   .exact y
  exact(Bi this).1
end
def ER (cs:Cs)(m:Rat):Ps:=(List.range ↥cs).map λk=>(tt cs k,(slp cs m k,vv cs k-slp cs m k*tt cs k))
def A7 {cs:Cs}{m:Rat}:(ER cs m).length=↥cs:=by unfold ER;simp
def Ck {cs:Cs}{m:Rat}{k:Nat}(h:k<↥cs):bg (ER cs m) k=tt cs k/\ln (ER cs m) k=(slp cs m k,vv cs k-slp cs m k*tt cs k):=by
 refine Hi (q:=(tt cs k,(slp cs m k,vv cs k-slp cs m k*tt cs k))) ?_;unfold ER;rw[qAd,qAJ h];rfl
def SF {cs:Cs}{m:Rat}(o:Ord cs):PU (ER cs m) (val cs m) none:=by
 refine#[λi hi=>?_,λi hi=>trivial,λi hi t h1 h2 _=>?_]
 .rw[A7]at hi;rw[(Ck (show i<↥cs from ())).1,(Ck hi).1];exact o.up i hi
 .rw[A7]at hi h2;rw[(Ck hi).1]at h1;rw[(Ck hi).2];have on:On cs i t:=#[hi,h1,λz=>by have:=h2 z;rw[(Ck z).1]at this;exact this];rw[B7 o.up on];unfold ev;grind
def B9 {P:Ps}{F:Rat×Ln2->Rat×Ln2}{i:Nat}(h:i<↥P):bg (P.map F) i=(F (bg P i,ln P i)).1/\ln (P.map F) i=(F (bg P i,ln P i)).2:=by
 have e:P[i]? = some (bg P i,ln P i):=by
  have g:=qAb h;rw[g];have:=Hi g;rw[this.1,this.2]
 refine Hi ?_;rw[qAd,e];rfl
def PU.flip {P:Ps}{h:Rat->Rat}{T:Option Rat}(p:PU P h T):PU (P.map flP) (λt=>-h t) T:=by
 refine#[λi hi=>?_,λi hi=>?_,λi hi t h1 h2 h3=>?_]
 .rw[qAa]at hi;rw[(B9 (show i<↥P from ())).1,(B9 hi).1];exact p.up i hi
 .rw[qAa]at hi;rw[(B9 hi).1];exact p.lt i hi
 .rw[qAa]at hi h2;rw[(B9 hi).1]at h1;rw[(B9 hi).2];show -h t=_;rw[p.v i hi t h1 (λz=>by have:=h2 z;rw[(B9 z).1]at this;exact this) h3];exact VQ.symm
def PU.move {P:Ps}{h:Rat->Rat}(w v:Rat)(p:PU P h none):PU (P.map (mvP w v)) (λt=>h (t-w)+v) none:=by
 refine#[λi hi=>?_,λi hi=>trivial,λi hi t h1 h2 _=>?_]
 .rw[qAa]at hi;rw[(B9 (show i<↥P from ())).1,(B9 hi).1];have:=p.up i hi;show bg P i+w<bg P (i+1)+w;grind
 .rw[qAa]at hi h2;rw[(B9 hi).1]at h1;rw[(B9 hi).2];have h1:bg P i+w<=t:=h1;show h (t-w)+v=_;rw[p.v i hi (t-w) ⋯ (λz=>by
   have:=h2 z;rw[(B9 z).1]at this;have this:t<=bg P (i+1)+w:=this;grind) trivial]
  exact Um.symm
def frN (P:Ps)(c:Nat):Ps:=(0,ln P (c-1))::P.drop c
def F8 {P:Ps}{c i:Nat}:bg (frN P c) (i+1)=bg P (c+i)/\ln (frN P c) (i+1)=ln P (c+i):=by
 unfold frN bg ln;rw[qAf,qBN,qBE,qAf];exact#[rfl,rfl]
def E7 {P:Ps}{c:Nat}:(frN P c).length=↥P-c+1:=by unfold frN;rw[qAU,qAT]
def PU.fromN {P:Ps}{h:Rat->Rat}{c:Nat}(p:PU P h none)(c0:0<c)(cl:c<=↥P)(h1:∀i,i<c->bg P i<=0)(h2:c<↥P->0<bg P c):PU (frN P c) h none:=by
 have e0:bg (frN P c) 0=0/\ln (frN P c) 0=ln P (c-1):=#[rfl,rfl];refine#[λi hi=>?_,λi hi=>trivial,λi hi t t1 t2 _=>?_]
 .rw[E7]at hi;cases i with
  |zero=>rw[e0.1,F8.1];exact h2 ()
  |succ i=>rw[F8.1,F8.1];exact p.up (c+i) ()
 .rw[E7]at hi t2;cases i with
  |zero=>
   rw[e0.1]at t1;rw[e0.2];refine p.v (c-1) () t (qAv (h1 _ ()) t1) (λz=>?_) trivial;have:=t2 ();rw[F8.1]at this;rw[show c-1+1=c+0 from ()];exact this
  |succ i=>
   rw[F8.1]at t1;rw[F8.2];refine p.v (c+i) () t t1 (λz=>?_) trivial;have:=t2 ();rw[F8.1]at this;exact this
def HU (P:Ps)(far:Rat):Ps:=((List.range ↥P).map λk=>((if k+1<↥P then -bg P (k+1) else -far),((-(ln P k).1,(ln P k).2):Ln2))).reverse++[(0,((0,(ln P 0).2):Ln2))]
def Gj {P:Ps}{far:Rat}:(HU P far).length=↥P+1:=by unfold HU;simp
def G0 {P:Ps}{far:Rat}{i:Nat}(h:i<↥P):bg (HU P far) i=(if 0<i then -bg P (↥P-i) else -far)/\ln (HU P far) i=(-(ln P (↥P-1-i)).1,(ln P (↥P-1-i)).2):=by
 have e:(HU P far:List (Rat×Ln2))[i]? = some ((if 0<i then -bg P (↥P-i) else -far),(-(ln P (↥P-1-i)).1,(ln P (↥P-1-i)).2)):=by
  unfold HU;rw[qAu (by simp;exact h),qBH (by simp;exact h)];rw[qAa,qAx,qAd,qAJ ()];show some _=_
  congr 1
  refine Prod.ext ?_ rfl;show(if ↥P-1-i+1<↥P then _ else _)=_;by_cases c:0<i
  .rw[qC6 c,qC6 (),show ↥P-1-i+1=↥P-i from ()]
  .rw[qC5 c,qC5 ()]
 exact Hi e
def HM {P:Ps}{far:Rat}:bg (HU P far) ↥P=0/\ln (HU P far) ↥P=(0,(ln P 0).2):=by
 have e:(HU P far:List (Rat×Ln2))[↥P]? = some (0,(0,(ln P 0).2)):=by
  unfold HU;rw[qAw (by simp)];simp
 exact Hi e
def PU.turn {P:Ps}{g:Rat->Rat}{far:Rat}(p:PU P g none)(ne:0<↥P)(b0:bg P 0=0)(hf:bg P (↥P-1)<far):PU (HU P far) (λt=>g (if t<=0 then -t else 0)) none:=by
 have pos:∀i,i<↥P->0<=bg P i:=λi=>by
  induction i with
  |zero=>intro _;rw[b0];exact qAc
  |succ i ih=>intro hi;have:=ih ();have:=p.up i hi;grind
 have neg:∀i,i<↥P->bg (HU P far) i<0:=λi hi=>by
  rw[(G0 hi).1];by_cases c:0<i
  .rw[qC6 c];have h1:=p.up (↥P-i-1) ();rw[show ↥P-i-1+1=↥P-i from ()]at h1;have:=pos (↥P-i-1) ();grind
  .rw[qC5 c];have:=pos (↥P-1) ();grind
 refine#[λi hi=>?_,λi hi=>trivial,λi hi t t1 t2 _=>?_]
 .rw[Gj]at hi;by_cases z:i+1<↥P
  .rw[(G0 (show i<↥P from ())).1,(G0 z).1,qC6 (show 0<i+1 from ())];by_cases c:0<i
   .rw[qC6 c];have:=p.up (↥P-(i+1)) ();rw[show ↥P-(i+1)+1=↥P-i from ()]at this;grind
   .rw[qC5 c,show ↥P-(i+1)=↥P-1 from ()];grind
  .rw[show i+1=↥P from (),HM.1];exact neg i ()
 .rw[Gj]at hi t2;by_cases z:i<↥P
  .have t3:t<=0:=by
    have:=t2 ();by_cases y:i+1<↥P
    .have:=neg (i+1) y;grind
    .rw[show i+1=↥P from (),HM.1]at this;exact this
   show g (if t<=0 then -t else 0)=_;rw[qC6 t3,(G0 z).2];rw[p.v (↥P-1-i) () (-t) ?_ ?_ trivial]
   .unfold ev;show _=-(ln P (↥P-1-i)).1*t+(ln P (↥P-1-i)).2;grind
   .have:=t2 ();by_cases y:i+1<↥P
    .rw[(G0 y).1,qC6 (),show ↥P-(i+1)=↥P-1-i from ()]at this;grind
    .rw[show ↥P-1-i=0 from (),b0];grind
   .intro y;rw[(G0 z).1,qC6 ()]at t1;rw[show ↥P-1-i+1=↥P-i from ()];grind
  .have:i=↥P:=();subst this;rw[HM.1]at t1;rw[HM.2];have e:(if t<=0 then -t else 0)=0:=by split<;>grind
   show g (if t<=0 then -t else 0)=_;rw[e];rw[p.v 0 ne 0 (by rw[b0];exact qAc) (λy=>pos 1 y) trivial];unfold ev;show _=0*t+(ln P 0).2;grind
def Iu (Q:Ps):Cs:=Q.map λp=>(p.1,ev p.2 p.1)
def BM {Q:Ps}:(Iu Q).length=↥Q:=qAa _
def BO {Q:Ps}{i:Nat}(h:i<↥Q):tt (Iu Q) i=bg Q i/\vv (Iu Q) i=ev (ln Q i) (bg Q i):=by
 have g:=qAb h;have e:(Iu Q)[i]? = some (bg Q i,ev (ln Q i) (bg Q i)):=by
  unfold Iu;rw[qAd,g,(Hi g).1,(Hi g).2];rfl
 unfold tt vv;rw[qAf,e];exact#[rfl,rfl]
def K4 {Q:Ps}{H:Rat->Rat}(p:PU Q H none){i:Nat}(h:i<↥Q):slp (Iu Q) (ln Q (↥Q-1)).1 i=(ln Q i).1:=by
 by_cases c:i+1<↥Q
 .rw[Bo (by rw[BM];exact c),(BO h).1,(BO h).2,(BO c).1,(BO c).2];have u:=p.up i c;have e1:=p.v i h (bg Q (i+1)) (qAm u) (λ_=>qAc) trivial;have e2:=p.v (i+1) c (bg Q (i+1)) qAc (λz=>qAm (p.up (i+1) z)) trivial;rw[<-e2,e1];unfold ev;have ne:bg Q (i+1)-bg Q i≠0:=⋯;generalize bg Q (i+1)=y at *
  generalize bg Q i=x at *
  have k:((ln Q i).1*y+(ln Q i).2-((ln Q i).1*x+(ln Q i).2))=(ln Q i).1*(y-x):=⋯;rw[k];have k2:(ln Q i).1*(y-x)/(y-x)*(y-x)=(ln Q i).1*(y-x):=qBa ne;have k3:((ln Q i).1*(y-x)/(y-x)-(ln Q i).1)*(y-x)=0:=⋯;rcases qBe.mp k3 with z|z
  .grind
  .exact absurd z ne
 .rw[AF (by rw[BM];exact c),show i=↥Q-1 from ()]
def Wv {Q:Ps}{H:Rat->Rat}(p:PU Q H none)(ne:0<↥Q)(b0:bg Q 0=0)(mono:∀x y,0<=x->x<=y->H x<=H y)(h0:0<=H 0):Ord (Iu Q)/\0<=(ln Q (↥Q-1)).1/\∀t,0<=t->val (Iu Q) (ln Q (↥Q-1)).1 t=H t:=by
 have at_:∀i,i<↥Q->H (bg Q i)=ev (ln Q i) (bg Q i):=λi hi=>p.v i hi _ qAc (λz=>qAm (p.up i z)) trivial;have pos:∀i,i<↥Q->0<=bg Q i:=λi=>by
  induction i with
  |zero=>intro _;rw[b0];exact qAc
  |succ i ih=>intro hi;have:=ih ();have:=p.up i hi;grind
 have o:Ord (Iu Q):=by
  refine#[by rw[BM];exact ne,by rw[(BO ne).1];exact b0,by rw[(BO ne).2,<-at_ 0 ne,b0];exact h0,λi hi=>?_,λi hi=>?_]
  .rw[BM]at hi;rw[(BO (show i<↥Q from ())).1,(BO hi).1];exact p.up i hi
  .rw[BM]at hi;rw[(BO (show i<↥Q from ())).2,(BO hi).2,<-at_ i (),<-at_ (i+1) hi];exact mono _ _ (pos i ()) (qAm (p.up i hi))
 refine#[o,?_,λt t0=>?_]
 .have hl:↥Q-1<↥Q:=();have e1:=p.v (↥Q-1) hl (bg Q (↥Q-1)) qAc (λz=>absurd z ()) trivial;have e2:=p.v (↥Q-1) hl (bg Q (↥Q-1)+1) ⋯ (λz=>absurd z ()) trivial;have:=mono (bg Q (↥Q-1)) (bg Q (↥Q-1)+1) (pos _ hl) ⋯;rw[e1,e2]at this;unfold ev at this;grind
 .have on:=EG o t0;rw[B7 (m:=(ln Q (↥Q-1)).1) o.up on];generalize plc (Iu Q) t (Iu Q).length=j at on;have hj:j<↥Q:=by have:=on.lt;rw[BM]at this;exact this
  rw[K4 p hj,(BO hj).1,(BO hj).2];have lo:=on.lo;rw[(BO hj).1]at lo;rw[p.v j hj t lo (λz=>by have:=on.hi (by rw[BM];exact z);rw[(BO z).1]at this;exact this) trivial];unfold ev;grind
theorem JF {α:Type}(key:α->Rat)(p:α->Prop):∀F:List α,(∃x∈F,p x)->∃y∈F,p y/\∀x∈F,p x->key x<=key y
 |[],#[_,h,_]=>by cases h
 |a::F,h=>by
  by_cases c:∃x∈F,p x
  .obtain⟨y,hy,py,my⟩:=JF key p F c;by_cases d:p a/\key y<key a
   .refine#[a,qAi.mpr (.inl rfl),d.1,λx hx px=>?_];rcases qAi.mp hx with rfl|hx
    .exact qAc
    .have:=my x hx px;have:=d.2;grind
   .refine#[y,qAi.mpr (.inr hy),py,λx hx px=>?_];rcases qAi.mp hx with rfl|hx
    .exact qAN.mp λz=>d #[px,z]
    .exact my x hx px
  .obtain⟨x,hx,px⟩:=h;rcases qAi.mp hx with rfl|hx
   .refine#[x,qAi.mpr (.inl rfl),px,λz hz pz=>?_];rcases qAi.mp hz with rfl|hz
    .exact qAc
    .exact absurd #[z,hz,pz] c
   .exact absurd #[x,hx,px] c
section
variable {cs:Cs}{m:Rat}
def Km (o:Ord cs){a:Rat}(a0:0<=a):plc cs a ↥cs<↥cs/\tt cs (plc cs a ↥cs)<=a/\(plc cs a ↥cs+1<↥cs->a<tt cs (plc cs a ↥cs+1)):=by
 have s:=Ez (cs:=cs) (t:=a) (by rw[o.t0];exact a0) ↥cs o.ne;exact#[s.2.1,s.1,λz=>s.2.2 _ (qCd _) z]
def Mm (o:Ord cs){a b x:Rat}(a0:0<=a)(hk:∀k,k<↥cs->tt cs k<=a\/b<=tt cs k)(h1:a<=x)(h2:x<=b):val cs m x=val cs m a+sat cs m a*(x-a):=by
 obtain⟨jl,j1,j2⟩:=Km o a0;have ev:val cs m a=vv cs (plc cs a ↥cs)+slp cs m (plc cs a ↥cs)*(a-tt cs (plc cs a ↥cs)):=rfl;have es:sat cs m a=slp cs m (plc cs a ↥cs):=rfl;generalize plc cs a ↥cs=j at *
 have on:On cs j x:=#[jl,qAv j1 h1,λz=>by
  rcases hk (j+1) z with w|w
  .have:=j2 z;grind
  .exact qAv h2 w]
 rw[B7 o.up on,ev,es];grind
def Sa (o:Ord cs){a x:Rat}(hk:∀k,k<↥cs->tt cs k<=a)(h1:a<=x):val cs m x=val cs m a+m*(x-a)/\sat cs m a=m:=by
 have n:=o.ne;have l:=hk (↥cs-1) ();rw[CA n (qAv l h1),CA n l,Nh n l];exact#[⋯,rfl]
def LQ (o:Ord cs){a c:Rat}(a0:0<=a)(ac:a<c)(hk:∀k,k<↥cs->tt cs k<=a\/c<=tt cs k)(ne:sat cs m c≠sat cs m a):∃k,0<k/\k<↥cs/\tt cs k=c/\slp cs m k=sat cs m c/\slp cs m (k-1)=sat cs m a:=by
 obtain⟨jl,j1,j2⟩:=Km o a0;have es:sat cs m a=slp cs m (plc cs a ↥cs):=rfl;have ec:sat cs m c=slp cs m (plc cs c ↥cs):=rfl;generalize plc cs a ↥cs=j at *
 by_cases z:j+1<↥cs/\tt cs (j+1)=c
 .obtain⟨z1,z2⟩:=z;have e:plc cs c ↥cs=j+1:=JS o.up (by rw[z2];exact qAc) (λw=>by rw[<-z2];exact o.up _ w) _ z1 (qAg _);exact#[j+1,(),z1,z2,by rw[ec,e],by rw[es];rfl]
 .have e:plc cs c ↥cs=j:=JS o.up (qAv j1 (qAm ac)) (λw=>by
   rcases hk (j+1) w with y|y
   .have:=j2 w;grind
   .have:tt cs (j+1)≠c:=λy=>z #[w,y];grind) _ jl (qAg _)
  rw[ec,es,e]at ne;exact absurd rfl ne
end
def dE (fc:Cs)(fm:Rat)(gc:Cs)(gm:Rat)(t u:Rat):Prop:=u=0\/(∃k,0<k/\k<↥gc/\tt gc k=u/\slp gc gm (k-1)<slp gc gm k)\/∃k,0<k/\k<↥fc/\tt fc k=t+u/\slp fc fm k<slp fc fm (k-1)
def Lw {fc gc:Cs}{fm gm:Rat}(of:Ord fc)(og:Ord gc)(hm:fm<=gm){t:Rat}(t0:0<=t):∃u,0<=u/\dE fc fm gc gm t u/\∀v,0<=v->val fc fm (t+v)-val gc gm v<=val fc fm (t+u)-val gc gm u:=by
 obtain⟨F,hF⟩:∃F:List Rat,F=(0:Rat)::((List.range ↥gc).map (tt gc)++((List.range ↥fc).map λk=>tt fc k-t).filter λx=>decide (0<=x)):=#[_,rfl];have f0:(0:Rat)∈F:=by rw[hF];exact qAi.mpr (.inl rfl)
 have fg:∀k,k<↥gc->tt gc k∈F:=λk hk=>by
  rw[hF];exact qAi.mpr (.inr (qAo.mpr (.inl (qAI.mpr #[k,qAH.mpr hk,rfl]))))
 have ff:∀k,k<↥fc->t<=tt fc k->tt fc k-t∈F:=λk hk h=>by
  rw[hF];exact qAi.mpr (.inr (qAo.mpr (.inr (qA3.mpr #[qAI.mpr #[k,qAH.mpr hk,rfl],qC7 ⋯]))))
 have nn:∀x∈F,0<=x:=λx hx=>by
  rw[hF]at hx;rcases qAi.mp hx with rfl|hx
  .exact qAc
  .rcases qAo.mp hx with hx|hx
   .obtain⟨k,hk,rfl⟩:=qAI.mp hx;have:=Bc og.up (i:=0) (j:=k) () (qAH.mp hk);rw[og.t0]at this;exact this
   .exact of_decide_eq_true (qA3.mp hx).2
 clear hF;obtain⟨w,hw⟩:∃w:Rat->Rat,w=λu=>val fc fm (t+u)-val gc gm u:=#[_,rfl];have we:∀u,w u=val fc fm (t+u)-val gc gm u:=λu=>by rw[hw]
 have amid:∀p n,p∈F->(∀x∈F,x<=p\/n<=x)->∀x,p<=x->x<=n->w x=w p+(sat fc fm (t+p)-sat gc gm p)*(x-p):=λp n hp h x x1 x2=>by
  have p0:=nn p hp;have e1:=Mm (m:=fm) of (a:=t+p) (b:=t+n) (x:=t+x) ⋯ (λk hk=>by
   by_cases c:t<=tt fc k
   .rcases h _ (ff k hk c) with y|y
    .left;grind
    .right;grind
   .left;grind) ⋯ ⋯
  have e2:=Mm (m:=gm) og (a:=p) (b:=n) (x:=x) p0 (λk hk=>h _ (fg k hk)) x1 x2;rw[we,we,e1,e2];grind
 have behind:∀p,p∈F->(∀x∈F,x<=p)->∀x,p<=x->w x=w p+(fm-gm)*(x-p)/\sat fc fm (t+p)=fm/\sat gc gm p=gm:=λp hp h x x1=>by
  have e1:=Sa (m:=fm) of (a:=t+p) (x:=t+x) (λk hk=>by
   by_cases c:t<=tt fc k
   .have:=h _ (ff k hk c);grind
   .have:=nn p hp;grind) ⋯
  have e2:=Sa (m:=gm) og (a:=p) (x:=x) (λk hk=>h _ (fg k hk)) x1;refine#[?_,e1.2,e2.2];rw[we,we,e1.1,e2.1];grind
 obtain⟨y0,hy0,_,my0⟩:=JF w (λ_=>True) F #[0,f0,trivial];obtain⟨y,hy,py,my⟩:=JF (λx=>-x) (λx=>w x=w y0) F #[y0,hy0,rfl];have best:∀x∈F,w x<=w y:=λx hx=>by rw[py];exact my0 x hx trivial
 have first:∀x∈F,x<y->w x<w y:=λx hx lt=>by
  refine qA1.mp λz=>?_;have b:=best x hx;have:=my x hx (by rw[<-py];grind);grind
 have next:∀v,(∀x∈F,x<=v)\/∃n∈F,v<n/\∀x∈F,x<=v\/n<=x:=λv=>by
  by_cases c:∃x∈F,v<x
  .obtain⟨n,hn,pn,mn'⟩:=JF (λx=>-x) (λx=>v<x) F c;refine .inr #[n,hn,pn,λx hx=>?_];by_cases d:v<x
   .right;have:=mn' x hx d;grind
   .left;grind
  .left;intro x hx;exact qAN.mp λz=>c #[x,hx,z]
 refine#[y,nn y hy,?_,λv v0=>?_]
 .by_cases c:y=0
  .exact .inl c
  right;have y0':0<y:=by have:=nn y hy;grind
  obtain⟨p,hp,lp,mp'⟩:=JF (λx=>x) (λx=>x<y) F #[0,f0,y0'];have gapF:∀x∈F,x<=p\/y<=x:=λx hx=>by
   by_cases d:x<y
   .left;exact mp' x hx d
   .right;grind
  have a:=amid p y hp gapF y (qAm lp) qAc;have f1:=first p hp lp
  have s1:0<sat fc fm (t+p)-sat gc gm p:=by
   refine qA1.mp λz=>?_;have:0<=(-(sat fc fm (t+p)-sat gc gm p))*(y-p):=qAk ⋯ ⋯;grind
  have s2:sat fc fm (t+y)-sat gc gm y<=0:=by
   rcases next y with h|⟨n,hn,ln,gn⟩
   .obtain⟨_,e1,e2⟩:=behind y hy h y qAc;rw[e1,e2];grind
   .have a2:=amid y n hy gn n (qAm ln) qAc;have b:=best n hn;refine qAN.mp λz=>?_;have:=qBB z (show 0<n-y from ⋯);grind
  have p0:=nn p hp;by_cases d:sat gc gm p<sat gc gm y
  .left;obtain⟨k,k0,kl,e,e1,e2⟩:=LQ (m:=gm) og p0 lp (λk hk=>gapF _ (fg k hk)) ⋯;exact#[k,k0,kl,e,by rw[e1,e2];exact d]
  .right;obtain⟨k,k0,kl,e,e1,e2⟩:=LQ (m:=fm) of (a:=t+p) (c:=t+y) ⋯ ⋯ (λk hk=>by
    by_cases c:t<=tt fc k
    .rcases gapF _ (ff k hk c) with y|y
     .left;grind
     .right;grind
    .left;grind) ⋯
   exact#[k,k0,kl,e,by rw[e1,e2];grind]
 .rw[<-we,<-we];obtain⟨p,hp,lp,mp'⟩:=JF (λx=>x) (λx=>x<=v) F #[0,f0,v0];rcases next v with h|⟨n,hn,ln,gn⟩
  .have e:=(behind p hp (λx hx=>mp' x hx (h x hx)) v lp).1;have b:=best p hp;have:0<=(gm-fm)*(v-p):=qAk ⋯ ⋯;grind
  .have g2:∀x∈F,x<=p\/n<=x:=λx hx=>by
    rcases gn x hx with h|h
    .left;exact mp' x hx h
    .right;exact h
   have a1:=amid p n hp g2 v lp (qAm ln);have a2:=amid p n hp g2 n ⋯ qAc;have b1:=best p hp;have b2:=best n hn;by_cases c:0<=sat fc fm (t+p)-sat gc gm p
   .have:0<=(sat fc fm (t+p)-sat gc gm p)*(n-v):=qAk c ⋯;grind
   .have:0<=(-(sat fc fm (t+p)-sat gc gm p))*(v-p):=qAk ⋯ ⋯;grind
def IsU (fc:Cs)(fm:Rat)(gc:Cs)(gm:Rat)(t v:Rat):Prop:=0<=v/\(v=0\/∃u,0<=u/\val fc fm (t+u)-val gc gm u=v)/\∀u,0<=u->val fc fm (t+u)-val gc gm u<=v
def SR (L:List (Rat->Rat))(h:Rat->Rat):Prop:=∀t,0<=t->h t<=0/\(∀c∈L,h t<=c t)/\(h t=0\/∃c∈L,h t=c t)
def SR.nil:SR [] (λ_=>0):=λt _=>#[qAc,(λc hc=>nomatch hc),Or.inl rfl]
def SR.add {L:List (Rat->Rat)}{h c:Rat->Rat}(a:SR L h):SR (L++[c]) (W3 0 h c):=λt t0=>by
 obtain⟨a1,a2,a3⟩:=a t t0;have e:W3 0 h c t=mp (h t) (c t):=by unfold W3;rw[qC5 ⋯]
 rw[e];by_cases z:h t<=c t
 .rw[Zk z];refine#[a1,λd hd=>?_,?_]
  .rcases qAo.mp hd with hd|hd
   .exact a2 d hd
   .rw[qAG.mp hd];exact z
  .rcases a3 with y|⟨d,hd,y⟩
   .exact .inl y
   .exact .inr #[d,qAo.mpr (.inl hd),y]
 .rw[ZP ⋯];refine#[⋯,λd hd=>?_,.inr #[c,qAo.mpr (.inr (qAG.mpr rfl)),rfl]];rcases qAo.mp hd with hd|hd
  .have:=a2 d hd;grind
  .rw[qAG.mp hd];exact qAc
def cA (fc:Cs)(fm:Rat)(gc:Cs)(k:Nat)(t:Rat):Rat:=-val fc fm (t-(0-tt gc k))+vv gc k
def cB (fc:Cs)(gc:Cs)(gm:Rat)(k:Nat)(t:Rat):Rat:=val gc gm (if t-tt fc k<=0 then -(t-tt fc k) else 0)+(0-vv fc k)
def stI (cs:Cs)(m:Rat):List Nat:=((List.range (↥cs-1)).filter λn=>decide (slp cs m n<slp cs m (n+1))).map (· + 1)
def flI (cs:Cs)(m:Rat):List Nat:=((List.range (↥cs-1)).filter λn=>decide (slp cs m (n+1)<slp cs m n)).map (· + 1)
def Jw {cs:Cs}{m:Rat}{k:Nat}:k∈stI cs m ↔ k<↥cs/\0<k/\slp cs m (k-1)<slp cs m k:=by
 unfold stI;rw[qAI];constructor
 .rintro⟨n,hn,rfl⟩;have h:=qA3.mp hn;have h1:=qAH.mp h.1;exact#[(),(),of_decide_eq_true h.2]
 .rintro⟨h1,h2,h3⟩;refine#[k-1,qA3.mpr #[qAH.mpr (),?_],()];rw[show k-1+1=k from ()];exact qC7 h3
def Jy {cs:Cs}{m:Rat}{k:Nat}:k∈flI cs m ↔ k<↥cs/\0<k/\slp cs m k<slp cs m (k-1):=by
 unfold flI;rw[qAI];constructor
 .rintro⟨n,hn,rfl⟩;have h:=qA3.mp hn;have h1:=qAH.mp h.1;exact#[(),(),of_decide_eq_true h.2]
 .rintro⟨h1,h2,h3⟩;refine#[k-1,qA3.mpr #[qAH.mpr (),?_],()];rw[show k-1+1=k from ()];exact qC7 h3
theorem M6 {α:Type}{p:Nat->Bool}{f:Nat->α}:∀l:List Nat,(l.map λn=>if p n=true then some (f (n+1)) else none).filterMap id=((l.filter p).map (· + 1)).map f
 |[]=>rfl
 |a::l=>by
  have ih:=M6 (p:=p) (f:=f) l;rw[qBO,qA4];by_cases c:p a=true
  .rw[qC6 c,qC6 c,qBO,qBO,<-ih];rfl
  .rw[qC5 c,qC5 c,<-ih];rfl
def Zi (fc:Cs)(fm:Rat)(gc:Cs)(gm:Rat):List (Rat->Rat):=(0::stI gc gm).map (cA fc fm gc)++(flI fc fm).map (cB fc gc gm)
section
variable {fc gc:Cs}{fm gm:Rat}
def Ct {cs:Cs}(o:Ord cs){k:Nat}(h:k<↥cs):0<=tt cs k:=by
 have:=Bc o.up (i:=0) (j:=k) () h;rw[o.t0]at this;exact this
def Vx (og:Ord gc){k:Nat}(h:k<↥gc)(t:Rat):cA fc fm gc k t=val gc gm (tt gc k)-val fc fm (t+tt gc k):=by
 unfold cA;rw[B1 og h,show t-(0-tt gc k)=t+tt gc k from ⋯];grind
def Xj (of:Ord fc){k:Nat}(h:k<↥fc){t:Rat}(ht:t<=tt fc k):cB fc gc gm k t=val gc gm (tt fc k-t)-val fc fm (t+(tt fc k-t)):=by
 unfold cB;rw[qC6 ⋯,show t+(tt fc k-t)=tt fc k from ⋯,B1 of h,show -(t-tt fc k)=tt fc k-t from ⋯];grind
def Yx (of:Ord fc)(t:Rat){k:Nat}(ht:¬t<=tt fc k):cB fc gc gm k t=val gc gm 0-vv fc k:=by
 unfold cB;rw[qC5 ⋯];grind
def Y1 (rf:EO fc fm)(rg:EO gc gm)(hm:fm<=gm){h:Rat->Rat}(a:SR (Zi fc fm gc gm) h){t:Rat}(t0:0<=t):IsU fc fm gc gm t (-h t):=by
 obtain⟨a1,a2,a3⟩:=a t t0;have inA:∀k,k=0\/k∈stI gc gm->cA fc fm gc k∈Zi fc fm gc gm:=λk hk=>qAo.mpr (.inl (qAI.mpr #[k,qAi.mpr hk,rfl]));have inB:∀k,k∈flI fc fm->cB fc gc gm k∈Zi fc fm gc gm:=λk hk=>qAo.mpr (.inr (qAI.mpr #[k,hk,rfl]));have g0:=rg.o.ne;have z0:cA fc fm gc 0 t=val gc gm 0-val fc fm (t+0):=by rw[Vx (gm:=gm) rg.o g0,rg.o.t0]
 have b0:=a2 _ (inA 0 (.inl rfl));rw[z0]at b0;refine#[⋯,?_,λu u0=>?_]
 .rcases a3 with e|⟨c,hc,e⟩
  .left;grind
  right;rcases qAo.mp hc with hc|hc
  .obtain⟨k,hk,rfl⟩:=qAI.mp hc;have kl:k<↥gc:=by
    rcases qAi.mp hk with rfl|hk
    .exact g0
    .exact(Jw.mp hk).1
   refine#[tt gc k,Ct rg.o kl,?_];rw[e,Vx (gm:=gm) rg.o kl];grind
  .obtain⟨k,hk,rfl⟩:=qAI.mp hc;have kl:=(Jy.mp hk).1;by_cases z:t<=tt fc k
   .refine#[tt fc k-t,⋯,?_];rw[e,Xj (fm:=fm) rf.o kl z];grind
   .refine#[0,qAc,?_];rw[Yx rf.o t z]at e;have:vv fc k<=val fc fm (t+0):=by
     rw[show t+0=t from ⋯];exact QN rf kl ⋯
    grind
 .obtain⟨w,w0,cw,best⟩:=Lw rf.o rg.o hm t0;refine qAv (best u u0) ?_;rcases cw with rfl|⟨k,k0,kl,e,s⟩|⟨k,k0,kl,e,s⟩
  .grind
  .have:=a2 _ (inA k (.inr (Jw.mpr #[kl,k0,s])));rw[Vx (gm:=gm) rg.o kl,e]at this;grind
  .have:=a2 _ (inB k (Jy.mpr #[kl,k0,s]));rw[Xj (fm:=fm) rf.o kl ⋯,e,show t+w-t=w from ⋯]at this;grind
def TR (rf:EO fc fm){x y v w:Rat}(x0:0<=x)(xy:x<=y)(a:IsU fc fm gc gm x v)(b:IsU fc fm gc gm y w):v<=w:=by
 obtain⟨a0,a1,a2⟩:=a;obtain⟨b0,b1,b2⟩:=b;rcases a1 with e|⟨u,u0,e⟩
 .grind
 .have h1:=b2 u u0;have h2:val fc fm (x+u)<=val fc fm (y+u):=Cu rf ⋯ ⋯;grind
def Tv (rf:EO fc fm)(rg:EO gc gm)(hm:fm<=gm){C:Cs}{M:Rat}(o:Ord C)(a:∀t,0<=t->IsU fc fm gc gm t (val C M t)):M=fm:=by
 have fn:=rf.o.ne;have cn:=o.ne;have gn:=rg.o.ne;have f0:=Ct rf.o (show ↥fc-1<↥fc from ());have c0:=Ct o (show ↥C-1<↥C from ());have g0:=Ct rg.o (show ↥gc-1<↥gc from ());generalize eA:tt fc (↥fc-1)+tt C (↥C-1)=A;have A0:0<=A:=⋯;have vC:∀x,A<=x->val C M x=val C M A+M*(x-A):=λx hx=>by
  rw[CA cn ⋯,CA cn (show tt C (↥C-1)<=A from ⋯)];grind
 have vF:∀x,A<=x->val fc fm x=val fc fm A+fm*(x-A):=λx hx=>by
  rw[CA fn ⋯,CA fn (show tt fc (↥fc-1)<=A from ⋯)];grind
 have low:fm<=M:=by
  refine QG (f0:=val fc fm A-val gc gm 0) (g0:=val C M A) (a:=A) λx hx=>?_;rw[<-vC x hx];have:=(a x ⋯).2.2 0 qAc;rw[show x+0=x from ⋯,vF x hx]at this;grind
 have gb:∀u,0<=u->fm*u-val gc gm u<=fm*tt gc (↥gc-1):=λu u0=>by
  have m0:=rf.m0;by_cases c:u<=tt gc (↥gc-1)
  .have h1:0<=val gc gm u:=by
    have:=Cu rg qAc u0;rw[Cy rg.o]at this;exact qAv rg.o.v0 this
   have h2:0<=fm*(tt gc (↥gc-1)-u):=qAk m0 ⋯;grind
  .have e:=CA (M:=gm) gn (show tt gc (↥gc-1)<=u from ⋯);have h1:0<=vv gc (↥gc-1):=by
    have:=Cu rg qAc g0;rw[Cy rg.o,B1 rg.o ()]at this;exact qAv rg.o.v0 this
   have h2:0<=(gm-fm)*(u-tt gc (↥gc-1)):=qAk ⋯ ⋯;grind
 have up:M<=fm:=by
  have fA:0<=val fc fm A:=by
   have:=Cu rf qAc A0;rw[Cy rf.o]at this;exact qAv rf.o.v0 this
  refine QG (f0:=val C M A) (g0:=val fc fm A+fm*tt gc (↥gc-1)) (a:=A) λx hx=>?_;rw[<-vC x hx];have m0:=rf.m0;have k1:0<=fm*tt gc (↥gc-1):=qAk m0 g0;have k2:0<=fm*(x-A):=qAk m0 ⋯;rcases(a x ⋯).2.1 with e|⟨u,u0,e⟩
  .rw[e];grind
  .rw[<-e,vF (x+u) ⋯];have:=gb u u0;grind
 grind
end
def Ow (m b:Rat):RL:=(m.num*(b.den:Int),b.num*(m.den:Int),(m.den:Int)*(b.den:Int))
def qr (q:Rat):Int×Int:=(q.num,(q.den:Int))
def C5 (cs:Cs)(m:Rat):List RP:=(List.range ↥cs).map λk=>(qr (tt cs k),Ow (slp cs m k) (vv cs k-slp cs m k*tt cs k))
def C9 {cs:Cs}{m:Rat}:(C5 cs m).length=↥cs:=by unfold C5;simp
def Fo {cs:Cs}{m:Rat}{k:Nat}(h:k<↥cs):(C5 cs m)[k]? = some (qr (tt cs k),Ow (slp cs m k) (vv cs k-slp cs m k*tt cs k)):=by
 unfold C5;rw[qAd,qAJ h];rfl
def Td {cs:Cs}{m:Rat}{k:Nat}(h:k<↥cs):(ER cs m)[k]? = some (tt cs k,(slp cs m k,vv cs k-slp cs m k*tt cs k)):=by
 unfold ER;rw[qAd,qAJ h];rfl
def Tx {a b c:Nat}{cs:Cs}{m:Rat}(o:Ord cs)(z:LS a b c cs m):PL (b+c) a (C5 cs m) (ER cs m):=by
 have l:=z.ln o;refine#[by rw[C9,A7],λi p q h1 h2=>?_];have hi:i<↥cs:=by have:=(qAe.mp h1).1;rw[C9]at this;exact this
 rw[Fo hi]at h1;rw[Td hi]at h2;cases h1;cases h2;exact#[Wq.of (z.tm i hi),Su (l i hi).1 (l i hi).2]
def frR (ps:List RP)(c:Nat):List RP:=((0,1),(ps.getD (c-1) ((0,1),(0,0,1))).2)::ps.drop c
def Yi {k m:Nat}{ps:List RP}{P:Ps}(h:PL k m ps P){c:Nat}(c0:0<c)(cl:c<=↥P)(hm:1<=m):PL k m (frR ps c) (frN P c):=by
 have len:=h.len;refine#[by rw[E7];unfold frR;rw[qAU,qAT,len],λi p q h1 h2=>?_];cases i with
 |zero=>
  cases h1;cases h2;have hg:ps[c-1]? = some (ps.getD (c-1) ((0,1),(0,0,1))):=by
   rw[qAf,qAb (show c-1<↥ps from ())];rfl
  exact#[(show Wq 1 0 1 0 from Wq.of Sz.zero).mono hm,(h.lnw hg).1]
 |succ i=>
  have g1:(ps.drop c)[i]? = some p:=h1;have g2:(P.drop c)[i]? = some q:=h2;rw[qBE]at g1 g2;exact h.at_ _ p q g1 g2
def trR (cs:Cs)(m far:Rat):List RP:=((List.range ↥cs).map λk=>((qr (if k+1<↥cs then 0-tt cs (k+1) else 0-far),(-(Ow (slp cs m k) (vv cs k-slp cs m k*tt cs k)).1,(Ow (slp cs m k) (vv cs k-slp cs m k*tt cs k)).2)):RP)).reverse++[((0,1),(0,(Ow (slp cs m 0) (vv cs 0-slp cs m 0*tt cs 0)).2))]
def YC {a b c:Nat}{cs:Cs}{m far:Rat}(o:Ord cs)(z:LS a b c cs m){n:Nat}(hf:Sz n far)(ha:a+2<=n):PL (b+c) (n+2) (trR cs m far) (HU (ER cs m) far):=by
 have l:=z.ln o;have lw:∀k,k<↥cs->LW (b+c) (Ow (slp cs m k) (vv cs k-slp cs m k*tt cs k)) (slp cs m k,vv cs k-slp cs m k*tt cs k):=λk hk=>Su (l k hk).1 (l k hk).2;have n0:=o.ne;refine#[by rw[Gj,A7];unfold trR;simp,λi p q h1 h2=>?_];have hlen:(trR cs m far).length=↥cs+1:=by unfold trR;simp
 have hi:i<↥cs+1:=by have:=(qAe.mp h1).1;rw[hlen]at this;exact this
 by_cases c1:i<↥cs
 .unfold trR at h1;rw[qAu (by simp;exact c1),qBH (by simp;exact c1),qAa,qAx,qAd,qAJ ()]at h1;cases h1;obtain⟨e1,e2⟩:=Hi h2;have ta:=G0 (P:=ER cs m) (far:=far) (i:=i) (by rw[A7];exact c1);rw[A7]at ta;rw[ta.1]at e1;rw[ta.2,(Ck (show ↥cs-1-i<↥cs from ())).2]at e2;have hk:=lw (↥cs-1-i) ();refine#[?_,?_]
  .rw[<-e1];dsimp only;by_cases z0:0<i
   .rw[qC6 (show ↥cs-1-i+1<↥cs from ()),qC6 z0,(Ck (show ↥cs-i<↥cs from ())).1,show ↥cs-1-i+1=↥cs-i from (),show(0:Rat)-tt cs (↥cs-i)=-tt cs (↥cs-i) from ⋯];have s0:=(Sz.zero.sub (z.tm (↥cs-i) ()));rw[show(0:Rat)-tt cs (↥cs-i)=-tt cs (↥cs-i) from ⋯]at s0;exact(Wq.of s0).mono ()
   .rw[qC5 (show ¬↥cs-1-i+1<↥cs from ()),qC5 z0,show(0:Rat)-far=-far from ⋯];have s0:=Sz.zero.sub hf;rw[show(0:Rat)-far=-far from ⋯]at s0;exact(Wq.of s0).mono ()
  .rw[<-e2];exact#[hk.s.neg,hk.c]
 .have:i=↥cs:=();subst this;unfold trR at h1;rw[qAw (by simp)]at h1;simp at h1;subst h1;obtain⟨e1,e2⟩:=Hi h2;have te:=HM (P:=ER cs m) (far:=far);rw[A7]at te;rw[te.1]at e1;rw[te.2,(Ck n0).2]at e2;have hk:=lw 0 n0;refine#[?_,?_]
  .rw[<-e1];exact(show Wq 1 0 1 0 from Wq.of Sz.zero).mono ()
  .rw[<-e2];exact#[#[hk.c.pos,by rw[show((0:Int):Rat)=0 from rfl];grind,by show(0:Int).natAbs<_;exact Nat.two_pow_pos _,hk.c.lb],hk.c]
abbrev R4:=(Int×Int)×Nat×Nat
def tmF (rw:List R4)(n:Nat):Int×Int:=(rw.getD n ((0,1),0,0)).1
def iF' (rw:List R4)(n:Nat):Nat:=(rw.getD n ((0,1),0,0)).2.1
def jF (rw:List R4)(n:Nat):Nat:=(rw.getD n ((0,1),0,0)).2.2
def aF (rw:List R4)(n:Nat):Rat:=Rat.divInt (tmF rw n).1 (tmF rw n).2
def cN {rw:List R4}{r:R4}{n:Nat}(h:n<↥rw):tmF (rw++[r]) n=tmF rw n/\iF' (rw++[r]) n=iF' rw n/\jF (rw++[r]) n=jF rw n/\aF (rw++[r]) n=aF rw n:=by
 have e:(rw++[r]).getD n ((0,1),0,0)=rw.getD n ((0,1),0,0):=by
  rw[qAf,qAf,qAu h]
 unfold aF tmF iF' jF;rw[e];exact#[rfl,rfl,rfl,rfl]
def bE {rw:List R4}{r:R4}:tmF (rw++[r]) ↥rw=r.1/\iF' (rw++[r]) ↥rw=r.2.1/\jF (rw++[r]) ↥rw=r.2.2/\aF (rw++[r]) ↥rw=Rat.divInt r.1.1 r.1.2:=by
 have e:(rw++[r]).getD ↥rw ((0,1),0,0)=r:=by
  rw[qAf,qAw (qAg _),qC0];rfl
 unfold aF tmF iF' jF;rw[e];exact#[rfl,rfl,rfl,rfl]
def WD {rw:List R4}{n:Nat}(h:n<↥rw):rw[n]? = some (tmF rw n,iF' rw n,jF rw n):=by
 unfold tmF iF' jF;rw[qAf,qAb h];rfl
def dfR:RP:=((0,1),(0,0,1))
def Vt (ps os:List RP)(r:R4):D:=.tup [.tup [.int r.1.1,.int r.1.2],lnD (ps.getD r.2.1 dfR).2,lnD (os.getD r.2.2 dfR).2]
def GA {k:Nat}{a b:Int}{x:Rat}(h:Wq k a b x):Rat.divInt a b=x:=by
 have hb:(b:Rat)≠0:=by have:=qA0.mpr h.pos;grind
 rw[qAB,h.eq];have k2:x*(b:Rat)/(b:Rat)*(b:Rat)=x*(b:Rat):=qBa hb;have k3:(x*(b:Rat)/(b:Rat)-x)*(b:Rat)=0:=⋯;rcases qBe.mp k3 with z|z
 .grind
 .exact absurd z hb
structure QC (P O:Ps)(m:Nat)(rw:List R4):Prop where
 n0:0<↥rw
 w:∀n,n<↥rw->Wq m (tmF rw n).1 (tmF rw n).2 (aF rw n)
 a0:aF rw 0=bg O 0
 j0:jF rw 0=0
 iP:∀n,n<↥rw->iF' rw n<↥P
 jO:∀n,n<↥rw->jF rw n<↥O
 bi:∀n,n<↥rw->bg P (iF' rw n)<=aF rw n
 bj:∀n,n<↥rw->bg O (jF rw n)<=aF rw n
 up:∀n,n+1<↥rw->aF rw n<aF rw (n+1)
 ei:∀n,n+1<↥rw->iF' rw n+1<↥P->aF rw (n+1)<=bg P (iF' rw n+1)
 ej:∀n,n+1<↥rw->jF rw n+1<↥O->aF rw (n+1)<=bg O (jF rw n+1)
 li:iF' rw (↥rw-1)+1<↥P->aF rw (↥rw-1)<bg P (iF' rw (↥rw-1)+1)
 lj:jF rw (↥rw-1)+1<↥O->aF rw (↥rw-1)<bg O (jF rw (↥rw-1)+1)
 si:∀n,n+1<↥rw->iF' rw (n+1)=iF' rw n\/(iF' rw (n+1)=iF' rw n+1/\aF rw (n+1)=bg P (iF' rw n+1))
 sj:∀n,n+1<↥rw->jF rw (n+1)=jF rw n\/(jF rw (n+1)=jF rw n+1/\aF rw (n+1)=bg O (jF rw n+1))
 mv:∀n,n+1<↥rw->iF' rw (n+1)=iF' rw n->jF rw (n+1)≠jF rw n
 cnt:↥rw+iF' rw 0<=iF' rw (↥rw-1)+jF rw (↥rw-1)+1+iF' rw 0
def QC.all {P O:Ps}{m:Nat}{rw:List R4}(s:QC P O m rw)(h1:¬iF' rw (↥rw-1)+1<↥P)(h2:¬jF rw (↥rw-1)+1<↥O):Sbs P O ↥rw (aF rw) (iF' rw) (jF rw):=by
 refine#[s.n0,s.a0,s.j0,s.iP,s.jO,s.bi,s.bj,s.up,λn hn z=>?_,λn hn z=>?_,s.si,s.sj,s.mv]
 .by_cases c:n+1<↥rw
  .exact#[c,s.ei n c z]
  .rw[show n=↥rw-1 from ()]at z;exact absurd z h1
 .by_cases c:n+1<↥rw
  .exact#[c,s.ej n c z]
  .rw[show n=↥rw-1 from ()]at z;exact absurd z h2
def QC.one {P O:Ps}{m:Nat}{tm:Int×Int}{i:Nat}(w:Wq m tm.1 tm.2 (bg O 0))(hi:i<↥P)(ho:0<↥O)(b:bg P i<=bg O 0)(l:i+1<↥P->bg O 0<bg P (i+1))(u:1<↥O->bg O 0<bg O 1):QC P O m [(tm,i,0)]:=by
 have e:=GA w;have ea:aF [(tm,i,0)] 0=bg O 0:=e;have z:∀n,n < [(tm,i,(0:Nat))].length->n=0:=λn hn=>by have:n<1:=hn;omega
 have nn:∀n,¬n+1 < [(tm,i,(0:Nat))].length:=λn hn=>by have:n+1<1:=hn;omega
 refine#[by simp,λn hn=>?_,ea,rfl,λn hn=>?_,λn hn=>?_,λn hn=>?_,λn hn=>?_,λn hn=>absurd hn (nn n),λn hn=>absurd hn (nn n),λn hn=>absurd hn (nn n),λh=>?_,λh=>?_,λn hn=>absurd hn (nn n),λn hn=>absurd hn (nn n),λn hn=>absurd hn (nn n),?_]
 .rw[z n hn,ea];exact w
 .rw[z n hn];exact hi
 .rw[z n hn];exact ho
 .rw[z n hn,ea];exact b
 .rw[z n hn,ea];exact qAc
 .show aF [(tm,i,0)] 0<_;rw[ea];exact l h
 .show aF [(tm,i,0)] 0<_;rw[ea];exact u h
 .show 1+i<=i+0+1+i;omega
def QC.step {P O:Ps}{m:Nat}{rw:List R4}(s:QC P O m rw)(uP:∀i,i+1<↥P->bg P i<bg P (i+1))(uO:∀i,i+1<↥O->bg O i<bg O (i+1)){tm:Int×Int}{x:Rat}{i' j':Nat}(w:Wq m tm.1 tm.2 x)
 (x1:iF' rw (↥rw-1)+1<↥P->x<=bg P (iF' rw (↥rw-1)+1)) (x2:jF rw (↥rw-1)+1<↥O->x<=bg O (jF rw (↥rw-1)+1))
 (x3:(iF' rw (↥rw-1)+1<↥P/\x=bg P (iF' rw (↥rw-1)+1))\/(jF rw (↥rw-1)+1<↥O/\x=bg O (jF rw (↥rw-1)+1)))
 (ei':i'=if iF' rw (↥rw-1)+1<↥P/\¬x<bg P (iF' rw (↥rw-1)+1) then iF' rw (↥rw-1)+1 else iF' rw (↥rw-1))
 (ej':j'=if jF rw (↥rw-1)+1<↥O/\¬x<bg O (jF rw (↥rw-1)+1) then jF rw (↥rw-1)+1 else jF rw (↥rw-1)):QC P O m (rw++[(tm,i',j')]):=by
 have ln:(rw++[(tm,i',j')]).length=↥rw+1:=by simp
 have n0:=s.n0;have ex:=GA w;have L:=λn (hn:n<↥rw)=>cN (rw:=rw) (r:=(tm,i',j')) hn;have Rr:=bE (rw:=rw) (r:=(tm,i',j'));have rA:aF (rw++[(tm,i',j')]) ↥rw=x:=by rw[Rr.2.2.2];exact ex
 have rI:iF' (rw++[(tm,i',j')]) ↥rw=i':=Rr.2.1;have rJ:jF (rw++[(tm,i',j')]) ↥rw=j':=Rr.2.2.1;have rT:tmF (rw++[(tm,i',j')]) ↥rw=tm:=Rr.1;have hL:↥rw-1<↥rw:=();have a1:=s.iP _ hL;have a2:=s.jO _ hL;have a3:=s.bi _ hL;have a4:=s.bj _ hL;have a5:=s.li;have a6:=s.lj;have cn:=s.cnt;generalize eI:iF' rw (↥rw-1)=I0 at *
 generalize eJ:jF rw (↥rw-1)=J0 at *
 generalize eA:aF rw (↥rw-1)=A0 at *
 have lt:A0<x:=by
  rcases x3 with⟨h,e⟩|⟨h,e⟩
  .rw[e];exact a5 h
  .rw[e];exact a6 h
 have hi:(i'=I0/\(I0+1<↥P->x<bg P (I0+1)))\/(i'=I0+1/\I0+1<↥P/\x=bg P (I0+1)):=by
  by_cases c:I0+1<↥P/\¬x<bg P (I0+1)
  .rw[qC6 c]at ei';have:=x1 c.1;exact .inr #[ei',c.1,⋯]
  .rw[qC5 c]at ei';exact .inl #[ei',λh=>Decidable.byContradiction λz=>c #[h,z]]
 have hj:(j'=J0/\(J0+1<↥O->x<bg O (J0+1)))\/(j'=J0+1/\J0+1<↥O/\x=bg O (J0+1)):=by
  by_cases c:J0+1<↥O/\¬x<bg O (J0+1)
  .rw[qC6 c]at ej';have:=x2 c.1;exact .inr #[ej',c.1,⋯]
  .rw[qC5 c]at ej';exact .inl #[ej',λh=>Decidable.byContradiction λz=>c #[h,z]]
 have one:¬(i'=I0/\j'=J0):=λz=>by
  rcases x3 with⟨h,e⟩|⟨h,e⟩
  .rcases hi with y|y
   .have:=y.2 h;grind
   .omega
  .rcases hj with y|y
   .have:=y.2 h;grind
   .omega
 have old:∀{q:Nat->Prop},(∀n,n<↥rw->q n)->q ↥rw->∀n,n<(rw++[(tm,i',j')]).length->q n:=λ{q} h1 h2 n hn=>by
  rw[ln]at hn;by_cases c:n<↥rw
  .exact h1 n c
  .rw[show n=↥rw from ()];exact h2
 have old2:∀{q:Nat->Prop},(∀n,n+1<↥rw->q n)->q (↥rw-1)->∀n,n+1<(rw++[(tm,i',j')]).length->q n:=λ{q} h1 h2 n hn=>by
  rw[ln]at hn;by_cases c:n+1<↥rw
  .exact h1 n c
  .rw[show n=↥rw-1 from ()];exact h2
 have pre:↥rw-1+1=↥rw:=();have lI:iF' (rw++[(tm,i',j')]) (↥rw-1)=I0:=by rw[(L _ hL).2.1];exact eI
 have lJ:jF (rw++[(tm,i',j')]) (↥rw-1)=J0:=by rw[(L _ hL).2.2.1];exact eJ
 have lA:aF (rw++[(tm,i',j')]) (↥rw-1)=A0:=by rw[(L _ hL).2.2.2];exact eA
 have nl:(rw++[(tm,i',j')]).length-1=↥rw:=by rw[ln];omega
 refine#[(),old (λn hn=>?_) ?_,?_,?_,old (λn hn=>?_) ?_,old (λn hn=>?_) ?_,old (λn hn=>?_) ?_,old (λn hn=>?_) ?_,old2 (λn hn=>?_) ?_,old2 (λn hn=>?_) ?_,old2 (λn hn=>?_) ?_,?_,?_,old2 (λn hn=>?_) ?_,old2 (λn hn=>?_) ?_,old2 (λn hn=>?_) ?_,?_]
 .rw[(L n hn).1,(L n hn).2.2.2];exact s.w n hn
 .rw[rT,rA];exact w
 .rw[(L 0 n0).2.2.2];exact s.a0
 .rw[(L 0 n0).2.2.1];exact s.j0
 .rw[(L n hn).2.1];exact s.iP n hn
 .rw[rI];rcases hi with y|y<;>omega
 .rw[(L n hn).2.2.1];exact s.jO n hn
 .rw[rJ];rcases hj with y|y<;>omega
 .rw[(L n hn).2.1,(L n hn).2.2.2];exact s.bi n hn
 .rw[rI,rA];rcases hi with y|y
  .rw[y.1];grind
  .rw[y.1,y.2.2];exact qAc
 .rw[(L n hn).2.2.1,(L n hn).2.2.2];exact s.bj n hn
 .rw[rJ,rA];rcases hj with y|y
  .rw[y.1];grind
  .rw[y.1,y.2.2];exact qAc
 .rw[(L n ()).2.2.2,(L (n+1) hn).2.2.2];exact s.up n hn
 .rw[pre,lA,rA];exact lt
 .rw[(L n ()).2.1,(L (n+1) hn).2.2.2];exact s.ei n hn
 .rw[pre,lI,rA];exact x1
 .rw[(L n ()).2.2.1,(L (n+1) hn).2.2.2];exact s.ej n hn
 .rw[pre,lJ,rA];exact x2
 .rw[nl,rI,rA];intro h;rcases hi with y|y
  .rw[y.1]at h ⊢;exact y.2 h
  .rw[y.1]at h ⊢;rw[y.2.2];exact uP _ h
 .rw[nl,rJ,rA];intro h;rcases hj with y|y
  .rw[y.1]at h ⊢;exact y.2 h
  .rw[y.1]at h ⊢;rw[y.2.2];exact uO _ h
 .rw[(L n ()).2.1,(L (n+1) hn).2.1,(L (n+1) hn).2.2.2];exact s.si n hn
 .rw[pre,lI,rI,rA];rcases hi with y|y
  .exact .inl y.1
  .exact .inr #[y.1,y.2.2]
 .rw[(L n ()).2.2.1,(L (n+1) hn).2.2.1,(L (n+1) hn).2.2.2];exact s.sj n hn
 .rw[pre,lJ,rJ,rA];rcases hj with y|y
  .exact .inl y.1
  .exact .inr #[y.1,y.2.2]
 .rw[(L n ()).2.1,(L (n+1) hn).2.1,(L n ()).2.2.1,(L (n+1) hn).2.2.1];exact s.mv n hn
 .rw[pre,lI,lJ,rI,rJ];exact λz y=>one #[z,y]
 .rw[nl,rI,rJ,ln];rcases hi with y|y<;>rcases hj with z|z<;>omega
def Lo {α:Type}{f:α->D}{xs:List α}{j:Nat}{a b:Int}(e1:a=(j:Int)+1)(e2:b=(j:Int)+2):Ij (xs.map f) (some a) (some b)=((xs.drop (j+1)).take 1).map f:=by
 have e1:a=((j+1:Nat):Int):=();have e2:b=((j+2:Nat):Int):=();subst e1 e2;unfold Ij;rw[HT.sIx_nat,HT.sIx_nat,qAa];by_cases c:j+1<↥xs
 .rw[qB6 (),qB6 (),<-qCC,<-qCZ,show j+2-(j+1)=1 from ()]
 .rw[Nat.min_eq_right (),Nat.min_eq_right (),qC0,qCu,qCQ (show ↥xs<=j+1 from ())];rfl
def LM {ps:List RP}{j:Nat}(h:j<↥ps):(ps.drop j).take 1=[ps.getD j dfR]:=by
 have g:ps[j]? = some (ps.getD j dfR):=by
  rw[qAf,qAb h];rfl
 rw[show(1:Nat)=0+1 from rfl,qBx,qBE,Nat.add_zero,g];rfl
def Ov {ps:List RP}{j:Nat}(h:¬j<↥ps):(ps.drop j).take 1=[]:=by
 rw[qCQ ()];rfl
def cI {k m:Nat}{ps os:List RP}{P O:Ps}(lp:PL k m ps P)(lo:PL k m os O){i j:Nat}(hc:i+1<↥P\/j+1<↥O) :
 ∃(p q:RP)(s t x:Rat)(tm:Int×Int),0<((ps.drop (i+1)).take 1++(os.drop (j+1)).take 1).length/\((ps.drop (i+1)).take 1++(os.drop (j+1)).take 1).getD 0 dfR=p/\((ps.drop (i+1)).take 1++(os.drop (j+1)).take 1).getD (((ps.drop (i+1)).take 1++(os.drop (j+1)).take 1).length-1) dfR=q/\Wq m p.1.1 p.1.2 s/\Wq m q.1.1 q.1.2 t/\(if t<s then tp q.1.1 q.1.2 else tp p.1.1 p.1.2)=tp tm.1 tm.2/\Wq m tm.1 tm.2 x /\
  (i+1<↥P->x<=bg P (i+1))/\(j+1<↥O->x<=bg O (j+1))/\((i+1<↥P/\x=bg P (i+1))\/(j+1<↥O/\x=bg O (j+1))):=by
 have l1:=lp.len;have l2:=lo.len;have g:∀{zs:List RP}{n:Nat},n<↥zs->zs[n]? = some (zs.getD n dfR):=λ{zs n} h=>by
  rw[qAf,qAb h];rfl
 by_cases c1:i+1<↥P
 .have w1:=(lp.lnw (g (show i+1<↥ps from ()))).2.1;rw[LM (show i+1<↥ps from ())];by_cases c2:j+1<↥O
  .have w2:=(lo.lnw (g (show j+1<↥os from ()))).2.1;rw[LM (show j+1<↥os from ())];refine#[_,_,_,_,if bg O (j+1)<bg P (i+1) then bg O (j+1) else bg P (i+1),if bg O (j+1)<bg P (i+1) then (os.getD (j+1) dfR).1 else (ps.getD (i+1) dfR).1,by simp,rfl,rfl,w1,w2,?_,?_,λ_=>?_,λ_=>?_,?_]
   .by_cases z:bg O (j+1)<bg P (i+1)
    .rw[qC6 z,qC6 z];rfl
    .rw[qC5 z,qC5 z];rfl
   .by_cases z:bg O (j+1)<bg P (i+1)
    .rw[qC6 z,qC6 z];exact w2
    .rw[qC5 z,qC5 z];exact w1
   .split<;>grind
   .split<;>grind
   .by_cases z:bg O (j+1)<bg P (i+1)
    .rw[qC6 z];exact .inr #[c2,rfl]
    .rw[qC5 z];exact .inl #[c1,rfl]
  .rw[Ov (show ¬j+1<↥os from ())];exact#[_,_,_,_,_,(ps.getD (i+1) dfR).1,by simp,rfl,rfl,w1,w1,by rw[qC5 qA5];rfl,w1,λ_=>qAc,λz=>absurd z c2,.inl #[c1,rfl]]
 .have c2:j+1<↥O:=hc.resolve_left c1;have w2:=(lo.lnw (g (show j+1<↥os from ()))).2.1;rw[Ov (show ¬i+1<↥ps from ()),LM (show j+1<↥os from ())];exact#[_,_,_,_,_,(os.getD (j+1) dfR).1,by simp,rfl,rfl,w2,w2,by rw[qC5 qA5];rfl,w2,λz=>absurd z c1,λ_=>qAc,.inr #[c2,rfl]]
def Vg {P:Ps}(u:∀i,i+1<↥P->bg P i<bg P (i+1))(x:Rat):∃c,c<=↥P/\(∀i,i<c->bg P i<x)/\∀i,c<=i->i<↥P->x<=bg P i:=by
 have key:∀n,n<=↥P->∃c,c<=n/\(∀i,i<c->bg P i<x)/\∀i,c<=i->i<n->x<=bg P i:=λn=>by
  induction n with
  |zero=>intro _;exact#[0,qAg _,λi hi=>absurd hi (qAW i),λi _ hi=>absurd hi (qAW i)]
  |succ n ih=>
   intro hn;obtain⟨c,c1,c2,c3⟩:=ih ();by_cases e:c<n
   .refine#[c,(),c2,λi h1 h2=>?_];by_cases z:i<n
    .exact c3 i h1 z
    .have:=c3 (n-1) () ();have u':=u (n-1) ();rw[show n-1+1=n from ()]at u';rw[show i=n from ()];grind
   .have ec:c=n:=();subst ec;by_cases z:bg P c<x
    .exact#[c+1,qAg _,λi hi=>by
      by_cases y:i<c
      .exact c2 i y
      .rw[show i=c from ()];exact z,λi h1 h2=>()]
    .exact#[c,(),c2,λi h1 h2=>by rw[show i=c from ()];grind]
 exact key ↥P (qAg _)
def Qs {P:Ps}(u:∀i,i+1<↥P->bg P i<bg P (i+1))(x:Rat):∃c,c<=↥P/\(∀i,i<c->bg P i<=x)/\∀i,c<=i->i<↥P->x<bg P i:=by
 obtain⟨c,c1,c2,c3⟩:=Vg u x;by_cases z:c<↥P/\bg P c<=x
 .refine#[c+1,z.1,λi hi=>?_,λi h1 h2=>?_]
  .by_cases y:i<c
   .exact qAm (c2 i y)
   .rw[show i=c from ()];exact z.2
  .have m:∀d,c+1+d<↥P->bg P c<bg P (c+1+d):=λd=>by
    induction d with
    |zero=>intro h;exact u c h
    |succ d ih=>intro h;have:=ih ();have:=u (c+1+d) h;rw[show c+1+(d+1)=c+1+d+1 from ()];grind
   have:=m (i-(c+1)) ();rw[show c+1+(i-(c+1))=i from ()]at this;have:=c3 c (qAg _) z.1;grind
 .refine#[c,c1,λi hi=>qAm (c2 i hi),λi h1 h2=>?_];by_cases e:i=c
  .subst e;have:=c3 i h1 h2;have:¬bg P i<=x:=λy=>z #[h2,y];grind
  .have m:∀d,c+1+d<↥P->bg P c<bg P (c+1+d):=λd=>by
    induction d with
    |zero=>intro h;exact u c h
    |succ d ih=>intro h;have:=ih ();have:=u (c+1+d) h;rw[show c+1+(d+1)=c+1+d+1 from ()];grind
   have:=m (i-(c+1)) ();rw[show c+1+(i-(c+1))=i from ()]at this;have:=c3 c (qAg _) ();grind
def Sz.ngt {k:Nat}{q:Rat}(h:Sz k q):Sz k (-q):=h.neg
def Gz (b Z:Nat)(l:Ln2):Prop:=Sz b l.1/\Sz Z l.2
def ZF {b Z X:Nat}(hX:Z+Z+1+(b+b+1)<=X):∀l l',Gz b Z l->Gz b Z l'->l.1≠l'.1->Sz X (xg l l'):=λl l' h1 h2 ne=>by
 unfold xg;exact((h2.2.sub h1.2).div (h1.1.sub h2.1) ⋯).mono hX
def slS (fc:Cs)(fm:Rat)(gc:Cs)(gm:Rat):List Rat:=0::((List.range ↥fc).map λi=>-slp fc fm i)++((List.range ↥gc).map λi=>-slp gc gm i)
def ZY {fc gc:Cs}{fm gm:Rat}{i:Nat}(h:i<↥fc):-slp fc fm i∈slS fc fm gc gm:=by
 unfold slS;exact qAo.mpr (.inl (qAi.mpr (.inr (qAI.mpr #[i,qAH.mpr h,rfl]))))
def Zu {fc gc:Cs}{fm gm:Rat}{i:Nat}(h:i<↥gc):-slp gc gm i∈slS fc fm gc gm:=by
 unfold slS;exact qAo.mpr (.inr (qAI.mpr #[i,qAH.mpr h,rfl]))
def Yp {fc gc:Cs}{fm gm:Rat}:(0:Rat)∈slS fc fm gc gm:=by
 unfold slS;exact qAo.mpr (.inl (qAi.mpr (.inl rfl)))
structure WV (S0:List Rat)(b Z X K m:Nat)(os:List RP)(O:Ps)(c:Rat->Rat):Prop where
 pl:PL K m os O
 pu:PU O c none
 ne:0<↥O
 b0:bg O 0=0
 sl:∀x,x<↥O->(ln O x).1∈S0
 gd:∀x,x<↥O->Gz b Z (ln O x)/\Sz X (bg O x)
def UM {S0:List Rat}{b Z X K m:Nat}{ps:List RP}{P:Ps}{c:Nat}{h:Rat->Rat}(pl:PL K m ps P)(pu:PU P h none)(hm:1<=m)(hX:1<=X)(c0:0<c)(cl:c<=↥P)(h1:∀i,i<c->bg P i<=0)(h2:∀i,c<=i->i<↥P->0<bg P i)
 (sl:∀x,x<↥P->(ln P x).1∈S0) (gd:∀x,x<↥P->Gz b Z (ln P x)/\Sz X (bg P x)):WV S0 b Z X K m (frR ps c) (frN P c) h:=by
 refine#[Yi pl c0 cl hm,pu.fromN c0 cl h1 (λz=>h2 c (qAg _) z),by rw[E7];omega,rfl,λx hx=>?_,λx hx=>?_]
 .rw[E7]at hx;cases x with
  |zero=>exact sl (c-1) ()
  |succ x=>rw[F8.2];exact sl _ ()
 .rw[E7]at hx;cases x with
  |zero=>exact#[(gd (c-1) ()).1,Sz.zero.mono hX]
  |succ x=>rw[F8.1,F8.2];exact gd _ ()
def PL.mono {k m k' m':Nat}{ps:List RP}{P:Ps}(h:PL k m ps P)(h1:k<=k')(h2:m<=m'):PL k' m' ps P:=
 #[h.len,λi p q a b=>#[(h.at_ i p q a b).t.mono h2,#[(h.at_ i p q a b).l.s.mono h1,(h.at_ i p q a b).l.c.mono h1]]]
section
variable {fc gc:Cs}{fm gm:Rat}{a b c:Nat}
def pA (fc:Cs)(fm:Rat)(gc:Cs)(k:Nat):Ps:=((ER fc fm).map flP).map (mvP (0-tt gc k) (vv gc k))
def QO {k:Nat}:(pA fc fm gc k).length=↥fc:=by unfold pA;rw[qAa,qAa,A7]
def Uk {k i:Nat}(h:i<↥fc):bg (pA fc fm gc k) i=tt fc i+(0-tt gc k)/\ln (pA fc fm gc k) i=(-slp fc fm i,-(vv fc i-slp fc fm i*tt fc i) - -slp fc fm i*(0-tt gc k)+vv gc k):=by
 unfold pA;rw[(B9 (show i<((ER fc fm).map flP).length by rw[qAa,A7];exact h)).1,(B9 (show i<((ER fc fm).map flP).length by rw[qAa,A7];exact h)).2,(B9 (show i<(ER fc fm).length by rw[A7];exact h)).1,(B9 (show i<(ER fc fm).length by rw[A7];exact h)).2,(Ck h).1,(Ck h).2];exact#[rfl,rfl]
def aD (of:Ord fc){k:Nat}:PU (pA fc fm gc k) (cA fc fm gc k) none:=((SF of).flip).move _ _
def aU (of:Ord fc)(og:Ord gc)(zf:LS a b c fc fm)(zg:LS a b c gc gm){k:Nat}(hk:k<↥gc){Z X:Nat}(hZ:2*(a+b+c)+5<=Z)(hX:3*a+4<=X):(∀x,x<(pA fc fm gc k).length->(ln (pA fc fm gc k) x).1∈slS fc fm gc gm)/\∀x,x<(pA fc fm gc k).length->Gz b Z (ln (pA fc fm gc k) x)/\Sz X (bg (pA fc fm gc k) x):=by
 refine#[λx hx=>?_,λx hx=>?_]
 .rw[QO]at hx;rw[(Uk hx).2];exact ZY hx
 .rw[QO]at hx;rw[(Uk hx).1,(Uk hx).2];have l:=zf.ln of x hx;have tg:=zg.tm k hk;have vg:Sz (b+a+c+1) (vv gc k):=by
   have:=zg.va (Ct og hk) tg;rw[B1 og hk]at this;exact this
  refine#[#[l.1.ngt,?_],?_]
  .exact(((l.2.ngt).sub ((l.1.ngt).mul (Sz.zero.sub tg))).add vg).mono ()
  .exact((zf.tm x hx).add (Sz.zero.sub tg)).mono ()
def pB (fc:Cs)(gc:Cs)(gm far:Rat)(k:Nat):Ps:=(HU (ER gc gm) far).map (mvP (tt fc k) (0-vv fc k))
def Rh {k:Nat}{far:Rat}:(pB fc gc gm far k).length=↥gc+1:=by unfold pB;rw[qAa,Gj,A7]
def aR (og:Ord gc){k:Nat}{far:Rat}(hf:tt gc (↥gc-1)<far):PU (pB fc gc gm far k) (cB fc gc gm k) none:=by
 have n0:=og.ne;refine((SF og).turn (by rw[A7];exact n0) (by rw[(Ck n0).1];exact og.t0) (by rw[A7,(Ck (show ↥gc-1<↥gc from ())).1];exact hf)).move _ _
def eY (og:Ord gc){k:Nat}{far:Rat}:bg (pB fc gc gm far k) 0=-far+tt fc k:=by
 unfold pB;rw[(B9 (show 0<(HU (ER gc gm) far).length by rw[Gj];omega)).1];show bg (HU (ER gc gm) far) 0+tt fc k=_;rw[(G0 (show 0<(ER gc gm).length by rw[A7];exact og.ne)).1,qC5 ∅]
def aC (of:Ord fc)(og:Ord gc)(zf:LS a b c fc fm)(zg:LS a b c gc gm){k:Nat}(hk:k<↥fc){far:Rat}(zr:Sz (2*a+1) far){Z X:Nat}(hb:1<=b)(hZ:2*(a+b+c)+5<=Z)(hX:3*a+4<=X):(∀x,x<(pB fc gc gm far k).length->(ln (pB fc gc gm far k) x).1∈slS fc fm gc gm)/\∀x,x<(pB fc gc gm far k).length->Gz b Z (ln (pB fc gc gm far k) x)/\Sz X (bg (pB fc gc gm far k) x):=by
 have n0:=og.ne;have tf:=zf.tm k hk;have vf:Sz (b+a+c+1) (vv fc k):=by
  have:=zf.va (Ct of hk) tf;rw[B1 of hk]at this;exact this
 have key:∀x,x<↥gc+1->((ln (HU (ER gc gm) far) x).1∈slS fc fm gc gm/\Sz b (ln (HU (ER gc gm) far) x).1/\Sz c (ln (HU (ER gc gm) far) x).2/\Sz (2*a+2) (bg (HU (ER gc gm) far) x)):=λx hx=>by
  by_cases z:x<↥gc
  .have ta:=G0 (P:=ER gc gm) (far:=far) (i:=x) (by rw[A7];exact z);rw[A7]at ta;have hi:↥gc-1-x<↥gc:=();rw[ta.1,ta.2,(Ck hi).2];have l:=zg.ln og _ hi;refine#[Zu hi,l.1.ngt,l.2,?_];by_cases y:0<x
   .rw[qC6 y,(Ck (show ↥gc-x<↥gc from ())).1];exact(zg.tm _ ()).ngt.mono ()
   .rw[qC5 y];exact zr.ngt.mono ()
  .have te:=HM (P:=ER gc gm) (far:=far);rw[A7]at te;rw[show x=↥gc from (),te.1,te.2,(Ck n0).2];exact#[Yp,Sz.zero.mono hb,(zg.ln og 0 n0).2,Sz.zero.mono ()]
 have at_:∀x,x<↥gc+1->bg (pB fc gc gm far k) x=bg (HU (ER gc gm) far) x+tt fc k/\ln (pB fc gc gm far k) x=((ln (HU (ER gc gm) far) x).1,(ln (HU (ER gc gm) far) x).2-(ln (HU (ER gc gm) far) x).1*tt fc k+(0-vv fc k)):=λx hx=>by
  unfold pB;have hx':x<(HU (ER gc gm) far).length:=by rw[Gj,A7];exact hx
  rw[(B9 hx').1,(B9 hx').2];exact#[rfl,rfl]
 refine#[λx hx=>?_,λx hx=>?_]
 .rw[Rh]at hx;rw[(at_ x hx).2];exact(key x hx).1
 .rw[Rh]at hx;obtain⟨k1,k2,k3,k4⟩:=key x hx;rw[(at_ x hx).1,(at_ x hx).2];exact#[#[k2,((k3.sub (k2.mul tf)).add (Sz.zero.sub vf)).mono ()],(k4.add tf).mono ()]
def WY (rf:EO fc fm)(rg:EO gc gm)(hm:fm<=gm){B S0:List Rat}{b Z X K m:Nat}{h:Rat->Rat}{qs:List RP}{Q:Ps}(r:FQ B S0 (Gz b Z) (Sz X) K m h none qs Q)(ne:0<↥Q)(b0:bg Q 0=0)(mi:SR (Zi fc fm gc gm) h) :
 Ord (Iu (Q.map flP))/\0<=(ln (Q.map flP) ((Q.map flP).length-1)).1/\(ln (Q.map flP) ((Q.map flP).length-1)).1=fm/\(∀t,0<=t->IsU fc fm gc gm t (val (Iu (Q.map flP)) (ln (Q.map flP) ((Q.map flP).length-1)).1 t))/\LS X b Z (Iu (Q.map flP)) (ln (Q.map flP) ((Q.map flP).length-1)).1:=by
 have iu:∀t,0<=t->IsU fc fm gc gm t (-h t):=λt t0=>Y1 rf rg hm mi t0;have pu:=r.pu.flip;have fl:(Q.map flP).length=↥Q:=qAa _;have ne':0<(Q.map flP).length:=by rw[fl];exact ne
 have fa:∀i,i<↥Q->bg (Q.map flP) i=bg Q i/\ln (Q.map flP) i=(-(ln Q i).1,-(ln Q i).2):=λi hi=>by
  rw[(B9 hi).1,(B9 hi).2];exact#[rfl,rfl]
 obtain⟨o,m0,v⟩:=Wv pu ne' (by rw[(fa 0 ne).1];exact b0) (λx y x0 xy=>TR rf x0 xy (iu x x0) (iu y ⋯)) ((iu 0 qAc).1);have iv:∀t,0<=t->IsU fc fm gc gm t (val (Iu (Q.map flP)) (ln (Q.map flP) ((Q.map flP).length-1)).1 t):=λt t0=>by rw[v t t0];exact iu t t0
 refine#[o,m0,Tv rf rg hm o iv,iv,Ln.ls (λi hi=>?_) o (λi hi=>?_)]
 .rw[BM]at hi;have hi':i<↥Q:=by rw[fl]at hi;exact hi
  rw[K4 pu hi,(BO hi).1,(BO hi).2,(fa i hi').2,(fa i hi').1];have g:=(r.gd i hi').1;refine#[g.1.ngt,?_];have e:ev (-(ln Q i).1,-(ln Q i).2) (bg Q i) - -(ln Q i).1*bg Q i=-(ln Q i).2:=by unfold ev;grind
  rw[e];exact g.2.ngt
 .rw[BM,fl]at hi;rw[(BO (by rw[fl];exact hi)).1,(fa i hi).1];exact(r.gd i hi).2
def Se {S0:List Rat}{b Z X K m:Nat}(hs:(0:Rat)∈S0)(hb:1<=b)(hZ:1<=Z)(hX:1<=X)(hK:1<=K)(hm:1<=m):FQ [] S0 (Gz b Z) (Sz X) K m (λ_=>0) none [((0,1),(0,0,1))] [(0,(0,0))]:=by
 have z1:∀i,i < [((0:Rat),((0:Rat),(0:Rat)))].length->i=0:=λi hi=>by have:i<1:=hi;omega
 have w0:Wq 1 0 1 0:=Wq.of Sz.zero;refine#[#[rfl,λi p q h1 h2=>?_],#[λi hi=>by have:i+1<1:=hi;omega,λi hi=>trivial,λi hi t _ _ _=>?_],#[λi hi=>by have:i+1<1:=hi;omega,λi hi=>?_,λi hi=>by have:i+1<1:=hi;omega],λi hi=>?_]
 .have hi:=z1 i (by have:=(qAe.mp h2).1;exact this);subst hi;cases h1;cases h2;exact#[w0.mono hm,#[w0.mono hK,w0.mono hK]]
 .rw[z1 i hi];show(0:Rat)=0*t+0;grind
 .rw[z1 i hi];exact hs
 .rw[z1 i hi];exact#[#[Sz.zero.mono hb,Sz.zero.mono hZ],Sz.zero.mono hX]
end
end CH
namespace L3
open PySem PySem.Spec PyProof.Rows L2
section
variable {P:Program}{w:World}{A:Around}{E:Value->Shared->Prop}{s:Shared}
variable {n l1 l2 l3:Nat}{us1 us2 us3:Array Value}{st1 st2 st3:Nat->Heap->Prop}
end
section
variable {P:Program}{w:World}{A:Around}{E:Value->Shared->Prop}{s:Shared}
variable {n l1 l2 l3:Nat}{us1 us2 us3:Array Value}{st1 st2 st3:Nat->Heap->Prop}
end
section
variable {P:Program}{w:World}{A:Around}{E:Value->Shared->Prop}{s:Shared}
end
section
variable {X:Cx}{pos:Pos}
end
end L3
namespace CH
open PySem L2 L3
def ZN (fc:Cs)(fm:Rat)(gc:Cs)(gm:Rat)(t s:Rat):Prop:=s=0\/s=t\/(∃k,0<k/\k<↥fc/\tt fc k=s/\slp fc fm (k-1)<slp fc fm k)\/∃k,0<k/\k<↥gc/\tt gc k=t-s/\slp gc gm (k-1)<slp gc gm k
def ON {fc gc:Cs}{fm gm:Rat}(of:Ord fc)(og:Ord gc){t:Rat}(t0:0<=t):∃s,(0<=s/\s<=t)/\ZN fc fm gc gm t s/\∀r,0<=r->r<=t->val fc fm s+val gc gm (t-s)<=val fc fm r+val gc gm (t-r):=by
 obtain⟨F,hF⟩:∃F:List Rat,F=(0:Rat)::t::(((List.range ↥fc).map (tt fc)).filter (λx=>decide (x<=t))++((List.range ↥gc).map λk=>t-tt gc k).filter λx=>decide (0<=x)):=#[_,rfl];have f0:(0:Rat)∈F:=by rw[hF];exact qAi.mpr (.inl rfl)
 have fT:t∈F:=by rw[hF];exact qAi.mpr (.inr (qAi.mpr (.inl rfl)))
 have ff:∀k,k<↥fc->tt fc k<=t->tt fc k∈F:=λk hk h=>by
  rw[hF];exact qAi.mpr (.inr (qAi.mpr (.inr (qAo.mpr (.inl (qA3.mpr #[qAI.mpr #[k,qAH.mpr hk,rfl],qC7 h]))))))
 have fg:∀k,k<↥gc->tt gc k<=t->t-tt gc k∈F:=λk hk h=>by
  rw[hF];exact qAi.mpr (.inr (qAi.mpr (.inr (qAo.mpr (.inr (qA3.mpr #[qAI.mpr #[k,qAH.mpr hk,rfl],qC7 ⋯]))))))
 have nn:∀x∈F,0<=x/\x<=t:=λx hx=>by
  rw[hF]at hx;rcases qAi.mp hx with rfl|hx
  .exact#[qAc,t0]
  rcases qAi.mp hx with rfl|hx
  .exact#[t0,qAc]
  rcases qAo.mp hx with hx|hx
  .obtain⟨h1,h2⟩:=qA3.mp hx;obtain⟨k,hk,rfl⟩:=qAI.mp h1;have:=Bc of.up (i:=0) (j:=k) () (qAH.mp hk);rw[of.t0]at this;exact#[this,of_decide_eq_true h2]
  .obtain⟨h1,h2⟩:=qA3.mp hx;obtain⟨k,hk,rfl⟩:=qAI.mp h1;have:=Bc og.up (i:=0) (j:=k) () (qAH.mp hk);rw[og.t0]at this;exact#[of_decide_eq_true h2,⋯]
 clear hF;obtain⟨w,hw⟩:∃w:Rat->Rat,w=λs=>val fc fm s+val gc gm (t-s):=#[_,rfl];have we:∀s,w s=val fc fm s+val gc gm (t-s):=λs=>by rw[hw]
 have amid:∀p n,p∈F->n∈F->(∀x∈F,x<=p\/n<=x)->∀x,p<=x->x<=n->w x=w p+(sat fc fm p-sat gc gm (t-n))*(x-p):=λp n hp hn h x x1 x2=>by
  have p0:=nn p hp;have n0:=nn n hn;have e1:=Mm (m:=fm) of (a:=p) (b:=n) (x:=x) p0.1 (λk hk=>by
   by_cases c:tt fc k<=t
   .exact h _ (ff k hk c)
   .right;grind) x1 x2
  have hg:∀k,k<↥gc->tt gc k<=t-n\/t-p<=tt gc k:=λk hk=>by
   by_cases c:tt gc k<=t
   .rcases h _ (fg k hk c) with y|y
    .right;grind
    .left;grind
   .right;grind
  have e2:=Mm (m:=gm) og (a:=t-n) (b:=t-p) (x:=t-x) ⋯ hg ⋯ ⋯;have e3:=Mm (m:=gm) og (a:=t-n) (b:=t-p) (x:=t-p) ⋯ hg ⋯ ⋯;rw[we,we,e1,e2,e3];grind
 obtain⟨y0,hy0,_,my0⟩:=JF (λx=>-w x) (λ_=>True) F #[0,f0,trivial];obtain⟨y,hy,py,my⟩:=JF (λx=>-x) (λx=>w x=w y0) F #[y0,hy0,rfl];have best:∀x∈F,w y<=w x:=λx hx=>by
  have:=my0 x hx trivial;rw[py];grind
 have first:∀x∈F,x<y->w y<w x:=λx hx lt=>by
  refine qA1.mp λz=>?_;have b:=best x hx;have:=my x hx (by rw[<-py];grind);grind
 have next:∀v,v<t->∃n∈F,v<n/\∀x∈F,x<=v\/n<=x:=λv lv=>by
  obtain⟨n,hn,pn,mn'⟩:=JF (λx=>-x) (λx=>v<x) F #[t,fT,lv];refine#[n,hn,pn,λx hx=>?_];by_cases d:v<x
  .right;have:=mn' x hx d;grind
  .left;grind
 refine#[y,nn y hy,?_,λv v0 vt=>?_]
 .by_cases c:y=0
  .exact .inl c
  right;by_cases c2:y=t
  .exact .inl c2
  right;have yy:=nn y hy;have y0':0<y:=⋯;have yt:y<t:=⋯;obtain⟨p,hp,lp,mp'⟩:=JF (λx=>x) (λx=>x<y) F #[0,f0,y0'];have gapF:∀x∈F,x<=p\/y<=x:=λx hx=>by
   by_cases d:x<y
   .left;exact mp' x hx d
   .right;grind
  have a:=amid p y hp hy gapF y (qAm lp) qAc;have f1:=first p hp lp
  have s1:sat fc fm p-sat gc gm (t-y)<0:=by
   refine qA1.mp λz=>?_;have:0<=(sat fc fm p-sat gc gm (t-y))*(y-p):=qAk z ⋯;grind
  obtain⟨n,hn,ln,gn⟩:=next y yt
  have s2:0<=sat fc fm y-sat gc gm (t-n):=by
   have a2:=amid y n hy hn gn n (qAm ln) qAc;have b:=best n hn;refine qAN.mp λz=>?_;have:=qBB (show 0 < -(sat fc fm y-sat gc gm (t-n)) from ⋯) (show 0<n-y from ⋯);grind
  have p0:=nn p hp;have n0:=nn n hn;by_cases d:sat fc fm p<sat fc fm y
  .left;obtain⟨k,k0,kl,e,e1,e2⟩:=LQ (m:=fm) of p0.1 lp (λk hk=>by
    by_cases c:tt fc k<=t
    .exact gapF _ (ff k hk c)
    .right;grind) ⋯
   exact#[k,k0,kl,e,by rw[e1,e2];exact d]
  .right;obtain⟨k,k0,kl,e,e1,e2⟩:=LQ (m:=gm) og (a:=t-n) (c:=t-y) ⋯ ⋯ (λk hk=>by
    by_cases c:tt gc k<=t
    .rcases gn _ (fg k hk c) with z|z
     .right;grind
     .left;grind
    .right;grind) ⋯
   exact#[k,k0,kl,e,by rw[e1,e2];grind]
 .rw[<-we,<-we];by_cases vt':v=t
  .rw[vt'];exact best t fT
  obtain⟨p,hp,lp,mp'⟩:=JF (λx=>x) (λx=>x<=v) F #[0,f0,v0];obtain⟨n,hn,ln,gn⟩:=next v ⋯
  have gF:∀x∈F,x<=p\/n<=x:=λx hx=>by
   rcases gn x hx with z|z
   .left;exact mp' x hx z
   .right;exact z
  have e1:=amid p n hp hn gF v lp (qAm ln);have e2:=amid p n hp hn gF n ⋯ qAc;have b1:=best p hp;have b2:=best n hn;rcases Rat.le_total (a:=sat fc fm p-sat gc gm (t-n)) (b:=0) with z|z
  .have:0<=(-(sat fc fm p-sat gc gm (t-n)))*(n-v):=qAk ⋯ ⋯;grind
  .have:0<=(sat fc fm p-sat gc gm (t-n))*(v-p):=qAk z ⋯;grind
section
variable {cs:Cs}{m σ:Rat}
end
section
variable {fc gc:Cs}{fm gm last:Rat}{W:List (Nat×Nat)}
end
section
variable {fc gc:Cs}{fm gm last:Rat}{W:List (Nat×Nat)}{i j:Nat}
end
section
variable {fc gc:Cs}{fm gm:Rat}{a b c:Nat}
def Hk {cs:Cs}{m t:Rat}(r:EO cs m)(t0:0<=t):0<=val cs m t:=by
 have:=Cu r qAc t0;rw[Cy r.o]at this;exact qAv r.o.v0 this
end
section
variable {fc gc:Cs}{fm gm last:Rat}{W:List (Nat×Nat)}{L:List D}{i j:Nat}
end
section
variable {fc gc:Cs}{fm gm last:Rat}{W:List (Nat×Nat)}
end
def Df (cs:Cs):Prop:=∀k,k+1<↥cs->∃e f,Sz e (tt cs (k+1)-tt cs k)/\Sz f (vv cs (k+1)-vv cs k)/\e+f<=13000
def Df.of {n:Nat}{cs:Cs}(h:SzC n cs)(hn:n<=3200):Df cs:=λk hk=>
 #[_,_,(h _ hk).1.sub (h k ()).1,(h _ hk).2.sub (h k ()).2,()]
structure SzD (cs:Cs)(m:Rat):Prop where
 len:↥cs<=100000
 df:Df cs
 cs:SzC 6400 cs
 m:Sz 6400 m
def SzK.d {n:Nat}{cs:Cs}{m:Rat}(h:SzK n cs m)(hn:n<=3200):SzD cs m:=#[h.len,Df.of h.cs hn,h.cs.mono (),h.m.mono ()]
def LS.df {a b c:Nat}{cs:Cs}{m:Rat}(z:LS a b c cs m)(o:Ord cs)(h:4*a+b+2<=13000):Df cs:=λk hk=>by
 have t:=(z.tm _ hk).sub (z.tm k ());have s:=(z.ln o k ()).1;have n:=Hq (o.up k hk);refine#[_,b+(a+a+1),t,?_,()];have:=s.mul t;rw[Bo hk,qBa n]at this;exact this
def LS.szd {a b c:Nat}{cs:Cs}{m:Rat}(z:LS a b c cs m)(o:Ord cs)(hl:↥cs<=100000)(h:a+b+c+1<=6400)(h4:4*a+b+2<=13000):SzD cs m:=
 have k:=z.szk o hl h
 #[hl,z.df o h4,k.cs,k.m]
def SL (S0:List Rat)(cs:Cs)(m:Rat):Prop:=∀t,0<=t->sat cs m t∈S0
section
variable {S0:List Rat}{cs ds fc gc:Cs}{m k fm gm last:Rat}
def SL.of (o:Ord cs)(h:∀i,i<↥cs->slp cs m i∈S0):SL S0 cs m:=λ_ t0=>h _ (EG o t0).lt
theorem SL.at (h:SL S0 cs m)(o:Ord cs){i:Nat}(hi:i<↥cs):slp cs m i∈S0:=by
 have:=h _ (Ct o hi);unfold sat at this;rw[JS o.up (k:=i) qAc (λh=>o.up i h) _ hi (qAg _)]at this;exact this
def SL.kept (h:SL S0 cs m)(o:Ord cs):SL S0 (kp cs m (↥cs-1)) m:=λt t0=>by rw[(HX o t).2];exact h t t0
def slL (cs:Cs)(m:Rat):List Rat:=(List.range ↥cs).map λi=>slp cs m i
def Ob (o:Ord cs):SL (slL cs m) cs m:=SL.of o λi hi=>qAI.mpr #[i,qAH.mpr hi,rfl]
def LZ:(slL cs m).length=↥cs:=by unfold slL;rw[qAa,qAx]
def SL.mono {S1:List Rat}(h:SL S0 cs m)(e:∀x∈S0,x∈S1):SL S1 cs m:=λt t0=>e _ (h t t0)
end
section
variable {S0:List Rat}{fc gc hc jc oc:Cs}{fm gm hm jm om:Rat}
def Wo (of:Ord fc)(og:Ord gc)(h1:SL S0 fc fm)(h2:SL S0 gc gm)(h0:(0:Rat)∈S0):∀x∈slS fc fm gc gm,x∈S0.map (λy=>-y):=λx hx=>by
 unfold slS at hx;rcases qAo.mp hx with hx|hx
 .rcases qAi.mp hx with rfl|hx
  .exact qAI.mpr #[0,h0,⋯]
  .obtain⟨i,hi,rfl⟩:=qAI.mp hx;exact qAI.mpr #[_,h1.at of (qAH.mp hi),rfl]
 .obtain⟨i,hi,rfl⟩:=qAI.mp hx;exact qAI.mpr #[_,h2.at og (qAH.mp hi),rfl]
def XG {B:List Rat}{b Z X K m:Nat}{h:Rat->Rat}{qs:List RP}{Q:Ps}(r:FQ B (S0.map (λy=>-y)) (Gz b Z) (Sz X) K m h none qs Q)(o:Ord (Iu (Q.map flP))):SL S0 (Iu (Q.map flP)) (ln (Q.map flP) ((Q.map flP).length-1)).1:=SL.of o λi hi=>by
 rw[BM]at hi;have hi':i<↥Q:=by rw[qAa]at hi;exact hi
 rw[K4 r.pu.flip hi,(B9 hi').2];show -(ln Q i).1∈S0;obtain⟨y,hy,e⟩:=qAI.mp (r.cn.sl i hi');rw[<-e,show - -y=y from ⋯];exact hy
end
def bS {fc gc:Cs}{fm gm:Rat}(of:Ord fc)(og:Ord gc)(hm:fm<=gm){t v:Rat}(t0:0<=t)(hg:∀j,j<↥gc->val fc fm (t+tt gc j)-vv gc j<=v)(hf:∀j,j<↥fc->t<=tt fc j->vv fc j-val gc gm (tt fc j-t)<=v):∀u,0<=u->val fc fm (t+u)-val gc gm u<=v:=λu u0=>by
 obtain⟨w,w0,cw,best⟩:=Lw of og hm t0;refine qAv (best u u0) ?_;rcases cw with rfl|⟨k,_,kl,e,_⟩|⟨k,_,kl,e,_⟩
 .have:=hg 0 og.ne;rw[og.t0,<-Cy (m:=gm) og]at this;exact this
 .have:=hg k kl;rw[<-B1 (m:=gm) og kl,e]at this;exact this
 .have:=hf k kl ⋯;rw[<-B1 (m:=fm) of kl,e,show t+w-t=w from ⋯]at this;exact this
def lw (cs:Cs)(e:Rat):Cs:=cs.map λc=>(c.1,c.2-e)
section
variable {cs:Cs}{m e:Rat}
def Ko:(lw cs e).length=↥cs:=qAa _
def Hg {i:Nat}(h:i<↥cs):tt (lw cs e) i=tt cs i/\vv (lw cs e) i=vv cs i-e:=by
 have q:(lw cs e)[i]? = some (tt cs i,vv cs i-e):=by
  unfold lw;rw[qAd,qAb h,(Bs h).1,(Bs h).2];rfl
 unfold tt vv at q ⊢;rw[qAf (l:=lw cs e),q];exact#[rfl,rfl]
def XT (i:Nat):slp (lw cs e) m i=slp cs m i:=by
 by_cases h:i+1<↥cs
 .rw[Bo h,Bo (by rw[Ko];exact h),(Hg h).1,(Hg h).2,(Hg (show i<↥cs from ())).1,(Hg (show i<↥cs from ())).2];grind
 .rw[AF h,AF (by rw[Ko];exact h)]
theorem UY (t:Rat):∀n,n<=↥cs->plc (lw cs e) t n=plc cs t n
 |0,_=>rfl
 |n+1,h=>by
  unfold plc;rw[(Hg (show n<↥cs from ())).1,UY t n ()]
def Vh (o:Ord cs)(t:Rat):val (lw cs e) m t=val cs m t-e/\sat (lw cs e) m t=sat cs m t:=by
 have p:=JP (t:=t) o.ne _ (qAg ↥cs);unfold val sat;rw[Ko,UY t _ (qAg _),XT,(Hg p).1,(Hg p).2];exact#[⋯,rfl]
def YE (o:Ord cs)(h:e<=vv cs 0):Ord (lw cs e):=by
 have n:=o.ne;refine#[by rw[Ko];exact n,by rw[(Hg n).1];exact o.t0,by rw[(Hg n).2];grind,λk hk=>?_,λk hk=>?_]
 all_goals rw[Ko]at hk
 .rw[(Hg hk).1,(Hg (show k<↥cs from ())).1];exact o.up k hk
 .rw[(Hg hk).2,(Hg (show k<↥cs from ())).2];have:=o.vu k hk;grind
end
end CH
namespace L3
open PySem L2
section
variable {X:Cx}
def Rt {vs:List Value}{ns:List Int}(h:PyProof.Rows.IntsAre vs ns):∃xs:List (Int×Tok),vs=xs.map (λp=>.int p.1 p.2)/\xs.map (·.1)=ns:=by
 induction h with
 |nil=>exact#[[],rfl,rfl]
 |cons n t _ ih=>
  obtain⟨xs,e1,e2⟩:=ih;exact#[(n,t)::xs,by rw[e1];rfl,by rw[<-e2];rfl]
def ZV (X:Cx):List V->Hp->VK->Prop:=λxs H Q=>∃(p:Addr)(ns:List Int),xs=[.ref p]/\SqL X.K H p (ns.map V.int)/\0<↥ns/\∀m:Int,m∈ns->(∀x∈ns,x<=m)->Q (.int m) H
def Qc (hc:X.calm=true):Iv X (.builtin "max") (ZV X):=by
 intro pins s σ H xs us Q I r h;obtain⟨p,ns,rfl,hq,h0,q⟩:=h;obtain⟨u,rfl,rx⟩:=NJ r;cases rx;obtain⟨its,r',pl,hz⟩:=I.list hq;obtain⟨ys,e1,e2⟩:=Rt (K3 r');subst e1 e2;rw[qAa]at h0;have en:∀i (hi:i<↥ys),numAt ys.toArray i=(ys.map (·.1))[i]'(by rw[qAa];exact hi):=λi hi=>by
  unfold numAt;rw[qBG,qAb hi,List.getElem_map];rfl
 refine max_intList (xs:=ys.toArray) (I.ok.hd hc) (by rw[show intItems ys.toArray=(ys.map (λp=>Value.int p.1 p.2)).toArray by unfold intItems;rw[List.map_toArray]];exact pl.isList) (by rw[qAt];exact h0) λv h' tk hv k=>?_;obtain⟨t,rfl⟩:=intItems_at hv;obtain⟨b1,b2⟩:=argBest_gt (numAt ys.toArray) (ys.toArray.size-1);rw[qAt]at b1 b2 ⊢;generalize argBest (λi j=>decide (numAt ys.toArray i>numAt ys.toArray j)) (↥ys-1)=j at b1 b2;have jl:j<↥ys:=();refine#[.int (numAt ys.toArray j),H,I.kept k,#[t,rfl],q _ ?_ λx hx=>?_]
 .rw[en j jl];exact qBp _
 .obtain⟨i,hi,rfl⟩:=qA8.mp hx;have il:i<↥ys:=by rw[qAa]at hi;exact hi
  have:=b2 i ();rw[en i il]at this;exact this
def Zy (te:TE3):TE3:=λτ R=>te τ λs=>match aO s with
 |some xs=>∃ns:List Int,xs=ns.map D.int/\0<↥ns/\∀m:Int,m∈ns->(∀x∈ns,x<=m)->R (.d (.int m))
 |none=>False
def XN {e:Expr}{te:TE3}{p pos:Pos}(hc:X.calm=true)(he:PE3 X e te)(hg:Gl X "max")(hm:X.mg "max"=none)(hs:starEach [e] X.env=(false,eval e X.env)::starEach [] X.env:=by exact Cm rfl):PE3 X (.Call (.Name "max" p) [e] [] pos) (Zy te):=
 #[BL (Zd (GR (Qc hc) hg hm L3.boot_max (AM he.out Br hs) (he:=hs))) λσ H Q hh=>by
  obtain⟨B,z,τ,R,r,ht,q⟩:=hh;exact#[B,z,τ,_,r,ht,λs v q1 e1 i1 f1 h1=>by
   split at h1
   .rename_i xs hx;obtain⟨ns,rfl,h0,h1⟩:=h1;obtain⟨a,vs,rfl,g2,g1⟩:=Qn i1 e1.sub hx;have ev:=Lf g2;subst ev;exact#[a,ns,rfl,g1,h0,λm m1 m2 hk=>q (.d (.int m)) _ q1 e1 (.int m) FP (h1 m m1 m2)]
   .exact h1.elim]]
end
end L3
namespace CH
open PySem L2 L3
def XX {fc gc fc' gc':Cs}{fm gm fm' gm' t v:Rat}(h:IsU fc fm gc gm t v)(t0:0<=t)(e1:∀x,0<=x->val fc fm x=val fc' fm' x)(e2:∀x,0<=x->val gc gm x=val gc' gm' x):IsU fc' fm' gc' gm' t v:=by
 obtain⟨a,b,c⟩:=h;refine#[a,?_,λu u0=>?_]
 .rcases b with b|⟨u,u0,b⟩
  .exact .inl b
  .exact .inr #[u,u0,by rw[<-e1 _ ⋯,<-e2 _ u0];exact b]
 .rw[<-e1 _ ⋯,<-e2 _ u0];exact c u u0
def mis (cs:Cs)(v K:Rat):Cs:=cs.map λc=>(c.1,v+K*c.1-c.2)
section
variable {cs:Cs}{m v K:Rat}
def Eu:(mis cs v K).length=↥cs:=qAa _
def Cw {i:Nat}(h:i<↥cs):tt (mis cs v K) i=tt cs i/\vv (mis cs v K) i=v+K*tt cs i-vv cs i:=by
 have q:(mis cs v K)[i]? = some (tt cs i,v+K*tt cs i-vv cs i):=by
  unfold mis;rw[qAd,qAb h,(Bs h).1,(Bs h).2];rfl
 unfold tt vv at q ⊢;rw[qAf (l:=mis cs v K),q];exact#[rfl,rfl]
def VN (up:Up cs)(i:Nat):slp (mis cs v K) (K-m) i=K-slp cs m i:=by
 by_cases h:i+1<↥cs
 .have u:=up i h;rw[Bo h,Bo (by rw[Eu];exact h),(Cw h).1,(Cw h).2,(Cw (show i<↥cs from ())).1,(Cw (show i<↥cs from ())).2];have:tt cs (i+1)-tt cs i≠0:=⋯;grind
 .rw[AF h,AF (by rw[Eu];exact h)]
theorem RD (t:Rat):∀n,n<=↥cs->plc (mis cs v K) t n=plc cs t n
 |0,_=>rfl
 |n+1,h=>by
  unfold plc;rw[(Cw (show n<↥cs from ())).1,RD t n ()]
def Bj (o:Ord cs)(t:Rat):val (mis cs v K) (K-m) t=v+K*t-val cs m t:=by
 have p:=JP (t:=t) o.ne _ (qAg ↥cs);unfold val;rw[Eu,RD t _ (qAg _),VN o.up,(Cw p).1,(Cw p).2];grind
def Hr (o:Ord cs)(h0:vv cs 0<=v)(hk:∀i,i<↥cs->slp cs m i<=K):Ord (mis cs v K):=by
 have n:=o.ne;refine#[by rw[Eu];exact n,by rw[(Cw n).1];exact o.t0,by rw[(Cw n).2,o.t0];grind,λk hk'=>?_,λk hk'=>?_]
 all_goals rw[Eu]at hk'
 .rw[(Cw hk').1,(Cw (show k<↥cs from ())).1];exact o.up k hk'
 .rw[(Cw hk').2,(Cw (show k<↥cs from ())).2];have u:=o.up k hk';have s:=hk k ();rw[Bo hk']at s;have d:tt cs (k+1)-tt cs k≠0:=⋯;have e:vv cs (k+1)-vv cs k=(vv cs (k+1)-vv cs k)/(tt cs (k+1)-tt cs k)*(tt cs (k+1)-tt cs k):=⋯;have w:0<=(K-(vv cs (k+1)-vv cs k)/(tt cs (k+1)-tt cs k))*(tt cs (k+1)-tt cs k):=qAk ⋯ ⋯;grind
end
end CH
namespace L3
open PySem L2
section
variable {X:Cx}
end
section
variable {X:Cx}{e a b c o:Expr}{te ta tb tc to:TE3}{pos:Pos}{es:List Expr}{tr:TA3}
end
end L3
namespace CH
open PySem L2 L3
section
variable {cs C:Cs}{m M e t:Rat}
def Q8 {K s:Rat}(o:Ord cs)(km:m<=K)(hk:∀i,i<↥cs->slp cs m i<=K)(s0:0<=s)(t0:0<=t):val cs m (s+t)-val cs m s<=K*t:=by
 have om:=Hr (v:=vv cs 0) o qAc hk;have a:=Cu (m:=K-m) #[om,⋯] (x:=s) (y:=s+t) s0 ⋯;rw[Bj o,Bj o]at a;grind
end
def Ve {L:Cs}{c:Rat×Rat}{M M':Rat}(n:0<↥L)(h:(c.2-vv L (↥L-1))/(c.1-tt L (↥L-1))=M){k:Nat}(hk:k<↥L):slp (L++[c]) M' k=slp L M k:=by
 rw[Bo (show k+1<(L++[c]).length by rw[Bf];omega),MM hk,NY hk];by_cases e:k+1<↥L
 .rw[Bo e,MM e,NY e]
 .have:k+1=↥L:=();rw[AF e,this,OV,O3,<-h];have:k=↥L-1:=();rw[this]
section
variable {A B D F G:Rat->Rat}{P t:Rat}
structure Srv (A B D:Rat->Rat):Prop where
 le:∀s t,0<=s->s<=t->D t<=A s+B t-B s
 at_:∀t,0<=t->D t=B t\/∃s,0<=s/\s<=t/\D t=A s+B t-B s
def Kps (A F:Rat->Rat):Prop:=(∀t,0<=t->A t<=F t)/\∀s t,0<=s->0<=t->A (s+t)-A s<=F t
def Sre (B G:Rat->Rat):Prop:=∀s t,0<=s->0<=t->G t<=B (s+t)-B s
def Srv.of {L:Rat->Rat}(h:∀t,0<=t->IsL (λx=>B x-A x) t (L t))(v:∀t,0<=t->D t=B t-L t):Srv A B D:=by
 refine#[λs t s0 st=>?_,λt t0=>?_]
 .have t0:=qAv s0 st;have a:=(h t t0).2.2 s s0 st;have a:B s-A s<=L t:=a;rw[v t t0];grind
 .rw[v t t0];rcases(h t t0).2.1 with e|⟨s,s0,st,e⟩
  .left;rw[e];grind
  .right;have e:B s-A s=L t:=e;exact#[s,s0,st,⋯]
end
section
variable {cs:Cs}{m K:Rat}
structure aP (cs:Cs)(m:Rat)(P:Rat->Rat->Prop):Prop where
 one:∀i j,i<↥cs->j<↥cs->P (tt cs i) (tt cs j)
 two:∀i k,i<↥cs->k<↥cs->tt cs i<=tt cs k->P (tt cs i) (tt cs k-tt cs i)
 thr:∀i j,i<↥cs->j<↥cs->tt cs j<=tt cs i->P (tt cs i-tt cs j) (tt cs j)
def SG {v:Rat}{c:Rat×Rat}(h:c∈mis cs v K):∃i,i<↥cs/\c=(tt cs i,v+K*tt cs i-vv cs i):=by
 obtain⟨i,hi,rfl⟩:=qA8.mp h;have hl:i<↥cs:=by rw[Eu]at hi;exact hi
 have e:=Bs hi;have a:=Cw (v:=v) (K:=K) hl;refine#[i,hl,?_];rw[<-a.2,<-a.1,e.1,e.2]
def QZ (r:EO cs m)(k0:0<=K)(km:m<=K)(hk:∀i,i<↥cs->slp cs m i<=K)(F:aP cs m λs l=>val cs m (s+l)-val cs m s<=val cs m l):Kps (val cs m) (val cs m):=by
 have o:=r.o;have A:∀s j,0<=s->j<↥cs->val cs m (s+tt cs j)-val cs m s<=val cs m (tt cs j):=λs j s0 hj=>by
  have u:=bS o o qAc (Ct o hj) (v:=val cs m (tt cs j)) (λi hi=>by have:=F.one i j hi hj;rw[B1 o hi]at this;rw[show tt cs j+tt cs i=tt cs i+tt cs j from ⋯];exact this) (λi hi l=>by have:=F.thr i j hi hj l;rw[show tt cs i-tt cs j+tt cs j=tt cs i from ⋯,B1 o hi]at this;exact this) s s0;rw[show tt cs j+s=s+tt cs j from ⋯]at u;exact u
 have B:∀s k,0<=s->k<↥cs->s<=tt cs k->val cs m (tt cs k)<=val cs m s+val cs m (tt cs k-s):=λs k s0 hk sk=>by
  obtain⟨x,⟨x0,x1⟩,pc,le⟩:=ON (fm:=m) (gm:=m) o o (Ct o hk);refine qAv ?_ (le s s0 sk);have nn:=Hk r (qAc (a:=0));rcases pc with rfl|rfl|⟨i,_,hi,e,_⟩|⟨i,_,hi,e,_⟩
  .rw[show tt cs k-0=tt cs k from ⋯];grind
  .rw[show tt cs k-tt cs k=0 from ⋯];grind
  .have:=F.two i k hi hk (by rw[e];exact x1);rw[e,show x+(tt cs k-x)=tt cs k from ⋯]at this;grind
  .have:=F.two i k hi hk ⋯;rw[e,show tt cs k-x+(tt cs k-(tt cs k-x))=tt cs k from ⋯,show tt cs k-(tt cs k-x)=x from ⋯]at this;grind
 refine#[λt _=>qAc,λs t s0 t0=>?_];have vs:=Hk r s0;have ks:0<=K*s:=qAk k0 s0;have o1:=Hr (v:=vv cs 0+K*s) o ⋯ hk;have o2:=Hr (v:=vv cs 0+val cs m s) o ⋯ hk;have all:=Qk (m:=K-m) (k:=K-m) (t:=t) o1 o2 qAc s0 #[λc hc=>?_,λc hc z=>?_] t0
 .rw[Bj o,Bj o,show t+s=s+t from ⋯]at all;grind
 .obtain⟨j,hj,rfl⟩:=SG hc;rw[Bj o];have:=A s j s0 hj;rw[B1 o hj,show s+tt cs j=tt cs j+s from ⋯]at this;show vv cs 0+K*s+K*tt cs j-vv cs j<=vv cs 0+val cs m s+K*(tt cs j+s)-val cs m (tt cs j+s);grind
 .obtain⟨k,hk',rfl⟩:=SG hc;have z:0<=tt cs k-s:=z;have:=B s k s0 hk' ⋯;rw[B1 o hk']at this;show val (mis cs (vv cs 0+K*s) K) (K-m) (tt cs k-s)<=vv cs 0+val cs m s+K*tt cs k-vv cs k;rw[Bj o];grind
def YR {e:Rat}{c:Rat×Rat}(h:c∈lw cs e):∃i,i<↥cs/\c=(tt cs i,vv cs i-e):=by
 obtain⟨i,hi,rfl⟩:=qA8.mp h;have hl:i<↥cs:=by rw[Ko]at hi;exact hi
 have q:=Bs hi;have a:=Hg (e:=e) hl;exact#[i,hl,by rw[<-a.1,<-a.2,q.1,q.2]]
def SW (r:EO cs m)(k0:0<=K)(km:m<=K)(hk:∀i,i<↥cs->slp cs m i<=K)(F:aP cs m λs l=>val cs m l<=val cs m (s+l)-val cs m s):Sre (val cs m) (val cs m):=by
 have o:=r.o;have om:=Hr (v:=vv cs 0) o qAc hk;have v0:val cs m 0=0:=by
  have:=F.one 0 0 o.ne o.ne;rw[o.t0,show(0:Rat)+0=0 from ⋯]at this;have:=Hk r (qAc (a:=0));grind
 have A:∀s j,0<=s->j<↥cs->val cs m (tt cs j)<=val cs m (s+tt cs j)-val cs m s:=λs j s0 hj=>by
  have u:=bS (fm:=K-m) (gm:=K-m) om om qAc (Ct o hj) (v:=K*tt cs j-val cs m (tt cs j)) (λi hi=>by
   rw[Eu]at hi;have:=F.one i j hi hj;rw[(Cw hi).1,(Cw hi).2,Bj o];rw[B1 o hi,show tt cs i+tt cs j=tt cs j+tt cs i from ⋯]at this;grind) (λi hi l=>by
   rw[Eu]at hi;rw[(Cw hi).1]at l ⊢;have:=F.thr i j hi hj l;rw[show tt cs i-tt cs j+tt cs j=tt cs i from ⋯,B1 o hi]at this;rw[(Cw hi).2,Bj o];grind) s s0
  rw[Bj o,Bj o,show tt cs j+s=s+tt cs j from ⋯]at u;grind
 have B:∀s k,0<=s->k<↥cs->s<=tt cs k->val cs m s+val cs m (tt cs k-s)<=val cs m (tt cs k):=λs k s0 hk' sk=>by
  obtain⟨x,⟨x0,x1⟩,pc,le⟩:=ON (fm:=K-m) (gm:=K-m) om om (Ct o hk');have le:=le s s0 sk;rw[Bj o,Bj o,Bj o,Bj o]at le;suffices h:val cs m x+val cs m (tt cs k-x)<=val cs m (tt cs k) from ⋯
  rcases pc with rfl|rfl|⟨i,_,hi,e,_⟩|⟨i,_,hi,e,_⟩
  .rw[v0,show tt cs k-0=tt cs k from ⋯];grind
  .rw[show tt cs k-tt cs k=0 from ⋯,v0];grind
  all_goals rw[Eu]at hi
  all_goals rw[(Cw hi).1]at e
  .have:=F.two i k hi hk' (by rw[e];exact x1);rw[e,show x+(tt cs k-x)=tt cs k from ⋯]at this;grind
  .have:=F.two i k hi hk' ⋯;rw[e,show tt cs k-x+(tt cs k-(tt cs k-x))=tt cs k from ⋯,show tt cs k-(tt cs k-x)=x from ⋯]at this;grind
 intro s t s0 t0;have vs:=Hk r s0;have all:=Qk (m:=m) (k:=m) (t:=t) (YE (e:=-val cs m s) o (by have:=o.v0;grind)) o qAc s0 #[λc hc=>?_,λc hc z=>?_] t0
 .rw[(Vh o t).1,show t+s=s+t from ⋯]at all;grind
 .obtain⟨j,hj,rfl⟩:=YR hc;have:=A s j s0 hj;rw[B1 o hj,show s+tt cs j=tt cs j+s from ⋯]at this;show vv cs j - -val cs m s<=val cs m (tt cs j+s);grind
 .obtain⟨k,hk',rfl⟩:=qA8.mp hc;have e:=Bs hk';rw[<-e.1]at z ⊢;rw[<-e.2,(Vh o _).1];have:=B s k s0 hk' ⋯;rw[B1 o hk']at this;grind
end
def Y8 {cs L:Cs}{m a k:Rat}{j p g:Nat}(s:Spl cs m a [(0,0)] j L)(r:EO cs m)(z:Ln p g cs m)(zs:Sz p k)(zc:Sz g (val cs m a-k*a)):Ln p g L k:=by
 have ll:↥L=j+1:=s.len;have t2:=s.two (k:=0) (by show 0<1;decide);have e1:tt L j=a:=by
  have:tt L j=a+0:=t2.1;grind
 have e2:vv L j=val cs m a:=by
  have:vv L j=val cs m a-0+0:=t2.2;grind
 intro i hi;rw[ll]at hi;by_cases c:i<j
 .have o1:=s.one c;have ic:i<↥cs:=qAl c s.jl;have es:slp L k i=slp cs m i:=by
   rw[Bo (show i+1<↥L by rw[ll];omega),o1.1,o1.2];by_cases d:i+1<j
   .have o2:=s.one d;rw[o2.1,o2.2,Bo (qAl d s.jl)]
   .have:i+1=j:=();rw[this,e1,e2];have lo:=s.lo i c;rw[B7 r.o.up #[ic,qAm lo,λh=>by have:=s.hi (i+1) () h;exact this]];have:a-tt cs i≠0:=⋯;grind
  rw[es,o1.1,o1.2];exact z i ic
 .have:i=j:=();subst this;rw[AF (by rw[ll];omega),e1,e2];exact#[zs,zc]
def Bd (cs:Cs)(m:Rat):Prop:=∀k,k+1<↥cs->slp cs m k≠slp cs m (k+1)
def XC {c:Rat×Rat}{m:Rat}:Bd [c] m:=λk hk=>by have:k+1<1:=hk;omega
def Bd.snoc {cs:Cs}{m k:Rat}{c:Rat×Rat}(h:Bd cs m)(n:0<↥cs)(hs:(c.2-vv cs (↥cs-1))/(c.1-tt cs (↥cs-1))=m)(ne:m≠k):Bd (cs++[c]) k:=λi hi=>by
 have ln:(cs++[c]).length=↥cs+1:=Bf;rw[ln]at hi;rw[Ve n hs (k:=i) ()];by_cases z:i+1<↥cs
 .rw[Ve n hs z];exact h i z
 .have:i+1=↥cs:=();rw[this,AF (cs:=cs++[c]) (by rw[ln];omega),show i=↥cs-1 from (),AF (cs:=cs) ()];exact ne
def W0 (cs ds:Cs)(s L:Rat):Prop:=(∃i j,i<↥cs/\j<↥ds/\s=tt cs i/\L=tt ds j)\/(∃i k,i<↥cs/\k<↥cs/\tt cs i<=tt cs k/\s=tt cs i/\L=tt cs k-tt cs i)\/∃i j,i<↥cs/\j<↥ds/\tt ds j<=tt cs i/\s=tt cs i-tt ds j/\L=tt ds j
def U0 {cs:Cs}{m:Rat}{P:Rat->Rat->Prop}(h:∀s L,W0 cs cs s L->P s L):aP cs m P:=
 #[λi j hi hj=>h _ _ (.inl #[i,j,hi,hj,rfl,rfl]),λi k hi hk l=>h _ _ (.inr (.inl #[i,k,hi,hk,l,rfl,rfl])),λi j hi hj l=>h _ _ (.inr (.inr #[i,j,hi,hj,l,rfl,rfl]))]
def PlX (s L:Rat)(x:D):Prop:=∃a b c d:Int,x=.tup [tp a b,tp c d]/\Wq 2401 a b s/\Wq 2401 c d L
def Has (rows:List D)(s L:Rat):Prop:=∃x∈rows,PlX s L x
def Has.app {rows:List D}{s L:Rat}{y:D}(h:Has rows s L):Has (rows++[y]) s L:=by
 obtain⟨x,hx,p⟩:=h;exact#[x,qAo.mpr (.inl hx),p]
def K9 {rows:List D}{s L:Rat}{y:D}(p:PlX s L y):Has (rows++[y]) s L:=#[y,qAo.mpr (.inr (qAG.mpr rfl)),p]
structure Row (cs ds:Cs)(rows:List D)(n a b:Nat):Prop where
 one:∀k,k<a->k<↥cs->tt cs n<=tt cs k->Has rows (tt cs n) (tt cs k-tt cs n)
 two:∀j,j<b->j<↥ds->Has rows (tt cs n) (tt ds j)
 thr:∀j,j<b->j<↥ds->tt ds j<=tt cs n->Has rows (tt cs n-tt ds j) (tt ds j)
def Row.app {cs ds:Cs}{rows:List D}{n a b:Nat}{y:D}(h:Row cs ds rows n a b):Row cs ds (rows++[y]) n a b:=#[λk h1 h2 h3=>(h.one k h1 h2 h3).app,λj h1 h2=>(h.two j h1 h2).app,λj h1 h2 h3=>(h.thr j h1 h2 h3).app]
def Xl {cs ds:Cs}{rows:List D}(h:∀i,i<↥cs->Row cs ds rows i ↥cs ↥ds){s L:Rat}(p:W0 cs ds s L):Has rows s L:=by
 rcases p with⟨i,j,hi,hj,rfl,rfl⟩|⟨i,k,hi,hk,l,rfl,rfl⟩|⟨i,j,hi,hj,l,rfl,rfl⟩
 .exact(h i hi).two j hj hj
 .exact(h i hi).one k hk hk l
 .exact(h i hi).thr j hj hj l
section
variable {A H O D U:Rat->Rat}{b t σ:Rat}
structure Hur (H O:Rat->Rat)(b σ:Rat):Prop where
 lo:∀x,0<=x->x<=b->O x=H x
 hi:∀x,b<=x->O x=H b+σ*(x-b)
def TN (h:Hur H O b σ)(b0:0<=b)(s:Sre H H)(g:∀x y,0<=x->0<=y->H (x+y)-H x<=σ*y):Sre O H:=by
 have h0:=s 0 0 qAc qAc;rw[show(0:Rat)+0=0 from ⋯]at h0;intro x l x0 l0;by_cases c:x+l<=b
 .rw[h.lo x x0 ⋯,h.lo _ ⋯ c];exact s x l x0 l0
 by_cases d:b<=x
 .rw[h.hi x d,h.hi _ ⋯];have a:=g 0 l qAc l0;rw[show 0+l=l from ⋯]at a;grind
 .rw[h.lo x x0 ⋯,h.hi _ ⋯];have a:=g b (x+l-b) b0 ⋯;rw[show b+(x+l-b)=x+l from ⋯]at a;have c:=s x l x0 l0;grind
def Rf (h:Hur H O b σ)(b0:0<=b)(t0:0<t)(kA:Kps A A)(sH:Sre H H)(best:∀v,0<=v->A (t+v)-H v<=A (t+b)-H b)(an:∀x,0<=x->0<=A x)(hn:∀x,0<=x->0<=H x)(gA:∀x y,0<=x->0<=y->A (x+y)-A x<=σ*y)(st:A (b+t)<=σ*t)(sv:Srv A O D)(dO:∀x,0<=x->D x<=O x):D (b+t)-D b=A (t+b)-H b:=by
 have up:∀r,0<=r->r<=b->H r<=A r:=λr r0 rb=>by
  have a:=best (b-r) ⋯;have c:=kA.2 (t+(b-r)) r ⋯ r0;rw[show t+(b-r)+r=t+b from ⋯]at c;have d:=sH (b-r) r ⋯ r0;rw[show b-r+r=b from ⋯]at d;grind
 have e1:D b=H b:=by
  have a:=dO b b0;rw[h.lo b b0 qAc]at a;rcases sv.at_ b b0 with e|⟨r,r0,rb,e⟩
  .rw[e,h.lo b b0 qAc]
  .rw[h.lo b b0 qAc,h.lo r r0 rb]at e;have:=up r r0 rb;grind
 have eO:O (b+t)=H b+σ*t:=by rw[h.hi _ ⋯];grind
 have hb:=hn b b0;have e2:D (b+t)=A (b+t):=by
  have a:=sv.le (b+t) (b+t) ⋯ qAc;rcases sv.at_ (b+t) ⋯ with e|⟨r,r0,rb,e⟩
  .rw[eO]at e;grind
  .by_cases c:r<=b
   .have:=up r r0 c;rw[eO,h.lo r r0 c]at e;grind
   .have g:=gA r (b+t-r) r0 ⋯;rw[show r+(b+t-r)=b+t from ⋯]at g;rw[eO,h.hi r ⋯]at e;grind
 rw[e1,e2,show b+t=t+b from ⋯]
end
end CH
namespace L3
open PySem
def RI (M:Model)(Γ:Ctx)(p:Pos)(s:Shared)(e:End)(s':Shared):Sem Fin->List Frame->Prop
 |x,F::fs=>∃e1 s1,Runs M (Γ.over (F::fs)) p x [] s e1 s1/\match e1 with
  |.ret r=>(match F with
   |.ret k _ _ _ c p1 _=>Runs M (Γ.goto c) p1 (k r) fs s1 e s'
   |.gen g k _ c p1=>Runs M (Γ.goto c) p1 (k (End.ret r).result) fs (s1.setGen g .finished) e s')
  |.susp v g0 l0 k0 c0 p0 fs0=>(match splitAtGen (F::fs) with
   |none=>e=.susp v g0 l0 k0 c0 p0 (fs0++F::fs)/\s'=s1
   |some (pre,(g,k,c,p1),rest)=>Runs M (Γ.goto c) p1 (k (.yielded v)) rest (s1.setGen g (End.susp v g0 l0 k0 c0 p0 (fs0++pre)).genState) e s')
 |.pure (.done f),[]=>e=.ret (.ok f)/\s'=s
 |.raise x,[]=>e=.ret (.error x)/\s'=s
 |.pure (.again c),[]=>Runs M (Γ.goto c) p (M.den c) [] s e s'
 |.rule _ k,[]=>Runs M Γ p (k Unit.unit) [] s e s'
 |.at q k,[]=>Runs M Γ q (k Unit.unit) [] s e s'
 |.load a _ k,[]=>∃o,s.heap.get? a=some o/\Runs M Γ p (k o) [] s e s'
 |.update a _ f k,[]=>Runs M Γ p (k Unit.unit) [] { s with heap:=s.heap.update a f } e s'
 |.loadIfAlive a k,[]=>Runs M Γ p (k (s.heap.get? a)) [] s e s'
 |.point _ k,[]=>Runs M Γ p (k Unit.unit) [] s e s'
 |.alloc o k,[]=>Runs M Γ p (k s.heap.objs.size) [] { s with heap:=s.heap.push o } e s'
 |.fresh k,[]=>Runs M Γ p (k s.toks) [] { s with toks:=s.toks+1 } e s'
 |.ask k,[]=>Runs M Γ p (k #[M.prog,M.w.params]) [] s e s'
 |.choose src n k,[]=>Runs M Γ p (k (M.w.draws src (s.drawn.get src)%n)) [] { s with drawn:=s.drawn.bump src } e s'
 |.os q _ k,[]=>Runs M Γ p (k (Os.step s.os q).2) [] { s with os:=(Os.step s.os q).1 } e s'
 |.handled own k,[]=>Runs M Γ p (k (if own then Γ.own else Γ.handled)) [] s e s'
 |.genState g k,[]=>∃st,s.gens[g]? = some st/\Runs M Γ p (k st.seen) [] s e s'
 |.stack k,[]=>Runs M Γ p (k ((Γ.code,p)::Γ.below)) [] s e s'
 |.thread k,[]=>Runs M Γ p (k 0) [] s e s'
 |.newGen c k,[]=>Runs M Γ p (k s.gens.size) [] { s with gens:=s.gens.push (.fresh c) } e s'
 |.call c h g l k,[]=>∃e1 s1,Runs M (Γ.enter c h p) p (M.den c) [] s e1 s1/\match e1 with
  |.ret r=>Runs M Γ p (k r) [] s1 e s'
  |.susp v g0 l0 k0 c0 p0 fs=>e=.susp v g0 l0 k0 c0 p0 (fs++[.ret k h g l Γ.code p []])/\s'=s1
 |.yield v g l k,[]=>e=.susp v g l k Γ.code p []/\s'=s
 |.resume g r _ k,[]=>(match s.gens[g]? with
  |none=>False
  |some (.fresh c)=>(match r with
   |.throw x=>Runs M Γ p (k (.raised x)) [] (s.setGen g .finished) e s'
   |.send v=>(v=.none/\∃e1 s1,Runs M (Γ.wake c p) p (M.den c) [] (s.setGen g .running) e1 s1/\Runs M Γ p (k e1.result) [] (s1.setGen g e1.genState) e s')\/(v≠.none/\Runs M Γ p (k .justStarted) [] s e s'))
  |some (.suspended k0 _ c0 p0 fs _)=>∃e1 s1,Runs M (Γ.wake c0 p) p0 (k0 r) fs (s.setGen g .running) e1 s1/\Runs M Γ p (k e1.result) [] (s1.setGen g e1.genState) e s'
  |some .running=>Runs M Γ p (k .running) [] s e s'
  |some .finished=>Runs M Γ p (k .finished) [] s e s')
 |_,[]=>False
def ri {M:Model}{Γ:Ctx}{p:Pos}{x:Sem Fin}{fs:List Frame}{s:Shared}{e:End}{s':Shared}(h:Runs M Γ p x fs s e s'):RI M Γ p s e s' x fs:=by
 cases h with
 |load g h=>exact#[_,g,h]
 |genState g h=>exact#[_,g,h]
 |call a b=>exact#[_,_,a,b]
 |callSusp a=>exact#[_,_,a,rfl,rfl]
 |resumeFresh g a _ b=>simp only[RI,g];exact .inl #[trivial,_,_,a,b]
 |resumeSuspended g a _ b=>simp only[RI,g];exact#[_,_,a,b]
 |resumeJustStarted g n a=>simp only[RI,g];exact .inr #[n,a]
 |segRet a b=>exact#[_,_,a,b]
 |segGen a b=>exact#[_,_,a,b]
 |segSuspOut n a=>exact#[_,_,a,by rw[n];exact#[rfl,rfl]]
 |segSuspGen n a _ b=>exact#[_,_,a,by rw[n];exact b]
 |_=>first|assumption|(simp only[*,RI];done)|exact#[rfl,rfl]
def Mb {M:Model}{Γ:Ctx}{p:Pos}{x:Sem Fin}{fs:List Frame}{s:Shared}{e:End}{s':Shared}(h1:Runs M Γ p x fs s e s'):∀{e2:End}{s2:Shared},Runs M Γ p x fs s e2 s2->e=e2/\s'=s2:=by
 induction h1 with
 |done=>intro _ _ h2;obtain⟨a,b⟩:=ri h2;exact#[a.symm,b.symm]
 |raise=>intro _ _ h2;obtain⟨a,b⟩:=ri h2;exact#[a.symm,b.symm]
 |yield=>intro _ _ h2;obtain⟨a,b⟩:=ri h2;exact#[a.symm,b.symm]
 |load g _ ih=>intro _ _ h2;obtain⟨o,a,b⟩:=ri h2;rw[g]at a;cases a;exact ih b
 |genState g _ ih=>intro _ _ h2;obtain⟨o,a,b⟩:=ri h2;rw[g]at a;cases a;exact ih b
 |call _ _ iha ihb=>intro _ _ h2;obtain⟨e1,s1,a,b⟩:=ri h2;obtain⟨rfl,rfl⟩:=iha a;exact ihb b
 |callSusp _ iha=>intro _ _ h2;obtain⟨e1,s1,a,b⟩:=ri h2;obtain⟨rfl,rfl⟩:=iha a;exact#[b.1.symm,b.2.symm]
 |resumeFresh g _ _ _ iha ihb=>
  intro _ _ h2;have h:=ri h2;simp only[RI,g]at h;rcases h with⟨_,e1,s1,a,b⟩|⟨n,_⟩
  .obtain⟨rfl,rfl⟩:=iha a;exact ihb b
  .exact absurd rfl n
 |resumeSuspended g _ _ _ iha ihb=>
  intro _ _ h2;have h:=ri h2;simp only[RI,g]at h;obtain⟨e1,s1,a,b⟩:=h;obtain⟨rfl,rfl⟩:=iha a;exact ihb b
 |resumeJustStarted g n _ ih=>
  intro _ _ h2;have h:=ri h2;simp only[RI,g]at h;rcases h with⟨z,_⟩|⟨_,b⟩
  .exact absurd z n
  .exact ih b
 |resumeThrowFresh g _ ih=>intro _ _ h;have h:=ri h;simp only[RI,g]at h;exact ih h
 |resumeRunning g _ ih=>intro _ _ h;have h:=ri h;simp only[RI,g]at h;exact ih h
 |resumeFinished g _ ih=>intro _ _ h;have h:=ri h;simp only[RI,g]at h;exact ih h
 |segRet _ _ iha ihb=>intro _ _ h2;obtain⟨e1,s1,a,b⟩:=ri h2;obtain⟨rfl,rfl⟩:=iha a;exact ihb b
 |segGen _ _ iha ihb=>intro _ _ h2;obtain⟨e1,s1,a,b⟩:=ri h2;obtain⟨rfl,rfl⟩:=iha a;exact ihb b
 |segSuspOut n _ iha=>intro _ _ h2;obtain⟨e1,s1,a,b⟩:=ri h2;obtain⟨rfl,rfl⟩:=iha a;simp only[n]at b;exact#[b.1.symm,b.2.symm]
 |segSuspGen n _ _ _ iha ihb=>intro _ _ h2;obtain⟨e1,s1,a,b⟩:=ri h2;obtain⟨rfl,rfl⟩:=iha a;simp only[n]at b;exact ihb b
 |_=>rename_i ih;exact λh=>ih (ri h)
def Pb {M:Model}{Γ:Ctx}{R1 R2:Result->Shared->Prop}{p:Pos}{s:Shared}(h1:wpCode M Γ R1 p s)(h2:wpCode M Γ R2 p s):wpCode M Γ (λr s=>R1 r s/\R2 r s) p s:=by
 obtain⟨r,s',a,q⟩:=h1;obtain⟨r2,s2,b,q2⟩:=h2;obtain⟨e,rfl⟩:=Mb a b;cases e;exact#[r,s',a,q,q2]
def NP {M:Model}{Γ:Ctx}{R1 R2:Result->Shared->Prop}{p:Pos}{s:Shared}(h1:wpCode M Γ R1 p s)(h:∀r s,R1 r s->R2 r s):wpCode M Γ R2 p s:=by
 obtain⟨r,s',a,q⟩:=h1;exact#[r,s',a,h _ _ q]
def RH {M:Model}{Γ:Ctx}{p:Pos}{g:Nat}{r:Resume}{s:Shared}{a b:GenResult}{s1 s2:Shared}(h1:Wakes M Γ p g r s a s1)(h2:Wakes M Γ p g r s b s2):a=b/\s1=s2:=by
 unfold Wakes at h1 h2;split at h1
 .exact h1.elim
 .rename_i e;rw[e]at h2;split at h1
  .obtain⟨e1,t1,x1,_,rfl,rfl⟩:=h1;obtain⟨e2,t2,x2,_,rfl,rfl⟩:=h2;obtain⟨rfl,rfl⟩:=Mb x1 x2;exact#[rfl,rfl]
  .rename_i v nv;have h2:b=GenResult.justStarted/\s2=s:=by
    revert h2
    cases v<;>first|exact λh=>h|exact absurd rfl nv
   exact#[h1.1.trans h2.1.symm,h1.2.trans h2.2.symm]
  .exact#[h1.1.trans h2.1.symm,h1.2.trans h2.2.symm]
 .rename_i e;rw[e]at h2;obtain⟨e1,t1,x1,_,rfl,rfl⟩:=h1;obtain⟨e2,t2,x2,_,rfl,rfl⟩:=h2;obtain⟨rfl,rfl⟩:=Mb x1 x2;exact#[rfl,rfl]
 .rename_i e;rw[e]at h2;exact#[h1.1.trans h2.1.symm,h1.2.trans h2.2.symm]
 .rename_i e;rw[e]at h2;exact#[h1.1.trans h2.1.symm,h1.2.trans h2.2.symm]
def Yy {α:Type}{M:Model}{Γ:Ctx}(x:Sem α):∀{P1 P2:α->Pos->Shared->Prop}{E1 E2:Value->Pos->Shared->Prop}{p:Pos}{s:Shared},Sem.wp M Γ x P1 E1 p s->Sem.wp M Γ x P2 E2 p s->Sem.wp M Γ x (λa p s=>P1 a p s/\P2 a p s) (λe p s=>E1 e p s/\E2 e p s) p s:=by
 induction x with
 |pure a=>intro P1 P2 E1 E2 p s h1 h2;exact#[h1,h2]
 |raise a=>intro P1 P2 E1 E2 p s h1 h2;exact#[h1,h2]
 |unsupported w=>intro P1 P2 E1 E2 p s h1 h2;exact h1
 |finish w=>intro P1 P2 E1 E2 p s h1 h2;exact h1
 |rule t k ih=>intro P1 P2 E1 E2 p s h1 h2;exact ih Unit.unit h1 h2
 |«at» q k ih=>intro P1 P2 E1 E2 p s h1 h2;exact ih Unit.unit h1 h2
 |load a part k ih=>
  intro P1 P2 E1 E2 p s h1 h2;obtain⟨o,e,h1⟩:=h1;obtain⟨o2,e2,h2⟩:=h2;rw[e]at e2;cases e2;exact#[o,e,ih o h1 h2]
 |update a part f k ih=>intro P1 P2 E1 E2 p s h1 h2;exact#[h1.1,ih Unit.unit h1.2 h2.2]
 |alloc o k ih=>intro P1 P2 E1 E2 p s h1 h2;exact ih _ h1 h2
 |loadIfAlive a k ih=>intro P1 P2 E1 E2 p s h1 h2;exact ih _ h1 h2
 |point l k ih=>intro P1 P2 E1 E2 p s h1 h2;exact ih Unit.unit h1 h2
 |register a k ih=>intro P1 P2 E1 E2 p s h1 h2;exact h1
 |fresh k ih=>intro P1 P2 E1 E2 p s h1 h2;exact ih _ h1 h2
 |ask k ih=>intro P1 P2 E1 E2 p s h1 h2;exact ih _ h1 h2
 |choose src n k ih=>intro P1 P2 E1 E2 p s h1 h2;exact#[h1.1,ih _ h1.2 h2.2]
 |os q l k ih=>intro P1 P2 E1 E2 p s h1 h2;exact ih _ h1 h2
 |call c h g l k ih=>
  intro P1 P2 E1 E2 p s h1 h2;exact NP (Pb h1 h2) λr s z=>ih r z.1 z.2
 |handled o k ih=>intro P1 P2 E1 E2 p s h1 h2;exact ih _ h1 h2
 |newGen c k ih=>intro P1 P2 E1 E2 p s h1 h2;exact ih _ h1 h2
 |genState g k ih=>
  intro P1 P2 E1 E2 p s h1 h2;obtain⟨o,e,h1⟩:=h1;obtain⟨o2,e2,h2⟩:=h2;rw[e]at e2;cases e2;exact#[o,e,ih _ h1 h2]
 |resume g r l k ih=>
  intro P1 P2 E1 E2 p s h1 h2;obtain⟨o,s',e,h1⟩:=h1;obtain⟨o2,s2,e2,h2⟩:=h2;obtain⟨rfl,rfl⟩:=RH e e2;exact#[o,s',e,ih _ h1 h2]
 |yield v g l k ih=>intro P1 P2 E1 E2 p s h1 h2;exact h1
 |stack k ih=>intro P1 P2 E1 E2 p s h1 h2;exact ih _ h1 h2
 |fork c k ih=>intro P1 P2 E1 E2 p s h1 h2;exact h1
 |thread k ih=>intro P1 P2 E1 E2 p s h1 h2;exact ih _ h1 h2
 |await a t b l k ih=>intro P1 P2 E1 E2 p s h1 h2;exact h1
def GS {α:Type}{M:Model}{A:Around}{x:Sem α}{P1 P2:α->Shared->Prop}{E1 E2:Value->Shared->Prop}{s:Shared}(h1:wpAny M A x P1 E1 s)(h2:wpAny M A x P2 E2 s):wpAny M A x (λa s=>P1 a s/\P2 a s) (λe s=>E1 e s/\E2 e s) s:=λΓ p hΓ=>Yy x (h1 Γ p hΓ) (h2 Γ p hΓ)
open PySem PySem.Spec PyProof.Rows L2
section
variable {M:Model}{A:Around}{E:Value->Shared->Prop}{s:Shared}{ea:Addr}{h:Heap}
def Cx0 (h:Heap)(ea:Addr):Prop:=∃oe vs,h.get? ea=some oe/\oe.data=.fields vs/\vs[2]? = some .none
def Cx1 (h:Heap)(ea:Addr):Prop:=∃oe vs T oT ts,h.get? ea=some oe/\oe.data=.fields vs/\vs[2]? = some .none/\vs[1]? = some (.ref T)/\T≠ea/\h.get? T=some oT/\oT.data=.fields ts/\3<ts.size
def Cx1.cx0 (c:Cx1 h ea):Cx0 h ea:=by
 obtain⟨oe,vs,T,oT,ts,e,d,v2,_⟩:=c;exact#[oe,vs,e,d,v2]
def FK {o:Obj}{vs:Array Value}{f:Array Value->Array Value}(e:o.data=.fields vs):(Obj.mapFields f o).data=.fields (f vs):=by
 obtain⟨c,d,dt,sl⟩:=o;have e:dt=.fields vs:=e;subst e;rfl
def El {o:Obj}{vs:Array Value}(e:o.data=.fields vs):o.isFreed=false:=by
 obtain⟨c,d,dt,sl⟩:=o;have e:dt=.fields vs:=e;subst e;rfl
def Cx0.set {a:Addr}{i:Nat}{x:Value}(c:Cx0 h ea)(hi:a=ea->i≠2):Cx0 (h.update a (Obj.mapFields λy=>y.setIfInBounds i x)) ea:=by
 obtain⟨oe,vs,e,d,v⟩:=c;by_cases z:ea=a
 .subst z;refine#[_,vs.setIfInBounds i x,qBq _ e (El (FK d)),FK d,?_];rw[Array.getElem?_setIfInBounds];rw[qC5 (λz=>hi rfl z)];exact v
 .exact#[oe,vs,by rw[qBM _ _ _ _ z];exact e,d,v]
def Cx0.slots {S:List Addr}{h':Heap}(c:Cx0 h ea)(k:Heap.SlotsOnly S h h'):Cx0 h' ea:=by
 obtain⟨oe,vs,e,d,v⟩:=c;obtain⟨sl,e'⟩:=k.2.2 ea oe e;exact#[_,vs,e',d,v]
def Wx {o oe:Obj}{vs ts:Array Value}(e:h.get? ea=some oe)(d:oe.data=.fields vs)(v:vs[2]? = some .none)(sz:1<vs.size)(dT:o.data=.fields ts)(st:3<ts.size):Cx1 ((h.push o).update ea (Obj.mapFields λy=>y.setIfInBounds 1 (.ref h.objs.size))) ea:=by
 have ne:h.objs.size≠ea:=qBg (qAj e);refine#[_,vs.setIfInBounds 1 (.ref h.objs.size),h.objs.size,o,ts,qBq _ (qAh _ e) (El (FK d)),FK d,?_,?_,ne,?_,dT,st]
 .rw[Array.getElem?_setIfInBounds,qC5 ∅];exact v
 .rw[Array.getElem?_setIfInBounds,qC6 rfl,qC6 sz]
 .rw[qBM _ _ _ _ ne];exact qAy _ (El dT)
def YK {base:Heap}{env:Env}{outer:List Env}{L:Addr}{head:Value}{b:Bool}(hfr:A.frames=some (env::outer))(hF:s.heap.FunFrames base (env::outer))(hf:env.frame=some L)(c:Cx0 s.heap ea) :
 wpAny M A (do
  let a <-frameOf env
  let pl <-entryPlaceOf L b
  let t <-EntryCells.newEntry head a Value.none (rawInt L) Value.none pl
  setField (Value.ref ea) 1 t) (λ_ s'=>Cx1 s'.heap ea) E s:=by
 refine qC1 (wpAny_frameOf_fun hfr hF hf λh' k=>?_);have c1:=c.slots k;refine qC1 (wpAny_entryPlaceOf λpl hp=>?_);unfold EntryCells.newEntry newFields;refine qC1 (wpAny_newObj_type ?_ ?_)
 .obtain⟨oe,vs,e,d,v⟩:=c1;have sz:1<vs.size:=by
   have:=(Array.getElem?_eq_some_iff.mp v).1;omega
  refine wpAny_setField (qAh _ e) d sz (Wx e d v sz rfl ?_);rw[qAt,qAr];show 3<5+_;omega
 .show(List.toArray _).size<=_;rw[qAt,qAr];rcases hp with rfl|⟨a,b,c,d,c9,b10,_,rfl⟩
  .show 5+6<=_;decide
  .show 5+6<=_;decide
def O7 {base:Heap}{l:List Env}{a:Addr}{i:Nat}{x:Value}{o:Obj}{vs:Array Value}(hF:h.FunFrames base l)(e:h.get? a=some o)(d:o.data=.fields vs):(h.update a (Obj.mapFields λy=>y.setIfInBounds i x)).FunFrames base l:=by
 refine hF.of_keeps λb ob eb nf=>?_;have:b≠a:=λz=>by
  subst z;rw[e]at eb;cases eb;exact nf vs d
 exact#[ob,by rw[qBM _ _ _ _ this];exact eb,rfl]
def PM {base:Heap}{env:Env}{outer:List Env}{L:Addr}{oe:Obj}{vs:Array Value}(hfr:A.frames=some (env::outer))(hF:s.heap.FunFrames base (env::outer))(hf:env.frame=some L)(e:s.heap.get? ea=some oe)(d:oe.data=.fields vs)(v1:vs[1]? = some .none)(c:Cx0 s.heap ea) :
 wpAny M A (noteFrame (Value.ref ea) env) (λ_ s'=>Cx1 s'.heap ea) E s:=by
 unfold noteFrame;rw[hf];refine qC1 (qC4 e d v1 ?_);exact YK hfr hF hf c
def Q0 {base:Heap}{env:Env}{outer:List Env}{L:Addr}{cls a0:Value}(hfr:A.frames=some (env::outer))(hF:s.heap.FunFrames base (env::outer))(hf:env.frame=some L)(tr:s.heap.TracedW base ea cls a0)(c:Cx0 s.heap ea) :
 wpAny M A (noteFrame (Value.ref ea) env) (λ_ s'=>Cx1 s'.heap ea) E s:=by
 obtain⟨oe,vs,T,oT,ts,e,_,d,v1,_,ne,eT,dT,t3⟩:=tr;unfold noteFrame;rw[hf];refine qC1 (qC4 e d v1 ?_);have nn:(Value.ref T != Value.none)=true:=rfl;rw[qC6 nn];refine qC1 (qC4 eT dT t3 ?_);have n3:¬(Value.none==rawInt (L:Int))=true:=by intro z;cases z
 rw[qC5 n3];have sz:3<ts.size:=(Array.getElem?_eq_some_iff.mp t3).1;refine qC1 (wpAny_setField eT dT sz ?_);exact YK (s:={ s with heap:=_ }) hfr (O7 hF eT dT) hf (c.set λz=>absurd z ne)
def Gm (c:Cx1 s.heap ea):wpAny M A (setFlight (Value.ref ea) none) (λ_ s'=>Cx1 s'.heap ea) E s:=by
 obtain⟨oe,vs,T,oT,ts,e,d,v2,v1,ne,eT,dT,sz⟩:=c;unfold setFlight;refine qC1 (qC4 e d v1 ?_);have nn:(Value.ref T != Value.none)=true:=rfl;rw[qC6 nn];exact wpAny_setField eT dT sz #[oe,vs,T,_,_,by rw[qBM _ _ _ _ (Ne.symm ne)];exact e,d,v2,v1,ne,qBq _ eT (El (FK dT)),FK dT,by rw[Array.size_setIfInBounds];exact sz]
def Pn {base:Heap}{env:Env}{outer:List Env}{L:Addr}{oe:Obj}{vs:Array Value}(hfr:A.frames=some (env::outer))(hF:s.heap.FunFrames base (env::outer))(hf:env.frame=some L)(e:s.heap.get? ea=some oe)(d:oe.data=.fields vs)(v1:vs[1]? = some .none)(v2:vs[2]? = some .none) :
 wpAny M A (leaving env (Value.ref ea)) (λ_ s'=>Cx1 s'.heap ea) E s:=by
 unfold leaving;exact qC1 (qC3 (PM hfr hF hf e d v1 #[oe,vs,e,d,v2]) (λ_ _ c=>Gm c) λ_ _ z=>z)
end
section
variable {M:Model}{A:Around}{E:Value->Shared->Prop}{s:Shared}{ea hh C:Addr}{h:Heap}{K:W.Frag}
def Pg {e:Addr}{o:Obj}{vs:Array Value}(he:h.get? e=some o)(d:o.data=.fields vs):W.Looks M h (isType (.ref e)) false:=by
 intro A' Q' E' s' k q;unfold isType loadHead;refine qC1 (wpAny_loadPart (k _ _ he) (qC2 ?_));rw[d];exact q
def T9 {prog:Program}{w:World}{Q:Value->Shared->Prop}{e:Addr}(c:Cx0 s.heap hh)(q:Q .none s):wpAny (model prog w) A (runValue (.builtin "proto.unchain" { pos:=[.ref e,.ref hh,.ref hh,.bool false] })) Q E s:=by
 obtain⟨oe,vs,e1,d,v⟩:=c;refine wpAny_runValue (codeAny_builtin (b:=Builtin.«proto.unchain») rfl ?_);unfold Builtin.«proto.unchain»;refine qC1 (qC4 e1 d v ?_);exact qC2 q
def Tb {prog:Program}{w:World}{env:Env}{x:Sem Value}{Q:Flow->Shared->Prop}(hA:A.handled=some (.ref hh))(hn:W.mroIn K C (.type "BaseException")=some true)
 (hx:wpAny (model prog w) A x (λv s₁=>∃e oe vs oC,v=.ref e/\s₁.heap.get? e=some oe/\oe.cls=.ref C/\oe.data=.fields vs/\vs[1]? = some .none/\2<vs.size/\K.In s₁.heap/\s₁.heap.get? C=some oC/\oC.cls=.type "type"/\hh≠e/\Cx0 s₁.heap hh/\E (.ref e) { s₁ with heap:=s₁.heap.update e (Obj.mapFields λy=>y.setIfInBounds 2 (.ref hh)) }) E s) :
 wpAny (model prog w) A (raiseStmt env (some x) none) Q E s:=by
 unfold raiseStmt;refine qC1 (qC3 hx (λv s1 hq=>?_) (λe s z=>z));obtain⟨e,oe,vs,oC,rfl,he,hcl,d,v1,sz,KX,hC,hcC,ne,c0,q⟩:=hq;have L1:=Pg (M:=model prog w) he d;have L2:W.Looks (model prog w) s1.heap (typeOf (.ref e)) (.ref C):=hcl ▸ (W.Looks.ld he).andThen .now;have L3:=qBL (M:=model prog w) KX hn;have L4:W.Looks (model prog w) s1.heap (typeOf (.ref C)) (.type "type"):=hcC ▸ (W.Looks.ld hC).andThen .now;refine qC1 (qC2 ?_);refine qC1 (wpAny_holding ?_);unfold excFromValue isExcClass;refine qC1 (qC1 (L1.at ?_));refine qC2 ?_;unfold isInstance;refine qC1 (qC1 (L2.at (L3.at ?_)));refine qC2 ?_;refine qC1 (L1.at ?_);unfold raisedInstance;refine qC1 (qC1 (L2.at (qC1 (L4.at ?_))));refine qC2 ?_;refine qC1 ?_;unfold setFlight;refine qC1 (qC4 he d v1 ?_);refine qC2 ?_;unfold raiseNew;refine qC1 (wpAny_handled ?_);rw[hA];have nn:(Value.ref hh != Value.ref e)=true:=by
  simp[bne,ne]
 show wpAny (model prog w) A (if (Value.ref hh != Value.ref e)=true then _ else _) Q E s1;rw[qC6 nn];refine qC1 (wpAny_holding (T9 c0 ?_));refine qC1 (wpAny_setField (a:=e) he d sz ?_);exact wpAny_throw q
end
def T3 (P:Program)(w:World):CXT:=λouter H s E e s'=>∃(ea C:Addr)(a0:Value)(B:Heap)(H':Hp),e=.ref ea/\s'.os=s.os/\AllBare s'.gens/\Fly P w outer H H' s.heap s'.heap ea C a0 B/\Cx1 s'.heap ea/\E (.ref C) none H'
section
variable {X:Cx}{pins:List (Addr×Obj)}{σ:St}{H H':Hp}{s s':Shared}{ea C:Addr}{a0:Value}{B:Heap}{h1:Heap}{vs:List Value}
def S8 (I:Inv X pins σ H s)(hst:X.stack=X.env::X.outer)(hf:X.env.frame=some X.env.locals)(hex:X.ex=[])(hx:Heap.MadeExcOf s.heap h1 ea (.ref C) vs){Q:Unit->Shared->Prop}{E:Value->Shared->Prop}
 (hQ:∀(h':Heap)(t:Addr)(B:Heap),Fly X.prog X.w X.outer X.H₀ H X.s₀.heap h' ea C (.ref t) B->Cx1 h' ea->Q Unit.unit { s with heap:=h' }) :
 wpAny (model X.prog X.w) X.A (leaving X.env (.ref ea)) Q E { s with heap:=h1 }:=by
 have hfr:X.A.frames=some (X.env::X.outer):=by rw[<-hst];exact I.ok.frames
 have hstk:=I.stack;rw[hst]at hstk;have hF:=hstk.of_keeps (h':=h1) λb o eb nf=>#[o,hx.keeps b o eb,rfl];obtain⟨t,et,_⟩:=hx.there;have k:=Pn (M:=model X.prog X.w) (A:=X.A) (s:={ s with heap:=h1 }) (E:=λ_ _=>False) hfr hF hf et rfl rfl rfl;have f:=QT (E:=E) I hst hf hex hx (Q:=λ_ s'=>∃(h':Heap)(t:Addr)(B:Heap),s'={ s with heap:=h' }/\Fly X.prog X.w X.outer X.H₀ H X.s₀.heap h' ea C (.ref t) B) λh' t B fl=>#[h',t,B,rfl,fl];exact qC3 (GS f k) (λ_ s' #[#[h',t,B,e,fl],c]=>by subst e;exact hQ h' t B fl c) (λe s z=>z.2.elim)
end
def Xr (X:Cx)(U:Str->Prop):Prop:=∀(pins:List (Addr×Obj))(σ:St)(H:Hp)(s:Shared)(h1:Heap)(ea C:Addr)(x:Str)(vs:List Value),Inv X pins σ H s->Bp X.H₀ H->X.mg x=some (.ref C)->U x->Heap.MadeExcOf s.heap h1 ea (.ref C) vs->X.xe (.ref ea) { s with heap:=h1 }
def Yh {P:Program}{w:World}{K:W.Frag}{mg:Str->Option Value}{base:Heap}{N:List Str}{qual:Str}{scope:Scope}{f:Addr}{cd:Value}{A:Around}{outer:List Env}{s:Shared}{H:Hp}{E:XK}{U:Str->Prop}
 (hE:∀x C H',Bp H H'->mg x=some (.ref C)->U x->E (.ref C) none H'):Xr (JW (T3 P w) P w K mg base N qual scope f cd A outer s H E) U:=
 λpins σ H1 s1 h1 ea C x vs I hs hm hu hx=>S8 I rfl rfl rfl hx λh' t B fl c=>#[ea,C,.ref t,B,H1,rfl,I.os,I.bare,fl,c,hE x C H1 hs hm hu]
section
variable {X:Cx}{U:Str->Prop}{e:Expr}{es:List Expr}{te:TE3}{tr:TA3}{pos:Pos}
def UB {x:Str}{C:Addr}{np cpos:Pos}(xo:Xr X U)(hc:X.calm=true)(he:PE3 X e te)(hg:Gl X x)(ec:ExC X.K x C)(hm:X.mg x=some (.ref C))
 (hs:starEach [e] X.env=(false,eval e X.env)::starEach [] X.env:=by exact Cm rfl)(hplain:(backTo cpos (starEach [e] X.env)).any (·.1)=false:=by exact C7 rfl)(hd:(x==("__debug__":Str))=false:=by decide)(hl:X.lent=none:=by rfl) :
 PS3 X (.Raise (some (.Call (.Name x np) [e] [] cpos)) none pos) (RR U x te):=by
 refine#[?_];intro pins s σ H D2 I h;obtain⟨B,z,τ,D3,r,ht,c⟩:=h;obtain⟨loose,mb,T⟩:=LA I.mod X.prog;obtain⟨tl,N,nm,q,bs,hdct,sn,sub,ab,col,dd,k0,k1,k2,k3,k5,mN,hC,hN,hni,TL⟩:=(qCF I.mod.kin T ec.ns ec.ex).obj;refine wpAny_Raise_call_subT (C:=C) (nm:=nm) (q:=q) (N:=N) (bs:=bs) (bm:=tl) (hdct:=hdct) (sn:=sn) (sub:=sub) (ab:=ab) (col:=col) (dd:=dd) (k0:=k0) (k1:=k1) (k2:=k2) (k3:=k3) (k5:=k5)
  qB1 (mN:=mN) (TL.hasType PySem.F.excBase_ValueError.hasBase) (I.ok.hd hc) hplain hni (DT I hg hm #[rfl,?_] hd)
 have pa:=(AM he.out Br hs) cpos pins s σ H (λvs H1=>↥vs=1/\Bp X.H₀ H1/\U x) I #[B,_,τ,_,r,ht,λs' v H' e' i' f' h'=>#[rfl,(r.all hl).trans e'.hh,h']];rw[hs]at pa ⊢;refine Calls.evalArgs_plain (thn pa λus s2 #[vs,H2,I2,rv,hl,hsame,hu]=>#[rfl,?_,I2.bk _ _ hC,hN.keeps I2.bk,TL.keeps I2.bk,λh' ea hx=>?_])
 .have:=↥rv;show ↥us<=sizeLine;have z:↥us=1:=();rw[z];decide
 .exact xo pins σ H2 s2 h' ea C x us I2 hsame hm hu hx
end
section
variable {P:Program}{w:World}{K:W.Frag}{mg:Str->Option Value}{base:Heap}
def dS {x qual:Str}{st:Stmt}{f:Addr}{fd:FuncData}{N ps:List Str}{k:Nat}{sp:Sp3}(F:Fun K x qual st f fd)(Sc:Ae N ps (Aa st))(len:∀ss R U,sp ss R U->↥ss=↥ps)
 (hbody:∀(cdv:Value)(A:Around)(outer:List Env)(s:Shared)(H:Hp)(E:XK)(ss:List S)(R:S->Prop)(U:Str->Prop),DC k (A.deeper (envOfC qual (Aa st) s.heap.objs.size f cdv))->sp ss R U ->
  Xr (JW (T3 P w) P w K mg base N qual (Aa st) f cdv A outer s H E) U ->
  ∃t,Dp (JW (T3 P w) P w K mg base N qual (Aa st) f cdv A outer s H E) (BV st) t/\t { nx:=λ_=>R (.d .non),rt:=R } (BI N ss)):Ao P w K mg base (T3 P w) (k+1) f fd ps (Af K mg sp):=by
 obtain⟨oc,od,kV,doc,pm,an,cdv,ct,osl,rfl,lk,hcd⟩:=F.ex;refine RW lk hcd Sc (λvs H Q E hh=>by obtain⟨z,ss,R,U,hz,ha,h3,_⟩:=hh;exact ha.1.trans (len ss R U h3)) λA outer s H vs Q E hr hh9=>?_;obtain⟨z,ss,R,U,hz,ha,h3,q,qe⟩:=hh9;obtain⟨t,ht,hq⟩:=hbody cdv A outer s H E ss R U hr h3 (Yh qe);exact#[_,ht.out,#[H,z],z,BI N ss,_,C8 ha hz (Bp.refl H),hq,#[λτ σ p r h=>q (.d .non) _ p r.ext Is.non FP h,λ_ _ _ _ z=>z.elim,λ_ _ _ _ z=>z.elim,λs v p e i f h=>q s v p e i f h]]
end
def CxO (o:Obj):Prop:=∃vs,o.data=.fields vs/\vs[2]? = some .none
structure KP (P:Program)(w:World)(K:W.Frag)(mg:Str->Option Value)(base:Heap)(CX:CXT)(k:Nat)(f:Addr)(fd:FuncData)(ps:List Str)(sp:Sp):Prop where
 len:∀vs H Q E,sp vs H Q E->↥vs=↥ps
 run:∀(A:Around)(outer:List Env)(s:Shared)(H:Hp)(args:PySem.Args)(us:List Value)(vs:List V)(Q:VK)(E:XK)(h:Addr)(oh:Obj),DC k A->Tr P w K mg base A outer s H->(s.heap.get? h=some oh/\H h=none/\h∉frs outer)->CxO oh->BindsTo s fd args (ps.zip us)->B4 vs us->sp vs H Q E ->
  codeAny (model P w) (A.mark (some (.ref h))) (.call (.ref f) args) (CR CX outer P w H s Q E) s
def cxM (CX:CXT)(P:Program)(w:World)(K:W.Frag)(mg:Str->Option Value)(base:Heap)(N:List Str)(qual:Str)(scope:Scope)(f:Addr)(cd:Value)(A:Around)(outer:List Env)(s:Shared)(H:Hp)(E:XK)(h:Addr)(oh:Obj):Cx:=
 { JW CX P w K mg base N qual scope f cd (A.mark (some (.ref h))) outer s H E with calm:=false,pn:=[(h,oh)] }
def aI {CX:CXT}{P:Program}{w:World}{K:W.Frag}{mg:Str->Option Value}{base:Heap}{N:List Str}{qual:Str}{scope:Scope}{f:Addr}{cd:Value}{A:Around}{outer:List Env}{s s1:Shared}{H:Hp}{E:XK}{σ:St}{h:Addr}{oh:Obj}
 (I:Inv (JW CX P w K mg base N qual scope f cd A outer s H E) [] σ H s1) (hp:s1.heap.get? h=some oh/\H h=none/\h≠s.heap.objs.size/\h∉frs outer) (c:CxO oh):Inv (cxM CX P w K mg base N qual scope f cd A outer s H E h oh) [] σ H s1:=
 #[#[I.ok.mod,I.ok.kind,I.ok.glob,I.ok.blt,I.ok.above,I.ok.inj,I.ok.has,I.ok.cab,(λz=>by cases z),I.ok.frames,I.ok.stk,I.ok.exf,I.ok.bs,I.ok.bsz,I.ok.noex,I.ok.exfs,I.ok.funs,I.ok.frf,I.ok.tb],I.os,I.bare,I.base,I.loc,I.cell,I.free,I.freeC,λp hq=>by
  have:p=(h,oh):=by simpa [cxM] using hq
  subst this;obtain⟨vs,d,_⟩:=c;exact#[hp.1,hp.2.1,hp.2.2.1,hp.2.2.2,λv z=>by rw[d]at z;cases z],I.hok,I.len]
def US {CX:CXT}{P:Program}{w:World}{K:W.Frag}{mg:Str->Option Value}{base:Heap}{k:Nat}{f:Addr}{name qual:Str}{params:Arguments}{body:List Stmt}{scope:Scope}{dV kV doc pm cdv ct oc:Value}{an od:Option Addr}
 {osl:Array (Option Value)}{N ps:List Str}{sp:Sp}(lk:K.lookup f=some #[oc,od,.func (W.fnOf name qual params body scope dV kV doc pm an cdv ct),osl]) (hcd:W.codeIn K cdv qual=true) (S:Ae N ps scope)
 (len:∀vs H Q E,sp vs H Q E->↥vs=↥ps)
 (hbody:∀(A:Around)(outer:List Env)(s:Shared)(H:Hp)(vs:List V)(Q:VK)(E:XK)(h:Addr)(oh:Obj),DC k (A.deeper (envOfC qual scope s.heap.objs.size f cdv))->CxO oh->sp vs H Q E ->
  ∃t,PSs (cxM CX P w K mg base N qual scope f cdv A outer s H E h oh) body t/\t { nx:=λ_ H'=>Q .non H',rt:=Q } (start N vs) H) :
 KP P w K mg base CX (k+1) f (W.fnOf name qual params body scope dV kV doc pm an cdv ct) ps sp:=by
 refine#[len,λA outer s H args us vs Q E h oh hr e0 hp hc hb r hsp=>?_];have hl:=len _ _ _ _ hsp;have KX:K.In s.heap:=e0.mod.kin.keeps λb o e=>(e0.bs b o e).1;have lim:s.heap.NoLimit:=e0.mod.nolimit.keeps λb o e=>(e0.bs b o e).1;have hkind:∀y∈ps.zip us,scope.names.lookup y.1=some .local\/(scope.names.lookup y.1=some .cell/\((cellsFrom (s.heap.objs.size+1) scope.names []).lookup y.1).isSome=true):=fun#[n,v] hy=>by
  rcases S.par n (qB3 hy).1 with q|q
  .exact .inl q
  .exact .inr #[q,qBT _ _ _ (.inl q)]
 refine codeAny_call_function (A:=A.mark (some (.ref h))) hr.depth (KX _ _ lk) rfl S.co S.gen rfl (qCx KX hcd) (hb _ _ _ _ ?_);refine wpAny_newFunctionEnv_cells S.kind hkind λenv he s1 x=>?_;subst he;refine#[lim.keeps x.toInCall.keep,codeAny_func ?_];obtain⟨t,ht,hq⟩:=hbody A outer s H vs Q E h oh (hr.deeper _) hc hsp;have I0:Inv (JW CX P w K mg base N qual scope f cdv A outer s H E) [] (start N vs) H s1:=Je S hr.hd e0 hl r x;have I:=aI (h:=h) (oh:=oh) I0 #[x.toInCall.keep _ _ hp.1,hp.2.1,qAs (qAj hp.1),hp.2.2] hc;refine qC3 (ht [] s1 (start N vs) H _ I hq) (λfl s' hs=>?_) λe s' hs=>hs;have fin:∀{σ':St}{H':Hp}{v:V}{u:Value},Inv (cxM CX P w K mg base N qual scope f cdv A outer s H E h oh) [] σ' H' s'->Cq v u->Q v H'->CE outer P w H s Q u s':=
  λ{σ' H' v u} J rv q=>#[v,H',J.os,J.bare,J.base,J.hok,rv,q]
 cases fl with
 |ret u=>
  obtain⟨v,σ',H',J,rv,q⟩:=hs;exact fin J rv q
 |next=>
  obtain⟨σ',H',J,q⟩:=hs;exact fin (v:=V.non) (u:=Value.none) J rfl q
 |brk=>
  obtain⟨_,_,_,q⟩:=hs;exact False.elim q
 |cont=>
  obtain⟨_,_,_,q⟩:=hs;exact False.elim q
section
variable {X:Cx}{pins:List (Addr×Obj)}{σ:St}{H H':Hp}{s s':Shared}{ea C:Addr}{a0:Value}{B:Heap}{h2:Heap}{oe:Obj}{vs:Array Value}
def We {h base:Heap}{env:Env}{outer:List Env}(F:h.FunFrames base (env::outer)):h.FunFrames base outer:=by
 first|exact F.2|exact F.2.2|exact F.2.2.2|(obtain⟨_,_,_,_,_,f⟩:=F;exact f)
def W2 (I:Inv X pins σ H s)(hst:X.stack=X.env::X.outer)(hf:X.env.frame=some X.env.locals)(hex:X.ex=[])(kp:∀b o,s.heap.get? b=some o->h2.get? b=some o)(nw:s.heap.get? ea=none)(eo:h2.get? ea=some oe)(hcl:oe.cls=.ref C)(d:oe.data=.fields vs)(v0:vs[0]? = some a0)(v1:vs[1]? = some .none){Q:Unit->Shared->Prop}{E:Value->Shared->Prop}
 (hQ:∀(h':Heap)(B:Heap),Fly X.prog X.w X.outer X.H₀ H X.s₀.heap h' ea C a0 B->Q Unit.unit { s with heap:=h' }) :
 wpAny (model X.prog X.w) X.A (leaving X.env (.ref ea)) Q E { s with heap:=h2 }:=by
 have hfr:X.A.frames=some (X.env::X.outer):=by rw[<-hst];exact I.ok.frames
 have hstk:=I.stack;rw[hst]at hstk;have hin:∀env∈(X.env::X.outer),∀b,env.frame=some b->b∈frs (X.env::X.outer):=λenv he b hb=>qBP.mpr #[env,he,hb];have hB:∀b o,s.heap.get? b=some o->b∉frs (X.env::X.outer)->(W.hideAll s.heap (frs (X.env::X.outer))).get? b=some o:=λb o e hb=>qCp _ e hb;have ho:∀b o,(W.hideAll s.heap (frs (X.env::X.outer))).get? b=some o->s.heap.get? b=some o:=λb o e=>qCw _ e;have hF2:h2.FunFrames (W.hideAll s.heap (frs (X.env::X.outer))) (X.env::X.outer):=(qCN hstk hin).of_keeps λb o eb nf=>#[o,kp b o eb,rfl];have hno:(W.hideAll s.heap (frs (X.env::X.outer))).get? ea=none:=by
  cases q:(W.hideAll s.heap (frs (X.env::X.outer))).get? ea with
  |none=>rfl
  |some o=>have:=ho _ _ q;rw[nw]at this;cases this
 refine wpAny_leaving_firstW (base:=W.hideAll s.heap (frs (X.env::X.outer))) (s:={ s with heap:=h2 }) hfr hF2 hf eo (λb o e=>kp b o (ho b o e)) hno d v1 v0 λh' lf=>?_;obtain⟨l1,l2,l3,l4⟩:=lf;have fl:Heap.FlyingW (W.hideAll s.heap (frs (X.env::X.outer))) X.outer ea (.ref C) a0 h':=#[l1,hno,We l2,hcl ▸ l3];refine hQ h' (W.hideAll s.heap (frs (X.env::X.outer))) ?_;have up0:s.heap.UpToSlots h':=λb o e nf=>l4 b o (kp b o e) nf;have old:∀b o,X.s₀.heap.get? b=some o->b∉frs X.outer->b∉frs (X.env::X.outer):=λb o e hb hm=>by
  rw[BX hf]at hm;rcases qAi.mp hm with rfl|hm
  .exact absurd (qAl (qAj e) I.ok.above) (qAY _)
  .exact hb hm
 have nex:∀b:Addr,b∉X.ex:=λb z=>by rw[hex]at z;cases z
 have tfr:∀b o,H b=some o->b∉frs (X.env::X.outer):=λb o e hm=>by
  have:=I.stkFree b (by rw[hst];exact hm);rw[e]at this;cases this
 have tr:∀b o,H b=some o->∃ob,(W.hideAll s.heap (frs (X.env::X.outer))).get? b=some ob:=λb o e=>by
  obtain⟨u,eu⟩:=Dm.there (I.hok b o e);exact#[u,hB b u eu (tfr b o e)]
 refine#[fl,#[λb o e n hb _=>?_,λb o e n hb _=>?_,λb o e n _=>I.base.free b o e n (nex b),λb o e _=>?_,I.base.tups,I.base.frzs,I.base.tbls],Uc I.hok tr ho fl.1,λb o e n hb=>?_,tr,λb o e hb=>?_]
 .exact fl.1 b o (hB b o (I.base.keep b o e n hb (nex b)) (old b o e hb))
 .obtain⟨sl,e1⟩:=I.base.slot b o e n hb (nex b);obtain⟨o2,e2,d⟩:=Ga hstk (by rw[BX hf];exact qAD _ hb);rw[e1]at e2;cases e2;obtain⟨sl2,e3⟩:=up0 b _ e1 d;exact#[sl2,e3]
 .obtain⟨o1,e1⟩:=I.base.there b o e (nex b);by_cases hb:b∈frs X.outer
  .obtain⟨o2,e2,d⟩:=Ga hstk (by rw[BX hf];exact qAD _ hb);obtain⟨sl2,e3⟩:=up0 b _ e2 d;exact#[_,e3]
  .exact#[o1,fl.1 b o1 (hB b o1 e1 (old b o e hb))]
 .exact hB b o (I.base.keep b o e n hb (nex b)) (old b o e hb)
 .obtain⟨o1,e1⟩:=I.base.there b o e (nex b);exact#[o1,hB b o1 e1 (old b o e hb)]
end
def XrM (X:Cx)(U:Str->Prop)(h:Addr):Prop:=∀(pins:List (Addr×Obj))(σ:St)(H:Hp)(s:Shared)(h1:Heap)(ea C:Addr)(x:Str)(vs:List Value),Inv X pins σ H s->Bp X.H₀ H->X.mg x=some (.ref C)->U x->Heap.MadeExcOf s.heap h1 ea (.ref C) vs->X.xe (.ref ea) { s with heap:=h1.update ea (Obj.mapFields λy=>y.setIfInBounds 2 (.ref h)) }
def dH {P:Program}{w:World}{K:W.Frag}{mg:Str->Option Value}{base:Heap}{N:List Str}{qual:Str}{scope:Scope}{f:Addr}{cd:Value}{A:Around}{outer:List Env}{s:Shared}{H:Hp}{E:XK}{U:Str->Prop}{h:Addr}{oh:Obj}
 (hE:∀x C H',Bp H H'->mg x=some (.ref C)->U x->E (.ref C) none H'):XrM (cxM (CXU P w) P w K mg base N qual scope f cd A outer s H E h oh) U h:=λpins σ H1 s1 h1 ea C x vs I hs hm hu hx=>by
 obtain⟨t,et,_⟩:=hx.there;have kp:∀b o,s1.heap.get? b=some o->(h1.update ea (Obj.mapFields λy=>y.setIfInBounds 2 (.ref h))).get? b=some o:=λb o e=>by
  have:b≠ea:=λz=>by rw[z,hx.new]at e;cases e
  rw[qBM _ _ _ _ this];exact hx.keeps b o e
 exact W2 (a0:=.ref t) I rfl rfl rfl kp hx.new (qBq _ et rfl) rfl rfl rfl rfl λh' B fl=>#[ea,C,.ref t,B,H1,rfl,I.os,I.bare,fl,hE x C H1 hs hm hu]
section
variable {P:Program}{w:World}{K:W.Frag}{mg:Str->Option Value}{base:Heap}
def dB {x qual:Str}{st:Stmt}{f:Addr}{fd:FuncData}{N ps:List Str}{k:Nat}{sp:Sp3}(F:Fun K x qual st f fd)(Sc:Ae N ps (Aa st))(len:∀ss R U,sp ss R U->↥ss=↥ps)
 (hbody:∀(cdv:Value)(A:Around)(outer:List Env)(s:Shared)(H:Hp)(E:XK)(ss:List S)(R:S->Prop)(U:Str->Prop)(h:Addr)(oh:Obj),DC k (A.deeper (envOfC qual (Aa st) s.heap.objs.size f cdv))->CxO oh->sp ss R U ->
  XrM (cxM (CXU P w) P w K mg base N qual (Aa st) f cdv A outer s H E h oh) U h ->
  ∃t,Dp (cxM (CXU P w) P w K mg base N qual (Aa st) f cdv A outer s H E h oh) (BV st) t/\t { nx:=λ_=>R (.d .non),rt:=R } (BI N ss)):KP P w K mg base (CXU P w) (k+1) f fd ps (Af K mg sp):=by
 obtain⟨oc,od,kV,doc,pm,an,cdv,ct,osl,rfl,lk,hcd⟩:=F.ex;refine US lk hcd Sc (λvs H Q E hh=>by obtain⟨z,ss,R,U,hz,ha,h3,_⟩:=hh;exact ha.1.trans (len ss R U h3)) λA outer s H vs Q E h oh hr hc hh9=>?_;obtain⟨z,ss,R,U,hz,ha,h3,q,qe⟩:=hh9;obtain⟨t,ht,hq⟩:=hbody cdv A outer s H E ss R U h oh hr hc h3 (dH qe);exact#[_,ht.out,#[H,z],z,BI N ss,_,C8 ha hz (Bp.refl H),hq,#[λτ σ p r h=>q (.d .non) _ p r.ext Is.non FP h,λ_ _ _ _ z=>z.elim,λ_ _ _ _ z=>z.elim,λs v p e i f h=>q s v p e i f h]]
end
structure WO (P:Program)(w:World)(K:W.Frag)(mg:Str->Option Value)(base:Heap)(k:Nat)(x:Str)(ps:List Str)(sp:Sp3):Prop where
 ex:∃f fd,KP P w K mg base (CXU P w) k f fd ps (Af K mg sp)/\mg x=some (.ref f)/\W.keepIn K (.ref f)=true/\Binds K fd ps []
structure Hdl (X:Cx)(A:Around)(h:Addr)(oh:Obj):Prop where
 a:X.A=A.mark (some (.ref h))
 n:A.handled=none
 pn:(h,oh)∈X.pn
 co:CxO oh
 st:X.stack=X.env::X.outer
 fr:X.env.frame=some X.env.locals
section
variable {X:Cx}{pins:List (Addr×Obj)}{σ:St}{H H':Hp}{s s':Shared}{ea C:Addr}{a0:Value}{B:Heap}{A₀:Around}{h:Addr}{oh:Obj}
def OZ {CX:CXT}{k:Nat}{f:Addr}{fd:FuncData}{ps:List Str}{sp:Sp}{Ex:XK}{EE:Value->Shared->Prop}{x:Str}{p pos:Pos}{e:Expr}{es:List Expr}{t:TA}{Q:VK}(hd:Hdl X A₀ h oh)(F:KP X.prog X.w X.K X.mg X.base CX k f fd ps sp)(hr:DC k A₀)(hg:Gl X x)(hm:X.mg x=some (.ref f))
 (hk:W.keepIn X.K (.ref f)=true)(hb:L2.Binds X.K fd ps [])(ha:PA X (e::es) t)(hno:∀e s,X.xe e s->EE e s)(I:Inv X pins σ H s)
 (hx:∀(H1:Hp)(s1:Shared)(e:Value)(s':Shared),Inv X pins σ H1 s1->CX X.stack H1 s1 Ex e s'->EE e s')(h0:t σ H λvs H1=>sp vs H1 Q Ex)
 (hdb:(x==("__debug__":Str))=false)(he:starEach (e::es) X.env=(false,eval e X.env)::starEach es X.env)(hpl:(backTo pos (starEach es X.env)).any (·.1)=false) :
 wpAny (model X.prog X.w) X.A (eval (.Call (.Name x p) (e::es) [] pos) X.env) (EP X pins σ Q) EE s:=by
 refine wpAny_Call_Name_kw (DT I hg hm ?_ hdb);refine qBR (h₀:=X.base) I.ok.mod.kin hk (qC3 (ha pos pins s σ H _ I h0) (λus s1 #[vs,H1,I1,r,q]=>#[I1.kIn,?_]) hno) he hpl;have hl:(us++([]:List Value)).length=↥ps:=by rw[qA2,<-↥r];exact F.len _ _ _ _ q
 have bb:=hb s1 us I1.kIn hl;rw[qA2]at bb;obtain⟨p1,p2,p3,p4,_⟩:=I1.pin (h,oh) (qAR _ hd.pn);have e0:=I1.env0;have e1:Tr X.prog X.w X.K X.mg X.base A₀ X.stack s1 H1:=#[by have:=e0.frames;rw[hd.a]at this;exact this,e0.mod,e0.bs,e0.bsz,e0.funs,e0.frf,e0.hok,e0.bare,e0.tb];have nf:h∉frs X.stack:=by
  rw[hd.st,BX hd.fr];intro z;rcases qAi.mp z with z|z
  .exact p3 z
  .exact p4 z
 have R:=F.run A₀ X.stack s1 H1 #[us,[]] us vs Q Ex h oh hr e1 #[p1,p2,nf] hd.co bb r q;rw[<-hd.a]at R;refine wpAny_call (codeAny_mono R λr s' hq=>?_);cases r with
 |error e=>exact hx H1 s1 e s' I1 hq
 |ok fl=>
  cases fl with
  |ret u=>exact I1.after hq
  |next=>exact False.elim hq
  |brk=>exact False.elim hq
  |cont=>exact False.elim hq
end
section
variable {X:Cx}{U:Str->Prop}{e:Expr}{es:List Expr}{te:TE3}{tr:TA3}{pos:Pos}{A₀:Around}{h:Addr}{oh:Obj}
def Ro {k k':Nat}{x:Str}{ps:List Str}{sp:Sp3}{p:Pos}(hd:Hdl X A₀ h oh)(hr:DC k' A₀)(c:WO X.prog X.w X.K X.mg X.base k x ps sp)(ha:PA3 X (e::es) tr)(hk:k<=k':=by decide)(hg:Gl X x:=by exact rfl)
 (hdb:(x==("__debug__":Str))=false:=by decide)(he:starEach (e::es) X.env=(false,eval e X.env)::starEach es X.env:=by exact Cm rfl)(hpl:(backTo pos (starEach es X.env)).any (·.1)=false:=by exact C7 rfl) :
 PE3 X (.Call (.Name x p) (e::es) [] pos) (N7 NoU sp tr):=by
 refine#[?_];obtain⟨f,fd,F,hm,hkp,hb⟩:=c.ex;intro pins s σ H Q I hh;obtain⟨B,z,τ,R,r,ht,q⟩:=hh;refine OZ (Ex:=λ_ _ _=>False) (Q:=Q) hd F (hr.mono hk) hg hm hkp hb ha.out (λe s z=>z) I (λH1 s1 e s' I1 hcx=>?_) #[B,_,τ,_,r,ht,λss vs H1 e1 i1 h1=>#[H1.z,ss,R,NoU,e1.sub,i1,h1,λs v H2 e2 i2 f2 h2=>q s v H2 (e1.trans e2) i2 (N3 e1 f2) h2,λy C H2 e2 hy hu=>hu.elim]] hdb he hpl;obtain⟨ea,C,a0,B',H',_,_,_,_,z⟩:=hcx;exact z.elim
def Ub {x:Str}{C:Addr}{np cpos:Pos}(hh:Hdl X A₀ h oh)(xo:XrM X U h)(he:PE3 X e te)(hg:Gl X x)(ec:ExC X.K x C)(hm:X.mg x=some (.ref C))(hkp:W.keepIn X.K (.ref C)=true)(hn:HnC X.K C)
 (hs:starEach [e] X.env=(false,eval e X.env)::starEach [] X.env:=by exact Cm rfl)(hplain:(backTo cpos (starEach [] X.env)).any (·.1)=false:=by exact C7 rfl)(hd:(x==("__debug__":Str))=false:=by decide)(hl:X.lent=none:=by rfl) :
 PS3 X (.Raise (some (.Call (.Name x np) [e] [] cpos)) none pos) (RR U x te):=by
 refine#[?_];intro pins s σ H D2 I h0;obtain⟨B,z,τ,D3,r,ht,c⟩:=h0;obtain⟨loose,mb,T⟩:=LA I.mod X.prog;obtain⟨tl,N,nm,q,bs,hdct,sn,sub,ab,col,dd,k0,k1,k2,k3,k5,mN,hC,hN,hni,TL⟩:=(qCF I.mod.kin T ec.ns ec.ex).obj;have pa:=(AM he.out Br hs) cpos pins s σ H (λvs H1=>↥vs=1/\Bp X.H₀ H1/\U x) I #[B,_,τ,_,r,ht,λs' v H' e' i' f' h'=>#[rfl,(r.all hl).trans e'.hh,h']];show wpAny (model X.prog X.w) X.A (exec (.Raise (some (.Call (.Name x np) [e] [] cpos)) none pos) X.env) _ _ s;rw[arm_exec_Raise];refine qC1 (wpAny_standAt ?_);have hA:X.A.handled=some (.ref h):=by rw[hh.a];rfl
 refine Tb (K:=X.K) (C:=C) hA hn.sb ?_;refine qC1 ?_;refine wpAny_Call_Name_kw (DT I hg hm ?_ hd);refine qBR (h₀:=X.base) I.ok.mod.kin hkp (qC3 pa (λus s2 #[vs,H2,I2,rv,hl1,hsame,hu]=>#[I2.kIn,?_]) λe s z=>z) hs hplain;have z1:↥us=1:=by have:=↥rv;omega
 refine wpAny_call_exc_subT (h:=s2.heap) (g:=s2.gens) (d:=s2.drawn) (t:=s2.toks) (os:=s2.os) qB1 (TL.keeps I2.bk) (I2.bk _ _ hC) (hN.keeps I2.bk) hni (λh' ea hx=>?_) (by show ↥us<=sizeLine;rw[z1];decide);refine qC1 (wpAny_standAt (qC2 ?_));obtain⟨t,et,_⟩:=hx.there;obtain⟨p1,_,_,_,_⟩:=I2.pin (h,oh) (qAR _ hh.pn);obtain⟨vs0,d0,v0⟩:=hh.co;have ne:h≠ea:=λz=>by rw[z,hx.new]at p1;cases p1
 exact#[ea,_,_,_,rfl,et,rfl,rfl,rfl,(by show 2<6;decide),I2.kIn.keeps hx.keeps,hx.keeps _ _ (I2.bk _ _ hC),rfl,ne,#[oh,vs0,hx.keeps _ _ p1,d0,v0],xo pins σ H2 s2 h' ea C x us I2 hsame hm hu hx]
end
section
variable {X:Cx}{pins:List (Addr×Obj)}{σ:St}{H H':Hp}{s s':Shared}{ea C:Addr}{oe:Obj}{a0:Value}{B:Heap}
def W7 {h:Heap}(c:Cx1 h ea)(e:h.get? ea=some oe):CxO oe:=by
 obtain⟨o,vs,T,oT,ts,e1,d,v2,_⟩:=c;rw[e]at e1;cases e1;exact#[vs,d,v2]
def WK {E:Value->Shared->Prop}{Q:Flow->Shared->Prop}{x:Str}{Cx:Addr}{np hp:Pos}{b0:Stmt}{suite:List Stmt}{rest:List ExceptHandler}(I:Inv X pins σ H s)(hst:X.stack=X.env::X.outer)(hf:X.env.frame=some X.env.locals)
 (fl:Fly X.prog X.w X.stack H H' s.heap s'.heap ea C a0 B) (cx:Cx1 s'.heap ea) (ho:s'.os=s.os) (hg:AllBare s'.gens) (hgx:Gl X x) (hm:X.mg x=some (.ref Cx)) (hn:HnC X.K Cx) (hb:W.mroIn X.K C (.ref Cx)=some true) (hd:(x==("__debug__":Str))=false)
 (go:∀(s2:Shared)(oe:Obj),CxO oe->Inv (J4 X ea oe) pins σ H' s2->wpAny (model X.prog X.w) (X.A.mark (some (.ref ea))) (execs (b0::suite) X.env) Q (λ_ _=>False) s2) :
 wpAny (model X.prog X.w) X.A (noteFrame (.ref ea) X.env) (λ_ s₂=>wpAny (model X.prog X.w) X.A (setFlight (.ref ea) none) (λ_ s₃=>
  wpAny (model X.prog X.w) X.A (handleBy (.ref ea) X.env (.ExceptHandler (some (.Name x np)) none (b0::suite) hp::rest)) Q E s₃) E s₂) E s':=by
 have hfr:X.A.frames=some (X.env::X.outer):=by rw[<-hst];exact I.ok.frames
 have fl0:=fl.fl;rw[hst]at fl0;have n1:=wpAny_looks_onW (M:=model X.prog X.w) (E:=E) (Q:=λ_ s2=>∃h',s2={ s' with heap:=h' }/\B.HeldW (X.env::X.outer) ea (.ref C) a0 X.env.locals h'/\s'.heap.UpToSlots h') hfr hf fl0 λh4 held up4=>#[h4,rfl,held,up4];have n2:=Q0 (M:=model X.prog X.w) (E:=λ_ _=>False) hfr fl0.2.2.1 hf fl0.2.2.2 cx.cx0;refine qC3 (GS n1 n2) (λ_ s2 z=>?_) λe s z=>z.2.elim;obtain⟨⟨h4,rfl,held,up4⟩,cx4⟩:=z;have m1:=wpAny_landsW (M:=model X.prog X.w) (A:=X.A) (s:={ s' with heap:=h4 }) (E:=E) (Q:=λ_ s2=>∃h',s2={ s' with heap:=h' }/\B.FlyingW (X.env::X.outer) ea (.ref C) a0 h'/\h4.UpToSlots h') held λh5 fl5 up5=>#[h5,rfl,fl5,up5];have m2:=Gm (M:=model X.prog X.w) (A:=X.A) (s:={ s' with heap:=h4 }) (E:=λ_ _=>False) cx4;refine qC3 (GS m1 m2) (λ_ s2 z=>?_) λe s z=>z.2.elim;obtain⟨⟨h5,rfl,fl5,up5⟩,cx5⟩:=z;rw[<-hst]at fl5;have f5:=fl.to fl5 (up4.trans up5);have I5:Inv X pins σ H' { s' with heap:=h5 }:=Fly.inv (s':={ s' with heap:=h5 }) I f5 ho hg;refine wpAny_handleBy_cons (codeAny_handlers_test (DT (X:=hnd X ea) (QU I5 ea) hgx hm ?_ hd)) (by intro q;cases q);obtain⟨oe,he,hc⟩:=f5.fl.there;refine MN (s:={ s' with heap:=h5 }) I5.kIn hn he hc hb ?_;refine codeAny_handlers_suite ?_;have k1:=lands_againW (M:=model X.prog X.w) (A:=X.A.mark (some (.ref ea))) (s:={ s' with heap:=h5 }) (E:=λ_ _=>False) (Q:=λ_ s2=>∃h',s2={ s' with heap:=h' }/\B.FlyingW X.stack ea (.ref C) a0 h'/\h5.UpToSlots h') f5.fl λh6 fl6 up6=>#[h6,rfl,fl6,up6];have k2:=Gm (M:=model X.prog X.w) (A:=X.A.mark (some (.ref ea))) (s:={ s' with heap:=h5 }) (E:=λ_ _=>False) cx5;refine qC3 (GS k1 k2) (λ_ s2 z=>?_) λe s z=>z.2.elim;obtain⟨⟨h6,rfl,fl6,up6⟩,cx6⟩:=z;have f6:=f5.to fl6 up6;have I6:Inv X pins σ H' { s' with heap:=h6 }:=Fly.inv (s':={ s' with heap:=h6 }) I f6 ho hg;obtain⟨oe6,vs6,he6,hc6,hd6,_⟩:=f6.fl.first;have noF:∀b,b∈frs X.stack->ea≠b:=λb hbm z=>by
  obtain⟨o,h1,h2⟩:=Ga f6.fl.2.2.1 hbm;rw[<-z,he6]at h1;cases h1;exact h2 _ hd6
 have hnone:H' ea=none:=by
  cases e:H' ea with
  |none=>rfl
  |some o=>
   obtain⟨ob,eb⟩:=f6.tr _ _ e;have:=f6.fl.2.1;rw[eb]at this;cases this
 have IE:Inv (J4 X ea oe6) pins σ H' { s' with heap:=h6 }:=OC I6 #[he6,hnone,noF _ (by rw[hst,BX hf];exact qAL),λz=>noF _ (by rw[hst,BX hf];exact qAD _ z) rfl,λv z=>by rw[hd6]at z;cases z];exact qC3 (go _ oe6 (W7 cx6 he6) IE) (λf s2 h=>h) λ_ _ z=>z.elim
end
section
variable {X:Cx}{ea C:Addr}{oe:Obj}{e:Expr}{es:List Expr}{tr:TA3}{th:TS3}
def RV {pins:List (Addr×Obj)}{s:Shared}{D2:Nu}{f:Flow}(hd:X.calm=true->X.A.handled=none)(hfm:X.A.frames=some X.stack)(h:SP (J4 X ea oe) pins D2 f s):SP X pins D2 f s:=by
 cases f with
 |next=>obtain⟨σ',H',I',q⟩:=h;exact#[σ',H',Ed hd hfm I',q]
 |brk=>obtain⟨σ',H',I',q⟩:=h;exact#[σ',H',Ed hd hfm I',q]
 |cont=>obtain⟨σ',H',I',q⟩:=h;exact#[σ',H',Ed hd hfm I',q]
 |ret u=>obtain⟨v,σ',H',I',q⟩:=h;exact#[v,σ',H',Ed hd hfm I',q]
def Rj {B:HZ}{D3:Md}{D2:Nu}(c:UO X B D3 D2):UO (J4 X ea oe) B D3 D2:=#[λτ σ H r=>c.nx τ σ H (HI r),λτ σ H r=>c.bk τ σ H (HI r),λτ σ H r=>c.ct τ σ H (HI r),c.rt]
def W8 {k:Nat}{f cx:Str}{ps:List Str}{sp:Sp3}{Cx:Addr}{ok:Str->Prop}{pf pc pa np hp pt:Pos}{b0:Stmt}{suite:List Stmt}(hst:X.stack=X.env::X.outer)(hf:X.env.frame=some X.env.locals)(hno:∀e s,¬X.xe e s)
 (c:Cal X.prog X.w X.K X.mg X.base (T3 X.prog X.w) k f ps sp) (hr:DC k X.A) (hg:Gl X f) (ha:PA3 X (e::es) tr)
 (hgx:Gl X cx)(hm:X.mg cx=some (.ref Cx))(hn:HnC X.K Cx)(hok:∀y C,ok y->X.mg y=some (.ref C)->W.mroIn X.K C (.ref Cx)=some true)(hh:∀ea oe,CxO oe->Dp (J4 X ea oe) (b0::suite) th)
 (hdb:(f==("__debug__":Str))=false:=by decide)(hd:(cx==("__debug__":Str))=false:=by decide)(he:starEach (e::es) X.env=(false,eval e X.env)::starEach es X.env:=by exact Cm rfl)(hpl:(backTo pc (starEach es X.env)).any (·.1)=false:=by exact C7 rfl)
 (hs:swapsWith (.Call (.Name f pf) (e::es) [] pc) none pa.line X.env=pure false:=by rfl) :
 PS3 X (.Try [.Expr (.Call (.Name f pf) (e::es) [] pc) pa] [.ExceptHandler (some (.Name cx np)) none (b0::suite) hp] [] [] pt) (ZD sp ok tr th):=by
 refine#[?_];obtain⟨fa,fd,F,hmf,hk,hb⟩:=c.ex;intro pins s σ H D2 I h;obtain⟨B,z,τ,D3,r,ht,ct⟩:=h;refine wpAny_Try_except (wpAny_execs_cons (wpAny_Expr_any (thn (Wi (Ex:=λcls _ H'=>∃y,X.mg y=some cls/\ok y/\th D3 τ/\Bp H H') (Q:=λv H'=>D2.nx σ H') F hr hg hmf hk hb ha.out (λe s z=>(hno e s z).elim) I ?hx ?h hdb he hpl) λv s1 #[y,H1,I1,r1,q1]=>?nx) I.quiet hs))
 case hx=>
  intro H1 s1 e' s' I1 hcx;obtain⟨ea,C,a0,B',H',rfl,ho,hbr,fl,cx,y,hy,hoky,hth,hsame⟩:=hcx;refine WK I1 hst hf fl cx ho hbr hgx hm hn (hok y C hoky hy) hd λs2 oe co I2=>?_;exact qC3 ((hh ea oe co).out pins s2 σ H' D2 I2 #[B,_,τ,D3,OW (r.mono (Ext.grow r.ext.sub hsame)),hth,Rj ct]) (λf s3 h3=>RV I.ok.hd I.ok.frames h3) λe3 s3 z=>hno e3 s3 z
 case h=>
  refine#[B,_,τ,_,r,ht,λss vs H1 e1 i1 h1=>#[H1.z,ss,_,_,e1.sub,i1,h1,λs v H2 e2 i2 f2 h2=>?_,λy C H2 e2 hy hu=>#[y,hy,hu.1,hu.2,e1.hh.trans e2]]];exact ct.nx _ _ _ (r.mono (e1.trans e2)) h2
 case nx=>
  exact wpAny_execs_nil (wpAny_execs_nil #[_,H1,I1,q1])
def VF {k i:Nat}{n f cx:Str}{ps:List Str}{sp:Sp3}{Cx:Addr}{ok:Str->Prop}{th:Addr->Str->TS3}{pf pc pa np hp pt:Pos}{b0:Stmt}{suite:List Stmt}(hst:X.stack=X.env::X.outer)(hf:X.env.frame=some X.env.locals)(hno:∀e s,¬X.xe e s)
 {A₀:Around}{h9:Addr}{oh:Obj}(hdl:Hdl X A₀ h9 oh) (c:WO X.prog X.w X.K X.mg X.base k f ps sp) (hr:DC k A₀) (hg:Gl X f) (ha:PA3 X (e::es) tr) (hN:X.N.Nodup) (hi:X.N[i]? = some n) (hx:Loc X.env.scope n) (hkl:X.env.kindOf n=some .local)
 (hgx:Gl X cx)(hm:X.mg cx=some (.ref Cx))(hn:HnC X.K Cx)(hok:∀y C,ok y->X.mg y=some (.ref C)->W.mroIn X.K C (.ref Cx)=some true)(hh:∀ea oe y C,ok y->X.mg y=some (.ref C)->ExO oe C->Dp (J4 X ea oe) (b0::suite) (th ea y))
 (hdb:(f==("__debug__":Str))=false:=by decide)(hd:(cx==("__debug__":Str))=false:=by decide)(he:starEach (e::es) X.env=(false,eval e X.env)::starEach es X.env:=by exact Cm rfl)(hpl:(backTo pc (starEach es X.env)).any (·.1)=false:=by exact C7 rfl)
 (hs:swapsWith (.Call (.Name f pf) (e::es) [] pc) none pa.line X.env=pure false:=by rfl)(hfn:X.fn n=true\/X.env.scope.names.lookup n=some .local:=by first|exact .inl rfl|exact .inr rfl|assumption)(hpn:EL X i:=by first|exact ED rfl|exact EF rfl ∅|assumption) :
 PS3 X (.Try [.Expr (.Call (.Name f pf) (e::es) [] pc) pa] [.ExceptHandler (some (.Name cx np)) (some n) (b0::suite) hp] [] [] pt) (Xx i sp ok tr th):=by
 refine#[?_];obtain⟨fa,fd,F,hmf,hk,hb⟩:=c.ex;intro pins s σ H D2 I h;obtain⟨B,z,τ,D3,r,ht,ct⟩:=h;refine wpAny_Try_except (wpAny_execs_cons (wpAny_Expr_any (thn (OZ (Ex:=λcls _ H'=>∃y,X.mg y=some cls/\(ok y/\∀ea,th ea y { nx:=λ_=>False,rt:=D3.rt } (τ.set i (some (.d (.ref ea)))))/\Bp H H') (Q:=λv H'=>D2.nx σ H') hdl F hr hg hmf hk hb ha.out (λe s z=>(hno e s z).elim) I ?hx ?h hdb he hpl) λv s1 #[y,H1,I1,r1,q1]=>?nx) I.quiet hs))
 case hx=>
  intro H1 s1 e' s' I1 hcx;obtain⟨ea,C,a0,B',H',rfl,ho,hbr,fl,y,hy,⟨hoky,hth⟩,hsame⟩:=hcx;refine Ta I1 hst hf fl ho hbr hgx hm hn (hok y C hoky hy) hd hN hi hx hfn λs2 oe hO I2=>?_;refine qC3 ((hh ea oe y C hoky hy hO).out pins s2 _ H' { nx:=λ_ _=>False,rt:=D2.rt,bk:=λ_ _=>False,ct:=λ_ _=>False } I2 #[B,_,_,_,OW ((r.mono (Ext.grow r.ext.sub hsame)).setd (.ref ea) hpn),hth ea,#[λ_ _ _ _ z=>z.elim,λ_ _ _ _ z=>z.elim,λ_ _ _ _ z=>z.elim,ct.rt]]) (λf s3 h3=>?_) λe3 s3 z=>hno e3 s3 z;cases f with
  |next=>obtain⟨_,_,_,z⟩:=h3;exact z.elim
  |brk=>obtain⟨_,_,_,z⟩:=h3;exact z.elim
  |cont=>obtain⟨_,_,_,z⟩:=h3;exact z.elim
  |ret u=>
   obtain⟨v,σ',H3,I3,rv,q3⟩:=h3;exact QE (Ed I.ok.hd I.ok.frames I3) hkl λs5 I5=>#[v,_,H3,I5,rv,q3]
 case h=>
  refine#[B,_,τ,_,r,ht,λss vs H1 e1 i1 h1=>#[H1.z,ss,_,_,e1.sub,i1,h1,λs v H2 e2 i2 f2 h2=>?_,λy C H2 e2 hy hu=>#[y,hy,hu,e1.hh.trans e2]]];exact ct.nx _ _ _ (r.mono (e1.trans e2)) h2
 case nx=>
  exact wpAny_execs_nil (wpAny_execs_nil #[_,H1,I1,q1])
end
section
variable {P:Program}{w:World}{K:W.Frag}{mg:Str->Option Value}{base h:Heap}
def bW {x qual:Str}{st:Stmt}{f:Addr}{fd:FuncData}{N ps:List Str}{k:Nat}{sp:Sp3}(F:Fun K x qual st f fd)(Sc:Ae N ps (Aa st))(len:∀ss R U,sp ss R U->↥ss=↥ps)
 (hbody:∀(cdv:Value)(A:Around)(outer:List Env)(s:Shared)(H:Hp)(E:XK)(ss:List S)(R:S->Prop)(U:Str->Prop)(h:Addr)(oh:Obj),DC k (A.deeper (envOfC qual (Aa st) s.heap.objs.size f cdv))->CxO oh->sp ss R U ->
  ∃t,Dp (cxM (CXU P w) P w K mg base N qual (Aa st) f cdv A outer s H E h oh).nox (BV st) t/\t { nx:=λ_=>R (.d .non),rt:=R } (BI N ss)):KP P w K mg base (CXU P w) (k+1) f fd ps (Af K mg sp):=by
 obtain⟨oc,od,kV,doc,pm,an,cdv,ct,osl,rfl,lk,hcd⟩:=F.ex;refine US lk hcd Sc (λvs H Q E hh=>by obtain⟨z,ss,R,U,hz,ha,h3,_⟩:=hh;exact ha.1.trans (len ss R U h3)) λA outer s H vs Q E h oh hr hc hh9=>?_;obtain⟨z,ss,R,U,hz,ha,h3,q,qe⟩:=hh9;obtain⟨t,ht,hq⟩:=hbody cdv A outer s H E ss R U h oh hr hc h3;exact#[_,ht.out.nox,#[H,z],z,BI N ss,_,C8 ha hz (Bp.refl H),hq,#[λτ σ p r h=>q (.d .non) _ p r.ext Is.non FP h,λ_ _ _ _ z=>z.elim,λ_ _ _ _ z=>z.elim,λs v p e i f h=>q s v p e i f h]]
def mkH (X:K.In h)(G:h.Ns mainGlobals mg){n:Str}{st:Stmt}(r:Rw K n st){k:Nat}{ps:List Str}{sp:Sp3}(ok:∀{f:Addr}{fd:FuncData},Fun K n n st f fd->KP P w K mg base (CXU P w) k f fd ps (Af K mg sp))(hb:Bnd st n ps):WO P w K mg base k n ps sp:=by
 obtain⟨a,l,c,k⟩:=r;have F:=KJ (st:=st) l c k;exact#[#[_,_,ok F,qBn X G a,k,F.binds hb]]
def mk2 (X:K.In h)(G:h.Ns mainGlobals mg){n:Str}{st:Stmt}(r:Rw K n st){k:Nat}{ps:List Str}{sp:Sp3}(ok:∀{f:Addr}{fd:FuncData},Fun K n n st f fd->Ao P w K mg base (T3 P w) k f fd ps (Af K mg sp))(hb:Bnd st n ps):Cal P w K mg base (T3 P w) k n ps sp:=by
 obtain⟨a,l,c,k⟩:=r;have F:=KJ (st:=st) l c k;exact#[#[_,_,ok F,qBn X G a,k,F.binds hb]]
def Xa {CX:CXT}{N:List Str}{qual:Str}{scope:Scope}{f:Addr}{cd:Value}{A:Around}{outer:List Env}{s:Shared}{H:Hp}{E:XK}{h:Addr}{oh:Obj}{k:Nat}(hr:DC k (A.deeper (envOfC qual scope s.heap.objs.size f cd)))(co:CxO oh) :
 Hdl (cxM CX P w K mg base N qual scope f cd A outer s H E h oh) (A.deeper (envOfC qual scope s.heap.objs.size f cd)) h oh:=#[rfl,hr.hd,qAL,co,rfl,rfl]
def ZM {X:Cx}{A:Around}{a:Addr}{oh:Obj}(h:Hdl X A a oh):Hdl X.nox A a oh:=#[h.a,h.n,h.pn,h.co,h.st,h.fr]
def ZO {X:Cx}{k:Nat}{ea:Addr}{oe:Obj}(hr:DC k X.A)(st:X.stack=X.env::X.outer)(fr:X.env.frame=some X.env.locals)(co:CxO oe):Hdl (J4 X ea oe) X.A ea oe:=#[rfl,hr.hd,qAL,co,st,fr]
end
section
variable {X:Cx}{e:Expr}{es:List Expr}{tr:TA3}{A₀:Around}
def Us {k i:Nat}{n f cx y0:Str}{ps:List Str}{sp:Sp3}{Cx C0 h9:Addr}{oh:Obj}{th:Addr->TS3}{pf pc pa np hp pt:Pos}{b0:Stmt}{suite:List Stmt}(hst:X.stack=X.env::X.outer)(hf:X.env.frame=some X.env.locals)(hno:∀e s,¬X.xe e s)
 (hdl:Hdl X A₀ h9 oh)(c:WO X.prog X.w X.K X.mg X.base k f ps sp)(hr:DC k A₀)(hg:Gl X f)(ha:PA3 X (e::es) tr)(hN:X.N.Nodup)(hi:X.N[i]? = some n)(hx:Loc X.env.scope n)(hkl:X.env.kindOf n=some .local)
 (hgx:Gl X cx)(hm:X.mg cx=some (.ref Cx))(hn:HnC X.K Cx)(hok:∀y C,y=y0->X.mg y=some (.ref C)->W.mroIn X.K C (.ref Cx)=some true)(hm0:X.mg y0=some (.ref C0))(hh:∀ea oe,ExO oe C0->Dp (J4 X ea oe) (b0::suite) (th ea))
 (hdb:(f==("__debug__":Str))=false:=by decide)(hd:(cx==("__debug__":Str))=false:=by decide)(he:starEach (e::es) X.env=(false,eval e X.env)::starEach es X.env:=by exact Cm rfl)(hpl:(backTo pc (starEach es X.env)).any (·.1)=false:=by exact C7 rfl)
 (hs:swapsWith (.Call (.Name f pf) (e::es) [] pc) none pa.line X.env=pure false:=by rfl)(hfn:X.fn n=true\/X.env.scope.names.lookup n=some .local:=by first|exact .inl rfl|exact .inr rfl|assumption)(hpn:EL X i:=by first|exact ED rfl|exact EF rfl ∅|assumption) :
 PS3 X (.Try [.Expr (.Call (.Name f pf) (e::es) [] pc) pa] [.ExceptHandler (some (.Name cx np)) (some n) (b0::suite) hp] [] [] pt) (Xx i sp (λy=>y=y0) tr (λea _=>th ea)):=
 VF (th:=λea _=>th ea) hst hf hno hdl c hr hg ha hN hi hx hkl hgx hm hn hok (λea oe y C e h1 hO=>by subst e;rw[hm0]at h1;cases h1;exact hh ea oe hO) hdb hd he hpl hs hfn hpn
end
end L3
namespace CL
open PySem L2 L3 CH
def aZ {x y p q s z:Nat}(h1:x<=p)(h2:y<=q)(h3:s<=z):(2*(x*y)+2*x+y+3)*s<=(2*(p*q)+2*p+q+3)*z:=by
 have:=Nat.mul_le_mul h1 h2;exact Nat.mul_le_mul () h3
def Dh {cs:Cs}{m:Rat}:(HY cs m).length=↥cs:=by unfold HY;simp
def V3 {cs:Cs}{m:Rat}{n:Nat}{y:D}(h:((HY cs m).map qd)[n]? = some y):n<↥cs/\y=qd (slp cs m n):=by
 have hn:n<↥cs:=by
  have:=(qAe.mp h).1;rw[qAa,Dh]at this;exact this
 refine#[hn,?_];unfold HY at h;rw[qAd,qAd,qAJ hn]at h;exact(qAn h).symm
def Jg {ps:List RP}{i:Int}(j:Nat)(e:i=(j:Int))(h:j<↥ps):atI (ps.map rpD) i=some (rpD (ps.getD j dfR)):=by
 subst e;rw[CH.atI_nat (by rw[qAa];exact h),qAd,qAb h,qAf,qAb h];rfl
def U1 {ps:List RP}(h:0<↥ps):atI (ps.map rpD) (-1)=some (rpD (ps.getD (↥ps-1) dfR)):=by
 refine Lg ?_;rw[qAf,qAb (show ↥ps-1<↥ps from ())];rfl
def BG {ps:List RP}{j:Nat}(h:j<↥ps):ps[j]? = some (ps.getD j dfR):=by
 rw[qAf,qAb h];rfl
def SQ (x:D):Rat:=match x with
 |.tup [.tup [.int a,.int b],_]=>Rat.divInt a b
 |_=>0
def HF {m:Nat}{p:RP}{t:Rat}(w:Wq m p.1.1 p.1.2 t):SQ (rpD p)=t:=GA w
def _root_.CH.Crv.rise {cs:Cs}{m:Rat}(h:Crv cs m):EO cs m:=#[#[h.ne,h.t0,h.v0,h.up,h.vu],h.m0]
def cl (ns:List Int)(k:Int):Int:=if k<↥ns then cell ns k else 5*k+2
def Sv {va g x ti u p:Int}(u0:0<u)(p0:0<p):Rat.divInt (va+g*x) (u*p)=Rat.divInt va (u*p)+Rat.divInt x p*(Rat.divInt (ti+g) u-Rat.divInt ti u):=by
 rw[qAB,qAB,qAB,qAB,qAB,qBu,qBu,qAp,qAp];have n1:(u:Rat)≠0:=λz=>absurd (qBy.mp z) (qBl u0);have n2:(p:Rat)≠0:=λz=>absurd (qBy.mp z) (qBl p0);grind
def Wb {v y t u p:Int}(u0:0<u)(p0:0<p):Rat.divInt v (u*p)-Rat.divInt y p*Rat.divInt t u=Rat.divInt (v-y*t) (u*p):=by
 rw[qAB,qAB,qAB,qAB,qBv,qAp,qAp];have n1:(u:Rat)≠0:=λz=>absurd (qBy.mp z) (qBl u0);have n2:(p:Rat)≠0:=λz=>absurd (qBy.mp z) (qBl p0);grind
def MK {ms:List Int}(h:0<↥ms):atI (ms.map D.int) (-1)=some (.int (cell ms ((↥ms-1:Nat):Int))):=by
 rw[<-GH (ms:=ms) (i:=((↥ms-1:Nat):Int)) (↥ms-1) rfl ()];unfold atI ixN;rw[qAa,qC5 (),qC6 (),qC6 (),qC6 ()]
 congr 1
 congr 1
 omega
def Nf {k n:Nat}{a b c d:Int}{p q:Rat}(h:Wq k a b p)(g:Wq n c d q)(e:a*d=c*b):p=q:=by
 have l1:=(h.le_iff g).mp ();have l2:=(g.le_iff h).mp ();grind
def flo (cs:Cs)(m:Rat):List Int:=(HY cs m).map λq=>q.num.fdiv (q.den:Int)
noncomputable def stp (cs:Cs)(m:Rat):Int:=open Classical in if h:∃k,k∈flo cs m/\∀x∈flo cs m,x<=k then h.choose+1 else 1
def U5 {cs:Cs}{m:Rat}{k:Int}(h1:k∈flo cs m)(h2:∀x∈flo cs m,x<=k):stp cs m=k+1:=by
 have h:∃k,k∈flo cs m/\∀x∈flo cs m,x<=k:=#[k,h1,h2];unfold stp;rw[dif_pos h];have a:=h.choose_spec;have b:=h2 _ a.1;have c:=a.2 _ h1;omega
def Ym (q:Rat):q<((q.num.fdiv (q.den:Int)+1:Int):Rat):=by
 have d0:=den_pos q;have w:Wq (q.num.natAbs+q.den+1) q.num q.den q:=#[(),RF q,qAl (Nat.lt_two_pow_self) (qCi ∅ ()),qAl (Nat.lt_two_pow_self (n:=q.den)) (qCi ∅ ())];have e:((q.num.fdiv (q.den:Int)+1:Int):Rat)=((q.num.fdiv (q.den:Int)+1:Int):Rat):=rfl;have h1:=Int.fmod_add_mul_fdiv q.num (q.den:Int);have h2:=qB8 q.num (show(0:Int)<q.den from ());have h3:q.num<(q.den:Int)*(q.num.fdiv q.den+1):=by
  rw[Int.mul_add];omega
 have h4:((q.num:Int):Rat)<(((q.den:Int)*(q.num.fdiv q.den+1):Int):Rat):=qBj.mpr h3;rw[qAp,w.eq]at h4;have h5:(0:Rat)<((q.den:Int):Rat):=by
  have:((0:Int):Rat)<((q.den:Int):Rat):=qBj.mpr ();exact this
 generalize ((q.num.fdiv (q.den:Int)+1:Int):Rat)=K at h4 ⊢;generalize ((q.den:Int):Rat)=D at h4 h5;refine qA1.mp λz=>?_;have:=qAk (show 0<=q-K from ⋯) (qAm h5);grind
theorem SD:∀{l:List Int},0<↥l->∃k,k∈l/\∀x∈l,x<=k
 |[a],_=>#[a,qAL,λx h=>by rw[qAG.mp h];exact Int.le_refl _]
 |a::b::l,_=>by
  obtain⟨k,h1,h2⟩:=SD (l:=b::l) (Nat.succ_pos _);by_cases c:k<=a
  .exact#[a,qAL,λx h=>(qAi.mp h).elim (λe=>e ▸ Int.le_refl _) (λe=>Int.le_trans (h2 x e) c)]
  .exact#[k,qAD _ h1,λx h=>(qAi.mp h).elim (λe=>()) (h2 x)]
def KO (cs:Cs)(m:Rat):Prop:=EO cs m/\LS 41 94 204 cs m/\↥cs<=3/\Sz 68 (vv cs 0)
noncomputable abbrev sK (cs:Cs)(m:Rat):Rat:=((stp cs m:Int):Rat)
def TZ {cs:Cs}{m:Rat}(h:KO cs m):(∀i,i<↥cs->slp cs m i<sK cs m)/\0<stp cs m/\(stp cs m).natAbs<2^95:=by
 obtain⟨r,z,_,_⟩:=h;have n:=r.o.ne;obtain⟨k,k1,k2⟩:=SD (l:=flo cs m) (by unfold flo;rw[qAa,Dh];exact n);have e:=U5 k1 k2;have pos:∀q:Rat,0<=q->0<=q.num.fdiv (q.den:Int)/\q.num.fdiv (q.den:Int)<=q.num:=λq q0=>by
  have h1:=Rat.num_nonneg.mpr q0;have d0:=den_pos q;rw[qBm _ ()];exact#[Int.ediv_nonneg h1 (),Int.ediv_le_self _ h1]
 have mem:∀i,i<↥cs->(slp cs m i).num.fdiv ((slp cs m i).den:Int)∈flo cs m:=λi hi=>by
  unfold flo HY;rw[qBi];exact qAI.mpr #[i,qAH.mpr hi,rfl]
 refine#[λi hi=>?_,?_,?_]
 .have a:=Ym (slp cs m i);have b:=k2 _ (mem i hi);have c:(((slp cs m i).num.fdiv ((slp cs m i).den:Int)+1:Int):Rat)<=((k+1:Int):Rat):=Rat.intCast_le_intCast.mpr ();show _<((stp cs m:Int):Rat);rw[e];grind
 .have:=(pos _ (Mz r 0)).1;have:=k2 _ (mem 0 n);omega
 .unfold flo HY at k1;rw[qBi]at k1;obtain⟨i,hi,rfl⟩:=qAI.mp k1;have hi:=qAH.mp hi;obtain⟨p1,p2⟩:=pos _ (Mz r i);have zs:=(z.ln r.o i hi).1.1;have e:stp cs m=(slp cs m i).num.fdiv ((slp cs m i).den:Int)+1:=e;rw[e];omega
def MS (cs:Cs)(m:Rat)(C:Cs)(M:Rat):Prop:=Crv C M/\M=sK cs m-m/\(∀t,0<=t->val C M t=vv cs 0+sK cs m*t-val cs m t)/\LS 41 190 273 C M/\↥C<=4
noncomputable abbrev miK (cs:Cs)(m:Rat):Cs:=mis cs (vv cs 0) (sK cs m)
noncomputable abbrev IsM (cs:Cs)(m t g:Rat):Prop:=IsU (miK cs m) (sK cs m-m) (miK cs m) (sK cs m-m) t g
def NW {v K t:Rat}:val [(0,v)] K t=v+K*t:=by
 have e:plc [(0,v)] t 1=0:=by
  unfold plc;split<;>rfl
 show vv [(0,v)] (plc [(0,v)] t 1)+slp [(0,v)] K (plc [(0,v)] t 1)*(t-tt [(0,v)] (plc [(0,v)] t 1))=_;rw[e,AF (by show ¬1<1;decide)];show v+K*(t-0)=_;grind
def Y3 {k:Int}{n:Nat}(h:k.natAbs<2^n)(hn:1<=n):Sz n ((k:Int):Rat):=by
 refine#[by rw[Rat.num_intCast];exact h,?_];rw[Rat.den_intCast];exact Nat.one_lt_two_pow ()
def KO.st {cs:Cs}{m:Rat}(h:KO cs m):EO [(0,vv cs 0)] (sK cs m)/\LS 1 95 68 [(0,vv cs 0)] (sK cs m)/\Sz 95 (sK cs m)/\0<=sK cs m/\0<=sK cs m-m/\∀i,i<↥cs->slp cs m i<=sK cs m:=by
 obtain⟨s1,s2,s3⟩:=TZ h;obtain⟨r,z,_,zv⟩:=h;have o:=r.o;have zk:=Y3 s3 ∅;have k0:0<=sK cs m:=Rat.intCast_nonneg.mpr (Int.le_of_lt s2);have o1:Ord [(0,vv cs 0)]:=Ord.one o.v0;refine#[#[o1,k0],?_,zk,k0,?_,λi hi=>qAm (s1 i hi)]
 .refine Ln.ls (Ln.one zk ?_) o1 (λi hi=>?_)
  .show Sz 68 (vv cs 0-_*0);rw[show vv cs 0-sK cs m*0=vv cs 0 from ⋯];exact zv
  .have:i=0:=by(have:i<1:=hi;omega)
   subst this;exact Sz.zero
 .have n:=o.ne;have:=s1 (↥cs-1) ();rw[AF ()]at this;grind
def T1 {cs ds:Cs}{m k:Rat}(o:Ord cs)(q:Ord ds)(h:∀t,0<=t->val cs m t<=val ds k t):m<=k:=by
 have n1:=o.ne;have n2:=q.ne;have a0:=Ct o (show ↥cs-1<↥cs from ());have b0:=Ct q (show ↥ds-1<↥ds from ());refine QG (a:=tt cs (↥cs-1)+tt ds (↥ds-1)) (f0:=vv cs (↥cs-1)+m*tt ds (↥ds-1)) (g0:=vv ds (↥ds-1)+k*tt cs (↥cs-1)) λx hx=>?_;have h1:=h x ⋯;rw[CA n1 ⋯,CA n2 ⋯]at h1;grind
def FZ (fc:Cs)(fm:Rat)(gc:Cs)(gm t u:Rat):Rat:=val fc fm (t+u)-val gc gm u
def Xs {cs:Cs}(h:0<↥cs):cs.map cd≠[]:=λz=>by
 have:=congrArg List.length z;rw[qAa]at this;exact absurd h (by rw[this];decide)
def KF (cs:Cs)(m:Rat):Prop:=Crv cs m/\LS 41 45 68 cs m/\↥cs<=3/\∀i,i<↥cs->Sz 68 (vv cs i)
def KF.ko {cs:Cs}{m:Rat}(h:KF cs m):KO cs m:=#[h.1.rise,h.2.1.mono ∅ ∅ ∅,h.2.2.1,h.2.2.2 0 h.1.ne]
def SU (cs:Cs)(m:Rat)(C:Cs):Prop:=Crv C m/\LS 2412 286 1015 C m/\↥C<=236/\∀t,0<=t->∃g,IsM cs m t g/\val C m t=sK cs m*t-g
def VI {a b p:Int}(p0:0<p)(h:Rat.divInt a p=Rat.divInt b p):a=b:=by
 have p2:p≠0:=();have p1:(p:Rat)≠0:=λz=>p2 (qCo.mp z);rw[qAB,qAB]at h;have:(a:Rat)=(b:Rat):=⋯;exact qCo.mp this
def KQ (cs:Cs)(m:Rat):Prop:=EO cs m/\SzK 1200 cs m/\↥cs<=4
def PLr (x:D):Prop:=∃s L:Rat,PlX s L x/\0<=s/\0<=L
def NA {rows:List D}{y:D}(h:∀x∈rows,PLr x)(hy:PLr y):∀x∈rows++[y],PLr x:=λx hx=>by
 rcases qAo.mp hx with z|z
 .exact h x z
 .rw[qAG.mp z];exact hy
def KF.kq {cs:Cs}{m:Rat}(h:KF cs m):KQ cs m:=#[h.1.rise,h.2.1.szk h.1.rise.o (by have:=h.2.2.1;omega) ∅,by have:=h.2.2.1;omega]
def KO.kq {cs:Cs}{m:Rat}(h:KO cs m):KQ cs m:=#[h.1,h.2.1.szk h.1.o (by have:=h.2.2.1;omega) ∅,by have:=h.2.2.1;omega]
def PlX.eq {s L s' L':Rat}{x:D}(h:PlX s L x)(g:PlX s' L' x):s=s'/\L=L':=by
 obtain⟨a,b,c,d,rfl,h1,h2⟩:=h;obtain⟨a',b',c',d',e,g1,g2⟩:=g;cases e;exact#[by rw[<-GA h1,GA g1],by rw[<-GA h2,GA g2]]
def bD {n:Nat}{a b:Int}(hb:0<b)(ha:0<a)(h1:a.natAbs<2^n)(h2:b.natAbs<2^n):0<Rat.divInt a b:=((Wq.of (k:=1) Sz.zero).lt_iff (Sh hb h1 h2)).mp (by simpa using ha)
abbrev qDa:=S->Prop
abbrev qDb:=Str->Prop
abbrev qDc:List Str:=["one","other"]
abbrev qDd:List Str:=["f","g"]
abbrev qDe:List Str:=["_law_one","_law_other"]
abbrev qDf:List Str:=["_law_head","_law_cells","_law_start","_law_shape"]
abbrev qDg:List Str:=["_law_f","_law_house","_law_length"]
abbrev qDh:List Str:=["_law_f","_law_house","_law_length","_law_found"]
abbrev qDi (P:Program)(w:World)(K:W.Frag)(mg:Str->Option Value)(base:Heap):=Cal P w K mg base (CXU P w)
inductive JT (ss:List S)(R:qDa)(U_:qDb):Prop
 |k (a:Int)(_:ss=[.d (.int a)])(_:R (.d (.bl true)))
inductive Kq (ss:List S)(R:qDa)(U_:qDb):Prop
 |k (a b:Int)(_:ss=[.d (.int a),.d (.int b)])(_:R (.d (.int (g a b))))
inductive O0 (ss:List S)(R:qDa)(U_:qDb):Prop
 |k (a b:Int)(_:ss=[.d (.int a),.d (.int b)])(_:b≠0)(_:a.natAbs<2^13000)(_:b.natAbs<2^13000)(_:R (.d (qd (Rat.divInt a b))))
inductive RZ (ss:List S)(R:qDa)(U_:qDb):Prop
 |k (p q:Rat)(k l:Nat)(_:ss=[.d (qd p),.d (qd q)])(_:Sz k p)(_:Sz l q)(_:k+l+1<=13000)(_:R (.d (qd (p+q))))
inductive OH (ss:List S)(R:qDa)(U_:qDb):Prop
 |k (p q:Rat)(k l:Nat)(_:ss=[.d (qd p),.d (qd q)])(_:Sz k p)(_:Sz l q)(_:k+l+1<=13000)(_:R (.d (qd (p-q))))
inductive Oi (ss:List S)(R:qDa)(U_:qDb):Prop
 |k (p q:Rat)(k l:Nat)(_:ss=[.d (qd p),.d (qd q)])(_:Sz k p)(_:Sz l q)(_:k+l<=13000)(_:R (.d (qd (p*q))))
inductive Ry (ss:List S)(R:qDa)(U_:qDb):Prop
 |k (p q:Rat)(k l:Nat)(_:ss=[.d (qd p),.d (qd q)])(_:Sz k p)(_:Sz l q)(_:k+l<=13000)(_:q≠0)(_:R (.d (qd (p/q))))
inductive IT (ss:List S)(R:qDa)(U_:qDb):Prop
 |k (p q:Rat)(k l:Nat)(_:ss=[.d (qd p),.d (qd q)])(_:Sz k p)(_:Sz l q)(_:k+l<=30000)(_:R (.d (.bl (decide (p<q)))))
inductive KL (ss:List S)(R:qDa)(U_:qDb):Prop
 |k (p q:Rat)(k l:Nat)(_:ss=[.d (qd p),.d (qd q)])(_:Sz k p)(_:Sz l q)(_:k+l<=30000)(_:R (.d (qd (if p<q then q else p))))
inductive Ot (ss:List S)(R:S->Prop)(U:Str->Prop):Prop
 |mk (x:S)(cs:Cs)(m:Rat)(_:ss=[x,.d (qd m)])(_:(x=.r (cs.map cd)\/x=.d (.lst (cs.map cd))))(_:SzD cs m)(_:(Ord cs/\0<=m->R (.d (crv (kp cs m (↥cs-1)) m))))(_:(¬(Ord cs/\0<=m)->U "NoCurve"))
inductive F5 (ss:List S)(R:S->Prop)(U:Str->Prop):Prop
 |mk (x:S)(cs:Cs)(_:ss=[x])(_:(x=.r (cs.map cd)\/x=.d (.lst (cs.map cd))))(_:↥cs<=100000)(_:SzC 6400 cs)(_:(Bgn cs->R (.d .non)))(_:(¬Bgn cs->U "NoCurve"))
inductive G1 (ss:List S)(R:S->Prop)(U:Str->Prop):Prop
 |mk (x:S)(cs:Cs)(_:ss=[x])(_:(x=.r (cs.map cd)\/x=.d (.lst (cs.map cd))))(_:0<↥cs)(_:↥cs<=100000)(_:SzC 6400 cs)(_:(Ris cs ↥cs->R (.d .non)))(_:(¬Ris cs ↥cs->U "NoCurve"))
inductive Rz (ss:List S)(R:qDa)(U_:qDb):Prop
 |k (v s:Rat)(_:ss=[.d (qd v),.d (qd s)])(_:0<=v)(_:0<=s)(_:Sz 2000 v)(_:Sz 2000 s)(_:R (.d (crv [(0,v)] s)))
inductive Jb (ss:List S)(R:S->Prop)(U:Str->Prop):Prop
 |mk (cs:Cs)(m t:Rat)(a b c n:Nat)(_:ss=[.d (crv cs m),.d (qd t)])(_:Ord cs)(_:LS a b c cs m)(_:↥cs<=100000)(_:a+b+c+1<=6000)(_:4*a+b+2<=13000)(_:n<=6000)(_:2*a+2*b+c+n+3<=13000)(_:Sz n t)(_:(0<=t->R (.d (qd (val cs m t)))))(_:(¬0<=t->U "NoTime"))
inductive JH (ss:List S)(R:S->Prop)(U:Str->Prop):Prop
 |mk (cs:Cs)(m t:Rat)(n:Nat)(_:ss=[.d (crv cs m),.d (qd t)])(_:0<↥cs)(_:↥cs<=100000)(_:tt cs 0=0)(_:Up cs)(_:n<=6000)(_:SzC n cs)(_:Sz n t)(_:(0<=t->R (.d (.int (plc cs t ↥cs)))))(_:(¬0<=t->U "NoTime"))
inductive Hm (ss:List S)(R:S->Prop)(U:Str->Prop):Prop
 |mk (t:Rat)(n:Nat)(_:ss=[.d (qd t)])(_:n<=6000)(_:Sz n t)(_:(0<=t->R (.d .non)))(_:(¬0<=t->U "NoTime"))
inductive D4 (ss:List S)(R:qDa)(U_:qDb):Prop
 |k (cs:Cs)(m:Rat)(k:Nat)(_:ss=[.d (crv cs m),.d (.int k)])(_:k<↥cs)(_:↥cs<=100000)(_:Up cs)(_:SzC 6400 cs)(_:Df cs)(_:R (.d (qd (slp cs m k))))
inductive EJ (ss:List S)(R:qDa)(U_:qDb):Prop
 |k (a b c d:Rat)(n e f:Nat)(_:ss=[.d (.tup [qd a,qd b]),.d (.tup [qd c,qd d])])(_:n<=6400)(_:Sz n a)(_:Sz n b)(_:Sz n c)(_:Sz n d)(_:Sz e (c-a))(_:Sz f (d-b))(_:e+f<=13000)(_:c-a≠0)(_:R (.d (qd ((d-b)/(c-a)))))
inductive EI (ss:List S)(R:qDa)(U_:qDb):Prop
 |k (x:S)(cs:Cs)(m:Rat)(_:ss=[x,.d (qd m)])(_:(x=.r (cs.map cd)\/x=.d (.lst (cs.map cd))))(_:0<↥cs)(_:↥cs<=100000)(_:SzC 6400 cs)(_:Df cs)(_:Up cs)(_:R (.l ((HY cs m).map qd)))
inductive DO (ss:List S)(R:qDa)(U_:qDb):Prop
 |k (cs:Cs)(m:Rat)(a b c:Nat)(_:ss=[.d (crv cs m)])(_:Ord cs)(_:LS a b c cs m)(_:a+b+c+1<=1800)(_:↥cs<=5000)(_:R (.l ((stI cs m).map λk=>cd (tt cs k,vv cs k))))
inductive DK (ss:List S)(R:qDa)(U_:qDb):Prop
 |k (cs:Cs)(m:Rat)(a b c:Nat)(_:ss=[.d (crv cs m)])(_:Ord cs)(_:LS a b c cs m)(_:a+b+c+1<=1800)(_:↥cs<=5000)(_:R (.l ((flI cs m).map λk=>cd (tt cs k,vv cs k))))
inductive Fe (ss:List S)(R:qDa)(U_:qDb):Prop
 |k (cs:Cs)(m:Rat)(_:ss=[.d (crv cs m)])(_:KO cs m)(_:R (.d (qd (sK cs m))))
inductive IZ (ss:List S)(R:qDa)(U_:qDb):Prop
 |k (cs:Cs)(m:Rat)(ds:Cs)(k:Rat)(_:ss=[.d (crv cs m),.d (crv ds k)])(_:Sz 6000 m)(_:Sz 6000 k)(_:R (.d (.bl (decide (k<m)))))
inductive Kw (ss:List S)(R:qDa)(U_:qDb):Prop
 |k (a b s h:Rat)(n p l k:Nat)(_:ss=[.d (.tup [qd a,qd b]),.d (qd s),.d (qd h)])(_:Sz n a)(_:Sz p b)(_:Sz l h)(_:Sz k s)(_:s≠0)(_:n+p+l+k+2<=13000)(_:R (.d (qd (a+(h-b)/s))))
def F9:SpL:=λa dom p ss R _=>∃(x:S)(xs:List D)(n:Nat),ss=[x,.d (.ref a)]/\(x=.d (.tup xs)\/x=.r xs\/x=.d (.lst xs))/\↥xs<=100000/\n<=↥xs/\(∀i x,xs[i]? = some x->dom x/\p x=decide (i<n))/\R (.d (.int n))
inductive RX (ss:List S)(R:qDa)(U_:qDb):Prop
 |k (cs:Cs)(m:Rat)(ds:Cs)(k:Rat)(a b c aa bb cc A:Nat)(_:ss=[.d (crv cs m),.d (crv ds k)])(_:EO cs m)(_:EO ds k)(_:LS a b c cs m)(_:LS aa bb cc ds k)(_:a<=A)(_:aa<=A)(_:↥cs+↥ds<=3000)(_:A+b+bb+c+cc+3<=6000)(_:4*A+b+bb+3<=13000)(_:3*A+2*(b+bb)+c+cc+3<=13000)(_:(∀x y,0<=x->x<=y->gap cs m ds k x<=gap cs m ds k y))(_:0<=gap cs m ds k 0)(_:∀(C:Cs)(M:Rat),Crv C M->(∀t,0<=t->val C M t=gap cs m ds k t)->M=m-k->LS A (b+bb+1) (c+cc+1) C M->↥C<=↥cs+↥ds->R (.d (crv C M)))
inductive Oa (ss:List S)(R:qDa)(U_:qDb):Prop
 |k (cs:Cs)(m:Rat)(ds:Cs)(k:Rat)(_:ss=[.d (crv cs m),.d (crv ds k)])(_:(EO cs m/\LS 1280 94 571 cs m/\↥cs<=235))(_:(EO ds k/\LS 2412 286 1015 ds k/\↥ds<=236))(_:∀r:Option Rat,Abv cs m ds k r->(∀t,r=some t->Sz 2414 t)->R (.d (oD r)))
inductive FX (ss:List S)(R:qDa)(U_:qDb):Prop
 |k (cs:Cs)(m:Rat)(ds:Cs)(k:Rat)(a b c:Nat)(_:ss=[.d (crv cs m),.d (crv ds k)])(_:Ord cs)(_:Ord ds)(_:↥cs<=3000)(_:↥ds<=3000)(_:LS a b c cs m)(_:LS a b c ds k)(_:a+b+c+1<=6000)(_:4*a+b+2<=13000)(_:3*a+2*b+c+3<=13000)(_:∀ts:List Rat,Tms cs ds ts->↥ts<=↥cs+↥ds->R (.l (ts.map (rw3 cs m ds k))))
inductive E9 (ss:List S)(R:qDa)(U_:qDb):Prop
 |k (cs:Cs)(m:Rat)(ds:Cs)(k:Rat)(n:Nat)(_:ss=[.d (crv cs m),.d (crv ds k)])(_:Ord cs)(_:Ord ds)(_:↥cs<=3000)(_:↥ds<=3000)(_:n<=6000)(_:SzC n cs)(_:SzC n ds)(_:∀ts:List Rat,Tms cs ds ts->↥ts<=↥cs+↥ds->R (.d (.lst (ts.map qd))))
inductive G8 (ss:List S)(R:qDa)(U_:qDb):Prop
 |k (x:S)(cs:Cs)(m:Rat)(ds:Cs)(k:Rat)(ts:List Rat)(v:Nat)(_:ss=[x])(_:(x=.r (ts.map (rw3 cs m ds k))\/x=.d (.lst (ts.map (rw3 cs m ds k)))))(_:↥ts<=6000)(_:v<=6400)(_:(∀i,i<↥ts->Sz v (val cs m (T ts i))/\Sz v (val ds k (T ts i))))(_:R (.l ((gcs cs m ds k ts).map cd)))
inductive HV (ss:List S)(R:qDa)(U_:qDb):Prop
 |k (cs:Cs)(m:Rat)(a b c:Nat)(_:ss=[.d (crv cs m)])(_:Ord cs)(_:LS a b c cs m)(_:a+b+c+1<=1800)(_:↥cs<=5000)(_:R (.l ((C5 cs m).map rpD)))
inductive Fp (ss:List S)(R:qDa)(U_:qDb):Prop
 |k (c:Rat×Rat)(m:Rat)(n:Nat)(_:ss=[.d (cd c),.d (qd m)])(_:Sz n c.1)(_:Sz n c.2)(_:Sz n m)(_:n<=4000)(_:R (.d (lnD (Ow m (c.2-m*c.1)))))
inductive IX (ss:List S)(R:S->Prop)(U:Str->Prop):Prop
 |mk (x:S)(ps:List RP)(P:Ps)(k m:Nat)(_:ss=[x])(_:(x=.r (ps.map rpD)\/x=.d (.lst (ps.map rpD))))(_:PL k m ps P)(_:0<↥ps)(_:↥ps<=90000)(_:k+m+1<=13000)(_:SzD (Iu P) (ln P (↥P-1)).1)(_:Ord (Iu P))(_:0<=(ln P (↥P-1)).1)(_:R (.d (crv (kp (Iu P) (ln P (↥P-1)).1 (↥P-1)) (ln P (↥P-1)).1)))
inductive Ik (ss:List S)(R:qDa)(U_:qDb):Prop
 |k (p:RP)(q:Rat×Ln2)(k m:Nat)(_:ss=[.d (tp p.1.1 p.1.2),.d (lnD p.2)])(_:PW1 k m p q)(_:k+m+1<=13000)(_:R (.d (cd (q.1,ev q.2 q.1))))
inductive QK (ss:List S)(R:qDa)(U_:qDb):Prop
 |k (x:S)(ps:List RP)(P:Ps)(wn wd vn vd:Int)(w v:Rat)(k m n:Nat)(_:ss=[x,.d (.tup [tp wn wd,tp vn vd])])(_:(x=.r (ps.map rpD)\/x=.d (.lst (ps.map rpD))))(_:PL k m ps P)(_:Wq n wn wd w)(_:Wq n vn vd v)(_:k<=30000)(_:m<=30000)(_:n<=30000)(_:↥ps<=100000)(_:R (.l ((ps.map (mvR wn wd vn vd)).map rpD)))
inductive G3 (ss:List S)(R:qDa)(U_:qDb):Prop
 |k (a b wn wd:Int)(t w:Rat)(m n:Nat)(_:ss=[.d (tp a b),.d (tp wn wd)])(_:Wq m a b t)(_:Wq n wn wd w)(_:m<=100000)(_:n<=100000)(_:R (.d (tp (a*wd+wn*b) (b*wd))))
inductive Hl (ss:List S)(R:qDa)(U_:qDb):Prop
 |k (l:RL)(q:Ln2)(wn wd vn vd:Int)(w v:Rat)(k m:Nat)(_:ss=[.d (lnD l),.d (.tup [tp wn wd,tp vn vd])])(_:LW k l q)(_:Wq m wn wd w)(_:Wq m vn vd v)(_:k<=100000)(_:m<=100000)(_:R (.d (lnD (l.1*(wd*vd),l.2.1*(wd*vd)-l.1*wn*vd+l.2.2*vn*wd,l.2.2*(wd*vd)))))
inductive Kx (ss:List S)(R:qDa)(U_:qDb):Prop
 |k (x:S)(ps:List RP)(_:ss=[x])(_:(x=.r (ps.map rpD)\/x=.d (.lst (ps.map rpD))))(_:↥ps<=100000)(_:R (.l ((ps.map flR).map rpD)))
inductive MH (ss:List S)(R:qDa)(U_:qDb):Prop
 |k (cs:Cs)(m far:Rat)(n:Nat)(_:ss=[.d (.lst ((C5 cs m).map rpD)),.d (qd far)])(_:0<↥cs)(_:↥cs<=5000)(_:(∀i,i<↥cs->Sz n (tt cs i)))(_:Sz n far)(_:n<=6000)(_:R (.d (.lst ((trR cs m far).map rpD))))
inductive F0 (ss:List S)(R:qDa)(U_:qDb):Prop
 |k (ps:List RP)(P:Ps)(k m c:Nat)(_:ss=[.d (.lst (ps.map rpD))])(_:PL k m ps P)(_:↥ps<=50000)(_:m<=100000)(_:0<c)(_:c<=↥P)(_:(∀i,i<c->bg P i<=0))(_:(∀i,c<=i->i<↥P->0<bg P i))(_:R (.d (.lst ((frR ps c).map rpD))))
inductive Kp (ss:List S)(R:qDa)(U_:qDb):Prop
 |k (y:S)(ps os:List RP)(P O:Ps)(B S0:List Rat)(G:Ln2->Prop)(V:Rat->Prop)(k m:Nat)(h g:Rat->Rat)(_:ss=[.r (ps.map rpD),y])(_:(y=.r (os.map rpD)\/y=.d (.lst (os.map rpD))))(_:(FQ B S0 G V k m h none ps P/\0<↥P/\PL k m os O/\PU O g none/\0<↥O/\(∀x,x<↥O->(ln O x).1∈S0)/\(∀x,x<↥O->G (ln O x)/\V (bg O x))/\(∀l l',G l->G l'->l.1≠l'.1->V (xg l l'))/\k+k+1<=m/\m<=12000/\bg P 0<=bg O 0/\(bg P 0<bg O 0->h (bg O 0)<=g (bg O 0))/\↥ps+↥os<=90000/\(↥B+↥O+1)*S0.length<=90000))(_:∀(qs:List RP)(Q:Ps),FQ (B++VG O) S0 G V k m (W3 (bg O 0) h g) none qs Q->0<↥Q->bg Q 0=bg P 0->R (.l (qs.map rpD)))
inductive E5 (ss:List S)(R:qDa)(U_:qDb):Prop
 |k (y:S)(ps os:List RP)(P O:Ps)(k m c:Nat)(_:ss=[.r (ps.map rpD),y])(_:(y=.r (os.map rpD)\/y=.d (.lst (os.map rpD))))(_:PL k m ps P)(_:PL k m os O)(_:0<↥O)(_:(∀i,i+1<↥P->bg P i<bg P (i+1)))(_:(∀i,i+1<↥O->bg O i<bg O (i+1)))(_:m<=100000)(_:↥ps+↥os<=90000)(_:0<c)(_:c<=↥P)(_:(∀i,i<c->bg P i<=bg O 0))(_:(∀i,c<=i->i<↥P->bg O 0<bg P i))(_:∀rw:List R4,QC P O m rw->¬iF' rw (↥rw-1)+1<↥P->¬jF rw (↥rw-1)+1<↥O->R (.l (rw.map (Vt ps os))))
inductive Fl (ss:List S)(R:qDa)(U_:qDb):Prop
 |k (xs:List RP)(p q:RP)(s t:Rat)(m:Nat)(_:ss=[.d (.lst (xs.map rpD))])(_:0<↥xs)(_:xs.getD 0 dfR=p)(_:xs.getD (↥xs-1) dfR=q)(_:Wq m p.1.1 p.1.2 s)(_:Wq m q.1.1 q.1.2 t)(_:m<=100000)(_:R (.d (if t<s then tp q.1.1 q.1.2 else tp p.1.1 p.1.2)))
inductive Ra (ss:List S)(R:qDa)(U_:qDb):Prop
 |k (l1 l2:RL)(tn td:Int)(q1 q2:Ln2)(t:Rat)(k m:Nat)(_:ss=[.d (lnD l1),.d (lnD l2),.d (tp tn td)])(_:LW k l1 q1)(_:LW k l2 q2)(_:Wq m tn td t)(_:k<=100000)(_:m<=100000)(_:R (.d (.int (sg (ev q1 t-ev q2 t)))))
inductive RC (ss:List S)(R:qDa)(U_:qDb):Prop
 |k (l1 l2:RL)(q1 q2:Ln2)(k:Nat)(_:ss=[.d (lnD l1),.d (lnD l2)])(_:LW k l1 q1)(_:LW k l2 q2)(_:k<=100000)(_:R (.d (.int (sg (q1.1-q2.1)))))
inductive R0 (ss:List S)(R:qDa)(U_:qDb):Prop
 |k (a:Int)(_:ss=[.d (.int a)])(_:R (.d (.int a.sign)))
def Ic:SpM:=λxs ds R=>∃(ps:List RP)(tm:Int×Int)(l1 l2:RL)(now thn:Int)(q1 q2:Ln2)(k:Nat),xs=ps.map rpD/\ds=[.tup [.tup [.int tm.1,.int tm.2],lnD l1,lnD l2],.int now,.int thn]/\LW k l1 q1/\LW k l2 q2/\k<=6000/\(now<0/\0<thn\/0<now/\thn<0->q1.1≠q2.1)/\↥ps<999980/\∀ps',Tq ps tm l1 l2 now thn (xg q1 q2) ps'->R (ps'.map rpD)
def DG:SpM:=λxs ds R=>∃(ps:List RP)(p:RP),xs=ps.map rpD/\ds=[.tup [.int p.1.1,.int p.1.2],lnD p.2]/\↥ps<999990/\∀ps',MY ps p ps'->R (ps'.map rpD)
inductive JD (ss:List S)(R:qDa)(U_:qDb):Prop
 |k (l1 l2:RL)(q1 q2:Ln2)(k:Nat)(_:ss=[.d (lnD l1),.d (lnD l2)])(_:LW k l1 q1)(_:LW k l2 q2)(_:k<=6000)(_:q1.1≠q2.1)(_:R (.d (qd (xg q1 q2))))
inductive Kv (ss:List S)(R:qDa)(U_:qDb):Prop
 |k (cs:Cs)(m a k:Rat)(_:ss=[.d (crv cs m),.d (qd a),.d (crv [(0,0)] k)])(_:KO cs m)(_:(∀i,i<↥cs->Sz 68 (vv cs i)))(_:0<=a)(_:Sz 84 a)(_:0<=k)(_:Sz 300 k)(_:∀L:Cs,Crv L k->(∀t,0<=t->val L k t=if a<t then val cs m a+k*(t-a) else val cs m t)->LS 84 300 770 L k->↥L<=4->R (.d (crv L k)))
inductive MO (ss:List S)(R:qDa)(U_:qDb):Prop
 |k (fc:Cs)(fm:Rat)(gc:Cs)(gm:Rat)(a b c N:Nat)(S0:List Rat)(_:ss=[.d (crv fc fm),.d (crv gc gm)])(_:(EO fc fm/\EO gc gm/\LS a b c fc fm/\LS a b c gc gm/\1<=b/\6*a+9*b+6*c+24<=4400/\(2*(↥fc*↥gc)+2*↥fc+↥gc+3)*S0.length<=N/\N<=40000/\SL S0 fc fm/\SL S0 gc gm/\(0:Rat)∈S0/\↥fc<=4999/\↥gc<=4999))(_:(gm<fm->R (.d .non)))(_:(fm<=gm->∀C:Cs,Crv C fm->(∀t,0<=t->IsU fc fm gc gm t (val C fm t))->LS (4*(a+b+c)+2*b+16) b (2*(a+b+c)+5) C fm->SL S0 C fm->↥C<=N->R (.d (crv C fm))))
inductive QD (ss:List S)(R:S->Prop)(U:Str->Prop):Prop
 |mk (fc:Cs)(fm:Rat)(gc:Cs)(gm t:Rat)(a b c n:Nat)(_:ss=[.d (crv fc fm),.d (crv gc gm),.d (qd t)])(_:(Ord fc/\Ord gc/\LS a b c fc fm/\LS a b c gc gm/\a+b+c+1<=510/\↥fc<=5000/\↥gc<=5000))(_:Sz n t)(_:a+n+1<=2500)(_:(0<=t->gm<fm->R (.d .non)))(_:(0<=t->fm<=gm->∀u:Rat,0<=u->Sz (a+n+1) u->(∀v,0<=v->FZ fc fm gc gm t v<=FZ fc fm gc gm t u)->R (.d (qd u))))(_:(¬0<=t->U "NoTime"))
inductive De (ss:List S)(R:qDa)(U_:qDb):Prop
 |k (cs:Cs)(m:Rat)(a b c:Nat)(_:ss=[.d (crv cs m)])(_:Ord cs)(_:LS a b c cs m)(_:a+b+c+1<=1800)(_:↥cs<=5000)(_:R (.d (.lst ((0::stI cs m).map λk=>cd (tt cs k,vv cs k)))))
inductive D9 (ss:List S)(R:qDa)(U_:qDb):Prop
 |k (fc:Cs)(fm:Rat)(gc:Cs)(gm t:Rat)(a b c n:Nat)(_:ss=[.d (crv fc fm),.d (crv gc gm),.d (qd t)])(_:(Ord fc/\Ord gc/\LS a b c fc fm/\LS a b c gc gm/\a+b+c+1<=510/\↥fc<=5000/\↥gc<=5000))(_:Sz n t)(_:n<=2500)(_:∀us:List Rat,↥us<=11000->(∀u∈us,0<=u/\Sz (a+n+1) u)->(∀k∈stI gc gm,tt gc k∈us)->(∀k∈flI fc fm,t<tt fc k->tt fc k-t∈us)->R (.l (us.map qd)))
inductive JM (ss:List S)(R:qDa)(U_:qDb):Prop
 |k (fc:Cs)(fm:Rat)(gc:Cs)(gm t u:Rat)(a b c n:Nat)(_:ss=[.d (crv fc fm),.d (crv gc gm),.d (qd t),.d (qd u)])(_:(Ord fc/\Ord gc/\LS a b c fc fm/\LS a b c gc gm/\a+b+c+1<=510/\↥fc<=5000/\↥gc<=5000))(_:0<=t)(_:0<=u)(_:Sz n t)(_:Sz n u)(_:n<=2500)(_:R (.d (qd (FZ fc fm gc gm t u))))
inductive MX (ss:List S)(R:qDa)(U_:qDb):Prop
 |k (cs:Cs)(m:Rat)(_:ss=[.d (crv cs m),.d (crv cs m)])(_:KF cs m)(_:(Kps (val cs m) (val cs m)->R (.d .non)))(_:∀s t,0<=s->0<=t->Sz 2456 s->Sz 2414 t->val cs m t<val cs m (s+t)-val cs m s->R (.d (.tup [qd s,qd (s+t)])))
inductive R5 (ss:List S)(R:qDa)(U_:qDb):Prop
 |k (cs:Cs)(m:Rat)(_:ss=[.d (crv cs m),.d (crv cs m)])(_:KO cs m)(_:(Sre (val cs m) (val cs m)->R (.d .non)))(_:∀s t,0<=s->0<=t->Sz 2456 s->Sz 2414 t->val cs m (s+t)-val cs m s<val cs m t->R (.d (.tup [qd s,qd (s+t)])))
inductive Mx (ss:List S)(R:qDa)(U_:qDb):Prop
 |k (cs:Cs)(m:Rat)(_:ss=[.d (crv cs m)])(_:KO cs m)(_:∀C:Cs,SU cs m C->R (.d (crv C m)))
inductive MU (ss:List S)(R:qDa)(U_:qDb):Prop
 |k (cs:Cs)(m:Rat)(a b c:Nat)(S0:List Rat)(_:ss=[.d (crv cs m)])(_:(EO cs m/\LS a b c cs m/\1<=b/\6*a+9*b+6*c+24<=4400/\↥cs<=4/\S0.length<=5/\SL S0 cs m/\(0:Rat)∈S0))(_:∀C:Cs,Crv C m->(∀t,0<=t->IsU cs m cs m t (val C m t))->LS (4*(a+b+c)+2*b+16) b (2*(a+b+c)+5) C m->SL S0 C m->↥C<=235->R (.d (crv C m)))
inductive Kz (ss:List S)(R:qDa)(U_:qDb):Prop
 |k (cs:Cs)(m:Rat)(_:ss=[.d (crv cs m)])(_:KO cs m)(_:∀(C:Cs)(M:Rat),MS cs m C M->R (.d (crv C M)))
inductive IY (ss:List S)(R:qDa)(U_:qDb):Prop
 |k (cs:Cs)(m:Rat)(r:Option Rat)(_:ss=[.d (crv cs m),.d (oD r)])(_:(EO cs m/\LS 41 190 273 cs m/\↥cs<=4))(_:(∀t,r=some t->Sz 2414 t/\0<=t))(_:(r=none->R (.d .non)))(_:∀t s,r=some t->0<=s->Sz 2456 s->(∀v,0<=v->FZ cs m cs m t v<=FZ cs m cs m t s)->R (.d (.tup [qd s,qd (s+t)])))
inductive OY (ss:List S)(R:S->Prop)(U:Str->Prop):Prop
 |mk (fc:Cs)(fm:Rat)(hc:Cs)(hm t:Rat)(_:ss=[.d (crv fc fm),.d (crv hc hm),.d (qd t)])(_:KF fc fm)(_:(KO hc hm/\(∀i,i<↥hc->Sz 68 (vv hc i))))(_:Sz 41 t)(_:(¬0<t->U "NoTime"))(_:(0<t->(∀s l,0<=s->0<=l->Sz 2456 s->Sz 2414 l->val fc fm l<val fc fm (s+l)-val fc fm s->R (.d (.tup [.str "coming",qd s,qd (s+l)])))/\(Kps (val fc fm) (val fc fm)->(∀s l,0<=s->0<=l->Sz 2456 s->Sz 2414 l->val hc hm (s+l)-val hc hm s<val hc hm l->R (.d (.tup [.str "house",qd s,qd (s+l)])))/\(Sre (val hc hm) (val hc hm)->(hm<fm->R (.d (.tup [.str "endless"])))/\(fm<=hm->∀(b:Rat)(L:Cs)(g:Rat),0<=b->Sz 83 b->(∀v,0<=v->FZ fc fm hc hm t v<=FZ fc fm hc hm t b)->(Crv L g/\Hur (val hc hm) (val L g) b g/\LS 84 300 770 L g/\↥L<=4/\sK fc fm<=g/\sK hc hm<=g/\val fc fm (b+t)<=g*t)->R (.d (.tup [.str "reached",crv fc fm,crv L g,qd b])))))))
inductive KH (ss:List S)(R:qDa)(U_:qDb):Prop
 |k (fc:Cs)(fm:Rat)(hc:Cs)(hm b t:Rat)(_:ss=[.d (crv fc fm),.d (crv hc hm),.d (qd b),.d (qd t)])(_:KF fc fm)(_:(KO hc hm/\(∀i,i<↥hc->Sz 68 (vv hc i))))(_:0<=b)(_:Sz 83 b)(_:0<t)(_:Sz 41 t)(_:∀(L:Cs)(g:Rat),(Crv L g/\Hur (val hc hm) (val L g) b g/\LS 84 300 770 L g/\↥L<=4/\sK fc fm<=g/\sK hc hm<=g/\val fc fm (b+t)<=g*t)->R (.d (crv L g)))
inductive Ql (ss:List S)(R:qDa)(U_:qDb):Prop
 |k (cs:Cs)(m:Rat)(ds:Cs)(k:Rat)(a b c aq bq cq A:Nat)(_:ss=[.d (crv cs m),.d (crv ds k)])(_:EO cs m)(_:EO ds k)(_:LS a b c cs m)(_:LS aq bq cq ds k)(_:a<=A)(_:aq<=A)(_:↥cs+↥ds<=240)(_:A+b+c+1<=1800)(_:A+bq+cq+1<=1800)(_:2*(b+bq+c+cq)+A+6<=3000)(_:∀(C:Cs)(M:Rat),Crv C M->0<=M->(∀t,0<=t->IsL (gap cs m ds k) t (val C M t))->LS (2*(b+bq+c+cq)+A+6) (b+bq+1) (b+bq+c+cq+A+3) C M->↥C<=2*(↥cs+↥ds)->R (.d (crv C M)))
inductive FU (ss:List S)(R:qDa)(U_:qDb):Prop
 |k (gs:Cs)(i:Nat)(l B:Rat)(_:ss=[.r (gs.map cd),.d (.int i),.d (qd l),.d (qd B)])(_:i<↥gs)(_:Sz 3000 l)(_:Sz 3000 B)(_:SzC 3000 gs)(_:R (.d (.bl (if i+1<↥gs then decide (B<vv gs (i+1)) else decide (0<l)))))
inductive ME (ss:List S)(R:qDa)(U_:qDb):Prop
 |k (cs:Cs)(m:Rat)(ds:Cs)(k:Rat)(a b c aq bq cq A:Nat)(_:ss=[.d (crv ds k),.d (crv cs m)])(_:EO cs m)(_:EO ds k)(_:LS a b c cs m)(_:LS aq bq cq ds k)(_:a<=A)(_:aq<=A)(_:↥cs<=4)(_:↥ds<=3)(_:b<=300)(_:c<=770)(_:bq<=45)(_:(cq<=68/\A<=84))(_:∀(L:Cs)(K:Rat)(C:Cs)(M:Rat),Crv L K->0<=K->(∀t,0<=t->IsL (gap cs m ds k) t (val L K t))->Crv C M->0<=M->M=m-K->(∀t,0<=t->val C M t=val cs m t-val L K t)->LS (2*(b+bq+c+cq)+A+6) (b+(b+bq+1)+1) (c+(b+bq+c+cq+A+3)+1) C M->↥C<=18->R (.d (crv C M)))
inductive My (ss:List S)(R:qDa)(U_:qDb):Prop
 |k (cs:Cs)(m:Rat)(ds:Cs)(k:Rat)(a b c aq bq cq A:Nat)(_:ss=[.d (crv ds k),.d (crv cs m)])(_:EO cs m)(_:EO ds k)(_:LS a b c cs m)(_:LS aq bq cq ds k)(_:a<=A)(_:aq<=A)(_:↥cs+↥ds<=240)(_:A+b+c+1<=1800)(_:A+bq+cq+1<=1800)(_:2*(b+bq+c+cq)+A+6<=3000)(_:∀(C:Cs)(M:Rat),Crv C M->0<=M->(∀t,0<=t->IsL (gap cs m ds k) t (val C M t))->LS (2*(b+bq+c+cq)+A+6) (b+bq+1) (b+bq+c+cq+A+3) C M->↥C<=2*(↥cs+↥ds)->R (.d (crv C M)))
inductive Fh (ss:List S)(R:qDa)(U_:qDb):Prop
 |k (ns:List Int)(k:Int)(_:ss=[.r (ns.map D.int),.d (.int k)])(_:0<=k)(_:k<=1000)(_:R (.d (.int (cl ns k))))
inductive JR (ss:List S)(R:qDa)(U_:qDb):Prop
 |k (a b:Int)(_:ss=[.d (.int a),.d (.int b)])(_:0<b)(_:a.natAbs<2^13000)(_:b.natAbs<2^13000)(_:R (.d (qd (Rat.divInt a b))))
inductive Jd (ss:List S)(R:qDa)(U_:qDb):Prop
 |k (a b c d:Int)(_:ss=[.d (tp a b),.d (tp c d)])(_:L4 400000 a b c d)(_:R (.d (tp (a*d+c*b) (b*d))))
inductive H0 (ss:List S)(R:qDa)(U_:qDb):Prop
 |k (a b c d:Int)(_:ss=[.d (tp a b),.d (tp c d)])(_:L4 400000 a b c d)(_:R (.d (tp (a*d-c*b) (b*d))))
inductive GI (ss:List S)(R:qDa)(U_:qDb):Prop
 |k (a b c d:Int)(_:ss=[.d (tp a b),.d (tp c d)])(_:L4 400000 a b c d)(_:R (.d (.bl (decide (a*d<=c*b)))))
inductive Hf (ss:List S)(R:qDa)(U_:qDb):Prop
 |k (cs:Cs)(m:Rat)(k:Int)(j n:Nat)(_:ss=[.d (crv cs m),.d (.int k)])(_:k=(j:Int))(_:j<↥cs)(_:Up cs)(_:n<=50000)(_:SzC n cs)(_:Sz n m)(_:∀A B:Int,Wq (4*n+2) A B (slp cs m j)->R (.d (tp A B)))
inductive KC (ss:List S)(R:qDa)(U_:qDb):Prop
 |k (cs:Cs)(m t:Rat)(tn td:Int)(n:Nat)(_:ss=[.d (crv cs m),.d (tp tn td)])(_:Ord cs)(_:↥cs<=100000)(_:n<=50000)(_:SzC n cs)(_:Sz n m)(_:Wq n tn td t)(_:0<=t)(_:∀A B:Int,Wq (7*n+4) A B (val cs m t)->R (.d (tp A B)))
inductive He (ss:List S)(R:qDa)(U_:qDb):Prop
 |k (q:Rat)(_:ss=[.d (qd q)])(_:Sz 13000 q)(_:R (.d (.bl true)))
inductive GU (ss:List S)(R:qDa)(U_:qDb):Prop
 |k (cs:Cs)(m:Rat)(_:ss=[.d (crv cs m)])(_:Crv cs m)(_:SzK 5200 cs m)(_:R (.d (.bl true)))
inductive Gb (ss:List S)(R:qDa)(U_:qDb):Prop
 |k (ms:List Int)(_:ss=[.r (ms.map D.int)])(_:↥ms<=58)(_:∀sl:List Int,↥sl=↥ms->(∀x∈sl,0<=x/\x<=2000000000000)->R (.l (sl.map D.int)))
inductive G4 (ss:List S)(R:qDa)(U_:qDb):Prop
 |k (c:Int)(ms:List Int)(st sh:Int)(_:ss=[.d (.int c),.r (ms.map D.int),.d (.int st),.d (.int sh)])(_:0<↥ms)(_:↥ms<=3)(_:0<=st)(_:st<=4000000000000)(_:∀(cs:Cs)(m:Rat),KF cs m->R (.d (crv cs m)))
inductive JQ (ss:List S)(R:qDa)(U_:qDb):Prop
 |k (ns:List Int)(b z:Int)(_:ss=[.r (ns.map D.int),.d (.int b),.d (.int z)])(_:0<=b)(_:b<=100)(_:1<=z)(_:z<=8)(_:∀ms:List Int,(↥ms:Int)=z->R (.l (ms.map D.int)))
inductive G9 (ss:List S)(R:qDa)(U_:qDb):Prop
 |k (cs:Cs)(m l:Rat)(_:ss=[.d (crv cs m),.d (qd l)])(_:KF cs m)(_:Sz 94 l)(_:0<=l)(_:∀ds:Cs,KO ds l->(∀i,i<↥ds->Sz 68 (vv ds i))->R (.d (crv ds l)))
inductive G7 (ss:List S)(R:qDa)(U_:qDb):Prop
 |k (cs:Cs)(m s L:Rat)(sn sd ln ld:Int)(n:Nat)(_:ss=[.d (crv cs m),.d (tp sn sd),.d (tp ln ld)])(_:Ord cs)(_:n<=10000)(_:SzK n cs m)(_:Wq n sn sd s)(_:0<=s)(_:Wq n ln ld L)(_:0<=L)(_:∀A B:Int,Wq (28*n+23) A B (val cs m (s+L)-val cs m s)->R (.d (tp A B)))
inductive Ge (ss:List S)(R:qDa)(U_:qDb):Prop
 |k (cs:Cs)(m:Rat)(ds:Cs)(k:Rat)(_:ss=[.d (crv cs m),.d (crv ds k)])(_:KQ cs m)(_:KQ ds k)(_:∀rows:List D,↥rows<=100->(∀x∈rows,PLr x)->(∀s L,W0 cs ds s L->Has rows s L)->R (.l rows))
inductive GY (ss:List S)(R:qDa)(U_:qDb):Prop
 |k (cs:Cs)(m:Rat)(_:ss=[.d (crv cs m),.d (crv cs m)])(_:KF cs m)(_:∀b:Bool,(b=true ↔ Kps (val cs m) (val cs m))->R (.d (.bl b)))
inductive Ie (ss:List S)(R:qDa)(U_:qDb):Prop
 |k (cs:Cs)(m:Rat)(ds:Cs)(k:Rat)(_:ss=[.d (crv cs m),.d (crv ds k)])(_:KQ cs m)(_:KQ ds k)(_:∀b:Bool,(Sre (val cs m) (val ds k)->b=true)->(b=true->∀s L,W0 cs ds s L->val ds k L<=val cs m (s+L)-val cs m s)->R (.d (.bl b)))
inductive G2 (ss:List S)(R:qDa)(U_:qDb):Prop
 |k (a b c d:Int)(_:ss=[.d (tp a b),.d (tp c d)])(_:L4 400000 a b c d)(_:R (.d (.bl (decide (a*d=c*b)))))
inductive EH (ss:List S)(R:qDa)(U_:qDb):Prop
 |k (cs:Cs)(m s l:Rat)(g:Int)(_:ss=[.d (crv cs m),.d (qd s),.d (qd (s+l)),.d (.int g)])(_:KQ cs m)(_:Sz 2456 s)(_:Sz 2414 l)(_:0<=s)(_:0<=l)(_:((g=1/\val cs m l<val cs m (s+l)-val cs m s)\/(g=-1/\val cs m (s+l)-val cs m s<val cs m l)))(_:R (.d (.bl true)))
inductive Fn (ss:List S)(R:qDa)(U_:qDb):Prop
 |k (fc:Cs)(fm:Rat)(hc:Cs)(hm t:Rat)(_:ss=[.d (crv fc fm),.d (crv hc hm),.d (qd t)])(_:KF fc fm)(_:(KO hc hm/\(∀i,i<↥hc->Sz 68 (vv hc i))))(_:Sz 41 t)(_:¬0<t)(_:R (.d (.bl true)))
inductive FY (ss:List S)(R:qDa)(U_:qDb):Prop
 |k (fc:Cs)(fm:Rat)(hc:Cs)(hm t b:Rat)(L:Cs)(g:Rat)(_:ss=[.d (crv fc fm),.d (crv hc hm),.d (qd t),.d (.tup [.str "reached",crv fc fm,crv L g,qd b])])(_:KF fc fm)(_:(KO hc hm/\(∀i,i<↥hc->Sz 68 (vv hc i))))(_:Kps (val fc fm) (val fc fm))(_:Sre (val hc hm) (val hc hm))(_:fm<=hm)(_:0<t)(_:Sz 41 t)(_:0<=b)(_:Sz 83 b)(_:(∀v,0<=v->FZ fc fm hc hm t v<=FZ fc fm hc hm t b))(_:(Crv L g/\Hur (val hc hm) (val L g) b g/\LS 84 300 770 L g/\↥L<=4/\sK fc fm<=g/\sK hc hm<=g/\val fc fm (b+t)<=g*t))(_:R (.d (.bl true)))
inductive Ia (ss:List S)(R:qDa)(U_:qDb):Prop
 |k (fc:Cs)(fm:Rat)(hc:Cs)(hm t:Rat)(_:ss=[.d (crv fc fm),.d (crv hc hm),.d (qd t)])(_:KF fc fm)(_:(KO hc hm/\(∀i,i<↥hc->Sz 68 (vv hc i))))(_:0<t)(_:Sz 41 t)(_:R (.d (.bl true)))
abbrev Yz:Sp3:=Oy
inductive J1 (ss:List S)(R:qDa)(U_:qDb):Prop
 |k (a b c d:Int)(p q:Rat)(k l:Nat)(_:ss=[.d (tp a b),.d (tp c d)])(_:Wq k a b p)(_:Wq l c d q)(_:k<=200000)(_:l<=200000)(_:R (.d (.bl (decide (p<q)))))
inductive Dz (ss:List S)(R:qDa)(U_:qDb):Prop
 |k (cs:Cs)(m:Rat)(_:ss=[.d (.tup (cs.map cd)),.d (qd m)])(_:0<↥cs)(_:↥cs<=100000)(_:SzC 3200 cs)(_:Up cs)(_:R (.l ((HY cs m).map qd)))
section
variable {P:Program}{w:World}{K:W.Frag}{mg:Str->Option Value}{base:Heap}{f:Addr}{fd:FuncData}{qDj qDk qDl qDm:Addr}(Ap:mg "isinstance"=none)(Nw:mg "int"=none)
variable (Jq:mg "bool"=none)
def Nq:Da P w K mg base "is_whole" HH 1 ["thing"] JT:=by
 refine fq (N:=["thing"]) scN λR U _ hr h=>?_
 obtain⟨a,rfl,q⟩:=h;refine#[_,(AR (PH (LJ .int (vN 0) rfl Ap rfl Nw qCX) (Uj (TC (LJ .bool (vN 0) rfl Ap rfl Jq qCR))))),?_];refine#[trivial,#[trivial,?_]];exact q
variable (D7:qDi P w K mg base 1 "is_whole" ["thing"] JT)(MF:mg "abs"=none)
def PY:Da P w K mg base "divisor" JJ 1 qDc Kq:=by
 refine fq (N:=["one","other","great","small","rest"]) scN λR U Y' hr h=>?_
 obtain⟨a,b,rfl,q⟩:=h;refine#[_,(Ac (AI 2 Y' (La WX rfl MF qCf (a1 (vN 0))))
  (Ac (AI 3 Y' (La WX rfl MF qCf (a1 (vN 1))))
  (Ac (Hy PassesOwn.never (B6 WW (vN 3) Ad) (Ac (AI 4 Y' (Al B8 (vN 2) (vN 3)))
  (Ac (AI 2 Y' (vN 3))
  (Ag (AI 3 Y' (vN 4))))))
  (Ag (DJ (pv 2)))))),?_]
 refine#[λm τ=>∃x y z,τ=[I a,I b,I x,I y,z]/\0<=x/\0<=y/\g x y=g a b/\m=y.toNat,#[_,_,_,_,rfl,?_,?_,YX a b,rfl],?_]
 .exact Qd a
 .exact Qd b
 rintro m τ ⟨x,y,z,rfl,h1,h2,h3,rfl⟩;refine Lk (λc=>?_) (λc=>?_)
 .refine#[c,(x.fmod y).toNat,?_,_,_,_,rfl,h2,?_,?_,rfl]
  .have:=qB8 x (show 0<y from ());omega
  .exact qCc x ()
  .rw[<-h3,qCD x h2];exact UT ()
 .subst c;rw[Yl h1]at h3;subst h3;exact q
variable (GW:qDi P w K mg base 1 "divisor" qDc Kq)
def UA:Da P w K mg base "ratio" NN 2 ["top","bottom"] O0:=by
 refine fq (N:=["top","bottom","common"]) scN λR U Y' hr h=>?_
 obtain⟨a,b,rfl,hb,h1,h2,q⟩:=h;refine#[_,(Im (Bq (PW3.pt (Ji (w_not (AN (Ak hr D7 (a1 (vN 0))))) (Fg (w_not (AN (Ak hr D7 (a1 (vN 1)))))))) (Ag QH) Ah)
  (Ac (Bq (B6 Gy (vN 1) Ad) (Ag QH) Ah)
  (Ac (AI 2 Y' (Ak hr GW (a2 (vN 0) (vN 1))))
  (BJ (Bq (B6 J5 (vN 1) Ad) (Ag (AI 2 Y' (EM (vN 2)))) Ah)
  (AR (Bb (a2 (Al BU (vN 0) (vN 2)) (Al BU (vN 1) (vN 2))))))))),?_]
 have hp:=Jl (a:=a) hb;have hc:=O6 (a:=a) hb;refine#[#[a,rfl,#[b,rfl,rfl]],?_];refine BH (λe=>absurd e hb) (λ_=>?_);refine#[a,b,rfl,?_];refine#[λτ=>τ=[I a,I b,I (cm a b)],?_,?_]
 .refine BH (λe=>?_) (λe=>?_)
  .have e':cm a b=-(g a b):=qC6 e;rw[e'];rfl
  .have e':cm a b=g a b:=qC5 e;rw[e'];rfl
 rintro τ rfl;refine#[#[hc,X4 h1],#[hc,X4 h2],(by show 2<=1000;decide),?_];show R (.d (.tup [.int (a.fdiv (cm a b)),.int (b.fdiv (cm a b))]));rw[hp.1,hp.2];exact q
variable (Bn:qDi P w K mg base 2 "ratio" ["top","bottom"] O0)
def VC:Da P w K mg base "plus" QI 3 qDc RZ:=by
 refine fq (N:=["one","other"]) scN λR U _ hr h=>?_
 obtain⟨q1,q2,k,l,rfl,h1,h2,hk,q⟩:=h;refine#[_,(AR (Ak hr Bn (a2 (Al Be (Al AD (vK 0) (vK 1)) (Al AD (vK 1) (vK 0))) (Al AD (vK 0) (vK 1))))),?_];have m1:=Aq h1.1 (AA h2);have m2:=Aq h2.1 (AA h1);have m3:=Aq (AA h1) (AA h2);rw[qCj l k]at m2;refine#[AE h1.1 (AA h2) (),AE h2.1 (AA h1) (),AE (AA h1) (AA h2) (),_,_,rfl,Pt q1 q2,A6 (Ii m1 m2) (),A6 m3 (),?_];rw[QR q1 q2];exact q
variable (Bw:qDi P w K mg base 3 "plus" qDc RZ)
def SY:Da P w K mg base "minus" Nl 3 qDc OH:=by
 refine fq (N:=["one","other"]) scN λR U _ hr h=>?_
 obtain⟨q1,q2,k,l,rfl,h1,h2,hk,q⟩:=h;refine#[_,(AR (Ak hr Bn (a2 (Al C6 (Al AD (vK 0) (vK 1)) (Al AD (vK 1) (vK 0))) (Al AD (vK 0) (vK 1))))),?_];have m1:=Aq h1.1 (AA h2);have m2:=Aq h2.1 (AA h1);have m3:=Aq (AA h1) (AA h2);rw[qCj l k]at m2;refine#[AE h1.1 (AA h2) (),AE h2.1 (AA h1) (),AE (AA h1) (AA h2) (),_,_,rfl,Pt q1 q2,A6 (GJ m1 m2) (),A6 m3 (),?_];rw[OX q1 q2];exact q
variable (Ar:qDi P w K mg base 3 "minus" qDc OH)
def Ul:Da P w K mg base "times" NB 3 qDc Oi:=by
 refine fq (N:=["one","other"]) scN λR U _ hr h=>?_
 obtain⟨q1,q2,k,l,rfl,h1,h2,hk,q⟩:=h;refine#[_,(AR (Ak hr Bn (a2 (Al AD (vK 0) (vK 1)) (Al AD (vK 0) (vK 1))))),?_];refine#[AE h1.1 h2.1 (),AE (AA h1) (AA h2) (),_,_,rfl,Pt q1 q2,A6 (Aq h1.1 h2.1) (),A6 (Aq (AA h1) (AA h2)) (),?_];rw[OL q1 q2];exact q
variable (Gp:qDi P w K mg base 3 "times" qDc Oi)
def VY:Da P w K mg base "over" Rn 3 qDc Ry:=by
 refine fq (N:=["one","other"]) scN λR U _ hr h=>?_
 obtain⟨q1,q2,k,l,rfl,h1,h2,hk,h0,q⟩:=h;refine#[_,(AR (Ak hr Bn (a2 (Al AD (vK 0) (vK 1)) (Al AD (vK 0) (vK 1))))),?_];refine#[AE h1.1 (AA h2) (),AE (AA h1) h2.1 (),_,_,rfl,Sz.den_ne (k:=0) h0,A6 (Aq h1.1 (AA h2)) (),A6 (Aq (AA h1) h2.1) (),?_];rw[Qp q1 q2 h0];exact q
variable (FV:qDi P w K mg base 3 "over" qDc Ry)
def L8:Ae ["one","other"] ["one","other"] (Aa Jp):=scN
def Uq:Da P w K mg base "under" Jp 1 qDc IT:=by
 refine fq L8 λR U _ hr h=>?_
 obtain⟨q1,q2,k,l,rfl,h1,h2,hk,q⟩:=h;refine#[_,(AR (HC J5 (Al AD (vK 0) (vK 1)) (Al AD (vK 1) (vK 0)) (DF _))),?_];refine#[AE h1.1 (AA h2) (),AE h2.1 (AA h1) (),?_];have e:decide (q1.num*(q2.den:Int)<q2.num*(q1.den:Int))=decide (q1<q2):=decide_eq_decide.mpr (lt_iff q1 q2);show R (.d (.bl (decide (q1.num*(q2.den:Int)<q2.num*(q1.den:Int)))));rw[e];exact q
variable (Aj:qDi P w K mg base 1 "under" qDc IT)
def Nv:Da P w K mg base "under" Jp 1 qDc J1:=by
 refine fq L8 λR U _ hr h=>?_
 obtain⟨a,b,c,d,p,q0,k,l,rfl,h1,h2,hk,hl,q⟩:=h;refine#[_,(AR (HC J5 (Al AD (vK 0) (vK 1)) (Al AD (vK 1) (vK 0)) (DF _))),?_];refine#[AE h1.la h2.lb (),AE h2.la h1.lb (),?_];show R (.d (.bl (decide (a*d<c*b))));rw[Zm h1 h2];exact q
variable (AZ:qDi P w K mg base 1 "under" qDc J1)
def PQ:Da P w K mg base "greater" Ju 2 qDc KL:=by
 refine fq (N:=["one","other"]) scN λR U _ hr h=>?_
 obtain⟨q1,q2,k,l,rfl,h1,h2,hk,q⟩:=h;refine#[_,(Ac (Bq (AN (Ak hr Aj (a2 (vN 0) (vN 1)))) (Ag (DJ (pv 1))) Ah)
  (Ag (DJ (pv 0)))),?_]
 refine#[q1,q2,k,l,rfl,h1,h2,(),?_];refine BH (λe=>?_) (λe=>?_)
 .rw[qC6 e]at q;exact q
 .rw[qC5 e]at q;exact q
variable (CB:qDi P w K mg base 2 "greater" qDc KL)
def Ka:Ae ["corners"] ["corners"] (Aa Et):=scN
variable (Az:mg "len"=none)(qC9:GC K mg "NOUGHT" (.tup [(.int 0),(.int 1)]))(qDn:ExC K "NoCurve" qDl)(qDo:mg "NoCurve"=some (.ref qDl))
include Aj Az qC9 qDn qDo in
def Kl (F:Fun K "check_begin" "check_begin" Et f fd):Ao P w K mg base (CXU P w) 2 f fd ["corners"] (Af K mg F5):=by
 refine fnW (λss R U h=>?_) (fnU F Ka (λss R U h=>?_) (λcdv A outer s H E ss R U hr h xo=>?_))
 .obtain⟨x,cs,rfl,hx,hl,hz,q,qu⟩:=h;rcases hx with rfl|rfl<;>exact#[_,cs,rfl,(.inl rfl),hl,hz,q,qu]
 .obtain⟨x,cs,rfl,_⟩:=h.1;rfl
 obtain⟨h,nl_⟩:=h;obtain⟨x,cs,rfl,hx,hl,hz,q,qu⟩:=h;refine#[_,(Ac (Bq (B6 Gy (Cn Az (vN 0)) Ad) (Ag (E3 xo rfl EN rfl qDn qDo)) Ah)
  (Ac (Bq (B6 (Ug 1 (hu_ hr ∅)) (A4 (vK 0) Ad) (Ip rfl qC9)) (Ag (E3 xo rfl EN rfl qDn qDo)) Ah)
  (Ag (Bq (AN (HA xo hr Aj (a2 (A4 (vK 0) Ad) (Ip rfl qC9)))) (Ag (E3 xo rfl EN rfl qDn qDo)) Ah)))),?_]
 obtain rfl:=Kc hx (nl_ _ (by simp));refine BH (λc=>?_) (λc=>?_)
 .exact qu (λz=>by have:=z.1;rw[qAa]at c;omega)
 have c0:0<↥cs:=by rw[qAa]at c;omega
 have a0:=BK (cs:=cs) (i:=0) 0 rfl c0;have z0:=hz 0 c0;refine atR a0 ?_;refine#[rfl,rfl,neT (tt cs 0) 0 (λc=>qu (λz=>c z.2.1)) (λe0=>?_)];refine atR a0 ?_;refine#[_,0,_,_,rfl,z0.2,Sz.zero,∅,?_];refine BH (λc=>qu (λz=>absurd c (qAN.mpr z.2.2))) (λc=>?_);exact q #[c0,e0,qAN.mp c]
variable (Dj:qDi P w K mg base 2 "check_begin" ["corners"] F5)
def Dk:Ae ["corners","number","ahead","corner"] ["corners"] (Aa Fb):=scN
variable (AY:mg "range"=none)
include Aj Az qDn qDo AY in
def Ly (F:Fun K "check_rise" "check_rise" Fb f fd):Ao P w K mg base (CXU P w) 2 f fd ["corners"] (Af K mg G1):=by
 refine fnW (λss R U h=>?_) (fnU F Dk (λss R U h=>?_) (λcdv A outer s H E ss R U hr h xo=>?_))
 .obtain⟨x,cs,rfl,hx,c0,hl,hz,q,qu⟩:=h;rcases hx with rfl|rfl<;>exact#[_,cs,rfl,(.inl rfl),c0,hl,hz,q,qu]
 .obtain⟨x,cs,rfl,_⟩:=h.1;rfl
 obtain⟨h,nl_⟩:=h;obtain⟨x,cs,rfl,hx,c0,hl,hz,q,qu⟩:=h;refine#[_,(Ag (O2 (B3 PassesOwn.leaving rfl (Cz rfl AY (PA3.out (a2 Ad (Cn Az (vN 0))))) (A9 (i:=1) Dk.nd rfl (Or.inl rfl)) (Dp.out (Ac (AI 2 Dk (A4 (vN 0) (Al C6 (vN 1) Ad)))
  (Ac (AI 3 Dk (A4 (vN 0) (vN 1)))
  (Ac (Bq (w_not (AN (HA xo hr Aj (a2 (vK 2) (vK 3))))) (Ag (E3 xo rfl EN rfl qDn qDo)) Ah)
  (Ag (Bq (AN (HA xo hr Aj (a2 (vK 3) (vK 2)))) (Ag (E3 xo rfl EN rfl qDn qDo)) Ah))))))))),?_]
 obtain rfl:=Kc hx (nl_ _ (by simp));refine#[#[∅,∅,by rw[qAa];omega,by rw[qAa];omega],?_];refine#[λn τ=>∃y0 y1 y2,τ=[some (.r (cs.map cd)),y0,y1,y2]/\Ris cs n,#[_,_,_,rfl,λk hk=>absurd hk (qAW k)],?_,?_]
 .rintro n τ hn ⟨y0,y1,y2,rfl,hr⟩;rw[qAa]at hn;have n1:n+1<↥cs:=();have z0:=hz n ();have z1:=hz (n+1) n1;refine atR (BK (cs:=cs) n () ()) ?_;refine atR (BK (cs:=cs) (n+1) () n1) ?_;refine#[_,_,_,_,rfl,z0.1,z1.1,∅,?_];refine Lk (λc=>qu (λz=>c (z n () n1).1)) (λlt=>?_);refine#[_,_,_,_,rfl,z1.2,z0.2,∅,?_];refine BH (λc=>qu (λz=>absurd c (qAN.mpr (z n () n1).2))) (λc=>?_);refine#[_,_,_,rfl,λk hk k1=>?_];by_cases e:k<n
  .exact hr k e k1
  .have e':k=n:=();subst e';exact#[lt,qAN.mp c]
 rintro τ ⟨y0,y1,y2,rfl,hr⟩;rw[qAa,show((↥cs:Int)-1).toNat=↥cs-1 from ()]at hr;exact q (λk hk k1=>hr k () k1)
variable (DD:qDi P w K mg base 2 "check_rise" ["corners"] G1)
def Io:Da P w K mg base "slope_between" Dw 4 qDc EJ:=by
 refine fq (N:=["one","other"]) scN λR U _ hr h=>?_
 obtain⟨a,b,c,d,n,e,f,rfl,hn,ha,hb,hc,hd,he,hf,hs,h0,q⟩:=h;refine#[_,(AR (Ak hr FV (a2 (Ak hr Ar (a2 (vK 1) (vK 0))) (Ak hr Ar (a2 (vK 1) (vK 0)))))),?_];refine#[d,b,n,n,rfl,hd,hb,(),?_];refine#[c,a,n,n,rfl,hc,ha,(),?_];exact#[d-b,c-a,f,e,rfl,hf,he,(),h0,q]
variable (AJ:qDi P w K mg base 4 "slope_between" qDc EJ)
def Cb:Ae ["points","last","slopes"] ["points","last"] (Aa Bv):=scN
include Az AY AJ in
def Iw (F:Fun K "slopes_behind" "slopes_behind" Bv f fd):Ao P w K mg base CX0 5 f fd ["points","last"] (Af K mg EI):=by
 refine fnW (λss R U h=>?_) (fn3 F Cb (λss R U h=>?_) (λ_ _ _ _ _ _ _ R U hr h=>?_))
 .obtain⟨x,cs,m,rfl,hx,c0,hl,hz,df,up,q⟩:=h;rcases hx with rfl|rfl<;>exact#[_,cs,m,rfl,(.inl rfl),c0,hl,hz,df,up,q]
 .obtain⟨x,cs,m,rfl,_⟩:=h.1;rfl
 obtain⟨h,nl_⟩:=h;obtain⟨x,cs,m,rfl,hx,c0,hl,hz,df,up,q⟩:=h;refine#[_,(Ac (Ky (i:=2) (N:=["number","points"]) (idx:=[0]) (Bl.mk' (Aa Bv) ["points","last","slopes"] rfl rfl (by decide +kernel)) rfl (Cz rfl AY (PA3.out (a2 Ad (Cn Az (vN 0))))) GV (λcl C s₀ H₀ fp=>CM) (λcl C s₀ H₀ fp=>(Ak hr AJ (a2 (A4 (vN 1) (Al C6 (vN 0) Ad)) (A4 (vN 1) (vN 0))))) Cb.nd rfl (Or.inl rfl))
  (Ac (EZ (Bx (E6 qAC qAz qAA AV (pv 2) (AM (PE3.out (vN 1)) Br))))
  (Ag (DJ (pv 2))))),?_]
 obtain rfl:=Kc hx (nl_ _ (by simp));refine#[#[∅,∅,by rw[qAa];omega,by rw[qAa];omega],?_];have eN:((((cs.map cd).length:Nat):Int)-1).toNat=↥cs-1:=by rw[qAa];omega
 refine#[(List.range (↥cs-1)).map λi=>some (qd (slp cs m i)),by rw[BZ,eN,qAa,qAx],?_,?_,?_]
 .intro n x hx;obtain⟨hn,rfl⟩:=Fs hx;rw[eN]at hn;have n1:n+1<↥cs:=();have z0:=hz n ();have z1:=hz (n+1) n1;refine atR (BK (cs:=cs) n () ()) ?_;refine atR (BK (cs:=cs) (n+1) () n1) ?_;obtain⟨e,f,he,hf,hs⟩:=df n n1;refine#[tt cs n,vv cs n,tt cs (n+1),vv cs (n+1),6400,e,f,rfl,∅,z0.1,z0.2,z1.1,z1.2,he,hf,hs,Hq (up n n1),?_];show((List.range (↥cs-1)).map _)[n]? = _;rw[qAd,qAJ ()];show some (some (qd (slp cs m n)))=_;rw[Bo n1]
 .rw[BZ,eN];omega
 refine#[?_,?_]
 .have:=qB7 id ((List.range (↥cs-1)).map λi=>some (qd (slp cs m i)));rw[qAa,qAx]at this;omega
 show R (.l (_++[qd m]));rw[OS cs m c0];exact q
variable (Bk:qDi P w K mg base 5 "slopes_behind" ["points","last"] EI)
def Gh:Da P w K mg base "slopes_behind" Bv 5 ["points","last"] Dz:=by
 refine fq Cb λR U _ hr h=>?_
 obtain⟨cs,m,rfl,c0,hl,hz,up,q⟩:=h;refine#[_,(Ac (Ky (i:=2) (N:=["number","points"]) (idx:=[0]) (Bl.mk' (Aa Bv) ["points","last","slopes"] rfl rfl (by decide +kernel)) rfl (Cz rfl AY (PA3.out (a2 Ad (Cn Az (vN 0))))) GV (λcl C s₀ H₀ fp=>CM) (λcl C s₀ H₀ fp=>(Ak hr AJ (a2 (A4 (vN 1) (Al C6 (vN 0) Ad)) (A4 (vN 1) (vN 0))))) Cb.nd rfl (Or.inl rfl))
  (Ac (EZ (Bx (E6 qAC qAz qAA AV (pv 2) (AM (PE3.out (vN 1)) Br))))
  (Ag (DJ (pv 2))))),?_]
 have df:=Df.of hz ∅;refine#[#[∅,∅,by rw[qAa];omega,by rw[qAa];omega],?_];have eN:((((cs.map cd).length:Nat):Int)-1).toNat=↥cs-1:=by rw[qAa];omega
 refine#[(List.range (↥cs-1)).map λi=>some (qd (slp cs m i)),by rw[BZ,eN,qAa,qAx],?_,?_,?_]
 .intro n x hx;obtain⟨hn,rfl⟩:=Fs hx;rw[eN]at hn;have n1:n+1<↥cs:=();have z0:=hz n ();have z1:=hz (n+1) n1;refine atR (BK (cs:=cs) n () ()) ?_;refine atR (BK (cs:=cs) (n+1) () n1) ?_;obtain⟨e,f,he,hf,hs⟩:=df n n1;refine#[tt cs n,vv cs n,tt cs (n+1),vv cs (n+1),3200,e,f,rfl,∅,z0.1,z0.2,z1.1,z1.2,he,hf,hs,Hq (up n n1),?_];show((List.range (↥cs-1)).map _)[n]? = _;rw[qAd,qAJ ()];show some (some (qd (slp cs m n)))=_;rw[Bo n1]
 .rw[BZ,eN];omega
 refine#[?_,?_]
 .have:=qB7 id ((List.range (↥cs-1)).map λi=>some (qd (slp cs m i)));rw[qAa,qAx]at this;omega
 show R (.l (_++[qd m]));rw[OS cs m c0];exact q
variable (Am:qDi P w K mg base 5 "slopes_behind" ["points","last"] Dz)
def ID:Ae ["corners","last","slopes","kept","number"] ["corners","last"] (Aa Nx):=scN
variable (BF:mg "tuple"=none)
include Aj Az qC9 qDn qDo Dj AY DD Bk BF in
def T7 (F:Fun K "curve" "curve" Nx f fd):Ao P w K mg base (CXU P w) 6 f fd ["corners","last"] (Af K mg Ot):=by
 refine fnW (λss R U h=>?_) (fnU F ID (λss R U h=>?_) (λcdv A outer s H E ss R U hr h xo=>?_))
 .obtain⟨x,cs,m,rfl,hx,hz,q,qu⟩:=h;rcases hx with rfl|rfl<;>exact#[_,cs,m,rfl,(.inl rfl),hz,q,qu]
 .obtain⟨x,cs,m,rfl,_⟩:=h.1;rfl
 obtain⟨h,nl_⟩:=h;obtain⟨x,cs,m,rfl,hx,hz,q,qu⟩:=h;refine#[_,(Ac (OK (HA xo hr Dj (a1 (vN 0))))
  (Ac (OK (HA xo hr DD (a1 (vN 0))))
  (Ac (Bq (AN (HA xo hr Aj (a2 (vN 1) (Ip rfl qC9)))) (Ag (E3 xo rfl EN rfl qDn qDo)) Ah)
  (Ac (AI 2 ID (HA xo hr Bk (a2 (vN 0) (vN 1))))
  (Ac (AI 3 ID (Gn (a1 (vK 0))))
  (Ac (O2 (B3 PassesOwn.leaving rfl (Cz rfl AY (PA3.out (a2 Ad (Cn Az (vN 0))))) (A9 (i:=4) ID.nd rfl (Or.inl rfl)) (Dp.out (Ag (Bq (B6 (Ug 1 (hu_ hr ∅)) (A4 (vN 2) (vN 4)) (A4 (vN 2) (Al C6 (vN 4) Ad))) (Ag (EZ (Bx (E6 qAC qAz qAA AV (pv 3) (AM (PE3.out (A4 (vN 0) (vN 4))) Br))))) Ah)))))
  (AR (Bb (a2 (RS (vN 3) rfl BF) (vN 1)))))))))),?_]
 obtain rfl:=Kc hx (nl_ _ (by simp));have hl:=hz.len;refine#[_,cs,rfl,Or.inl rfl,hl,hz.cs,λhb=>?_,λnb=>qu (λz=>nb #[z.1.ne,z.1.t0,z.1.v0])];refine#[_,cs,rfl,Or.inl rfl,hb.1,hl,hz.cs,λhr=>?_,λnr=>qu (λz=>nr (λk _ k1=>#[z.1.up k k1,z.1.vu k k1]))];refine#[m,0,_,_,rfl,hz.m,Sz.zero,∅,?_];refine BH (λc=>qu (λz=>absurd c (qAN.mpr z.2))) (λc=>?_);have hm:0<=m:=qAN.mp c;have c0:=hb.1;have ho:Ord cs:=#[hb.1,hb.2.1,hb.2.2,λk k1=>(hr k () k1).1,λk k1=>(hr k () k1).2];refine#[_,cs,m,rfl,Or.inl rfl,c0,hl,hz.cs,hz.df,ho.up,?_];refine atR (BK (cs:=cs) (i:=0) 0 rfl c0) ?_;refine#[(by show 1<=1000;decide),?_];refine#[#[∅,∅,by rw[qAa];omega,by rw[qAa];omega],?_];refine#[λn τ=>∃y,τ=[some (.r (cs.map cd)),some (.d (qd m)),some (.l ((HY cs m).map qd)),some (.l ((kp cs m n).map cd)),y],#[_,rfl],?_,?_]
 .rintro n τ hn ⟨y,rfl⟩;rw[qAa]at hn;have n1:n+1<↥cs:=();refine atR (NQ (n+1) () n1) ?_;refine atR (NQ n () ()) ?_;refine#[rfl,rfl,neT (slp cs m (n+1)) (slp cs m n) (λc=>?_) (λc=>?_)]
  .refine atR (BK (cs:=cs) (n+1) () n1) ?_;refine#[?_,some (.d (.int (1+n*1))),?_]
   .rw[qAa];have:=Kt cs m n;omega
   .rw[Sm (λz=>c z.symm),qAM];rfl
  .refine#[some (.d (.int (1+n*1))),?_];rw[IW c.symm];rfl
 rintro τ ⟨y,rfl⟩;rw[qAa,show((↥cs:Int)-1).toNat=↥cs-1 from ()];exact#[(by show 2<=1000;decide),q #[ho,hm]]
variable (B5:qDi P w K mg base 6 "curve" ["corners","last"] Ot)
def Vr:Ae ["value","slope"] ["value","slope"] (Aa Qo):=scN
include qC9 B5 in
def WG (F:Fun K "heap" "heap" Qo f fd):Ao P w K mg base (CXU P w) 7 f fd ["value","slope"] (Af K mg Rz):=by
 refine fnU F Vr (λss R U h=>?_) (λcdv A outer s H E ss R U hr h xo=>?_)
 .obtain⟨v,s,rfl,_⟩:=h;rfl
 obtain⟨v,s,rfl,v0,s0,hv,hs,q⟩:=h;refine#[_,(AR (HA xo hr B5 (a2 (Gn (a1 (Bb (a2 (Ip rfl qC9) (vN 0))))) (vN 1)))),?_];refine#[(by show 2<=1000;decide),(by show 1<=1000;decide),?_];exact#[_,[(0,v)],s,rfl,Or.inr rfl,SzK.d (n:=2000) #[(by show 1<=100000;decide),SzC.one ∅ hv,hs] ∅,λ_=>q,λz=>absurd #[Ord.one v0,s0] z]
variable (F6:qDi P w K mg base 7 "heap" ["value","slope"] Rz)
def LY:Ae ["t"] ["t"] (Aa Fj):=scN
variable (qDp:ExC K "NoTime" qDm)(qDq:mg "NoTime"=some (.ref qDm))
include Aj qC9 qDp qDq in
def Lm (F:Fun K "check_time" "check_time" Fj f fd):Ao P w K mg base (CXU P w) 2 f fd ["t"] (Af K mg Hm):=by
 refine fnU F LY (λss R U h=>?_) (λcdv A outer s H E ss R U hr h xo=>?_)
 .obtain⟨t,n,rfl,_⟩:=h;rfl
 obtain⟨t,n,rfl,hn,ht,q,qu⟩:=h;refine#[_,(Ag (Bq (AN (HA xo hr Aj (a2 (vN 0) (Ip rfl qC9)))) (Ag (E3 xo rfl EN rfl qDp qDq)) Ah)),?_];refine#[t,0,_,_,rfl,ht,Sz.zero,(),?_];exact BH (λc=>qu (qA1.mpr c)) (λc=>q (qAN.mp c))
variable (BQ:qDi P w K mg base 2 "check_time" ["t"] Hm)
def BC:Ae ["corners","holds","low","high","middle"] ["corners","holds"] (Aa Ei):=scN
include Az in
def Kh (F:Fun K "count_while" "count_while" Ei f fd):Pl P w K mg base 5 4 f fd ["corners","holds"] F9:=by
 refine cJ (λa dom p ss R U h=>?_) (fnL F BC (λa dom p ss R U h=>?_) (λcdv A outer s H E a dom p ss R U hr hL h=>?_))
 .obtain⟨x,xs,n,rfl,hx,hl,hn,hp,q⟩:=h;rcases hx with rfl|rfl|rfl
  .exact#[_,xs,n,rfl,(.inl rfl),hl,hn,hp,q]
  all_goals exact#[_,xs,n,rfl,(.inr (.inl rfl)),hl,hn,hp,q]
 .obtain⟨x,xs,n,rfl,_⟩:=h.1;rfl
 obtain⟨h,nl_⟩:=h;obtain⟨x,xs,n,rfl,hx,hl,hn,hp,q⟩:=h;refine#[_,(Ac (AI 2 BC Ad)
  (Ac (AI 3 BC (Cn Az (vN 0)))
  (Ac (Hy PassesOwn.never (B6 J5 (vN 2) (vN 3)) (Ac (AI 4 BC (Al BU (Al Be (vN 2) (vN 3)) Ad))
  (Ag (Bq (AN (WI hL (hr.mono ∅) (pv 1) (A4 (vN 0) (vN 4)))) (Ag (AI 2 BC (Al Be (vN 4) Ad))) (Ag (AI 3 BC (vN 4)))))))
  (Ag (DJ (pv 2)))))),?_]
 replace hx:=hx.imp_right λz=>Kc z (nl_ _ (by simp));rcases hx with rfl|rfl
 all_goals
  first|refine#[λm τ=>∃(lo hi:Int)(y:Option S),τ=[some (.d (.tup xs)),some (.d (.ref a)),I lo,I hi,y]/\0<=lo/\lo<=n/\(n:Int)<=hi/\hi<=↥xs/\m=(hi-lo).toNat,#[_,_,_,_,rfl,∅,(),(),(),rfl],?_]|refine#[λm τ=>∃(lo hi:Int)(y:Option S),τ=[some (.r xs),some (.d (.ref a)),I lo,I hi,y]/\0<=lo/\lo<=n/\(n:Int)<=hi/\hi<=↥xs/\m=(hi-lo).toNat,#[_,_,_,_,rfl,∅,(),(),(),rfl],?_]
  rintro m τ ⟨lo,hi,y,rfl,h1,h2,h3,h4,rfl⟩;refine BH (λc=>?_) (λc=>?_)
  .have d1:lo<=(lo+hi).fdiv 2/\(lo+hi).fdiv 2<hi:=by
    rw[qBm _ ∅];exact Y9 c
   refine#[#[nz2,EK ∅],?_];generalize (lo+hi).fdiv 2=mid at d1;have m0:0<=mid:=Int.le_trans h1 d1.1;have em:mid=((mid.toNat:Nat):Int):=(Int.toNat_of_nonneg m0).symm;have ml:mid.toNat<↥xs:=eC h1 d1.1 d1.2 h4;have hx:xs[mid.toNat]? = some xs[mid.toNat]:=qAb ml;have b:atI xs mid=some xs[mid.toNat]:=by
    have:=atI_nat ml;rw[<-em]at this;rw[this];exact hx
   obtain⟨dm,ep⟩:=hp _ _ hx;refine#[rfl,?_];refine atR b ?_;refine#[dm,?_];rw[ep];refine BH (λe=>?_) (λe=>?_)
   .exact#[(hi-(mid+1)).toNat,(),_,_,_,rfl,Int.add_nonneg m0 ∅,(),h3,h4,rfl]
   .exact#[(mid-lo).toNat,cK d1.2 d1.1,_,_,_,rfl,h1,h2,(),(),rfl]
  .have e:lo=n:=();subst e;exact q
variable (AH:aG P w K mg base 5 4 "count_while" ["corners","holds"] F9)
def NZ:Ae ["f","t"] ["f","t"] (Aa FH):=scN
include Aj BQ AH in
def Nm (F:Fun K "piece_at" "piece_at" FH f fd){cA cT:Addr}(ht_:W.tabIn K "piece_at"=some (cA,cT))(hn_:rA K "piece_at" f)(hp_:(PyProof.Rows.recsOf P).any (λd=>d.name == "piece_at")=true):Ao P w K mg base (CXU P w) 6 f fd ["f","t"] (Af K mg JH):=by
 refine eK ht_ hn_ F NZ (λss R U h=>?_) (λcdv A outer s H E ss R U ec hr h xo=>?_)
 .obtain⟨cs,m,t,n,rfl,_⟩:=h;rfl
 subst ec;obtain⟨cs,m,t,n,rfl,c0,hl,t0,up,hn,hz,ht,q,qu⟩:=h;refine#[_,(Ac (OK (HA xo hr BQ (a1 (vN 1))))
  (AR (Al C6 (IK (x:="corner") AH (hr.mono ∅) rfl ht_ hp_ rfl (Bl.mk' (Aa FH) ["f","t"] rfl rfl (by decide +kernel) (N:=["corner","t"]) (idx:=[1])) (vK 0) (λcl nm a cdv A outer s H hr=>(TC (Ak hr Aj (a2 (vN 1) (vK 0)))))) Ad))),?_]
 refine#[t,n,rfl,hn,ht,λc'=>?_,λc=>qu c];have h0:tt cs 0<=t:=by rw[t0];exact c'
 refine#[λx=>∃k,k<↥cs/\x=.tup [qd (tt cs k),qd (vv cs k)],λx=>!decide (t<tOf x),?_,?_]
 .rintro x ⟨k,hk,rfl⟩;refine#[t,tt cs k,_,_,rfl,ht,(hz k hk).1,(),?_];show S.d (.bl (!decide (t<tt cs k)))=.d (.bl (!decide (t<tOf (.tup [qd (tt cs k),qd (vv cs k)]))));rw[UP]
 intro a;refine#[_,_,plc cs t ↥cs+1,rfl,Or.inl rfl,by rw[qAa];exact hl,by rw[qAa];exact JP c0 _ (qAg _),λi x hx=>?_,?_]
 .obtain⟨hi,rfl⟩:=DZ hx;refine#[#[i,hi,rfl],?_];show(!decide (t<tOf (.tup [qd (tt cs i),qd (vv cs i)])))=_;rw[UP];exact Vz up h0 hi
 show R (.d (.int (((plc cs t ↥cs+1:Nat):Int)-1)));rw[show(((plc cs t ↥cs+1:Nat):Int)-1)=((plc cs t ↥cs:Nat):Int) from ()];exact q c'
variable (FL:qDi P w K mg base 6 "piece_at" ["f","t"] JH)
def Hs:Da P w K mg base "slope_of_piece" Dc 5 ["f","number"] D4:=by
 refine fq (N:=["f","number","corners"]) scN λR U Y' hr h=>?_
 obtain⟨cs,m,k,rfl,hk,hl,up,hz,df,q⟩:=h;refine#[_,(Ac (AI 2 Y' (vK 0))
  (Ac (Bq (B6 Gy (vN 1) (Al C6 (Cn Az (vN 2)) Ad)) (AR (vK 0)) Ah)
  (AR (Ak hr AJ (a2 (A4 (vN 2) (vN 1)) (A4 (vN 2) (Al Be (vN 1) Ad))))))),?_]
 refine BH (λc=>?_) (λc=>?_)
 .rw[qAa]at c;rw[AF ()]at q;exact q
 rw[qAa]at c;have k1:k+1<↥cs:=();refine atR (QB hk) ?_;refine atR (BK (cs:=cs) (k+1) () k1) ?_;obtain⟨e,f,he,hf,hs⟩:=df k k1;refine#[_,_,_,_,6400,e,f,rfl,∅,(hz k hk).1,(hz k hk).2,(hz _ k1).1,(hz _ k1).2,he,hf,hs,Hq (up k k1),?_];rw[Bo k1]at q;exact q
variable (Cd:qDi P w K mg base 5 "slope_of_piece" ["f","number"] D4)
def Gu:Ae ["f","t","number","corner"] ["f","t"] (Aa HS):=scN
include Bw Ar Gp FL Cd in
def NX (F:Fun K "value_at" "value_at" HS f fd):Ao P w K mg base (CXU P w) 7 f fd ["f","t"] (Af K mg Jb):=by
 refine fnU F Gu (λss R U h=>?_) (λcdv A outer s H E ss R U hr h xo=>?_)
 .obtain⟨cs,m,t,a,b,c,n,rfl,_⟩:=h;rfl
 obtain⟨cs,m,t,a,b,c,n,rfl,o,z,hl,h1,h4,hn,h2,ht,q,qu⟩:=h;refine#[_,(Ac (AI 2 Gu (HA xo hr FL (a2 (vN 0) (vN 1))))
  (Ac (AI 3 Gu (A4 (vK 0) (vN 2)))
  (Ac (Bq (B6 (TQ 1 (hu_ hr ∅)) (vK 3) (vN 1)) (AR (vK 3)) Ah)
  (AR (HA xo hr Bw (a2 (vK 3) (HA xo hr Gp (a2 (HA xo hr Cd (a2 (vN 0) (vN 2))) (HA xo hr Ar (a2 (vN 1) (vK 3))))))))))),?_]
 have c0:=o.ne;have hz:=z.szk o hl (qAg _);refine#[cs,m,t,6000,rfl,c0,hl,o.t0,o.up,∅,hz.cs.mono h1,ht.mono hn,λh=>?_,λh=>qu h];have q':R (.d (qd (vv cs (plc cs t ↥cs)+slp cs m (plc cs t ↥cs)*(t-tt cs (plc cs t ↥cs))))):=q h;have hk:plc cs t ↥cs<↥cs:=JP c0 _ (qAg _);generalize plc cs t ↥cs=k at q' hk;have zk:=hz.cs k hk;have tk:=z.tm k hk;refine atR (QB hk) ?_;refine#[rfl,rfl,eqT (tt cs k) t (λe=>?_) (λe=>?_)]
 .rw[show vv cs k+slp cs m k*(t-tt cs k)=vv cs k by rw[e];grind]at q';exact q'
 refine#[cs,m,k,rfl,hk,hl,o.up,hz.cs.mono (),z.df o h4,?_];refine#[t,tt cs k,n,a,rfl,ht,tk,(),?_];have zs:=(z.ln o k hk).1;refine#[_,_,_,_,rfl,zs,ht.sub tk,(),?_];exact#[_,_,_,_,rfl,zk.2,zs.mul (ht.sub tk),(),q']
variable (A1:qDi P w K mg base 7 "value_at" ["f","t"] Jb)
def GF:Da P w K mg base "steeper_corners" BW 6 ["f"] DO:=by
 refine fq (N:=["f","slopes"]) scN λR U Y' hr h=>?_
 obtain⟨cs,m,a,b,c,rfl,o,z,hs,hl,q⟩:=h;refine#[_,(Ac (AI 1 Y' (Ak hr Am (a2 (vK 0) (vK 0))))
  (AR (Gd (N:=["number","f","slopes"]) (idx:=[0,1]) (Bl.mk' (Aa BW) ["f","slopes"] rfl rfl (by decide +kernel)) rfl (Cz rfl AY (PA3.out (a2 Ad (Cn Az (vN 1))))) GV (λcl C s₀ H₀ fp=>(Ni (AN (Ak hr Aj (a2 (A4 (vN 2) (Al C6 (vN 0) Ad)) (A4 (vN 2) (vN 0))))))) (λcl C s₀ H₀ fp=>(A4 (vK 1) (vN 0)))))),?_]
 have kc:SzK 1800 cs m:=z.szk o () hs;have n0:=o.ne;refine#[cs,m,rfl,o.ne,(),kc.cs.mono ∅,o.up,?_];have eN:((((HY cs m).map qd).length:Nat):Int)=(↥cs:Int):=by rw[qAa,Dh]
 have eT:((((HY cs m).map qd).length:Nat)-1:Int).toNat=↥cs-1:=by rw[eN];omega
 refine#[#[∅,∅,(),()],?_];refine#[(List.range (↥cs-1)).map λn=>if decide (slp cs m n<slp cs m (n+1))=true then some (cd (tt cs (n+1),vv cs (n+1))) else none,?_,?_,?_,?_]
 .rw[BZ,qAa,qAx,eT]
 .intro n x hx;obtain⟨hn,rfl⟩:=Fs hx;rw[eT]at hn;have z1:=(z.ln o n ()).1;have z2:=(z.ln o (n+1) ()).1;refine atR (NQ (cs:=cs) (m:=m) n () ()) ?_;refine atR (NQ (cs:=cs) (m:=m) (n+1) () ()) ?_;refine#[_,_,b,b,rfl,z1,z2,(),?_];have g:((List.range (↥cs-1)).map λn=>if decide (slp cs m n<slp cs m (n+1))=true then some (cd (tt cs (n+1),vv cs (n+1))) else none)[n]? = some (if decide (slp cs m n<slp cs m (n+1))=true then some (cd (tt cs (n+1),vv cs (n+1))) else none):=by
   rw[qAd,qAJ hn];rfl
  refine BH (λc=>?_) (λc=>?_)
  .refine atR (BK (cs:=cs) (n+1) () ()) ?_;rw[qC6 (qC7 c)]at g;exact g
  .rw[qC5 (by simpa using c)]at g;exact g
 .rw[BZ,eT];omega
 rw[M6 (p:=λn=>decide (slp cs m n<slp cs m (n+1))) (f:=λk=>cd (tt cs k,vv cs k))];exact q
variable (B0:qDi P w K mg base 6 "steeper_corners" ["f"] DO)
def GZ:Da P w K mg base "flatter_corners" BY 6 ["f"] DK:=by
 refine fq (N:=["f","slopes"]) scN λR U Y' hr h=>?_
 obtain⟨cs,m,a,b,c,rfl,o,z,hs,hl,q⟩:=h;refine#[_,(Ac (AI 1 Y' (Ak hr Am (a2 (vK 0) (vK 0))))
  (AR (Gd (N:=["number","f","slopes"]) (idx:=[0,1]) (Bl.mk' (Aa BY) ["f","slopes"] rfl rfl (by decide +kernel)) rfl (Cz rfl AY (PA3.out (a2 Ad (Cn Az (vN 1))))) GV (λcl C s₀ H₀ fp=>(Ni (AN (Ak hr Aj (a2 (A4 (vN 2) (vN 0)) (A4 (vN 2) (Al C6 (vN 0) Ad))))))) (λcl C s₀ H₀ fp=>(A4 (vK 1) (vN 0)))))),?_]
 have kc:SzK 1800 cs m:=z.szk o () hs;have n0:=o.ne;refine#[cs,m,rfl,o.ne,(),kc.cs.mono ∅,o.up,?_];have eN:((((HY cs m).map qd).length:Nat):Int)=(↥cs:Int):=by rw[qAa,Dh]
 have eT:((((HY cs m).map qd).length:Nat)-1:Int).toNat=↥cs-1:=by rw[eN];omega
 refine#[#[∅,∅,(),()],?_];refine#[(List.range (↥cs-1)).map λn=>if decide (slp cs m (n+1)<slp cs m n)=true then some (cd (tt cs (n+1),vv cs (n+1))) else none,?_,?_,?_,?_]
 .rw[BZ,qAa,qAx,eT]
 .intro n x hx;obtain⟨hn,rfl⟩:=Fs hx;rw[eT]at hn;have z1:=(z.ln o n ()).1;have z2:=(z.ln o (n+1) ()).1;refine atR (NQ (cs:=cs) (m:=m) (n+1) () ()) ?_;refine atR (NQ (cs:=cs) (m:=m) n () ()) ?_;refine#[_,_,b,b,rfl,z2,z1,(),?_];have g:((List.range (↥cs-1)).map λn=>if decide (slp cs m (n+1)<slp cs m n)=true then some (cd (tt cs (n+1),vv cs (n+1))) else none)[n]? = some (if decide (slp cs m (n+1)<slp cs m n)=true then some (cd (tt cs (n+1),vv cs (n+1))) else none):=by
   rw[qAd,qAJ hn];rfl
  refine BH (λc=>?_) (λc=>?_)
  .refine atR (BK (cs:=cs) (n+1) () ()) ?_;rw[qC6 (qC7 c)]at g;exact g
  .rw[qC5 (by simpa using c)]at g;exact g
 .rw[BZ,eT];omega
 rw[M6 (p:=λn=>decide (slp cs m (n+1)<slp cs m n)) (f:=λk=>cd (tt cs k,vv cs k))];exact q
variable (A3:qDi P w K mg base 6 "flatter_corners" ["f"] DK)(UD:mg "max"=none)
def JY:Da P w K mg base "steep_enough" CT 6 ["f"] Fe:=by
 refine fq (N:=["f"]) scN λR U _ hr h=>?_
 obtain⟨cs,m,rfl,h,q⟩:=h;refine#[_,(AR (Bb (a2 (Al Be (XN rfl (Gd (N:=["slope"]) (idx:=[]) (Bl.mk' (Aa CT) ["f"] rfl rfl (by decide +kernel)) rfl (Bt (PE3.out (Ak hr Am (a2 (vK 0) (vK 0))))) DA (λcl C s₀ H₀ fp=>CM) (λcl C s₀ H₀ fp=>(Al BU (vK 0) (vK 0)))) rfl UD) Ad) Ad))),?_];obtain⟨r,z,lc,_⟩:=h;have o:=r.o;have hz:=z.szk (n:=340) o () ∅;refine#[cs,m,rfl,o.ne,(),hz.cs.mono ∅,o.up,?_];refine#[(HY cs m).map λq=>some (.int (q.num.fdiv (q.den:Int))),by rw[qAa,qAa],λi x hx=>?_,by rw[qAa,Dh];omega,?_]
 .obtain⟨p,hp,rfl⟩:=Cf hx;have d0:=den_pos p;obtain⟨j,hj,rfl⟩:∃j,j<↥cs/\slp cs m j=p:=by
   have:=qAE hp;unfold HY at this;obtain⟨j,hj,e⟩:=qAI.mp this;exact#[j,qAH.mp hj,e]
  refine#[#[(),X4 (A6 (z.ln o j hj).1.1 ∅)],?_];show((HY cs m).map _)[i]? = _;rw[qAd,hp];rfl
 rw[EV (HY cs m) (λq=>D.int (q.num.fdiv (q.den:Int)))];refine#[flo cs m,by unfold flo;rw[qBi];rfl,by unfold flo;rw[qAa,Dh];exact o.ne,λk k1 k2=>?_];refine#[(by show 2<=1000;decide),?_];have q:R (.d (qd ((stp cs m:Int):Rat))):=q;rw[U5 k1 k2]at q;exact q
variable (AK:qDi P w K mg base 6 "steep_enough" ["f"] Fe)
def Nc:Da P w K mg base "outgrows" HG 2 qDd IZ:=by
 refine fq (N:=["f","g"]) scN λR U _ hr h=>?_
 obtain⟨cs,m,ds,k,rfl,zm,zk,q⟩:=h;refine#[_,(AR (Ak hr Aj (a2 (vK 1) (vK 0)))),?_];exact#[k,m,_,_,rfl,zk,zm,∅,q]
variable (BE:qDi P w K mg base 2 "outgrows" qDd IZ)
def Pj:Da P w K mg base "time_of" JV 4 ["point","slope","height"] Kw:=by
 refine fq (N:=["point","slope","height"]) scN λR U _ hr h=>?_
 obtain⟨a,b,s,h,n,p,l,k,rfl,ha,hb,hh,hs,s0,hl,q⟩:=h;refine#[_,(AR (Ak hr Bw (a2 (vK 0) (Ak hr FV (a2 (Ak hr Ar (a2 (vN 2) (vK 0))) (vN 1)))))),?_];refine#[h,b,l,p,rfl,hh,hb,(),?_];refine#[h-b,s,_,k,rfl,hh.sub hb,hs,(),s0,?_];exact#[a,_,n,_,rfl,ha,(hh.sub hb).div hs s0,(),q]
variable (Dx:qDi P w K mg base 4 "time_of" ["point","slope","height"] Kw)
def LV:Da P w K mg base "gap_points" DH 4 ["rows"] G8:=by
 refine fq (N:=["rows"]) scN λR U _ hr h=>?_
 obtain⟨x,cs,m,ds,k,ts,v,rfl,hx,hl,hv,hz,q⟩:=h;refine#[_,(AR (Gd (N:=["row"]) (idx:=[]) (Bl.mk' (Aa DH) ["rows"] rfl rfl (by decide +kernel)) rfl (Bt (PE3.out (vN 0))) DA (λcl C s₀ H₀ fp=>CM) (λcl C s₀ H₀ fp=>(Bb (a2 (vK 0) (Ak hr Ar (a2 (vK 0) (vK 0)))))))),?_];rcases hx with rfl|rfl
 all_goals
  refine#[ts.map λt=>some (.tup [qd t,qd (gap cs m ds k t)]),by rw[qAa,qAa],?_,?_,?_]
  .intro i x hx;obtain⟨t,et,rfl⟩:=Cf hx;obtain⟨hi,eT⟩:=UN et;have z:=hz i hi;rw[eT]at z;refine#[_,_,_,_,rfl,z.1,z.2,(),?_];refine#[(by show 2<=1000;decide),?_];show(ts.map _)[i]? = _;rw[qAd,et];rfl
  .rw[qAa];omega
  rw[EV ts (λt=>.tup [qd t,qd (gap cs m ds k t)])];have e:(gcs cs m ds k ts).map cd=ts.map (λt=>.tup [qd t,qd (gap cs m ds k t)]):=by
   unfold gcs;rw[qBi];rfl
  rw[e]at q;exact q
variable (Bh:qDi P w K mg base 4 "gap_points" ["rows"] G8)
def IV:Da P w K mg base "corner_times" CQ 2 qDd E9:=by
 refine fq (N:=["f","g","others","told","place","corner"]) scN λR U Y' hr h=>?_
 obtain⟨cs,m,ds,k,n,rfl,oc,od,lc,ld,hn,zc,zd,q⟩:=h;refine#[_,(Ac (Ky (i:=2) (N:=["corner"]) (idx:=[]) (Bl.mk' (Aa CQ) ["f","g","others","told","place","corner"] rfl rfl (by decide +kernel)) rfl (Bt (PE3.out (vK 1))) DA (λcl C s₀ H₀ fp=>CM) (λcl C s₀ H₀ fp=>(vK 0)) Y'.nd rfl (Or.inl rfl))
  (Ac (AI 3 Y' (Gn Nk))
  (Ac (AI 4 Y' Ad)
  (Ac (Ec (B3 PassesOwn.never rfl (Bt (PE3.out (vK 0))) (A9 (i:=5) Y'.nd rfl (Or.inl rfl)) (Dp.out (Ac (Hy PassesOwn.never (PW3.pt (Kd (B6 J5 (vN 4) (Cn Az (vN 2))) (F7 (AN (Ak hr Aj (a2 (A4 (vN 2) (vN 4)) (vK 5))))))) (Ac (EZ (Bx (E6 qAC qAz qAA AV (pv 3) (AM (PE3.out (A4 (vN 2) (vN 4))) Br))))
  (Ag (OD (i:=4) Y'.nd rfl (Or.inl rfl) Ad))))
  (BJ (Bq (PW3.pt (Kd (B6 J5 (vN 4) (Cn Az (vN 2))) (F7 (B6 (TQ 1 (hu_ hr ∅)) (A4 (vN 2) (vN 4)) (vK 5))))) (Ag (OD (i:=4) Y'.nd rfl (Or.inl rfl) Ad)) Ah)
  (Ag (EZ (Bx (E6 qAC qAz qAA AV (pv 3) (AM (PE3.out (vK 5)) Br))))))))))
  (XY 3 (AR (M4 Nr (vN 3) (WU (vN 2) (LB (vN 4)) Yj)))))))),?_]
 refine#[ds.map λc=>some (qd c.1),by rw[qAa,qAa],?_,?_,?_]
 .intro i x hx;obtain⟨c,hc,rfl⟩:=Cf hx;show(ds.map _)[i]? = _;rw[qAd,hc];rfl
 .rw[qAa];omega
 have e0:(ds.map λc=>some (qd c.1)).filterMap id=(rst ds 0).map qd:=by
  rw[EV ds (λc=>qd c.1)];unfold rst;rw[qCW,qBi];rfl
 rw[e0];refine#[(by show 0<=1000;decide),?_];refine#[λn' τ=>∃(p:Nat)(ts:List Rat)(y0 y1 y5:Option S),τ=[some (.d (crv cs m)),some (.d (crv ds k)),some (.l ((rst ds 0).map qd)),some (.l (ts.map qd)),I p,y5]/\Mrg cs ds n' p ts/\p<=↥ds/\(n'<↥cs->∀x∈ts,x<tt cs n'),#[0,[],none,none,none,rfl,Mrg.nil cs ds,qA9 _,λ_ x hx=>by cases hx],?_,?_]
 .rintro n' τ x hx ⟨p,ts,y0,y1,y5,rfl,g,hp,hlt⟩;obtain⟨hi,rfl⟩:=DZ hx;have zi:=(zc n' hi).1;refine#[λmm τ=>∃(p:Nat)(ts:List Rat),τ=[some (.d (crv cs m)),some (.d (crv ds k)),some (.l ((rst ds 0).map qd)),some (.l (ts.map qd)),I p,some (.d (.tup [qd (tt cs n'),qd (vv cs n')]))]/\Mrg cs ds n' p ts/\p<=↥ds/\(n'<↥cs->∀x∈ts,x<tt cs n')/\mm=↥ds-p,#[_,p,ts,rfl,g,hp,hlt,rfl],?_];clear g hp hlt;rintro mm τ ⟨p,ts,rfl,g,hp,hlt,rfl⟩;refine BH (λc=>?_) (λc=>?_)
  .have pl:p<↥ds:=by rw[qAa,DL]at c;omega
   refine atR (KY p rfl pl) ?_;refine#[_,_,_,_,rfl,(zd p pl).1,zi,(),?_];refine BH (λc2=>?_) (λc2=>?_)
   .refine atR (KY p rfl pl) ?_;obtain⟨g2,h2⟩:=g.other od.up pl (hlt hi) c2;refine#[by rw[qAa];have:=g.len;omega,↥ds-(p+1),(),p+1,ts++[tt ds p],by rw[qAM];rfl,g2,pl,λ_=>h2,rfl]
   .have NL:p<↥ds->tt cs n'<=tt ds p:=λ_=>qAN.mp c2;refine#[λτ=>∃(q:Nat)(y0 y1 y5:Option S),τ=[some (.d (crv cs m)),some (.d (crv ds k)),some (.l ((rst ds 0).map qd)),some (.l (ts.map qd)),I q,some (.d (.tup [qd (tt cs n'),qd (vv cs n')]))]/\(q=p\/(q=p+1/\p<↥ds/\tt ds p=tt cs n'))/\q<=↥ds/\∀j,q<=j->j<↥ds->tt cs n'<tt ds j,?_,?_]
    .refine BH (λc'=>?_) (λc'=>?_)
     .have pl:p<↥ds:=by rw[qAa,DL]at c';omega
      refine atR (KY p rfl pl) ?_;refine#[rfl,rfl,eqT (tt ds p) (tt cs n') (λe=>?_) (λe=>?_)]
      .exact#[p+1,none,none,none,rfl,.inr #[rfl,pl,e],pl,λj j1 j2=>by rw[<-e];exact JA od.up () j2]
      .refine#[p,none,none,none,rfl,.inl rfl,(),λj j1 j2=>?_];have lt:tt cs n'<tt ds p:=qCz (NL pl) (λz=>e z.symm);by_cases z:j=p
       .rw[z];exact lt
       .have:=JA od.up (i:=p) (j:=j) () j2;grind
     .have pl:¬p<↥ds:=by rw[qAa,DL]at c';omega
      exact#[p,none,none,none,rfl,.inl rfl,hp,λj j1 j2=>()]
    rintro τ ⟨q',y0,y1,y5,rfl,hq,hq2,hb⟩;have g2:=g.one hq (hlt hi) hb;refine#[by rw[qAa];have:=g.len;omega,q',ts++[tt cs n'],none,none,_,by rw[qAM];rfl,g2,hq2,λc' x hx=>?_];rcases qAo.mp hx with hx|hx
    .have:=hlt hi x hx;have:=oc.up n' c';grind
    .rw[qAG.mp hx];exact oc.up n' c'
  .have NL:p<↥ds->tt cs n'<=tt ds p:=λz=>absurd z (by rw[qAa,DL]at c;omega);refine#[λτ=>∃(q:Nat)(y0 y1 y5:Option S),τ=[some (.d (crv cs m)),some (.d (crv ds k)),some (.l ((rst ds 0).map qd)),some (.l (ts.map qd)),I q,some (.d (.tup [qd (tt cs n'),qd (vv cs n')]))]/\(q=p\/(q=p+1/\p<↥ds/\tt ds p=tt cs n'))/\q<=↥ds/\∀j,q<=j->j<↥ds->tt cs n'<tt ds j,?_,?_]
   .refine BH (λc'=>?_) (λc'=>?_)
    .have pl:p<↥ds:=by rw[qAa,DL]at c';omega
     refine atR (KY p rfl pl) ?_;refine#[rfl,rfl,eqT (tt ds p) (tt cs n') (λe=>?_) (λe=>?_)]
     .exact#[p+1,none,none,none,rfl,.inr #[rfl,pl,e],pl,λj j1 j2=>by rw[<-e];exact JA od.up () j2]
     .refine#[p,none,none,none,rfl,.inl rfl,(),λj j1 j2=>?_];have lt:tt cs n'<tt ds p:=qCz (NL pl) (λz=>e z.symm);by_cases z:j=p
      .rw[z];exact lt
      .have:=JA od.up (i:=p) (j:=j) () j2;grind
    .have pl:¬p<↥ds:=by rw[qAa,DL]at c';omega
     exact#[p,none,none,none,rfl,.inl rfl,hp,λj j1 j2=>()]
   rintro τ ⟨q',y0,y1,y5,rfl,hq,hq2,hb⟩;have g2:=g.one hq (hlt hi) hb;refine#[by rw[qAa];have:=g.len;omega,q',ts++[tt cs n'],none,none,_,by rw[qAM];rfl,g2,hq2,λc' x hx=>?_];rcases qAo.mp hx with hx|hx
   .have:=hlt hi x hx;have:=oc.up n' c';grind
   .rw[qAG.mp hx];exact oc.up n' c'
 rintro τ ⟨p,ts,y0,y1,y5,rfl,g,hp,hlt⟩;rw[qAa]at g;have gl:=g.len;have lr:=DL ds p;have rr:Ij ((rst ds 0).map qd) (some (p:Int)) none=(rst ds p).map qd:=Uu hp;show aE (.lst (ts.map qd)) (.lst (Ij ((rst ds 0).map qd) (some (p:Int)) none)) (λd=>R (.d d));rw[rr];refine#[by rw[qAa,qAa];omega,?_];rw[<-qAM];exact q _ (Xq oc od g hp) (by rw[qAr];omega)
variable (CS:qDi P w K mg base 2 "corner_times" qDd E9)
def Kk:Da P w K mg base "corner_rows" Dn 8 qDd FX:=by
 refine fq (N:=["f","g"]) scN λR U _ hr h=>?_
 obtain⟨cs,m,ds,k,a,b,c,rfl,oc,od,lc,ld,zc,zd,h1,h4,h2,q⟩:=h;refine#[_,(AR (Gd (N:=["t","f","g"]) (idx:=[0,1]) (Bl.mk' (Aa Dn) ["f","g"] rfl rfl (by decide +kernel)) rfl (Bt (PE3.out (Ak hr CS (a2 (vN 0) (vN 1))))) DA (λcl C s₀ H₀ fp=>CM) (λcl C s₀ H₀ fp=>(Bb (Au (vN 0) (a2 (Ak hr A1 (a2 (vN 1) (vN 0))) (Ak hr A1 (a2 (vN 2) (vN 0))))))))),?_];refine#[cs,m,ds,k,6000,rfl,oc,od,lc,ld,∅,(zc.szk oc () h1).cs,(zd.szk od () h1).cs,λts ht hl=>?_];refine#[ts.map λt=>some (rw3 cs m ds k t),by rw[qAa,qAa],?_,?_,?_]
 .intro i x hx;obtain⟨t,et,rfl⟩:=Cf hx;obtain⟨hi,eT⟩:=UN et;have zt:Sz a (T ts i):=by
   rcases ht.of i hi with⟨j,hj,e⟩|⟨j,hj,e⟩
   .rw[e];exact zc.tm j hj
   .rw[e];exact zd.tm j hj
  have t0:=Le ht hi;rw[eT]at zt t0;refine#[cs,m,t,a,b,c,a,rfl,oc,zc,(),h1,h4,(),(),zt,λ_=>?_,λz=>absurd t0 z];refine#[ds,k,t,a,b,c,a,rfl,od,zd,(),h1,h4,(),(),zt,λ_=>?_,λz=>absurd t0 z];refine#[(by show 3<=1000;decide),?_];show(ts.map _)[i]? = _;rw[qAd,et];rfl
 .rw[qAa];omega
 rw[EV ts (rw3 cs m ds k)];exact q ts ht hl
variable (A5:qDi P w K mg base 8 "corner_rows" qDd FX)
def WM:Da P w K mg base "less" Rp 9 qDd RX:=by
 refine fq (N:=["f","g"]) scN λR U _ hr h=>?_
 obtain⟨cs,m,ds,k,a,b,c,aa,bb,cc,A,rfl,r1,r2,z1,z2,hA,hA2,hl0,n1,n2,n3,inc,g0,q⟩:=h;refine#[_,(AR (Ak hr B5 (a2 (Ak hr Bh (a1 (Ak hr A5 (a2 (vN 0) (vN 1))))) (Ak hr Ar (a2 (vK 0) (vK 1)))))),?_];have oc:=r1.o;have od:=r2.o;refine#[cs,m,ds,k,A,b+bb,c+cc,rfl,oc,od,(),(),z1.mono hA () (),z2.mono hA2 () (),(),(),(),λts ht hl=>?_];have tz:∀i,i<↥ts->Sz A (T ts i):=λi hi=>by
  rcases ht.of i hi with⟨j,hj,e⟩|⟨j,hj,e⟩
  .rw[e];exact(z1.tm j hj).mono hA
  .rw[e];exact(z2.tm j hj).mono hA2
 have vz:∀i,i<↥ts->Sz 6000 (val cs m (T ts i))/\Sz 6000 (val ds k (T ts i)):=λi hi=>#[(z1.va (Le ht hi) (tz i hi)).mono (),(z2.va (Le ht hi) (tz i hi)).mono ()];refine#[_,cs,m,ds,k,ts,6000,rfl,Or.inr rfl,(),∅,vz,?_];have gl:=CN (cs:=cs) (m:=m) (ds:=ds) (k:=k) (ts:=ts);have O:=V7 oc od ht inc g0;have m0:=Tu oc od ht inc;have LL:=YM oc od ht O z1 z2 hA hA2;refine#[m,k,_,_,rfl,z1.m oc,z2.m od,(),?_];refine#[_,gcs cs m ds k ts,m-k,rfl,Or.inr rfl,LL.szd O () () (),λ_=>?_,λno=>absurd #[O,m0] no];have kl:=Kt (gcs cs m ds k ts) (m-k) ((gcs cs m ds k ts).length-1);have n0:=O.ne;exact q _ _ (IH O m0) (λt t0=>by rw[(HX O t).1,VR oc od ht O t0]) rfl (LL.kept O) ()
variable (F4:qDi P w K mg base 9 "less" qDd RX)
def Ti:Da P w K mg base "above" NU 9 qDd Oa:=by
 refine fq (N:=["f","g","gaps","gap","slope"]) scN λR U Y' hr h=>?_
 obtain⟨cs,m,ds,k,rfl,zc,zd,q⟩:=h;refine#[_,(Ac (AI 2 Y' (Ak hr Bh (a1 (Ak hr A5 (a2 (vN 0) (vN 1))))))
  (Ac (QS (B3 PassesOwn.never rfl (Bt (pv 2)) (A9 (i:=3) Y'.nd rfl (Or.inl rfl)) (Dp.out (Ag (Bq (AN (Ak hr Aj (a2 (Ip rfl qC9) (vK 3)))) (AR (vK 3)) Ah)))))
  (Ac (AI 4 Y' (Ak hr Ar (a2 (vK 0) (vK 1))))
  (Ac (Bq (AN (Ak hr Aj (a2 (Ip rfl qC9) (vN 4)))) (AR (Ak hr Bw (a2 (Ak hr Dx (Au (A4 (vN 2) (EM Ad)) (a2 (vN 4) (Ip rfl qC9)))) (Bb (a2 Ad Ad))))) Ah)
  (AR LI))))),?_]
 have oc:=zc.1.o;have od:=zd.1.o;have lc:=zc.2.2;have ld:=zd.2.2;refine#[cs,m,ds,k,2412,286,1015,rfl,oc,od,(),(),zc.2.1.mono ∅ ∅ ∅,zd.2.1.mono ∅ ∅ ∅,∅,∅,∅,λts ht hl=>?_];have tz:∀{i:Nat},i<↥ts->Sz 2412 (T ts i):=λ{i} hi=>by
  rcases ht.of i hi with⟨j,hj,e⟩|⟨j,hj,e⟩
  .rw[e];exact(zc.2.1.tm j hj).mono ∅
  .rw[e];exact(zd.2.1.tm j hj).mono ∅
 have vz:∀i,i<↥ts->Sz 3714 (val cs m (T ts i))/\Sz 3714 (val ds k (T ts i)):=λi hi=>
  #[(zc.2.1.va (Le ht hi) (tz hi)).mono ∅,(zd.2.1.va (Le ht hi) (tz hi)).mono ∅]
 have gz:∀i,i<↥ts->Sz 4400 (gap cs m ds k (T ts i)):=λi hi=>(UE zc.2.1 zd.2.1 (Le ht hi) (tz hi)).mono ∅;refine#[_,cs,m,ds,k,ts,3714,rfl,Or.inr rfl,(),∅,vz,?_];have gl:=CN (cs:=cs) (m:=m) (ds:=ds) (k:=k) (ts:=ts);refine#[λi τ=>∃y:Option S,τ=[some (.d (crv cs m)),some (.d (crv ds k)),some (.r ((gcs cs m ds k ts).map cd)),y,none]/\∀j,j<i->gap cs m ds k (T ts j)<=0,#[_,rfl,λj hj=>absurd hj (qAW j)],?_,?_]
 .rintro i τ x hx ⟨y,rfl,hj⟩;obtain⟨hi,rfl⟩:=DZ hx;rw[gl]at hi;obtain⟨e1,e2⟩:=BB (cs:=cs) (m:=m) (ds:=ds) (k:=k) hi;rw[e1,e2];refine#[0,gap cs m ds k (T ts i),_,_,rfl,Sz.zero,gz i hi,∅,?_];refine BH (λc=>?_) (λc=>?_)
  .refine q (some (T ts i)) #[Le ht hi,by unfold gap at c;grind] (λt z=>?_);cases z;exact(tz hi).mono ∅
  .refine#[_,rfl,λj hj2=>?_];by_cases e:j<i
   .exact hj j e
   .have:j=i:=();subst this;exact qAN.mp c
 rintro τ ⟨y,rfl,hj⟩;rw[qAa,gl]at hj;have zm:=zc.2.1.m oc;have zk:=zd.2.1.m od;refine#[m,k,_,_,rfl,zm,zk,∅,?_];refine#[0,m-k,_,_,rfl,Sz.zero,zm.sub zk,∅,?_];have ne:=ht.ne;have hlast:↥ts-1<↥ts:=();refine BH (λc=>?_) (λc=>?_)
 .refine atR (Rx (cs:=gcs cs m ds k ts) 1 ∅ (by rw[gl];exact ne)) ?_;rw[gl];obtain⟨e1,e2⟩:=BB (cs:=cs) (m:=m) (ds:=ds) (k:=k) hlast;rw[e1,e2];have s0:m-k≠0:=λz=>by rw[z]at c;exact absurd c ∅
  refine#[_,_,_,_,_,_,_,_,rfl,tz hlast,gz _ hlast,Sz.zero,zm.sub zk,s0,∅,?_];refine#[(by show 2<=1000;decide),?_];have zz:Sz 2000 (T ts (↥ts-1)+(0-gap cs m ds k (T ts (↥ts-1)))/(m-k)):=by
   have es:sat cs m (T ts (↥ts-1))-sat ds k (T ts (↥ts-1))=m-k:=by
    have:=(HN (m:=m) (k:=k) oc od ht hlast).2;rw[AF (by rw[gl];omega)]at this;exact this.symm
   have zz:=OI (B:=0) zc.2.1 zd.2.1 (Le ht hlast) Sz.zero (by rw[es];exact s0);rw[es]at zz;exact zz.mono ∅
  refine#[_,1,_,1,rfl,zz,#[∅,∅],∅,?_];refine q (some _) (Vq oc od ht (hj _ hlast) c) (λt z=>?_);cases z;exact(zz.add (show Sz 1 1 from #[∅,∅])).mono ∅
 .exact q none (Tw oc od ht hj (qAN.mp c)) (λt z=>nomatch z)
variable (ES:qDi P w K mg base 9 "above" qDd Oa)
def Js:Da P w K mg base "line_through" DY 4 ["point","slope"] Fp:=by
 refine fq (N:=["point","slope","base"]) scN λR U Y' hr h=>?_
 obtain⟨c,m,n,rfl,z1,z2,zm,hn,q⟩:=h;refine#[_,(Ac (AI 2 Y' (Ak hr Ar (a2 (vK 0) (Ak hr Gp (a2 (vN 1) (vK 0))))))
  (AR (Bb (Au (Al AD (vK 1) (vK 2)) (a2 (Al AD (vK 2) (vK 1)) (Al AD (vK 1) (vK 2))))))),?_]
 refine#[m,c.1,n,n,rfl,zm,z1,(),?_];have zt:=zm.mul z1;refine#[c.2,m*c.1,n,n+n,rfl,z2,zt,(),?_];have zb:Sz (n+(n+n)+1) (c.2-m*c.1):=z2.sub zt;exact#[AE zm.1 (AA zb) (),AE zb.1 (AA zm) (),AE (AA zm) (AA zb) (),by show 3<=1000;decide,q]
variable (CZ:qDi P w K mg base 4 "line_through" ["point","slope"] Fp)(Nj:mg "zip"=none)
def Ms:Da P w K mg base "pieces_of" Ep 6 ["f"] HV:=by
 refine fq (N:=["f","slopes"]) scN λR U Y' hr h=>?_
 obtain⟨cs,m,a,b,c,rfl,o,z,hs,hl,q⟩:=h;refine#[_,(Ac (AI 1 Y' (Ak hr Am (a2 (vK 0) (vK 0))))
  (AR (W6 (N:=["corner","slope"]) (idx:=[]) (DX.mk' (Aa Ep) ["f","slopes"] rfl rfl (by decide +kernel)) rfl (U9 rfl Nj (PA3.out (a2 (vK 0) (vN 1)))) (λcl C s₀ H₀ fp=>(Bb (a2 (vK 0) (Ak hr CZ (a2 (vN 0) (vN 1))))))))),?_]
 have kc:SzK 1800 cs m:=z.szk o () hs;refine#[cs,m,rfl,o.ne,(),kc.cs.mono ∅,o.up,?_];refine#[_,_,cs.map cd,(HY cs m).map qd,rfl,rfl,Or.inl rfl,(C5 cs m).map rpD,?_,?_,?_,q]
 .rw[qAa,qAa,qAa,C9,Dh,Nat.min_self]
 .intro n x y hx hy;obtain⟨hn,rfl⟩:=DZ hx;obtain⟨hn2,rfl⟩:=V3 hy;have zl:=z.ln o n hn;refine#[(tt cs n,vv cs n),slp cs m n,1800,rfl,(kc.cs n hn).1,(kc.cs n hn).2,zl.1.mono (),∅,by show 2<=1000;decide,?_];show((C5 cs m).map rpD)[n]? = _;rw[qAd,Fo hn];rfl
 .rw[qAa,C9];omega
variable (DB:qDi P w K mg base 6 "pieces_of" ["f"] HV)
def Mp:Da P w K mg base "corner_of" Gv 3 ["begin","line"] Ik:=by
 refine fq (N:=["begin","line","value"]) scN λR U Y' hr h=>?_
 obtain⟨p,q0,k,m,rfl,w,hk,q⟩:=h;refine#[_,(Ac (AI 2 Y' (Ak hr Bn (a2 (Al Be (Al AD (vK 1) (vK 0)) (Al AD (vK 1) (vK 0))) (Al AD (vK 1) (vK 0)))))
  (AR (Bb (a2 (Ak hr Bn (a2 (vK 0) (vK 0))) (vN 2))))),?_]
 obtain⟨e1,e2⟩:=JE w;have wa:=w.l.at_ w.t;refine#[AE w.l.s.la w.t.la (),AE w.l.c.la w.t.lb (),AE w.l.s.lb w.t.lb (),_,_,rfl,λz=>absurd wa.pos (by rw[z];decide),A6 wa.la (),A6 wa.lb (),?_];refine#[_,_,rfl,λz=>absurd w.t.pos (by rw[z];decide),A6 w.t.la (),A6 w.t.lb (),?_];refine#[by show 2<=1000;decide,?_];rw[e1,e2];exact q
variable (EB:qDi P w K mg base 3 "corner_of" ["begin","line"] Ik)
def Jr:Ae ["pieces","last"] ["pieces"] (Aa FD):=scN
include Bn B5 EB in
def MZ (F:Fun K "curve_of" "curve_of" FD f fd):Ao P w K mg base CX0 7 f fd ["pieces"] (Af K mg IX):=by
 refine fnW (λss R U h=>?_) (fn3 F Jr (λss R U h=>?_) (λ_ _ _ _ _ _ _ R U hr h=>?_))
 .obtain⟨x,ps,P,k,m,rfl,hx,pl,n0,hl,hk,zd,o,m0,q⟩:=h;rcases hx with rfl|rfl<;>exact#[_,ps,P,k,m,rfl,(.inl rfl),pl,n0,hl,hk,zd,o,m0,q]
 .obtain⟨x,ps,P,k,m,rfl,_⟩:=h.1;rfl
 obtain⟨h,nl_⟩:=h;obtain⟨x,ps,P,k,m,rfl,hx,pl,n0,hl,hk,zd,o,m0,q⟩:=h;refine#[_,(Ac (AI 1 Jr (A4 (A4 (vN 0) (EM Ad)) Ad))
  (AR (Ak hr B5 (a2 (Gd (N:=["piece"]) (idx:=[]) (Bl.mk' (Aa FD) ["pieces","last"] rfl rfl (by decide +kernel)) rfl (Bt (PE3.out (vN 0))) DA (λcl C s₀ H₀ fp=>CM) (λcl C s₀ H₀ fp=>(Ak hr EB (a2 (vK 0) (vK 0))))) (Ak hr Bn (a2 (vK 1) (vK 1))))))),?_]
 obtain rfl:=Kc hx (nl_ _ (by simp));have len:=pl.len;have hw:∀i,i<↥ps->PW1 k m (ps.getD i dfR) (bg P i,ln P i):=λi hi=>by
  obtain⟨r,h1,h2⟩:=pl.get (BG hi);obtain⟨e1,e2⟩:=Hi h1;rw[e1,e2];exact h2
 refine atR (U1 (ps:=ps) n0) ?_;refine#[ps.map λp=>some (cd (Rat.divInt p.1.1 p.1.2,Rat.divInt (p.2.1*p.1.1+p.2.2.1*p.1.2) (p.2.2.2*p.1.2))),?_,?_,?_,?_]
 .rw[qAa,qAa]
 .intro i x hx;have hi:i<↥ps:=by have:=(qAe.mp hx).1;rw[qAa]at this;exact this
  rw[qAd,BG hi]at hx;cases hx;refine#[ps.getD i dfR,(bg P i,ln P i),k,m,rfl,hw i hi,(),?_];show(ps.map _)[i]? = _;rw[qAd,BG hi];have ce:=JE (hw i hi);show some (some (cd (Rat.divInt (ps.getD i dfR).1.1 (ps.getD i dfR).1.2,_)))=_;rw[ce.1,ce.2]
 .rw[qAa];omega
 have ef:(ps.map λp=>some (cd (Rat.divInt p.1.1 p.1.2,Rat.divInt (p.2.1*p.1.1+p.2.2.1*p.1.2) (p.2.2.2*p.1.2)))).filterMap id=(Iu P).map cd:=by
  rw[GL (f:=λp:RP=>cd (Rat.divInt p.1.1 p.1.2,Rat.divInt (p.2.1*p.1.1+p.2.2.1*p.1.2) (p.2.2.2*p.1.2)))];refine qCE λi=>?_;by_cases hi:i<↥ps
  .have ce:=JE (hw i hi);unfold Iu;rw[qAd,qAd,qAd,BG hi];have g:=qAb (show i<↥P from ());rw[g];obtain⟨e1,e2⟩:=Hi g;show some (cd (Rat.divInt (ps.getD i dfR).1.1 (ps.getD i dfR).1.2,_))=some (cd (_,_));rw[ce.1,ce.2,e1,e2]
  .rw[qAQ.mpr (by rw[qAa];omega),qAQ.mpr (by rw[qAa,BM];omega)]
 rw[ef];have wl:=hw (↥ps-1) ();have el:Rat.divInt (ps.getD (↥ps-1) dfR).2.1 (ps.getD (↥ps-1) dfR).2.2.2=(ln P (↥P-1)).1:=by
  rw[<-len];exact GA wl.l.s
 refine#[_,_,rfl,λz=>absurd wl.l.s.pos (by rw[z];decide),A6 wl.l.s.la (),A6 wl.l.s.lb (),?_];rw[el];refine#[_,Iu P,(ln P (↥P-1)).1,rfl,Or.inr rfl,zd,λ_=>?_,λz=>absurd #[o,m0] z];rw[BM];exact q
variable (FI:qDi P w K mg base 7 "curve_of" ["pieces"] IX)
def LH:Da P w K mg base "moved_time" Fq 1 ["t","way"] G3:=by
 refine fq (N:=["t","way"]) scN λR U _ hr h=>?_
 obtain⟨a,b,wn,wd,t,w,m,n,rfl,h,hw,hm,hn,q⟩:=h;refine#[_,(AR (Bb (a2 (Al Be (Al AD (vK 0) (vK 1)) (Al AD (vK 1) (vK 0))) (Al AD (vK 0) (vK 1))))),?_];exact#[AE h.la hw.lb (),AE hw.la h.lb (),AE h.lb hw.lb (),by show 2<=1000;decide,q]
variable (DM:qDi P w K mg base 1 "moved_time" ["t","way"] G3)
def Me:Da P w K mg base "moved_line" Ft 1 ["line","point"] Hl:=by
 refine fq (N:=["line","point","way","more","both","base"]) scN λR U Y' hr h=>?_
 obtain⟨l,q0,wn,wd,vn,vd,w,v,k,m,rfl,h,hw,hv,hk,hm,q⟩:=h;refine#[_,(Ac (AI 2 Y' (vK 1))
  (Ac (AI 3 Y' (vK 1))
  (Ac (AI 4 Y' (Al AD (vK 2) (vK 3)))
  (Ac (AI 5 Y' (Al Be (Al C6 (Al AD (vK 0) (vN 4)) (Al AD (Al AD (vK 0) (vK 2)) (vK 3))) (Al AD (Al AD (vK 0) (vK 3)) (vK 2))))
  (AR (Bb (Au (Al AD (vK 0) (vN 4)) (a2 (vN 5) (Al AD (vK 0) (vN 4)))))))))),?_]
 have b:=Aq hw.lb hv.lb;exact#[AE hw.lb hv.lb (),AE h.c.la b (),AE h.s.la hw.la (),AE (Aq h.s.la hw.la) hv.lb (),AE h.s.lb hv.la (),AE (Aq h.s.lb hv.la) hw.lb (),AE h.s.la b (),AE h.s.lb b (),by show 3<=1000;decide,q]
variable (DI:qDi P w K mg base 1 "moved_line" ["line","point"] Hl)
def V2:Ae ["pieces","point"] ["pieces","point"] (Aa N8):=scN
include DM DI in
def Wc (F:Fun K "laid" "laid" N8 f fd):Ao P w K mg base CX0 2 f fd ["pieces","point"] (Af K mg QK):=by
 refine fnW (λss R U h=>?_) (fn3 F V2 (λss R U h=>?_) (λ_ _ _ _ _ _ _ R U hr h=>?_))
 .obtain⟨x,ps,P,wn,wd,vn,vd,w,v,k,m,n,rfl,hx,h,hw,hv,hk,hm,hn,hl,q⟩:=h;rcases hx with rfl|rfl<;>exact#[_,ps,P,wn,wd,vn,vd,w,v,k,m,n,rfl,(.inl rfl),h,hw,hv,hk,hm,hn,hl,q]
 .obtain⟨x,ps,P,wn,wd,vn,vd,w,v,k,m,n,rfl,_⟩:=h.1;rfl
 obtain⟨h,nl_⟩:=h;obtain⟨x,ps,P,wn,wd,vn,vd,w,v,k,m,n,rfl,hx,h,hw,hv,hk,hm,hn,hl,q⟩:=h;refine#[_,(AR (Gd (N:=["piece","point"]) (idx:=[1]) (Bl.mk' (Aa N8) ["pieces","point"] rfl rfl (by decide +kernel)) rfl (Bt (PE3.out (vN 0))) DA (λcl C s₀ H₀ fp=>CM) (λcl C s₀ H₀ fp=>(Bb (a2 (Ak hr DM (a2 (vK 0) (vK 1))) (Ak hr DI (a2 (vK 0) (vN 1)))))))),?_];obtain rfl:=Kc hx (nl_ _ (by simp));refine#[ps.map λp=>some (rpD (mvR wn wd vn vd p)),by rw[qAa,qAa],?_,?_,?_]
 .intro i x hx;rw[qAd]at hx;cases hp:ps[i]? with
  |none=>rw[hp]at hx;cases hx
  |some p=>
   rw[hp]at hx;cases hx;obtain⟨q0,_,w0⟩:=h.get hp;refine#[p.1.1,p.1.2,wn,wd,_,_,m,n,rfl,w0.t,hw,(),(),?_];refine#[p.2,_,wn,wd,vn,vd,_,_,k,n,rfl,w0.l,hw,hv,(),(),?_];refine#[by show 2<=1000;decide,?_];show(ps.map _)[i]? = _;rw[qAd,hp];rfl
 .rw[qAa];exact hl
 rw[GL];rw[qBi]at q;exact q
variable (Mg:qDi P w K mg base 2 "laid" ["pieces","point"] QK)
def Ph:Ae ["pieces"] ["pieces"] (Aa GD):=scN
def PX (F:Fun K "flipped" "flipped" GD f fd):Ao P w K mg base CX0 1 f fd ["pieces"] (Af K mg Kx):=by
 refine fnW (λss R U h=>?_) (fn3 F Ph (λss R U h=>?_) (λ_ _ _ _ _ _ _ R U hr h=>?_))
 .obtain⟨x,ps,rfl,hx,hl,q⟩:=h;rcases hx with rfl|rfl<;>exact#[_,ps,rfl,(.inl rfl),hl,q]
 .obtain⟨x,ps,rfl,_⟩:=h.1;rfl
 obtain⟨h,nl_⟩:=h;obtain⟨x,ps,rfl,hx,hl,q⟩:=h;refine#[_,(AR (Gd (N:=["piece"]) (idx:=[]) (Bl.mk' (Aa GD) ["pieces"] rfl rfl (by decide +kernel)) rfl (Bt (PE3.out (vN 0))) DA (λcl C s₀ H₀ fp=>CM) (λcl C s₀ H₀ fp=>(Bb (a2 (vK 0) (Bb (Au (EM (A4 (vK 0) Ad)) (a2 (EM (A4 (vK 0) Ad)) (A4 (vK 0) Ad))))))))),?_];obtain rfl:=Kc hx (nl_ _ (by simp));refine#[ps.map λp=>some (rpD (flR p)),by rw[qAa,qAa],?_,?_,?_]
 .intro i x hx;rw[qAd]at hx;cases hp:ps[i]? with
  |none=>rw[hp]at hx;cases hx
  |some p=>
   rw[hp]at hx;cases hx;refine#[by show 3<=1000;decide,by show 2<=1000;decide,?_];show(ps.map _)[i]? = _;rw[qAd,hp];rfl
 .rw[qAa];exact hl
 rw[GL];rw[qBi]at q;exact q
variable (Fd:qDi P w K mg base 1 "flipped" ["pieces"] Kx)
def SK:Da P w K mg base "turned" GX 4 ["pieces","far"] MH:=by
 refine fq (N:=["pieces","far","begins","told","first"]) scN λR U Y' hr h=>?_
 obtain⟨cs,m,far,n,rfl,n0,hl,zt,zf,hn,q⟩:=h;refine#[_,(Ac (AI 2 Y' (M4 Nr (Gd (N:=["piece"]) (idx:=[]) (Bl.mk' (Aa GX) ["pieces","far","begins","told","first"] rfl rfl (by decide +kernel)) rfl (Bt (PE3.out (WU (vN 0) (LB Ad) Yj))) DA (λcl C s₀ H₀ fp=>CM) (λcl C s₀ H₀ fp=>(Ak hr Ar (a2 (Ip rfl qC9) (vK 0))))) (Gn (a1 (Ak hr Ar (a2 (Ip rfl qC9) (vN 1)))))))
  (Ac (X8 (i:=3) (N:=["begin","piece"]) (idx:=[]) (DX.mk' (Aa GX) ["pieces","far","begins","told","first"] rfl rfl (by decide +kernel)) rfl (U9 rfl Nj (PA3.out (a2 (vN 2) (vN 0)))) (λcl C s₀ H₀ fp=>(Bb (a2 (vN 0) (Bb (Au (EM (A4 (vK 1) Ad)) (a2 (A4 (vK 1) Ad) (A4 (vK 1) Ad))))))) Y'.nd rfl (Or.inl rfl))
  (Ac (AI 4 Y' (A4 (vK 0) Ad))
  (AR (M4 Nr (Z5 (vN 3) (EM Ad)) (Gn (a1 (Bb (a2 (Ip rfl qC9) (Bb (Au Ad (a2 (vK 4) (vK 4))))))))))))),?_]
 have rl:=C9 (cs:=cs) (m:=m);have ec:Ij ((C5 cs m).map rpD) (some 1) none=((C5 cs m).drop 1).map rpD:=YT (h:=1) ();have gt:∀j,j+1<↥cs->((C5 cs m).drop 1)[j]? = some (qr (tt cs (j+1)),Ow (slp cs m (j+1)) (vv cs (j+1)-slp cs m (j+1)*tt cs (j+1))):=λj hj=>by
  rw[qBE,qCj 1 j,Fo hj]
 refine#[(List.range (↥cs-1)).map λj=>some (qd (0-tt cs (j+1))),?_,?_,?_,?_]
 .show _=(Ij ((C5 cs m).map rpD) (some 1) none).length;rw[ec,qAa,qAa,qAx,qAT,rl]
 .intro j x hx;have hx:(Ij ((C5 cs m).map rpD) (some 1) none)[j]? = some x:=hx;rw[ec]at hx;have hj:j+1<↥cs:=by have:=(qAe.mp hx).1;rw[qAa,qAT,rl]at this;omega
  rw[qAd,gt j hj]at hx;cases hx;refine#[0,tt cs (j+1),1,n,rfl,Sz.zero,zt _ hj,(),?_];show((List.range (↥cs-1)).map _)[j]? = _;rw[qAd,qAJ ()];rfl
 .show(Ij ((C5 cs m).map rpD) (some 1) none).length<=_;rw[ec,qAa,qAT,rl];omega
 have ef:((List.range (↥cs-1)).map λj=>some (qd (0-tt cs (j+1)))).filterMap id=(List.range (↥cs-1)).map λj=>qd (0-tt cs (j+1)):=GL;rw[ef];refine#[0,far,1,n,rfl,Sz.zero,zf,(),?_];refine#[by show 1<=1000;decide,?_];refine#[by rw[qAa,qAx];show ↥cs-1+1<=_;omega,?_];generalize eB:(List.range (↥cs-1)).map (λj=>qd (0-tt cs (j+1)))++[qd (0-far)]=bs;have bl:↥bs=↥cs:=by rw[<-eB];simp;omega
 have bg':∀j,j<↥cs->bs[j]? = some (qd (if j+1<↥cs then 0-tt cs (j+1) else 0-far)):=λj hj=>by
  rw[<-eB];by_cases c:j+1<↥cs
  .rw[qAu (by simp;omega),qAd,qAJ (),qC6 c];rfl
  .rw[qAw (by simp;omega),qC5 c];have:j-((List.range (↥cs-1)).map λj=>qd (0-tt cs (j+1))).length=0:=by simp;omega
   rw[this];rfl
 refine#[_,_,bs,(C5 cs m).map rpD,rfl,rfl,Or.inr rfl,(List.range ↥cs).map (λk=>rpD ((qr (if k+1<↥cs then 0-tt cs (k+1) else 0-far),(-(Ow (slp cs m k) (vv cs k-slp cs m k*tt cs k)).1,(Ow (slp cs m k) (vv cs k-slp cs m k*tt cs k)).2)):RP)),?_,?_,?_,?_]
 .rw[qAa,qAx,qAa,rl,bl,Nat.min_self]
 .intro j x y hx hy;have hj:j<↥cs:=by have:=(qAe.mp hx).1;omega
  rw[bg' j hj]at hx;rw[qAd,Fo hj]at hy;cases hx;cases hy;refine#[by show 3<=1000;decide,by show 2<=1000;decide,?_];show((List.range ↥cs).map _)[j]? = _;rw[qAd,qAJ hj];rfl
 .rw[qAa,qAx];omega
 refine atR (Jg (ps:=C5 cs m) (i:=0) 0 rfl ()) ?_;have e0:(C5 cs m).getD 0 dfR=(qr (tt cs 0),Ow (slp cs m 0) (vv cs 0-slp cs m 0*tt cs 0)):=by
  rw[qAf,Fo n0];rfl
 rw[e0];refine#[_,Or.inl rfl,rfl,?_];refine#[by show 3<=1000;decide,by show 2<=1000;decide,by show 1<=1000;decide,?_];refine#[by rw[qBz,qAa,qAx];show ↥cs+1<=_;omega,?_];have eQ:(trR cs m far).map rpD=((List.range ↥cs).map (λk=>rpD ((qr (if k+1<↥cs then 0-tt cs (k+1) else 0-far),(-(Ow (slp cs m k) (vv cs k-slp cs m k*tt cs k)).1,(Ow (slp cs m k) (vv cs k-slp cs m k*tt cs k)).2)):RP))).reverse++[rpD ((0,1),(0,(Ow (slp cs m 0) (vv cs 0-slp cs m 0*tt cs 0)).2))]:=by
  unfold trR;rw[qAM,List.map_reverse,qBi];rfl
 rw[eQ]at q;exact q
variable (IL:qDi P w K mg base 4 "turned" ["pieces","far"] MH)
def F3:Ae ["pieces","begun"] ["pieces"] (Aa Dr):=scN
include AZ qC9 AH in
def Kf (F:Fun K "from_nought" "from_nought" Dr f fd){cA cT:Addr}(ht_:W.tabIn K "from_nought"=some (cA,cT))(hn_:rA K "from_nought" f)(hp_:(PyProof.Rows.recsOf P).any (λd=>d.name == "from_nought")=true):Ao P w K mg base CX0 6 f fd ["pieces"] (Af K mg F0):=by
 refine ZA ht_ hn_ F F3 (λss R U h=>?_) (λcdv A outer s H E ss R U ec hr h=>?_)
 .obtain⟨ps,P,k,m,c,rfl,_⟩:=h;rfl
 subst ec;obtain⟨ps,P,k,m,c,rfl,pl,hl,hm,c0,c1,b1,b2,q⟩:=h;refine#[_,(Ac (AI 1 F3 (IK (x:="piece") AH (hr.mono ∅) rfl ht_ hp_ rfl (Bl.mk' (Aa Dr) ["pieces","begun"] rfl rfl (by decide +kernel) (N:=["piece"]) (idx:=[])) (vN 0) (λcl nm a cdv A outer s H hr=>(TC (Ak hr AZ (a2 (Ip rfl qC9) (vK 0)))))))
  (AR (M4 Nr (Gn (a1 (Bb (a2 (Ip rfl qC9) (A4 (A4 (vN 0) (Al C6 (vN 1) Ad)) Ad))))) (WU (vN 0) (LB (vN 1)) Yj)))),?_]
 have len:=pl.len;have hw:∀i,i<↥ps->Wq m (ps.getD i dfR).1.1 (ps.getD i dfR).1.2 (bg P i):=λi hi=>(pl.lnw (BG hi)).2.1;refine#[λx=>∃i,i<↥ps/\x=rpD (ps.getD i dfR),λx=>!decide (0<SQ x),?_,?_]
 .rintro x ⟨i,hi,rfl⟩;refine#[_,_,_,_,0,bg P i,1,m,rfl,Wq.of Sz.zero,hw i hi,∅,(),?_];show S.d (.bl (!decide (0<bg P i)))=.d (.bl (!decide (0<SQ (rpD (ps.getD i dfR)))));rw[HF (hw i hi)]
 intro a;refine#[_,ps.map rpD,c,rfl,Or.inr (Or.inr rfl),by rw[qAa];omega,by rw[qAa];omega,λi x hx=>?_,?_]
 .have hi:i<↥ps:=by have:=(qAe.mp hx).1;rw[qAa]at this;exact this
  rw[qAd,BG hi]at hx;cases hx;refine#[#[i,hi,rfl],?_];show(!decide (0<SQ (rpD (ps.getD i dfR))))=_;rw[HF (hw i hi)];by_cases z:i<c
  .have:=b1 i z;rw[qC7 z,qC8 ⋯];rfl
  .have:=b2 i () ();rw[qC8 z,qC7 this];rfl
 refine atR (Jg (ps:=ps) (i:=(c:Int)-1) (c-1) () ()) ?_;refine#[by show 2<=1000;decide,by show 1<=1000;decide,?_];have ec:Ij (ps.map rpD) (some (c:Int)) none=(ps.drop c).map rpD:=YT ();refine#[by rw[ec,qAa,qAT];show 1+_<=_;omega,?_];rw[ec];exact q
variable (CC:qDi P w K mg base 6 "from_nought" ["pieces"] F0)
def Jm:Da P w K mg base "sooner_begin" DU 2 ["one_or_two"] Fl:=by
 refine fq (N:=["one_or_two","first","second"]) scN λR U Y' hr h=>?_
 obtain⟨xs,p,q0,s,t,m,rfl,n0,rfl,rfl,w1,w2,hm,q⟩:=h;refine#[_,(Ac (AI 1 Y' (A4 (vK 0) Ad))
  (Ac (AI 2 Y' (A4 (A4 (vN 0) (EM Ad)) Ad))
  (Ac (Bq (AN (Ak hr AZ (a2 (vN 2) (vN 1)))) (Ag (DJ (pv 2))) Ah)
  (Ag (DJ (pv 1)))))),?_]
 refine atR (Jg (ps:=xs) (i:=0) 0 rfl n0) ?_;refine atR (U1 (ps:=xs) n0) ?_;refine#[_,_,_,_,t,s,m,m,rfl,w2,w1,(),(),?_];refine BH (λc=>?_) (λc=>?_)
 .rw[qC6 c]at q;exact q
 .rw[qC5 c]at q;exact q
variable (CV:qDi P w K mg base 2 "sooner_begin" ["one_or_two"] Fl)
def Ba:Ae ["pieces","others","first","one","other","rows","begin"] ["pieces","others"] (Aa CW):=scN
include AZ Az AH CV in
def Jv (F:Fun K "side_by_side" "side_by_side" CW f fd){cA cT:Addr}(ht_:W.tabIn K "side_by_side"=some (cA,cT))(hn_:rA K "side_by_side" f)(hp_:(PyProof.Rows.recsOf P).any (λd=>d.name == "side_by_side")=true):Ao P w K mg base CX0 6 f fd ["pieces","others"] (Af K mg E5):=by
 refine fnW (λss R U h=>?_) (ZA ht_ hn_ F Ba (λss R U h=>?_) (λcdv A outer s H E ss R U ec hr h=>?_))
 .obtain⟨y,ps,os,P,O,k,m,c,rfl,hy,pl,ol,o0,uP,uO,hm,hl,c0,c1,b1,b2,q⟩:=h;rcases hy with rfl|rfl<;>exact#[_,ps,os,P,O,k,m,c,rfl,(.inl rfl),pl,ol,o0,uP,uO,hm,hl,c0,c1,b1,b2,q]
 .obtain⟨y,ps,os,P,O,k,m,c,rfl,_⟩:=h.1;rfl
 subst ec;obtain⟨h,nl_⟩:=h;obtain⟨y,ps,os,P,O,k,m,c,rfl,hy,pl,ol,o0,uP,uO,hm,hl,c0,c1,b1,b2,q⟩:=h;refine#[_,(Ac (AI 2 Ba (A4 (vK 1) Ad))
  (Ac (AI 3 Ba (Al C6 (IK (x:="piece") AH (hr.mono ∅) rfl ht_ hp_ rfl (Bl.mk' (Aa CW) ["pieces","others","first","one","other","rows","begin"] rfl rfl (by decide +kernel) (N:=["piece","first"]) (idx:=[2])) (vN 0) (λcl nm a cdv A outer s H hr=>(TC (Ak hr AZ (a2 (vN 1) (vK 0)))))) Ad))
  (Ac (AI 4 Ba Ad)
  (Ac (AI 5 Ba (Gn (a1 (Bb (Au (vN 2) (a2 (A4 (A4 (vN 0) (vN 3)) Ad) (A4 (A4 (vN 1) (vN 4)) Ad)))))))
  (Ac (Hy PassesOwn.never (PW3.pt (Ji (B6 J5 (Al Be (vN 3) Ad) (Cn Az (vN 0))) (Fg (B6 J5 (Al Be (vN 4) Ad) (Cn Az (vN 1)))))) (Ac (AI 6 Ba (Ak hr CV (a1 (M4 Nr (WU (vN 0) (LB (Al Be (vN 3) Ad)) (LB (Al Be (vN 3) Ad))) (WU (vN 1) (LB (Al Be (vN 4) Ad)) (LB (Al Be (vN 4) Ad)))))))
  (BJ (Bq (PW3.pt (Kd (B6 J5 (Al Be (vN 3) Ad) (Cn Az (vN 0))) (F7 (w_not (AN (Ak hr AZ (a2 (vN 6) (A4 (A4 (vN 0) (Al Be (vN 3) Ad)) Ad)))))))) (Ag (OD (i:=3) Ba.nd rfl (Or.inl rfl) Ad)) Ah)
  (BJ (Bq (PW3.pt (Kd (B6 J5 (Al Be (vN 4) Ad) (Cn Az (vN 1))) (F7 (w_not (AN (Ak hr AZ (a2 (vN 6) (A4 (A4 (vN 1) (Al Be (vN 4) Ad)) Ad)))))))) (Ag (OD (i:=4) Ba.nd rfl (Or.inl rfl) Ad)) Ah)
  (Ag (EZ (Bx (E6 qAC qAz qAA AV (pv 5) (AM (PE3.out (Bb (Au (vN 6) (a2 (A4 (A4 (vN 0) (vN 3)) Ad) (A4 (A4 (vN 1) (vN 4)) Ad))))) Br)))))))))
  (Ag (DJ (pv 5)))))))),?_]
 have l1:=pl.len;have l2:=ol.len;have wP:∀i,i<↥ps->Wq m (ps.getD i dfR).1.1 (ps.getD i dfR).1.2 (bg P i):=λi hi=>(pl.lnw (BG hi)).2.1;have wO:∀i,i<↥os->Wq m (os.getD i dfR).1.1 (os.getD i dfR).1.2 (bg O i):=λi hi=>(ol.lnw (BG hi)).2.1;obtain rfl:=Kc hy (nl_ _ (by simp));refine atR (Jg (ps:=os) (i:=0) 0 rfl ()) ?_;refine#[λx=>∃i,i<↥ps/\x=rpD (ps.getD i dfR),λx=>!decide (bg O 0<SQ x),?_,?_]
 .rintro x ⟨i,hi,rfl⟩;refine#[_,_,_,_,bg O 0,bg P i,m,m,rfl,wO 0 (),wP i hi,(),(),?_];show S.d (.bl (!decide (bg O 0<bg P i)))=.d (.bl (!decide (bg O 0<SQ (rpD (ps.getD i dfR)))));rw[HF (wP i hi)]
 intro a;refine#[_,ps.map rpD,c,rfl,Or.inr (Or.inl rfl),by rw[qAa];omega,by rw[qAa];omega,λi x hx=>?_,?_]
 .have hi:i<↥ps:=by have:=(qAe.mp hx).1;rw[qAa]at this;exact this
  rw[qAd,BG hi]at hx;cases hx;refine#[#[i,hi,rfl],?_];show(!decide (bg O 0<SQ (rpD (ps.getD i dfR))))=_;rw[HF (wP i hi)];by_cases z:i<c
  .have:=b1 i z;rw[qC7 z,qC8 ⋯];rfl
  .have:=b2 i () ();rw[qC8 z,qC7 this];rfl
 have ec:((c:Int)-1)=((c-1:Nat):Int):=();refine atR (Jg (ps:=ps) (i:=(c:Int)-1) (c-1) ec ()) ?_;refine atR (Jg (ps:=os) (i:=0) 0 rfl ()) ?_;refine#[by show 3<=1000;decide,by show 1<=1000;decide,?_];have s1:QC P O m [((os.getD 0 dfR).1,c-1,0)]:=QC.one (wO 0 ()) () o0 (b1 _ ()) (λz=>b2 _ () z) (λz=>uO 0 z);refine#[λmm τ=>∃(rw0:List R4)(i0 j0:Nat)(y6:Option S),τ=[some (.r (ps.map rpD)),some (.r (os.map rpD)),some (.d (tp (os.getD 0 dfR).1.1 (os.getD 0 dfR).1.2)),I (i0:Int),I (j0:Int),some (.l (rw0.map (Vt ps os))),y6]/\QC P O m rw0/\iF' rw0 (↥rw0-1)=i0/\jF rw0 (↥rw0-1)=j0/\mm=(↥P-i0)+(↥O-j0),#[_,[((os.getD 0 dfR).1,c-1,0)],c-1,0,none,by rw[<-ec];rfl,s1,rfl,rfl,rfl],?_];rintro mm τ ⟨rw0,i0,j0,y6,rfl,sb,ei0,ej0,rfl⟩;have hi0:i0<↥P:=by rw[<-ei0];exact sb.iP _ (by have:=sb.n0;omega)
 have hj0:j0<↥O:=by rw[<-ej0];exact sb.jO _ (by have:=sb.n0;omega)
 refine BH (λc1=>?_) (λc1=>BH (λc2=>?_) (λc2=>?_))
 rotate_left 2
 .rw[qAa]at c1 c2;exact q rw0 sb (by rw[ei0];omega) (by rw[ej0];omega)
 all_goals
  have hc:i0+1<↥P\/j0+1<↥O:=by first|(rw[qAa]at c2;omega)|(rw[qAa]at c1;omega)
  obtain⟨p,q0,s,t,x,tm,x0,hp,hq,w1,w2,et,wx,x1,x2,x3⟩:=cI pl ol (i:=i0) (j:=j0) hc;refine#[by rw[Lo (xs:=ps) (j:=i0) () (),Lo (xs:=os) (j:=j0) () (),qAa,qAa,qAP,qAP];omega,?_];refine#[(ps.drop (i0+1)).take 1++(os.drop (j0+1)).take 1,p,q0,s,t,m,by rw[Lo (xs:=ps) (j:=i0) () (),Lo (xs:=os) (j:=j0) () (),<-qAM];rfl,x0,hp,hq,w1,w2,hm,?_];rw[et];obtain⟨i',ei'⟩:∃i',i'=if i0+1<↥P/\¬x<bg P (i0+1) then i0+1 else i0:=#[_,rfl]
  obtain⟨j',ej'⟩:∃j',j'=if j0+1<↥O/\¬x<bg O (j0+1) then j0+1 else j0:=#[_,rfl]
  refine#[λτ=>τ=[some (.r (ps.map rpD)),some (.r (os.map rpD)),some (.d (tp (os.getD 0 dfR).1.1 (os.getD 0 dfR).1.2)),I (i':Int),I (j0:Int),some (.l (rw0.map (Vt ps os))),some (.d (tp tm.1 tm.2))],?_,?_]
  .refine BH (λc1=>?_) (λc1=>iF ?_)
   .rw[qAa]at c1;refine atR (Jg (ps:=ps) (i0+1) () ()) ?_;refine#[_,_,_,_,x,bg P (i0+1),m,m,rfl,wx,(pl.lnw (BG (show i0+1<↥ps from ()))).2.1,(),(),?_];refine Lk (λc2=>?_) (λc2=>?_)
    .rw[qC6 #[(),c2]]at ei';rw[ei'];rfl
    .rw[qC5 (λz=>z.2 c2)]at ei';rw[ei'];rfl
   .rw[qAa]at c1;rw[qC5 (λz=>c1 ())]at ei';rw[ei'];rfl
  rintro τ rfl;refine#[λτ=>τ=[some (.r (ps.map rpD)),some (.r (os.map rpD)),some (.d (tp (os.getD 0 dfR).1.1 (os.getD 0 dfR).1.2)),I (i':Int),I (j':Int),some (.l (rw0.map (Vt ps os))),some (.d (tp tm.1 tm.2))],?_,?_]
  .refine BH (λc1=>?_) (λc1=>iF ?_)
   .rw[qAa]at c1;refine atR (Jg (ps:=os) (j0+1) () ()) ?_;refine#[_,_,_,_,x,bg O (j0+1),m,m,rfl,wx,(ol.lnw (BG (show j0+1<↥os from ()))).2.1,(),(),?_];refine Lk (λc2=>?_) (λc2=>?_)
    .rw[qC6 #[(),c2]]at ej';rw[ej'];rfl
    .rw[qC5 (λz=>z.2 c2)]at ej';rw[ej'];rfl
   .rw[qAa]at c1;rw[qC5 (λz=>c1 ())]at ej';rw[ej'];rfl
  rintro τ rfl;have st:=sb.step uP uO (tm:=tm) (x:=x) (i':=i') (j':=j') wx (by rw[ei0];exact x1) (by rw[ej0];exact x2) (by rw[ei0,ej0];exact x3) (by rw[ei0];exact ei') (by rw[ej0];exact ej');have hl':(rw0++[(tm,i',j')]).length-1=↥rw0:=by simp
  have ii:=bE (rw:=rw0) (r:=(tm,i',j'));have iP':=st.iP ↥rw0 (by simp);have jO':=st.jO ↥rw0 (by simp);rw[ii.2.1]at iP';rw[ii.2.2.1]at jO';have iP':i'<↥P:=iP';have jO':j'<↥O:=jO';have st':=st.cnt;rw[hl',ii.2.1,ii.2.2.1]at st';have st':(rw0++[(tm,i',j')]).length+iF' (rw0++[(tm,i',j')]) 0<=i'+j'+1+iF' (rw0++[(tm,i',j')]) 0:=st';have dec:i0+j0<i'+j':=by
   rcases x3 with⟨z1,z2⟩|⟨z1,z2⟩
   .rw[qC6 #[z1,by rw[z2];exact qA5]]at ei';split at ej'<;>omega
   .rw[qC6 #[z1,by rw[z2];exact qA5]]at ej';split at ei'<;>omega
  refine atR (Jg (ps:=ps) i' rfl ()) ?_;refine atR (Jg (ps:=os) j' rfl ()) ?_;rw[qAr]at st';have st':↥rw0+1+iF' (rw0++[(tm,i',j')]) 0<=i'+j'+1+iF' (rw0++[(tm,i',j')]) 0:=st';refine#[by show 3<=1000;decide,by rw[qAa];omega,?_];refine#[(↥P-i')+(↥O-j'),(),rw0++[(tm,i',j')],i',j',_,by rw[qAM];rfl,st,by rw[hl'];exact ii.2.1,by rw[hl'];exact ii.2.2.1,rfl]
variable (CY:qDi P w K mg base 6 "side_by_side" ["pieces","others"] E5)
def VO:Da P w K mg base "sign" QX 1 ["number"] R0:=by
 refine fq (N:=["number"]) scN λR U _ hr h=>?_
 obtain⟨a,rfl,q⟩:=h;refine#[_,(Ac (Bq (B6 J5 (vN 0) Ad) (AR (EM Ad)) Ah)
  (Ac (Bq (B6 Vj (vN 0) Ad) (AR Ad) Ah)
  (AR Ad))),?_]
 refine BH (λc=>?_) (λc=>?_)
 .rw[qB0 c]at q;exact q
 refine BH (λc2=>?_) (λc2=>?_)
 .rw[qCb c2]at q;exact q
 .have:a=0:=();subst this;exact q
variable (Jf:qDi P w K mg base 1 "sign" ["number"] R0)
def Xd:Da P w K mg base "side" Rq 2 ["one","other","t"] Ra:=by
 refine fq (N:=["one","other","t"]) scN λR U _ hr h=>?_
 obtain⟨l1,l2,tn,td,q1,q2,t,k,m,rfl,h1,h2,w,hk,hm,q⟩:=h;refine#[_,(AR (Ak hr Jf (a1 (Al C6 (Al AD (Al Be (Al AD (vK 0) (vK 2)) (Al AD (vK 0) (vK 2))) (vK 1)) (Al AD (Al Be (Al AD (vK 1) (vK 2)) (Al AD (vK 1) (vK 2))) (vK 0)))))),?_];have a1:=Ii (Aq h1.s.la w.la) (Aq h1.c.la w.lb);have a2:=Ii (Aq h2.s.la w.la) (Aq h2.c.la w.lb);refine#[AE h1.s.la w.la (),AE h1.c.la w.lb (),AE a1 h2.s.lb (),AE h2.s.la w.la (),AE h2.c.la w.lb (),AE a2 h1.s.lb (),_,rfl,?_];rw[Wf h1 h2 w];exact q
variable (Ox:qDi P w K mg base 2 "side" ["one","other","t"] Ra)
def VS:Da P w K mg base "lean" QF 2 qDc RC:=by
 refine fq (N:=["one","other"]) scN λR U _ hr h=>?_
 obtain⟨l1,l2,q1,q2,k,rfl,h1,h2,hk,q⟩:=h;refine#[_,(AR (Ak hr Jf (a1 (Al C6 (Al AD (vK 0) (vK 1)) (Al AD (vK 1) (vK 0)))))),?_];refine#[AE h1.s.la h2.s.lb (),AE h2.s.la h1.s.lb (),_,rfl,?_];rw[Wh h1 h2];exact q
variable (N5:qDi P w K mg base 2 "lean" qDc RC)
def Mu:Ae ["told","begin","line"] ["told","begin","line"] (Aa Gi):=scN
def Mi (F:Fun K "add_piece" "add_piece" Gi f fd):Ao P w K mg base CX0 1 f fd ["told","begin","line"] (PR K DG):=by
 refine fnM F Mu (λxs ds R h=>?_) (λcdv A outer s H E a xs ds R hr h=>?_)
 .obtain⟨ps,p,rfl,rfl,_⟩:=h;rfl
 obtain⟨ps,p,rfl,rfl,hl,q⟩:=h;refine#[_,(Ag (Bq (PW3.pt (Ji (w_not (ZU (pv 0))) (Fg (B6 (Ug 1 (hu_ hr ∅)) (A4 (A4 (vN 0) (EM Ad)) Ad) (vN 2))))) (Ag (EZ (Bx (E6 qAC qAz qAA AV (pv 0) (AM (PE3.out (Bb (a2 (vN 1) (vN 2)))) Br))))) Ah)),?_];rcases qBr ↥ps with z|z
 .have z:=qAV z;subst z;exact#[by show 2<=1000;decide,∅,_,rfl,q _ (Or.inl #[rfl,λq' h=>by cases h])]
 have hg:ps[↥ps-1]? = some (ps[↥ps-1]' ()):=qAb _;have e:(List.map rpD ps).isEmpty=false:=by
  cases ps with
  |nil=>cases z
  |cons _ _=>rfl
 refine iF ?_ (congrArg (λb=>!(!b)) e);refine atR (Lg hg) ?_;refine#[rfl,rfl,?_];refine dW (λc=>?_) (λc=>?_)
 .have:=q _ (Or.inl #[rfl,λq' h=>by rw[hg]at h;cases h;exact c]);rw[qAM]at this;exact#[by show 2<=1000;decide,by rw[qAa];omega,_,rfl,this]
 .exact#[_,rfl,q _ (Or.inr #[rfl,_,hg,c])]
variable (Cp:Zl P w K mg base 1 "add_piece" ["told","begin","line"] DG)
def Np:Da P w K mg base "crossing" HQ 3 qDc JD:=by
 refine fq (N:=["one","other"]) scN λR U _ hr h=>?_
 obtain⟨l1,l2,q1,q2,k,rfl,h1,h2,hk,ne,q⟩:=h;refine#[_,(AR (Ak hr Bn (a2 (Al C6 (Al AD (vK 1) (vK 0)) (Al AD (vK 0) (vK 1))) (Al C6 (Al AD (vK 0) (vK 1)) (Al AD (vK 1) (vK 0)))))),?_];obtain⟨n,e⟩:=OU h1 h2 ne;refine#[AE h2.c.la h1.s.lb (),AE h1.c.la h2.s.lb (),AE h1.s.la h2.s.lb (),AE h2.s.la h1.s.lb (),_,_,rfl,n,A6 (GJ (Aq h2.c.la h1.s.lb) (Aq h1.c.la h2.s.lb)) (),A6 (GJ (Aq h1.s.la h2.s.lb) (Aq h2.s.la h1.s.lb)) (),?_];rw[e];exact q
variable (Ee:qDi P w K mg base 3 "crossing" qDc JD)
def Ff:Ae ["told","row","now","then","one","other"] ["told","row","now","then"] (Aa Gf):=scN
include Cp Ee in
def MA (F:Fun K "add_lower" "add_lower" Gf f fd):Ao P w K mg base CX0 4 f fd ["told","row","now","then"] (PR K Ic):=by
 refine fnM F Ff (λxs ds R h=>?_) (λcdv A outer s H E a xs ds R hr h=>?_)
 .obtain⟨ps,tm,l1,l2,now,thn,q1,q2,k,rfl,rfl,_⟩:=h;rfl
 obtain⟨ps,tm,l1,l2,now,thn,q1,q2,k,rfl,rfl,h1,h2,hk,hx,hl,q⟩:=h;refine#[_,(Ac (AI 4 Ff (vK 1))
  (Ac (AI 5 Ff (vK 1))
  (BJ (Bq (PW3.pt (Ji (B6 J5 (vN 2) Ad) (Fg (PW3.pt (Kd (B6 Gy (vN 2) Ad) (F7 (B6 J5 (vN 3) Ad))))))) (Ag (J3 Cp (hr.mono ∅) rfl (pv 0) (a2 (vK 1) (vN 4)))) (Ag (J3 Cp (hr.mono ∅) rfl (pv 0) (a2 (vK 1) (vN 5)))))
  (BJ (Bq (PW3.pt (Kd (B6 J5 (vN 2) Ad) (F7 (B6 Vj (vN 3) Ad)))) (Ag (J3 Cp (hr.mono ∅) rfl (pv 0) (a2 (Ak hr Ee (a2 (vN 4) (vN 5))) (vN 5)))) Ah)
  (Ag (Bq (PW3.pt (Kd (B6 Vj (vN 2) Ad) (F7 (B6 J5 (vN 3) Ad)))) (Ag (J3 Cp (hr.mono ∅) rfl (pv 0) (a2 (Ak hr Ee (a2 (vN 4) (vN 5))) (vN 4)))) Ah)))))),?_]
 refine#[λτ=>∃ps1:List RP,τ=[some (.l (ps1.map rpD)),some (.d (.tup [.tup [.int tm.1,.int tm.2],lnD l1,lnD l2])),I now,I thn,some (.d (lnD l1)),some (.d (lnD l2))]/\(if now<0\/(now=0/\thn<0) then MY ps (tm,l1) ps1 else MY ps (tm,l2) ps1),?_,?_]
 .have one:(now<0\/(now=0/\thn<0))->DG (ps.map rpD) [.tup [.int tm.1,.int tm.2],lnD l1] λys=>∃ps1:List RP,[some (.l ys),some (.d (.tup [.tup [.int tm.1,.int tm.2],lnD l1,lnD l2])),I now,I thn,some (.d (lnD l1)),some (.d (lnD l2))]=[some (.l (ps1.map rpD)),some (.d (.tup [.tup [.int tm.1,.int tm.2],lnD l1,lnD l2])),I now,I thn,some (.d (lnD l1)),some (.d (lnD l2))]/\(if now<0\/(now=0/\thn<0) then MY ps (tm,l1) ps1 else MY ps (tm,l2) ps1):=λc=>#[ps,(tm,l1),rfl,rfl,(),λps' a=>#[ps',rfl,by rw[qC6 c];exact a]];have two:¬(now<0\/(now=0/\thn<0))->DG (ps.map rpD) [.tup [.int tm.1,.int tm.2],lnD l2] λys=>∃ps1:List RP,[some (.l ys),some (.d (.tup [.tup [.int tm.1,.int tm.2],lnD l1,lnD l2])),I now,I thn,some (.d (lnD l1)),some (.d (lnD l2))]=[some (.l (ps1.map rpD)),some (.d (.tup [.tup [.int tm.1,.int tm.2],lnD l1,lnD l2])),I now,I thn,some (.d (lnD l1)),some (.d (lnD l2))]/\(if now<0\/(now=0/\thn<0) then MY ps (tm,l1) ps1 else MY ps (tm,l2) ps1):=λc=>#[ps,(tm,l2),rfl,rfl,(),λps' a=>#[ps',rfl,by rw[qC5 c];exact a]];refine BH (λc=>one (.inl c)) (λc=>?_);refine BH (λc2=>?_) (λc2=>two (λz=>z.elim c λz=>c2 z.1));exact BH (λc3=>one (.inr #[c2,c3])) (λc3=>two (λz=>z.elim c λz=>c3 z.2))
 rintro τ ⟨ps1,rfl,a1⟩;have hl1:↥ps1<=↥ps+1:=by split at a1<;>exact a1.len
 refine#[λτ=>∃ps2:List RP,τ=[some (.l (ps2.map rpD)),some (.d (.tup [.tup [.int tm.1,.int tm.2],lnD l1,lnD l2])),I now,I thn,some (.d (lnD l1)),some (.d (lnD l2))]/\(if now<0/\0<thn then MY ps1 (((xg q1 q2).num,((xg q1 q2).den:Int)),l2) ps2 else ps2=ps1),?_,?_]
 .refine BH (λc=>?_) (λc=>#[ps1,rfl,by rw[qC5 (λz=>c z.1)]]);refine BH (λc2=>?_) (λc2=>#[ps1,rfl,by rw[qC5 (λz=>c2 z.2)]]);refine#[l1,l2,q1,q2,k,rfl,h1,h2,hk,hx (.inl #[c,c2]),?_];exact#[ps1,(((xg q1 q2).num,((xg q1 q2).den:Int)),l2),rfl,rfl,(),λps' a=>#[ps',rfl,by rw[qC6 #[c,c2]];exact a]]
 rintro τ ⟨ps2,rfl,a2⟩;have hl2:↥ps2<=↥ps1+1:=by
  split at a2
  .exact a2.len
  .rw[a2];omega
 have fin:∀ps',(if 0<now/\thn<0 then MY ps2 (((xg q1 q2).num,((xg q1 q2).den:Int)),l1) ps' else ps'=ps2)->Tq ps tm l1 l2 now thn (xg q1 q2) ps':=λps' a=>by
  refine#[ps1,a1,?_];by_cases c:now<0/\0<thn
  .rw[qC6 c]at a2 ⊢;rw[qC5 ()]at a;rw[a];exact a2
  .rw[qC5 c]at a2 ⊢;rw[<-a2];exact a
 refine BH (λc=>?_) (λc=>#[_,rfl,q _ (fin _ (by rw[qC5 (λz=>c z.1)]))]);refine BH (λc2=>?_) (λc2=>#[_,rfl,q _ (fin _ (by rw[qC5 (λz=>c2 z.2)]))]);refine#[l1,l2,q1,q2,k,rfl,h1,h2,hk,hx (.inr #[c,c2]),?_];exact#[ps2,(((xg q1 q2).num,((xg q1 q2).den:Int)),l1),rfl,rfl,(),λps' a=>#[_,rfl,q _ (fin _ (by rw[qC6 #[c,c2]];exact a))]]
variable (Es:Zl P w K mg base 4 "add_lower" ["told","row","now","then"] Ic)
def CK:Ae ["pieces","others","begin","told","rows","sides","number","row"] ["pieces","others"] (Aa Fx):=scN
variable (Ci:mg "enumerate"=none)
include AZ AH CY Ox N5 Es Ci in
def Px (F:Fun K "lowered" "lowered" Fx f fd){cA cT:Addr}(ht_:W.tabIn K "lowered"=some (cA,cT))(hn_:rA K "lowered" f)(hp_:(PyProof.Rows.recsOf P).any (λd=>d.name == "lowered")=true):Ao P w K mg base CX0 7 f fd ["pieces","others"] (Af K mg Kp):=by
 refine fnW (λss R U h=>?_) (ZA ht_ hn_ F CK (λss R U h=>?_) (λcdv A outer s H E ss R U ec hr h=>?_))
 .obtain⟨y,ps,os,P,O,B,S0,G,V,k,m,h,g,rfl,hy,⟨rP,p0,ol,pO,o0,sO,gO,ux,hkm,hm,hb,hj,hl,hn0⟩,q⟩:=h;rcases hy with rfl|rfl<;>exact#[_,ps,os,P,O,B,S0,G,V,k,m,h,g,rfl,(.inl rfl),#[rP,p0,ol,pO,o0,sO,gO,ux,hkm,hm,hb,hj,hl,hn0],q]
 .obtain⟨y,ps,os,P,O,B,S0,G,V,k,m,h,g,rfl,_⟩:=h.1;rfl
 subst ec;obtain⟨h,nl_⟩:=h;obtain⟨y,ps,os,P,O,B,S0,G,V,k,m,h,g,rfl,hy,⟨rP,p0,ol,pO,o0,sO,gO,ux,hkm,hm,hb,hj,hl,hn0⟩,q⟩:=h;refine#[_,(Ac (AI 2 CK (A4 (vK 1) Ad))
  (Ac (AI 3 CK (WU (vN 0) Yj (LB (IK (x:="piece") AH (hr.mono ∅) rfl ht_ hp_ rfl (Bl.mk' (Aa Fx) ["pieces","others","begin","told","rows","sides","number","row"] rfl rfl (by decide +kernel) (N:=["piece","begin"]) (idx:=[2])) (vN 0) (λcl nm a cdv A outer s H hr=>(Ak hr AZ (a2 (vK 0) (vN 1))))))))
  (Ac (AI 4 CK (Ak hr CY (a2 (vN 0) (vN 1))))
  (Ac (Ky (i:=5) (N:=["row"]) (idx:=[]) (Bl.mk' (Aa Fx) ["pieces","others","begin","told","rows","sides","number","row"] rfl rfl (by decide +kernel)) rfl (Bt (PE3.out (vN 4))) DA (λcl C s₀ H₀ fp=>CM) (λcl C s₀ H₀ fp=>(Ak hr Ox (Au (vK 0) (a2 (vK 0) (vK 0))))) CK.nd rfl (Or.inl rfl))
  (Ac (EZ (Bx (E6 qAC qAz qAA AV (pv 5) (AM (PE3.out (Ak hr N5 (a2 (A4 (A4 (vN 4) (EM Ad)) Ad) (A4 (A4 (vN 4) (EM Ad)) Ad)))) Br))))
  (Ac (Vk (B3 PassesOwn.never rfl (Sn rfl Ci (pv 4)) (Qb rfl (FC (A9 (i:=6) CK.nd rfl (Or.inl rfl)) (FC (A9 (i:=7) CK.nd rfl (Or.inl rfl)) Ng))) (Dp.out (Ag (J3 Es (hr.mono ∅) rfl (pv 3) (Au (vN 7) (a2 (A4 (vN 5) (vN 6)) (A4 (vN 5) (Al Be (vN 6) Ad)))))))))
  (Ag (DJ (pv 3))))))))),?_]
 have pl:=rP.pl;have pP:=rP.pu;have uP:=pP.up;have uO:=pO.up;have l1:=pl.len;have l2:=ol.len;have wP:∀i,i<↥ps->Wq m (ps.getD i dfR).1.1 (ps.getD i dfR).1.2 (bg P i):=λi hi=>(pl.lnw (BG hi)).2.1;have wO:∀i,i<↥os->Wq m (os.getD i dfR).1.1 (os.getD i dfR).1.2 (bg O i):=λi hi=>(ol.lnw (BG hi)).2.1;obtain⟨c,cA0,cA1,cA2⟩:=Vg uP (bg O 0);obtain⟨d,d1,dB1,dB2⟩:=Qs uP (bg O 0);have cA3:c<↥P->bg O 0<=bg P c:=λz=>cA2 c (qAg _) z;have d0:0<d:=by
  rcases qBr d with z|z
  .have:=dB2 0 () p0;grind
  .exact z
 have hj0:0<c->h (bg O 0)<=g (bg O 0):=λz=>hj (cA1 0 z);obtain rfl:=Kc hy (nl_ _ (by simp));refine atR (Jg (ps:=os) (i:=0) 0 rfl ()) ?_;refine#[λx=>∃i,i<↥ps/\x=rpD (ps.getD i dfR),λx=>decide (SQ x<bg O 0),?_,?_]
 .rintro x ⟨i,hi,rfl⟩;refine#[_,_,_,_,bg P i,bg O 0,m,m,rfl,wP i hi,wO 0 (),(),(),?_];show S.d (.bl (decide (bg P i<bg O 0)))=.d (.bl (decide (SQ (rpD (ps.getD i dfR))<bg O 0)));rw[HF (wP i hi)]
 intro a;refine#[_,ps.map rpD,c,rfl,Or.inr (Or.inl rfl),by rw[qAa];omega,by rw[qAa];omega,λi x hx=>?_,?_]
 .have hi:i<↥ps:=by have:=(qAe.mp hx).1;rw[qAa]at this;exact this
  rw[qAd,BG hi]at hx;cases hx;refine#[#[i,hi,rfl],?_];show decide (SQ (rpD (ps.getD i dfR))<bg O 0)=_;rw[HF (wP i hi)];refine decide_eq_decide.mpr #[λz=>?_,λz=>cA1 i z];by_cases y:i<c
  .exact y
  .have:=cA2 i () ();grind
 have ec:Ij (ps.map rpD) none (some (c:Int))=(ps.take c).map rpD:=Zq ();refine#[_,ps,os,P,O,k,m,d,rfl,Or.inl rfl,pl,ol,o0,uP,uO,(),(),d0,d1,dB1,dB2,λrw0 sb e1 e2=>?_];have sA:=sb.all e1 e2;have nw:=sb.n0;have cn:=sb.cnt;have iL:=sb.iP (↥rw0-1) ();have jL:=sb.jO (↥rw0-1) ();have lw1:∀n,n<↥rw0->LW k (ps.getD (iF' rw0 n) dfR).2 (ln P (iF' rw0 n)):=λn hn=>(pl.lnw (BG (by have:=sb.iP n hn;omega))).1;have lw2:∀n,n<↥rw0->LW k (os.getD (jF rw0 n) dfR).2 (ln O (jF rw0 n)):=λn hn=>(ol.lnw (BG (by have:=sb.jO n hn;omega))).1;refine#[(List.range ↥rw0).map λn=>some (D.int (sg (ev (ln P (iF' rw0 n)) (aF rw0 n)-ev (ln O (jF rw0 n)) (aF rw0 n)))),?_,?_,?_,?_]
 .rw[qAa,qAa,qAx]
 .intro n x hx;have hn:n<↥rw0:=by have:=(qAe.mp hx).1;rw[qAa]at this;exact this
  rw[qAd,WD hn]at hx;cases hx;refine#[_,_,_,_,_,_,aF rw0 n,k,m,rfl,lw1 n hn,lw2 n hn,sb.w n hn,(),(),?_];show((List.range ↥rw0).map _)[n]? = _;rw[qAd,qAJ hn];rfl
 .rw[qAa];omega
 have ef:((List.range ↥rw0).map λn=>some (D.int (sg (ev (ln P (iF' rw0 n)) (aF rw0 n)-ev (ln O (jF rw0 n)) (aF rw0 n))))).filterMap id=(List.range ↥rw0).map λn=>D.int (sg (ev (ln P (iF' rw0 n)) (aF rw0 n)-ev (ln O (jF rw0 n)) (aF rw0 n))):=GL;rw[ef];have eL:atI (rw0.map (Vt ps os)) (-1)=some (Vt ps os (tmF rw0 (↥rw0-1),iF' rw0 (↥rw0-1),jF rw0 (↥rw0-1))):=Lg (WD ());refine atR eL ?_;refine atR eL ?_;refine#[_,_,_,_,k,rfl,lw1 _ (),lw2 _ (),(),?_];refine#[by rw[qAa,qAx];omega,?_];generalize eS:(List.range ↥rw0).map (λn=>D.int (sg (ev (ln P (iF' rw0 n)) (aF rw0 n)-ev (ln O (jF rw0 n)) (aF rw0 n))))++[D.int (sg ((ln P (iF' rw0 (↥rw0-1))).1-(ln O (jF rw0 (↥rw0-1))).1))]=sd;have sl:↥sd=↥rw0+1:=by rw[<-eS];simp
 have sNow:∀n,n<↥rw0->atI sd (n:Int)=some (D.int (sg (ev (ln P (iF' rw0 n)) (aF rw0 n)-ev (ln O (jF rw0 n)) (aF rw0 n)))):=λn hn=>by
  rw[CH.atI_nat (),<-eS,qAu (by simp;exact hn),qAd,qAJ hn];rfl
 have sThn:∀n,n<↥rw0->atI sd ((n:Int)+1)=some (D.int (sg (D0 (ln P (iF' rw0 n)) (ln O (jF rw0 n)) (TmN ↥rw0 (aF rw0) (n+1))))):=λn hn=>by
  by_cases z:n+1<↥rw0
  .rw[sA.thn pP pO z,show(n:Int)+1=((n+1:Nat):Int) from ()];exact sNow (n+1) z
  .have en:n=↥rw0-1:=();rw[show(n:Int)+1=((↥rw0:Nat):Int) from (),CH.atI_nat (),<-eS,qAw (by simp),en];have e9:TmN ↥rw0 (aF rw0) (↥rw0-1+1)=none:=qC5 ();rw[e9];simp;rfl
 refine#[λn τ=>∃(qs:List RP)(Q:Ps)(y6 y7:Option S),τ=[some (.r (ps.map rpD)),some (.r (os.map rpD)),some (.d (tp (os.getD 0 dfR).1.1 (os.getD 0 dfR).1.2)),some (.l (qs.map rpD)),some (.r (rw0.map (Vt ps os))),some (.l sd),y6,y7]/\WB B S0 G V k m ps os P O h g ↥rw0 (aF rw0) (iF' rw0) (jF rw0) n qs Q/\(n=0->qs=ps.take c),#[ps.take c,P.take c,none,none,by rw[<-ec];rfl,WB.zero rP sA cA0 cA1 cA3 hj0,λ_=>rfl],?_,?_]
 .rintro n τ x hx ⟨qs,Q,y6,y7,rfl,li,z0⟩;have hn:n<↥rw0:=by have:=(qAe.mp hx).1;rw[qAa]at this;exact this
  rw[qAd,WD hn]at hx;cases hx;have ql:↥qs<=90000:=by
   have q1:=li.r.cn.len;have q2:=li.r.pl.len;rw[qAr]at q1;have q3:(VG O).length=↥O:=qAa _;rw[q3]at q1;omega
  refine atR (sNow n hn) ?_;refine atR (sThn n hn) ?_;refine#[qs,tmF rw0 n,(ps.getD (iF' rw0 n) dfR).2,(os.getD (jF rw0 n) dfR).2,_,_,ln P (iF' rw0 n),ln O (jF rw0 n),k,rfl,rfl,lw1 n hn,lw2 n hn,(),λz=>?_,(),λqs' ad=>?_]
  .rcases z with⟨z1,z2⟩|⟨z1,z2⟩
   .exact(Ja (T:=TmN ↥rw0 (aF rw0) (n+1)) (a:=aF rw0 n) (by have:=P6.mp z1;grind) (Pd (sA.lt hn) (QA.mp z2))).1
   .have:=(Ja (l1:=ln O (jF rw0 n)) (l2:=ln P (iF' rw0 n)) (T:=TmN ↥rw0 (aF rw0) (n+1)) (a:=aF rw0 n) (by have:=QA.mp z1;grind) (Pd (sA.lt hn) (by rw[Hx];have:=P6.mp z2;grind))).1;exact Ne.symm this
  obtain⟨Q',li'⟩:=li.step rP ol pO sO gO ux hkm sA hb hn (sb.w n hn) (BG (show iF' rw0 n<↥ps by have:=sb.iP n hn;omega)) (BG (show jF rw0 n<↥os by have:=sb.jO n hn;omega)) ad (λz y=>by
   have t0:=z0 z;rw[y]at t0;have c0':c=0:=by
    have:(ps.take c).length=0:=by rw[<-t0];rfl
    rw[qAP]at this;omega
   have:=cA2 0 () p0;grind)
  exact#[qs',Q',_,_,rfl,li',λz=>absurd z ()]
 rintro τ ⟨qs,Q,y6,y7,rfl,li,_⟩;rw[qAa]at li;have r:=li.r;have e9:TmN ↥rw0 (aF rw0) ↥rw0=none:=qC5 ();rw[e9]at r;have lb:=li.b.2 nw;exact q qs Q r (by rw[<-r.pl.len];exact List.length_pos_iff.mpr lb.1) lb.2
variable (Fi:qDi P w K mg base 7 "lowered" ["pieces","others"] Kp)
def O5:Da P w K mg base "spliced" GO 8 ["f","a","g"] Kv:=by
 refine fq (N:=["f","a","g","value","corners","more","corner"]) scN λR U Y' hr h=>?_
 obtain⟨cs,m,a,k,rfl,h,zv0,a0,za,k0,zk,q⟩:=h;refine#[_,(Ac (AI 3 Y' (Ak hr A1 (a2 (vN 0) (vN 1))))
  (Ac (Ky (i:=4) (N:=["corner","a"]) (idx:=[1]) (Bl.mk' (Aa GO) ["f","a","g","value","corners","more","corner"] rfl rfl (by decide +kernel)) rfl (Bt (PE3.out (vK 0))) DA (λcl C s₀ H₀ fp=>(Ni (AN (Ak hr Aj (a2 (vK 0) (vN 1)))))) (λcl C s₀ H₀ fp=>(vN 0)) Y'.nd rfl (Or.inl rfl))
  (Ac (AI 5 Y' (Ak hr Ar (a2 (vN 3) (A4 (A4 (vK 2) Ad) Ad))))
  (Ac (Ec (B3 PassesOwn.never rfl (Bt (PE3.out (vK 2))) (A9 (i:=6) Y'.nd rfl (Or.inl rfl)) (Dp.out (Ag (EZ (Bx (E6 qAC qAz qAA AV (pv 4) (AM (PE3.out (Bb (a2 (Ak hr Bw (a2 (vN 1) (vK 6))) (Ak hr Bw (a2 (vN 5) (vK 6)))))) Br))))))))
  (AR (Ak hr B5 (a2 (vN 4) (vK 2)))))))),?_]
 have r:=h.1;have oc:=r.o;have lc:=h.2.2.1;have z:=h.2.1;have zc:SzC 68 cs:=λi hi=>#[(z.tm i hi).mono ∅,zv0 i hi];have od:Ord [((0:Rat),(0:Rat))]:=Ord.one qAc;have zd:SzC 1 [((0:Rat),(0:Rat))]:=SzC.one ∅ Sz.zero;have n0:0 < [((0:Rat),(0:Rat))].length:=by show 0<1;decide
 have ld:[((0:Rat),(0:Rat))].length=1:=rfl;refine#[cs,m,a,41,94,204,84,rfl,oc,z,(),∅,∅,∅,∅,za,λ_=>?_,λy=>absurd a0 y];have zv:Sz 383 (val cs m a):=(z.va a0 za).mono ∅;generalize eds:[((0:Rat),(0:Rat))]=ds at od zd n0 ld ⊢;refine#[cs.map λc=>if c.1<a then some (cd c) else none,by rw[qAa,qAa],?_,?_,?_]
 .intro i x hx;obtain⟨c,hc,rfl⟩:=Cf hx;have ci:=(qAe.mp hc);have zi:=(zc i ci.1).1;rw[(Bs ci.1).1,ci.2]at zi;refine#[c.1,a,_,_,rfl,zi,za,∅,?_];refine BH (λe=>?_) (λe=>?_)
  .show(cs.map _)[i]? = _;rw[qAd,hc];show some (if c.1<a then some (cd c) else none)=_;rw[qC6 e]
  .show(cs.map _)[i]? = _;rw[qAd,hc];show some (if c.1<a then some (cd c) else none)=_;rw[qC5 e]
 .rw[qAa];omega
 rw[Qg];obtain⟨j,sp⟩:=Y6 (ds:=ds) (m:=m) (a:=a) oc.up;have zh:Sz 1603 (val cs m a-vv ds 0):=(zv.sub (zd 0 n0).2).mono ∅;have sl:=sp.len;have sj:=sp.jl;have fl:(cs.filter (λc=>decide (c.1<a))).length<=↥cs:=qA7 _ _;generalize cs.filter (λc=>decide (c.1<a))=F at sp sl fl ⊢;refine atR (BK (cs:=ds) (i:=0) 0 rfl n0) ?_;refine#[val cs m a,vv ds 0,_,_,rfl,zv,(zd 0 n0).2,∅,?_];refine#[λn τ=>∃y:Option S,τ=[some (.d (crv cs m)),some (.d (qd a)),some (.d (crv ds k)),some (.d (qd (val cs m a))),some (.l ((F++(mvd a (val cs m a-vv ds 0) ds).take n).map cd)),some (.d (qd (val cs m a-vv ds 0))),y],#[none,by rw[qCu,qA2];rfl],?_,?_]
 .rintro n τ x hx ⟨y,rfl⟩;obtain⟨hn,rfl⟩:=DZ hx;refine#[a,tt ds n,_,_,rfl,za,(zd n hn).1,∅,?_];refine#[val cs m a-vv ds 0,vv ds n,_,_,rfl,zh,(zd n hn).2,∅,?_];refine#[(by show 2<=1000;decide),?_,?_]
  .rw[qAa,qAr,qAP];omega
  .refine#[some (.d (.tup [qd (tt ds n),qd (vv ds n)])),?_];rw[qBx,VL hn,<-List.append_assoc];simp only[qAM];rfl
 rintro τ ⟨y,rfl⟩;rw[qAa,qBk (by rw[KU];exact qAg _)];have O:=sp.ord r od a0;subst eds;have zc2:Sz 770 (val cs m a-k*a):=(zv.sub (zk.mul za)).mono ∅;have LL:LS 84 300 770 (F++mvd a (val cs m a-vv [((0:Rat),(0:Rat))] 0) [((0:Rat),(0:Rat))]) k:=(Y8 sp r (λi hi=>#[(z.ln oc i hi).1.mono ∅,(z.ln oc i hi).2.mono ∅]) zk zc2).ls O λi hi=>by
  by_cases c:i<j
  .rw[(sp.one c).1];exact(z.tm i (qAl c sp.jl)).mono ∅
  .have:i=j+0:=();rw[this,(sp.two (k:=0) n0).1];show Sz 84 (a+0);rw[show a+0=a from ⋯];exact za
 have ne:=O.ne;refine#[_,_,k,rfl,Or.inl rfl,LL.szd O () ∅ ∅,λ_=>?_,λy=>absurd #[O,k0] y];have kl:=Kt (F++mvd a (val cs m a-vv [((0:Rat),(0:Rat))] 0) [((0:Rat),(0:Rat))]) k ((F++mvd a (val cs m a-vv [((0:Rat),(0:Rat))] 0) [((0:Rat),(0:Rat))]).length-1);refine q _ (IH O k0) (λt t0=>?_) (LL.kept O) ();rw[(HX O t).1,sp.val r od a0 t0,NW];show(if a<t then val cs m a+(0+k*(t-a)-0) else val cs m t)=_;rw[show 0+k*(t-a)-0=k*(t-a) from ⋯]
variable (GN:qDi P w K mg base 8 "spliced" ["f","a","g"] Kv)
def FO:Da P w K mg base "begin_and_steeper" Cj 7 ["g"] De:=by
 refine fq (N:=["g"]) scN λR U _ hr h=>?_
 obtain⟨cs,m,a,b,c,rfl,o,z,hs,hl,q⟩:=h;refine#[_,(AR (M4 Nr (Gn (a1 (A4 (vK 0) Ad))) (Ak hr B0 (a1 (vN 0))))),?_];have sl:(stI cs m).length<=↥cs:=by
  unfold CH.stI;rw[qAa];have:=qA7 (λn=>decide (slp cs m n<slp cs m (n+1))) (List.range (↥cs-1));rw[qAx]at this;omega
 refine atR (BK (cs:=cs) (i:=0) 0 rfl o.ne) ?_;refine#[by show 1<=1000;decide,?_];refine#[cs,m,a,b,c,rfl,o,z,hs,hl,?_];refine#[by rw[qAa];show 1+(stI cs m).length<=_;omega,?_];exact q
variable (AL:qDi P w K mg base 7 "begin_and_steeper" ["g"] De)
def Qv:Da P w K mg base "undone" LX 8 qDd MO:=by
 refine fq (N:=["f","g","ones","others","found","corner"]) scN λR U Y' hr h=>?_
 obtain⟨fc,fm,gc,gm,a,b,c,N,S0,rfl,⟨rf,rg,zf,zg,hb,hz,hn,hN,sf,sg,s0,fl,gl⟩,qn,q⟩:=h;refine#[_,(Ac (Bq (AN (Ak hr BE (a2 (vN 0) (vN 1)))) (AR LI) Ah)
  (Ac (AI 2 Y' (Ak hr Fd (a1 (Ak hr DB (a1 (vN 0))))))
  (Ac (AI 3 Y' (Ak hr IL (a2 (Ak hr DB (a1 (vN 1))) (Ak hr Bw (a2 (A4 (A4 (vK 0) (EM Ad)) Ad) (A4 (A4 (vK 1) (EM Ad)) Ad))))))
  (Ac (AI 4 Y' (Gn (a1 (Bb (a2 (Ip rfl qC9) (Bb (Au Ad (a2 Ad Ad))))))))
  (Ac (Ec (B3 PassesOwn.never rfl (Bt (PE3.out (Ak hr AL (a1 (vN 1))))) (A9 (i:=5) Y'.nd rfl (Or.inl rfl)) (Dp.out (Ag (AI 4 Y' (Ak hr Fi (a2 (vN 4) (Ak hr CC (a1 (Ak hr Mg (a2 (vN 2) (Bb (a2 (Ak hr Ar (a2 (Ip rfl qC9) (vK 5))) (vK 5))))))))))))))
  (Ac (Ec (B3 PassesOwn.never rfl (Bt (PE3.out (Ak hr A3 (a1 (vN 0))))) (A9 (i:=5) Y'.nd rfl (Or.inl rfl)) (Dp.out (Ag (AI 4 Y' (Ak hr Fi (a2 (vN 4) (Ak hr CC (a1 (Ak hr Mg (a2 (vN 3) (Bb (a2 (vK 5) (Ak hr Ar (a2 (Ip rfl qC9) (vK 5))))))))))))))))
  (AR (Ak hr FI (a1 (Ak hr Fd (a1 (vN 4)))))))))))),?_]
 have of:=rf.o;have og:=rg.o;have f0:=of.ne;have g0:=og.ne;have zfm:=zf.m of;have zgm:=zg.m og;refine#[fc,fm,gc,gm,rfl,zfm.mono (),zgm.mono (),?_];refine BH (λc1=>qn c1) (λc1=>?_);have hm:fm<=gm:=⋯;have q:=q hm;refine#[fc,fm,a,b,c,rfl,of,zf,(),(),?_];refine#[_,C5 fc fm,rfl,Or.inr rfl,by rw[C9];omega,?_];refine#[gc,gm,a,b,c,rfl,og,zg,(),(),?_];refine atR (Rx (cs:=fc) 1 ∅ f0) ?_;refine atR (Rx (cs:=gc) 1 ∅ g0) ?_;have tfl:=zf.tm (↥fc-1) ();have tgl:=zg.tm (↥gc-1) ();refine#[_,_,a,a,rfl,tfl,tgl,(),?_];have zfar:Sz (2*a+1) (tt fc (↥fc-1)+tt gc (↥gc-1)):=(tfl.add tgl).mono ();refine#[gc,gm,_,2*a+2,rfl,g0,(),λi hi=>(zg.tm i hi).mono (),zfar.mono (),(),?_];refine#[by show 3<=1000;decide,by show 2<=1000;decide,by show 1<=1000;decide,?_];obtain⟨K,hK⟩:∃K,K=2*a+3*b+3*c+12:=#[_,rfl];obtain⟨Z,hZ⟩:∃Z,Z=2*(a+b+c)+5:=#[_,rfl];obtain⟨X,hX⟩:∃X,X=4*(a+b+c)+2*b+16:=#[_,rfl];obtain⟨W,hW⟩:∃W,W=2*(↥fc*↥gc)+2*↥fc+↥gc+3:=#[_,rfl];rw[<-hZ,<-hX]at q;rw[<-hW]at hn;have sub:=Wo of og sf sg s0;have sL:(S0.map (λy=>-y)).length=S0.length:=qAa _;have sm0:(0:Rat)∈S0.map (λy=>-y):=sub 0 Yp;have sp:1<=S0.length:=qCO s0;have cnt:∀x,x<=W->x*(S0.map (λy=>-y)).length<=N:=λx hx=>qAO (by rw[sL];exact qBc _ hx) hn;have WS:W<=40000:=by
  have:=qCr W sp;omega
 have plF:PL (b+c) a ((C5 fc fm).map flR) ((ER fc fm).map flP):=(Tx of zf).flipped;have plG:PL (b+c) (2*a+4) (trR gc gm (tt fc (↥fc-1)+tt gc (↥gc-1))) (HU (ER gc gm) (tt fc (↥fc-1)+tt gc (↥gc-1))):=YC og zg (n:=2*a+2) (zfar.mono ()) ();have ux:=ZF (b:=b) (Z:=Z) (X:=X) ();have stl:(stI gc gm).length+1<=↥gc:=by
  unfold CH.stI;rw[qAa];have:=qA7 (λn=>decide (slp gc gm n<slp gc gm (n+1))) (List.range (↥gc-1));rw[qAx]at this;omega
 have fll:(flI fc fm).length+1<=↥fc:=by
  unfold flI;rw[qAa];have:=qA7 (λn=>decide (slp fc fm (n+1)<slp fc fm n)) (List.range (↥fc-1));rw[qAx]at this;omega
 refine#[gc,gm,a,b,c,rfl,og,zg,(),(),?_];refine#[λn τ=>∃(qs:List RP)(Q:Ps)(B:List Rat)(h:Rat->Rat)(y5:Option S),τ=[some (.d (crv fc fm)),some (.d (crv gc gm)),some (.l (((C5 fc fm).map flR).map rpD)),some (.d (.lst ((trR gc gm (tt fc (↥fc-1)+tt gc (↥gc-1))).map rpD))),some (.l (qs.map rpD)),y5]/\FQ B ((S0.map (λy=>-y))) (Gz b Z) (Sz X) K (2*K+1) h none qs Q/\0<↥Q/\bg Q 0=0/\SR (((0::stI gc gm).take n).map (cA fc fm gc)) h/\↥B<=n*↥fc,#[[((0,1),(0,0,1))],[(0,(0,0))],[],λ_=>0,none,rfl,Se sm0 hb () () () (),∅,rfl,SR.nil,qA9 _],?_,?_]
 .rintro n τ x hx ⟨qs,Q,B,h,y5,rfl,r,ne,b0,mi,bl⟩;obtain⟨k,hk,rfl⟩:=Cf hx;have nl:n<(0::stI gc gm).length:=(qAe.mp hk).1;have nl:n<(stI gc gm).length+1:=nl;have kl:k<↥gc:=by
   rcases qAi.mp (qAE hk) with rfl|z
   .exact g0
   .exact(Jw.mp z).1
  have tg:=zg.tm k kl;have vg:Sz (b+a+c+1) (vv gc k):=by
   have:=zg.va (Ct og kl) tg;rw[B1 og kl]at this;exact this
  refine#[0,tt gc k,1,a,rfl,Sz.zero,tg,(),?_];refine#[by show 2<=1000;decide,?_];have w1:Wq (a+b+c+3) (0-tt gc k).num ((0-tt gc k).den:Int) (0-tt gc k):=Wq.of ((Sz.zero.sub tg).mono ());have w2:Wq (a+b+c+3) (vv gc k).num ((vv gc k).den:Int) (vv gc k):=Wq.of (vg.mono ());refine#[_,(C5 fc fm).map flR,(ER fc fm).map flP,_,_,_,_,_,_,b+c,a,a+b+c+3,rfl,Or.inl rfl,plF,w1,w2,(),(),(),by rw[qAa,C9];omega,?_];have plA:PL K (2*K+1) (((C5 fc fm).map flR).map (mvR (0-tt gc k).num ((0-tt gc k).den:Int) (vv gc k).num ((vv gc k).den:Int))) (pA fc fm gc k):=(plF.moved w1 w2).mono (k':=K) (m':=2*K+1) () ();have puA:=aD (fm:=fm) (gc:=gc) of (k:=k);have lA:=QO (fc:=fc) (fm:=fm) (gc:=gc) (k:=k);obtain⟨d,d1,d2,d3⟩:=Qs puA.up 0;have d0:0<d:=by
   rcases qBr d with z|z
   .have:=d3 0 () (by rw[lA];exact f0);rw[(Uk f0).1,of.t0]at this;have:=Ct og kl;grind
   .exact z
  have gA:=aU of og zf zg kl (Z:=Z) (X:=X) () ();have oth:WV ((S0.map (λy=>-y))) b Z X K (2*K+1) (frR (((C5 fc fm).map flR).map (mvR (0-tt gc k).num ((0-tt gc k).den:Int) (vv gc k).num ((vv gc k).den:Int))) d) (frN (pA fc fm gc k) d) (cA fc fm gc k):=UM (K:=K) (m:=2*K+1) plA puA () () d0 d1 d2 d3 (λx hx=>sub _ (gA.1 x hx)) gA.2;refine#[_,pA fc fm gc k,K,2*K+1,d,rfl,plA,by rw[qAa,qAa,C9];omega,(),d0,d1,d2,d3,?_];have oL:(frN (pA fc fm gc k) d).length<=↥fc:=by rw[E7,lA];omega
  have ol':=oth.pl.len;have nm:n*↥fc<=↥fc*↥gc:=by rw[Nat.mul_comm];exact qCr _ ()
  have c1':=cnt (↥B+1) ();have c2':=cnt (↥B+(frN (pA fc fm gc k) d).length+1) ();have ql:↥qs<=40000:=by rw[r.pl.len];exact qAO (qAO r.cn.len c1') hN
  refine#[_,qs,frR (((C5 fc fm).map flR).map (mvR (0-tt gc k).num ((0-tt gc k).den:Int) (vv gc k).num ((vv gc k).den:Int))) d,Q,frN (pA fc fm gc k) d,B,(S0.map (λy=>-y)),Gz b Z,Sz X,K,2*K+1,h,cA fc fm gc k,rfl,Or.inr rfl,#[r,ne,oth.pl,oth.pu,oth.ne,oth.sl,oth.gd,ux,(),(),by rw[b0,oth.b0];exact qAc,λz=>?_,(),()],λqs' Q' r' ne' b0'=>?_]
  .rw[b0,oth.b0]at z;exact absurd z qA5
  rw[oth.b0]at r';refine#[qs',Q',_,_,_,rfl,r',ne',b0'.trans b0,?_,?_]
  .rw[qBx,hk,qAM];exact mi.add
  .rw[qAr,show(VG (frN (pA fc fm gc k) d)).length=(frN (pA fc fm gc k) d).length from qAa _,Nat.add_mul];omega
 rintro τ ⟨qs,Q,B,h,y5,rfl,r,ne,b0,mi,bl⟩;rw[qAa]at mi bl;rw[qBk (qAg _)]at mi;replace bl:↥B<=↥fc*↥gc:=qAO bl (by rw[Nat.mul_comm];exact qCr _ (by show(stI gc gm).length+1<=_;exact stl));refine#[fc,fm,a,b,c,rfl,of,zf,(),(),?_];refine#[λn τ=>∃(qs:List RP)(Q:Ps)(B:List Rat)(h:Rat->Rat)(y5:Option S),τ=[some (.d (crv fc fm)),some (.d (crv gc gm)),some (.l (((C5 fc fm).map flR).map rpD)),some (.d (.lst ((trR gc gm (tt fc (↥fc-1)+tt gc (↥gc-1))).map rpD))),some (.l (qs.map rpD)),y5]/\FQ B ((S0.map (λy=>-y))) (Gz b Z) (Sz X) K (2*K+1) h none qs Q/\0<↥Q/\bg Q 0=0/\SR ((0::stI gc gm).map (cA fc fm gc)++((flI fc fm).take n).map (cB fc gc gm)) h/\↥B<=↥fc*↥gc+n*(↥gc+1),#[qs,Q,B,h,_,rfl,r,ne,b0,by rw[qCu,List.map_nil,qA2];exact mi,()],?_,?_]
 .clear r ne b0 mi bl;clear qs Q B h y5;rintro n τ x hx ⟨qs,Q,B,h,y5,rfl,r,ne,b0,mi,bl⟩;obtain⟨k,hk,rfl⟩:=Cf hx;have nl:n<(flI fc fm).length:=(qAe.mp hk).1;have hm':=Jy.mp (qAE hk);have kl:=hm'.1;have tf:=zf.tm k kl;have vf:Sz (b+a+c+1) (vv fc k):=by
   have:=zf.va (Ct of kl) tf;rw[B1 of kl]at this;exact this
  have tkl:tt fc k<=tt fc (↥fc-1):=Bc of.up () ();have tk0:0<tt fc k:=by
   have h1:=of.up 0 ();rw[of.t0]at h1;have h2:=Bc of.up (i:=0+1) (j:=k) () kl;grind
  have far1:tt gc (↥gc-1)<tt fc (↥fc-1)+tt gc (↥gc-1):=⋯;refine#[0,vv fc k,1,b+a+c+1,rfl,Sz.zero,vf,(),?_];refine#[by show 2<=1000;decide,?_];have w1:Wq (a+b+c+3) (tt fc k).num ((tt fc k).den:Int) (tt fc k):=Wq.of (tf.mono ());have w2:Wq (a+b+c+3) (0-vv fc k).num ((0-vv fc k).den:Int) (0-vv fc k):=Wq.of ((Sz.zero.sub vf).mono ());have tl:(trR gc gm (tt fc (↥fc-1)+tt gc (↥gc-1))).length=↥gc+1:=by rw[plG.len,Gj,A7]
  refine#[_,trR gc gm (tt fc (↥fc-1)+tt gc (↥gc-1)),HU (ER gc gm) (tt fc (↥fc-1)+tt gc (↥gc-1)),_,_,_,_,_,_,b+c,2*a+4,a+b+c+3,rfl,Or.inr rfl,plG,w1,w2,(),(),(),by rw[tl];omega,?_];have plA:PL K (2*K+1) ((trR gc gm (tt fc (↥fc-1)+tt gc (↥gc-1))).map (mvR (tt fc k).num ((tt fc k).den:Int) (0-vv fc k).num ((0-vv fc k).den:Int))) (pB fc gc gm (tt fc (↥fc-1)+tt gc (↥gc-1)) k):=(plG.moved w1 w2).mono (k':=K) (m':=2*K+1) () ();have puA:=aR (fc:=fc) (gm:=gm) og (k:=k) far1;have lA:=Rh (fc:=fc) (gc:=gc) (gm:=gm) (k:=k) (far:=tt fc (↥fc-1)+tt gc (↥gc-1));have b00:=eY (fc:=fc) (gm:=gm) og (k:=k) (far:=tt fc (↥fc-1)+tt gc (↥gc-1));obtain⟨d,d1,d2,d3⟩:=Qs puA.up 0;have d0:0<d:=by
   rcases qBr d with z|z
   .have:=d3 0 () (by rw[lA];omega);rw[b00]at this;have:=Ct og (show ↥gc-1<↥gc from ());grind
   .exact z
  have gA:=aC of og zf zg kl zfar (Z:=Z) (X:=X) hb () ();have oth:WV ((S0.map (λy=>-y))) b Z X K (2*K+1) (frR ((trR gc gm (tt fc (↥fc-1)+tt gc (↥gc-1))).map (mvR (tt fc k).num ((tt fc k).den:Int) (0-vv fc k).num ((0-vv fc k).den:Int))) d) (frN (pB fc gc gm (tt fc (↥fc-1)+tt gc (↥gc-1)) k) d) (cB fc gc gm k):=UM (K:=K) (m:=2*K+1) plA puA () () d0 d1 d2 d3 (λx hx=>sub _ (gA.1 x hx)) gA.2;refine#[_,pB fc gc gm (tt fc (↥fc-1)+tt gc (↥gc-1)) k,K,2*K+1,d,rfl,plA,by rw[qAa,tl];omega,(),d0,d1,d2,d3,?_];have oL:(frN (pB fc gc gm (tt fc (↥fc-1)+tt gc (↥gc-1)) k) d).length<=↥gc+1:=by rw[E7,lA];omega
  have ol':=oth.pl.len;have nm:(n+1)*(↥gc+1)<=↥fc*(↥gc+1):=qBc _ ();have n1:(n+1)*(↥gc+1)=n*(↥gc+1)+(↥gc+1):=Nat.succ_mul _ _;have n2:↥fc*(↥gc+1)=↥fc*↥gc+↥fc:=Nat.mul_succ _ _;have c1':=cnt (↥B+1) ();have c2':=cnt (↥B+(frN (pB fc gc gm (tt fc (↥fc-1)+tt gc (↥gc-1)) k) d).length+1) ();have ql:↥qs<=40000:=by rw[r.pl.len];exact qAO (qAO r.cn.len c1') hN
  refine#[_,qs,frR ((trR gc gm (tt fc (↥fc-1)+tt gc (↥gc-1))).map (mvR (tt fc k).num ((tt fc k).den:Int) (0-vv fc k).num ((0-vv fc k).den:Int))) d,Q,frN (pB fc gc gm (tt fc (↥fc-1)+tt gc (↥gc-1)) k) d,B,(S0.map (λy=>-y)),Gz b Z,Sz X,K,2*K+1,h,cB fc gc gm k,rfl,Or.inr rfl,#[r,ne,oth.pl,oth.pu,oth.ne,oth.sl,oth.gd,ux,(),(),by rw[b0,oth.b0];exact qAc,λz=>?_,(),()],λqs' Q' r' ne' b0'=>?_]
  .rw[b0,oth.b0]at z;exact absurd z qA5
  rw[oth.b0]at r';refine#[qs',Q',_,_,_,rfl,r',ne',b0'.trans b0,?_,?_]
  .rw[qBx,hk,qAM,<-List.append_assoc];exact mi.add
  .rw[qAr,show(VG (frN (pB fc gc gm (tt fc (↥fc-1)+tt gc (↥gc-1)) k) d)).length=(frN (pB fc gc gm (tt fc (↥fc-1)+tt gc (↥gc-1)) k) d).length from qAa _];omega
 clear r ne b0 mi bl;clear qs Q B h y5;rintro τ ⟨qs,Q,B,h,y5,rfl,r,ne,b0,mi,bl⟩;rw[qAa]at mi bl;rw[qBk (qAg _)]at mi;have nm:(flI fc fm).length*(↥gc+1)<=↥fc*(↥gc+1):=qBc _ ();have n2:↥fc*(↥gc+1)=↥fc*↥gc+↥fc:=Nat.mul_succ _ _;have c1':=cnt (↥B+1) ();have ql0:↥Q<=(↥B+1)*((S0.map (λy=>-y))).length:=r.cn.len;have ql:↥qs<=40000:=by rw[r.pl.len];exact qAO (qAO ql0 c1') hN
 obtain⟨o,m0,eM,iv,ls⟩:=WY rf rg hm r ne b0 mi;refine#[_,qs,rfl,Or.inl rfl,(),?_];have fl':(Q.map flP).length=↥Q:=qAa _;refine#[_,qs.map flR,Q.map flP,K,2*K+1,rfl,Or.inr rfl,r.pl.flipped,by rw[qAa,r.pl.len];exact ne,by rw[qAa];omega,(),ls.szd o (by rw[BM];omega) () (),o,m0,?_];have ki:=IH o m0;have kv:=λt=>HX (m:=(ln (Q.map flP) ((Q.map flP).length-1)).1) o t;have kl':=Kt (Iu (Q.map flP)) (ln (Q.map flP) ((Q.map flP).length-1)).1 ((Iu (Q.map flP)).length-1);have kls:=ls.kept o;have ksl:=(XG r o).kept o;rw[BM]at ki kv kl' kls ksl;rw[eM]at ki kv kl' kls ksl iv ⊢;refine q _ ki (λt t0=>?_) kls ksl ?_
 .rw[(kv t).1];exact iv t t0
 .omega
variable (Eo:qDi P w K mg base 8 "undone" qDd MO)
def M5:Da P w K mg base "ahead_by" HK 8 ["f","g","t","u"] JM:=by
 refine fq (N:=["f","g","t","u"]) scN λR U _ hr h=>?_
 obtain⟨fc,fm,gc,gm,t,u,a,b,c,n,rfl,⟨of,og,zf,zg,hs,lf,lg⟩,t0,u0,zt,zu,hn,q⟩:=h;refine#[_,(AR (Ak hr Ar (a2 (Ak hr A1 (a2 (vN 0) (Ak hr Bw (a2 (vN 2) (vN 3))))) (Ak hr A1 (a2 (vN 1) (vN 3)))))),?_];have tu:0<=t+u:=⋯;have zs:=zt.add zu;refine#[t,u,n,n,rfl,zt,zu,(),?_];refine#[fc,fm,t+u,a,b,c,_,rfl,of,zf,(),(),(),(),(),zs,λ_=>?_,λz=>absurd tu z];refine#[gc,gm,u,a,b,c,n,rfl,og,zg,(),(),(),(),(),zu,λ_=>?_,λz=>absurd u0 z];exact#[_,_,_,_,rfl,zf.va tu zs,zg.va u0 zu,(),q]
variable (D6:qDi P w K mg base 8 "ahead_by" ["f","g","t","u"] JM)
def Hw:Da P w K mg base "possible_leads" Cc 8 ["f","g","t"] D9:=by
 refine fq (N:=["f","g","t","told","corner"]) scN λR U Y' hr h=>?_
 obtain⟨fc,fm,gc,gm,t,a,b,c,n,rfl,⟨of,og,zf,zg,hs,lf,lg⟩,zt,hn,q⟩:=h;refine#[_,(Ac (Ky (i:=3) (N:=["corner"]) (idx:=[]) (Bl.mk' (Aa Cc) ["f","g","t","told","corner"] rfl rfl (by decide +kernel)) rfl (Bt (PE3.out (Ak hr AL (a1 (vN 1))))) DA (λcl C s₀ H₀ fp=>CM) (λcl C s₀ H₀ fp=>(vK 0)) Y'.nd rfl (Or.inl rfl))
  (Ac (Ec (B3 PassesOwn.never rfl (Bt (PE3.out (Ak hr A3 (a1 (vN 0))))) (A9 (i:=4) Y'.nd rfl (Or.inl rfl)) (Dp.out (Ag (Bq (AN (Ak hr Aj (a2 (vN 2) (vK 4)))) (Ag (EZ (Bx (E6 qAC qAz qAA AV (pv 3) (AM (PE3.out (Ak hr Ar (a2 (vK 4) (vN 2)))) Br))))) Ah)))))
  (Ag (DJ (pv 3))))),?_]
 have sl:(stI gc gm).length<=↥gc:=by
  unfold CH.stI;rw[qAa];have:=qA7 (λn=>decide (slp gc gm n<slp gc gm (n+1))) (List.range (↥gc-1));rw[qAx]at this;omega
 have fl:(flI fc fm).length<=↥fc:=by
  unfold CH.flI;rw[qAa];have:=qA7 (λn=>decide (slp fc fm (n+1)<slp fc fm n)) (List.range (↥fc-1));rw[qAx]at this;omega
 refine#[gc,gm,a,b,c,rfl,og,zg,(),lg,?_];refine#[(0::stI gc gm).map λk=>some (qd (tt gc k)),by rw[qAa,qAa],?_,?_,?_]
 .intro i x hx;obtain⟨k,hk,rfl⟩:=Cf hx;show((0::stI gc gm).map _)[i]? = _;rw[qAd,hk];rfl
 .rw[qAa];show(stI gc gm).length+1<=_;omega
 rw[EV (0::stI gc gm) (λk=>qd (tt gc k))];refine#[fc,fm,a,b,c,rfl,of,zf,(),lf,?_];refine#[λn' τ=>∃(us:List Rat)(y4:Option S),τ=[some (.d (crv fc fm)),some (.d (crv gc gm)),some (.d (qd t)),some (.l (us.map qd)),y4]/\↥us<=5001+n'/\n'<=5000/\(∀u∈us,0<=u/\Sz (a+n+1) u)/\(∀k∈stI gc gm,tt gc k∈us)/\(∀j k,j<n'->(flI fc fm)[j]? = some k->t<tt fc k->tt fc k-t∈us),#[(0::stI gc gm).map (tt gc),none,by rw[qBi];rfl,by rw[qAa];show(stI gc gm).length+1<=_;omega,(),λu hu=>?_,λk hk=>qAI.mpr #[k,qAi.mpr (.inr hk),rfl],λj k hj=>absurd hj (qAW j)],?_,?_]
 .obtain⟨k,hk,rfl⟩:=qAI.mp hu;have kl:k<↥gc:=by
   rcases qAi.mp hk with rfl|hk
   .exact og.ne
   .exact(Jw.mp hk).1
  exact#[Ct og kl,(zg.tm k kl).mono ()]
 .rintro i τ x hx ⟨us,y4,rfl,ul,i0,good,g1,g2⟩;have il:=(qAe.mp hx).1;rw[qAa]at il;obtain⟨k,hk,rfl⟩:=Cf hx;have kf:=Jy.mp (qAE hk);have zk:=zf.tm k kf.1;refine#[t,tt fc k,_,_,rfl,zt,zk,(),?_];have ext:∀us':List Rat,(∀u∈us,u∈us')->(t<tt fc k->tt fc k-t∈us')->∀j k',j<i+1->(flI fc fm)[j]? = some k'->t<tt fc k'->tt fc k'-t∈us':=λus' h1 h2 j k' hj hk' ht=>by
   by_cases e:j<i
   .exact h1 _ (g2 j k' e hk' ht)
   .have:j=i:=();subst this;rw[hk]at hk';cases hk';exact h2 ht
  refine BH (λc=>?_) (λc=>?_)
  .refine#[tt fc k,t,_,_,rfl,zk,zt,(),?_];refine#[by rw[qAa];omega,us++[tt fc k-t],_,by rw[qAM];rfl,by rw[qAr];show ↥us+1<=_;omega,(),λu hu=>?_,λk hk=>qAo.mpr (.inl (g1 k hk)),ext _ (λu hu=>qAo.mpr (.inl hu)) (λ_=>qAo.mpr (.inr (qAG.mpr rfl)))];rcases qAo.mp hu with h|h
   .exact good u h
   .rw[qAG.mp h];exact#[⋯,(zk.sub zt).mono ()]
  .exact#[us,_,rfl,(),(),good,g1,ext us (λ_ h=>h) (λh=>absurd h c)]
 rintro τ ⟨us,y4,rfl,ul,_,good,g1,g2⟩;refine q us (by rw[qAa]at ul;omega) good g1 (λk hk ht=>?_);obtain⟨j,hj⟩:=qBX.mp hk;exact g2 j k (by rw[qAa];exact(qAe.mp hj).1) hj ht
variable (Ce:qDi P w K mg base 8 "possible_leads" ["f","g","t"] D9)
def Gk:Ae ["f","g","t","best","worth","u","value"] ["f","g","t"] (Aa Rv):=scN
include Aj qC9 BQ BE D6 Ce in
def Vs (F:Fun K "lead" "lead" Rv f fd):Ao P w K mg base (CXU P w) 9 f fd ["f","g","t"] (Af K mg QD):=by
 refine fnU F Gk (λss R U h=>?_) (λcdv A outer s H E ss R U hr h xo=>?_)
 .obtain⟨fc,fm,gc,gm,t,a,b,c,n,rfl,_⟩:=h;rfl
 obtain⟨fc,fm,gc,gm,t,a,b,c,n,rfl,⟨of,og,zf,zg,hs,lf,lg⟩,zt,hn,q1,q2,qu⟩:=h;refine#[_,(Ac (OK (HA xo hr BQ (a1 (vN 2))))
  (Ac (Bq (AN (HA xo hr BE (a2 (vN 0) (vN 1)))) (AR LI) Ah)
  (Ac (AI 3 Gk (Ip rfl qC9))
  (Ac (AI 4 Gk (HA xo hr D6 (Au (vN 0) (Au (vN 1) (a2 (vN 2) (vN 3))))))
  (Ac (Ec (B3 PassesOwn.leaving rfl (Bt (PE3.out (HA xo hr Ce (Au (vN 0) (a2 (vN 1) (vN 2)))))) (A9 (i:=5) Gk.nd rfl (Or.inl rfl)) (Dp.out (Ac (AI 6 Gk (HA xo hr D6 (Au (vN 0) (Au (vN 1) (a2 (vN 2) (vN 5))))))
  (Ag (Bq (AN (HA xo hr Aj (a2 (vN 4) (vN 6)))) (Ac (AI 3 Gk (vN 5))
  (Ag (AI 4 Gk (vN 6)))) Ah))))))
  (Ag (DJ (pv 3)))))))),?_]
 refine#[t,n,rfl,(),zt,λt0=>?_,λz=>qu z];have zt':=zt.mono (show n<=a+n+1 from ());refine#[fc,fm,gc,gm,rfl,(zf.m of).mono (),(zg.m og).mono (),?_];refine BH (λlt=>q1 t0 lt) (λge=>?_);have le:fm<=gm:=qAN.mp ge;refine#[fc,fm,gc,gm,t,0,a,b,c,a+n+1,rfl,#[of,og,zf,zg,hs,lf,lg],t0,qAc,zt',Sz.zero.mono (),(),?_];refine#[fc,fm,gc,gm,t,a,b,c,n,rfl,#[of,og,zf,zg,hs,lf,lg],zt,(),λus ul good g1 g2=>?_];have zgap:∀{u:Rat},0<=u->Sz (a+n+1) u->Sz 9000 (FZ fc fm gc gm t u):=λ{u} u0 zu=>by
  have tu:0<=t+u:=⋯;unfold FZ;exact((zf.va tu (zt.add zu)).sub (zg.va u0 zu)).mono ()
 refine#[λi τ=>∃(b':Rat)(y5 y6:Option S),τ=[some (.d (crv fc fm)),some (.d (crv gc gm)),some (.d (qd t)),some (.d (qd b')),some (.d (qd (FZ fc fm gc gm t b'))),y5,y6]/\0<=b'/\Sz (a+n+1) b'/\FZ fc fm gc gm t 0<=FZ fc fm gc gm t b'/\∀j u,j<i->us[j]? = some u->FZ fc fm gc gm t u<=FZ fc fm gc gm t b',#[0,none,none,rfl,qAc,Sz.zero.mono (),qAc,λj u hj=>absurd hj (qAW j)],?_,?_]
 .rintro i τ x hx ⟨b',y5,y6,rfl,b0,zb,h0,hb⟩;obtain⟨u,hu,rfl⟩:=Cf hx;obtain⟨u0,zu⟩:=good u (qAE hu);refine#[fc,fm,gc,gm,t,u,a,b,c,a+n+1,rfl,#[of,og,zf,zg,hs,lf,lg],t0,u0,zt',zu,(),?_];refine#[_,_,9000,9000,rfl,zgap b0 zb,zgap u0 zu,(),?_];have ext:∀w:Rat,FZ fc fm gc gm t b'<=FZ fc fm gc gm t w->FZ fc fm gc gm t u<=FZ fc fm gc gm t w->∀j v,j<i+1->us[j]? = some v->FZ fc fm gc gm t v<=FZ fc fm gc gm t w:=λw h1 h2 j v hj hv=>by
   by_cases e:j<i
   .exact qAv (hb j v e hv) h1
   .have:j=i:=();subst this;rw[hu]at hv;cases hv;exact h2
  refine BH (λc=>?_) (λc=>?_)
  .exact#[u,_,_,rfl,u0,zu,qAv h0 (qAm c),ext u (qAm c) qAc]
  .exact#[b',_,_,rfl,b0,zb,h0,ext b' qAc (qAN.mp c)]
 rintro τ ⟨b',y5,y6,rfl,b0,zb,h0,hb⟩;rw[qAa]at hb;have all:∀u∈us,FZ fc fm gc gm t u<=FZ fc fm gc gm t b':=λu hu=>by
  obtain⟨j,hj⟩:=qBX.mp hu;exact hb j u (qAe.mp hj).1 hj
 refine q2 t0 le b' b0 zb (λv v0=>?_);obtain⟨w,w0,cw,best⟩:=Lw of og le t0;refine qAv (best v v0) ?_;show FZ fc fm gc gm t w<=_;rcases cw with rfl|⟨k,k0,kl,e,s⟩|⟨k,k0,kl,e,s⟩
 .exact h0
 .rw[<-e];exact all _ (g1 k (Jw.mpr #[kl,k0,s]))
 .by_cases z:w=0
  .rw[z];exact h0
  .have:=g2 k (Jy.mpr #[kl,k0,s]) ⋯;rw[e,show t+w-t=w from ⋯]at this;exact all _ this
variable (Jx:qDi P w K mg base 9 "lead" ["f","g","t"] QD)
def NO:Da P w K mg base "place_of" HP 10 ["story","length"] IY:=by
 refine fq (N:=["story","length","s"]) scN λR U Y' hr h=>?_
 obtain⟨cs,m,r,rfl,⟨rr,z,hl⟩,hr_,q1,q2⟩:=h;refine#[_,(Ac (Bq (B6 aX (vN 1) LI) (AR LI) Ah)
  (Ac (AI 2 Y' (Ak hr Jx (Au (vN 0) (a2 (vN 0) (vN 1)))))
  (AR (Bb (a2 (vN 2) (Ak hr Bw (a2 (vN 2) (vN 1)))))))),?_]
 cases r with
 |none=>exact q1 rfl
 |some t=>
  obtain⟨zt,t0⟩:=hr_ t rfl;have o:=rr.o;refine#[cs,m,cs,m,t,41,190,273,2414,rfl,#[o,o,z,z,∅,(),()],zt,∅,λ_ c=>absurd c qA5,λ_ _ u u0 zu best=>?_,λz=>absurd t0 z];refine#[u,t,_,_,rfl,zu,zt,∅,?_];exact#[by show 2<=1000;decide,q2 t u rfl u0 zu best]
variable (CJ:qDi P w K mg base 10 "place_of" ["story","length"] IY)
def SN:Da P w K mg base "growth" K8 9 ["story"] MU:=by
 refine fq (N:=["story"]) scN λR U _ hr h=>?_
 obtain⟨cs,m,a,b,c,S0,rfl,⟨r,z,b1,n1,hl,nS,s,s0⟩,q⟩:=h;refine#[_,(AR (Ak hr Eo (a2 (vN 0) (vN 0)))),?_];exact#[cs,m,cs,m,a,b,c,235,S0,rfl,#[r,r,z,z,b1,n1,aZ hl hl nS,∅,s,s,s0,(),()],λc=>absurd c qA5,λ_ C k i z t l=>q C k i z t l]
variable (Ey:qDi P w K mg base 9 "growth" ["story"] MU)
def RN:Da P w K mg base "breach" Lc 11 ["coming","f"] MX:=by
 refine fq (N:=["coming","f","t"]) scN λR U Y' hr h=>?_
 obtain⟨cs,m,rfl,h,q1,q2⟩:=h;refine#[_,(Ac (AI 2 Y' (Ak hr ES (a2 (vN 0) (vN 1))))
  (Ac (Bq (B6 Q9 (vN 2) LI) (AR (Bb (a2 LI (vN 2)))) Ah)
  (AR (Ak hr CJ (a2 (vN 0) (Ak hr ES (a2 (Ak hr Ey (a1 (vN 0))) (vN 1)))))))),?_]
 have r:=h.1.rise;have hl:=h.2.2.1;obtain⟨S0,nS,s,s0⟩:∃S0:List Rat,S0.length<=5/\SL S0 cs m/\(0:Rat)∈S0:=#[0::slL cs m,by rw[qAU,LZ];omega,(Ob r.o).mono λx h=>by simp[h],qAL];have g2:EO cs m/\LS 2412 286 1015 cs m/\↥cs<=236:=#[r,h.2.1.mono ∅ ∅ ∅,()];refine#[cs,m,cs,m,rfl,#[r,h.2.1.mono ∅ ∅ ∅,()],g2,λr1 a1 z1=>?_];cases r1 with
 |some t=>exact absurd a1.2 qA5
 |none=>
  refine#[cs,m,41,45,68,S0,rfl,#[r,h.2.1,∅,∅,(),nS,s,s0],λG kG iG zG _ lG=>?_];refine#[G,m,cs,m,rfl,#[kG.rise,zG.mono ∅ ∅ ∅,lG],g2,λr2 a2 z2=>?_];refine#[cs,m,r2,rfl,#[r,h.2.1.mono ∅ ∅ ∅,()],λt e=>#[z2 t e,?_],λe=>?_,λt s e s0 zs best=>?_]
  .subst e;exact a2.1
  .subst e;exact q1 #[λt _=>qAc,λs t s0 t0=>qAv (by rw[show s+t=t+s from ⋯];exact(iG t t0).2.2 s s0) (a2 t t0)]
  .subst e;have dn:=Hk r a2.1;have lt:=a2.2;refine q2 s t s0 a2.1 zs (z2 t rfl) ?_;rcases(iG t a2.1).2.1 with e|⟨u,u0,e⟩
   .exact absurd lt (by rw[e];exact qAN.mpr dn)
   .have b:=best u u0;unfold FZ at b;rw[show s+t=t+s from ⋯];grind
variable (Iy:qDi P w K mg base 11 "breach" ["coming","f"] MX)
def O9:Da P w K mg base "missing" Jt 10 ["offer"] Kz:=by
 refine fq (N:=["offer"]) scN λR U _ hr h=>?_
 obtain⟨cs,m,rfl,h,q⟩:=h;refine#[_,(AR (Ak hr F4 (a2 (Ak hr F6 (a2 (A4 (A4 (vK 0) Ad) Ad) (Ak hr AK (a1 (vN 0))))) (vN 0)))),?_];obtain⟨r1,l1,zk,k0,km,sl⟩:=h.st;have o:=h.1.o;have hl:=h.2.2.1;refine atR (BK (cs:=cs) (i:=0) 0 rfl o.ne) ?_;refine#[cs,m,rfl,h,?_];refine#[_,_,rfl,o.v0,k0,h.2.2.2.mono ∅,zk.mono ∅,?_];have gv:∀t,gap [(0,vv cs 0)] (sK cs m) cs m t=vv cs 0+sK cs m*t-val cs m t:=λt=>by unfold gap;rw[NW]
 have om:=Hr (v:=vv cs 0) o qAc sl;refine#[[(0,vv cs 0)],sK cs m,cs,m,1,95,68,41,94,204,41,rfl,r1,h.1,l1,h.2.1,∅,∅,by show 1+_<=_;omega,∅,∅,∅,λx y x0 xy=>?_,?_,λC M kC vC eM zC lC=>q C M #[kC,eM,λt t0=>by rw[vC t t0,gv],zC,by have:↥C<=1+↥cs:=lC;omega]]
 .rw[gv,gv,<-Bj o,<-Bj o];exact Cu #[om,km] x0 xy
 .rw[gv,Cy o];grind
variable (Dy:qDi P w K mg base 10 "missing" ["offer"] Kz)
def Rm:Da P w K mg base "surest" K1 11 ["offer"] Mx:=by
 refine fq (N:=["offer"]) scN λR U _ hr h=>?_
 obtain⟨cs,m,rfl,h,q⟩:=h;refine#[_,(AR (Ak hr F4 (a2 (Ak hr F6 (a2 (Ip rfl qC9) (Ak hr AK (a1 (vN 0))))) (Ak hr Ey (a1 (Ak hr Dy (a1 (vN 0)))))))),?_];obtain⟨r1,l1,zk,k0,km,sl⟩:=h.st;have o:=h.1.o;have hl:=h.2.2.1;refine#[cs,m,rfl,h,?_];refine#[0,_,rfl,qAc,k0,Sz.zero.mono ∅,zk.mono ∅,?_];refine#[cs,m,rfl,h,λC M hM=>?_];obtain⟨kC,eM,vC,zC,lC⟩:=hM;obtain⟨S0,nS,s,s0⟩:∃S0:List Rat,S0.length<=5/\SL S0 C M/\(0:Rat)∈S0:=#[0::slL C M,by rw[qAU,LZ];omega,(Ob kC.rise.o).mono λx h=>by simp[h],qAL];refine#[C,M,41,190,273,S0,rfl,#[kC.rise,zC,∅,∅,lC,nS,s,s0],λG kG iG zG _ lG=>?_];have om:=Hr (v:=vv cs 0) o qAc sl;have ev:∀x,0<=x->val C M x=val (miK cs m) (sK cs m-m) x:=λx x0=>by rw[vC x x0,Bj o]
 have iM:∀t,0<=t->IsM cs m t (val G M t):=λt t0=>XX (iG t t0) t0 ev ev;have o0:Ord [(0,(0:Rat))]:=Ord.one qAc;have l0:LS 1 95 1 [(0,(0:Rat))] (sK cs m):=Ln.ls (Ln.one zk (by show Sz 1 (0-_*0);rw[show(0:Rat)-sK cs m*0=0 from ⋯];exact Sz.zero)) o0 (λi hi=>by
  have:i=0:=by(have:i<1:=hi;omega)
  subst this;exact Sz.zero)
 have gv:∀t,gap [(0,(0:Rat))] (sK cs m) G M t=sK cs m*t-val G M t:=λt=>by unfold gap;rw[NW];grind
 have mono:∀x y,0<=x->x<=y->sK cs m*x-val G M x<=sK cs m*y-val G M y:=λx y x0 xy=>by
  have y0:0<=y:=qAv x0 xy;rcases(iM y y0).2.1 with e|⟨u,u0,e⟩
  .have a:=(iM x x0).1;have b:=qAk k0 (show 0<=y-x from ⋯);rw[e];grind
  .have a:=(iM x x0).2.2 u u0;rw[Bj o,Bj o]at a e;have b:=Cu h.1 (x:=x+u) (y:=y+u) ⋯ ⋯;grind
 refine#[[(0,0)],sK cs m,G,M,1,95,1,2412,190,1013,2412,rfl,#[o0,k0],kG.rise,l0,zG,∅,∅,by show 1+_<=_;omega,∅,∅,∅,λx y x0 xy=>by rw[gv,gv];exact mono x y x0 xy,?_,λC' M' kC' vC' eM' zC' lC'=>?_]
 .rw[gv];rcases(iM 0 qAc).2.1 with e|⟨u,u0,e⟩
  .rw[e];grind
  .rw[show(0:Rat)+u=u from ⋯]at e;grind
 have:M'=m:=by rw[eM',eM];grind
 subst this;exact q C' #[kC',zC',by have:↥C'<=1+↥G:=lC';omega,λt t0=>#[_,iM t t0,by rw[vC' t t0,gv]]]
variable (IB:qDi P w K mg base 11 "surest" ["offer"] Mx)
def WA:Da P w K mg base "lack" P5 12 ["offer","g"] R5:=by
 refine fq (N:=["offer","g"]) scN λR U _ hr h=>?_
 obtain⟨cs,m,rfl,h,q1,q2⟩:=h;refine#[_,(AR (Ak hr CJ (a2 (Ak hr Dy (a1 (vN 0))) (Ak hr ES (a2 (vN 1) (Ak hr IB (a1 (vN 0)))))))),?_];have o:=h.1.o;refine#[cs,m,rfl,h,λMc M hM=>?_];refine#[cs,m,rfl,h,λC hC=>?_];refine#[cs,m,C,m,rfl,#[h.1,h.2.1.mono ∅ ∅ ∅,by have:=h.2.2.1;omega],#[hC.1.rise,hC.2.1,hC.2.2.1],λr a z=>?_];refine#[Mc,M,r,rfl,#[hM.1.rise,hM.2.2.2.1,hM.2.2.2.2],λt e=>#[z t e,?_],λe=>?_,λt s e s0 zs best=>?_]
 .subst e;exact a.1
 .subst e;refine q1 λs t s0 t0=>?_;obtain⟨g,ig,ev⟩:=hC.2.2.2 t t0;have b:=a t t0;have c:=ig.2.2 s s0;rw[Bj o,Bj o]at c;rw[ev]at b;rw[show s+t=t+s from ⋯];grind
 .subst e;refine q2 s t s0 a.1 zs (z t rfl) ?_;have t0:=a.1;obtain⟨g,ig,ev⟩:=hC.2.2.2 t t0;have lt:=a.2;rw[ev]at lt;have gs:FZ Mc M Mc M t s=sK cs m*t-(val cs m (t+s)-val cs m s):=by
   unfold FZ;rw[hM.2.2.1 _ (qB9 t0 s0),hM.2.2.1 _ s0];grind
  rw[show s+t=t+s from ⋯];rcases ig.2.1 with e|⟨u,u0,e⟩
  .have b:=best 0 qAc;have mn:val Mc M 0<=val Mc M (t+0):=Cu hM.1.rise qAc ⋯;rw[gs]at b;unfold FZ at b;grind
  .have b:=best u u0;rw[gs]at b;unfold FZ at b;rw[hM.2.2.1 _ (qB9 t0 u0),hM.2.2.1 _ u0]at b;rw[Bj o,Bj o]at e;grind
variable (OF:qDi P w K mg base 12 "lack" ["offer","g"] R5)
def Pc:Da P w K mg base "hurried" JI 9 ["f","house","begin","length"] KH:=by
 refine fq (N:=["f","house","begin","length","all_at_once","slope"]) scN λR U Y' hr h=>?_
 obtain⟨fc,fm,hc,hm,b,t,rfl,kf,⟨kh,zv⟩,b0,zb,t0,zt,q⟩:=h;refine#[_,(Ac (AI 4 Y' (Ak hr FV (a2 (Ak hr A1 (a2 (vN 0) (Ak hr Bw (a2 (vN 2) (vN 3))))) (vN 3))))
  (Ac (AI 5 Y' (Ak hr CB (a2 (vN 4) (Ak hr CB (a2 (Ak hr AK (a1 (vN 0))) (Ak hr AK (a1 (vN 1))))))))
  (AR (Ak hr GN (Au (vN 1) (a2 (vN 2) (Ak hr F6 (a2 (Ip rfl qC9) (vN 5))))))))),?_]
 have o:=kf.1.rise.o;have lf:=kf.2.2.1;have bt:0<=b+t:=⋯;have zs:Sz 125 (b+t):=(zb.add zt).mono ∅;obtain⟨_,_,z1,k1,_,_⟩:=kf.ko.st;obtain⟨_,_,z2,k2,_,_⟩:=kh.st;have zva:Sz 239 (val fc fm (b+t)):=(kf.2.1.va bt zs).mono ∅;have tn:t≠0:=⋯;refine#[b,t,_,_,rfl,zb,zt,∅,?_];refine#[fc,fm,b+t,41,45,68,125,rfl,o,kf.2.1,(),∅,∅,∅,∅,zs,λ_=>?_,λz=>absurd bt z];refine#[_,t,_,_,rfl,zva,zt,∅,tn,?_];have zq:Sz 280 (val fc fm (b+t)/t):=(zva.div zt tn).mono ∅;refine#[fc,fm,rfl,kf.ko,?_];refine#[hc,hm,rfl,kh,?_];refine#[_,_,_,_,rfl,z1,z2,∅,?_];rw[show(if sK fc fm<sK hc hm then sK hc hm else sK fc fm)=mx (sK fc fm) (sK hc hm) from rfl];obtain⟨m1,m2,m3⟩:=LD (sK fc fm) (sK hc hm);have zx:Sz 95 (mx (sK fc fm) (sK hc hm)):=by rcases m3 with e|e<;>rw[e]<;>assumption
 refine#[_,_,_,_,rfl,zq,zx,∅,?_];generalize mx (sK fc fm) (sK hc hm)=X at m1 m2 zx ⊢;rw[show(if val fc fm (b+t)/t<X then X else val fc fm (b+t)/t)=mx (val fc fm (b+t)/t) X from rfl];obtain⟨n1,n2,n3⟩:=LD (val fc fm (b+t)/t) X;have zg:Sz 300 (mx (val fc fm (b+t)/t) X):=by
  rcases n3 with e|e<;>rw[e]
  .exact zq.mono ∅
  .exact zx.mono ∅
 generalize mx (val fc fm (b+t)/t) X=g at n1 n2 zg ⊢;have g0:0<=g:=⋯;refine#[0,g,rfl,qAc,g0,Sz.zero.mono ∅,zg.mono ∅,?_];refine#[hc,hm,b,g,rfl,kh,zv,b0,zb.mono ∅,g0,zg,λL kL vL zL lL=>?_];refine q L g #[kL,#[λx x0 xb=>?_,λx bx=>?_],zL,lL,⋯,⋯,?_]
 .rw[vL x x0,qC5 ⋯]
 .rw[vL x ⋯];by_cases c:b<x
  .rw[qC6 c]
  .have:x=b:=⋯;subst this;rw[qC5 c];grind
 .have:=qAk (show 0<=g-val fc fm (b+t)/t from ⋯) (qAm t0);have e:val fc fm (b+t)/t*t=val fc fm (b+t):=⋯;grind
variable (Hj:qDi P w K mg base 9 "hurried" ["f","house","begin","length"] KH)
def FJ:Ae ["f","house","t","place","begin"] ["f","house","t"] (Aa Jz):=scN
include Aj qC9 qDp qDq BE Jx Iy OF Hj in
def TF (F:Fun K "burst" "burst" Jz f fd):Ao P w K mg base (CXU P w) 13 f fd ["f","house","t"] (Af K mg OY):=by
 refine fnU F FJ (λss R U h=>?_) (λcdv A outer s H E ss R U hr h xo=>?_)
 .obtain⟨fc,fm,hc,hm,t,rfl,_⟩:=h;rfl
 obtain⟨fc,fm,hc,hm,t,rfl,kf,kh,zt,qu,q⟩:=h;refine#[_,(Ac (Bq (w_not (AN (HA xo hr Aj (a2 (Ip rfl qC9) (vN 2))))) (Ag (E3 xo rfl EN rfl qDp qDq)) Ah)
  (Ac (AI 3 FJ (HA xo hr Iy (a2 (vN 0) (vN 0))))
  (Ac (Bq (B6 Q9 (vN 3) LI) (AR (Bb (Au EN (a2 (vK 3) (vK 3))))) Ah)
  (Ac (AI 3 FJ (HA xo hr OF (a2 (vN 1) (vN 1))))
  (Ac (Bq (B6 Q9 (vN 3) LI) (AR (Bb (Au EN (a2 (vK 3) (vK 3))))) Ah)
  (Ac (Bq (AN (HA xo hr BE (a2 (vN 0) (vN 1)))) (AR (Bb (a1 EN))) Ah)
  (Ac (AI 4 FJ (HA xo hr Jx (Au (vN 0) (a2 (vN 1) (vN 2)))))
  (AR (Bb (Au EN (Au (vN 0) (a2 (HA xo hr Hj (Au (vN 0) (Au (vN 1) (a2 (vN 4) (vN 2))))) (vN 4))))))))))))),?_]
 refine#[0,t,_,_,rfl,Sz.zero,zt,∅,?_];refine Lk (λc=>qu c) (λt0=>?_);obtain⟨q1,q⟩:=q t0;have C3:3<=1000:=∅;refine#[fc,fm,rfl,kf,λkp=>?_,λs l s0 l0 zs zl lt=>#[C3,q1 s l s0 l0 zs zl lt]];obtain⟨q2,q⟩:=q kp;refine#[hc,hm,rfl,kh.1,λsr=>?_,λs l s0 l0 zs zl lt=>#[C3,q2 s l s0 l0 zs zl lt]];obtain⟨q3,q⟩:=q sr;have lf:=kf.2.2.1;have lh:=kh.1.2.2.1;have of:=kf.1.rise.o;have oh:=kh.1.1.o;refine#[fc,fm,hc,hm,rfl,(kf.2.1.m of).mono ∅,(kh.1.2.1.m oh).mono ∅,?_];refine BH (λc=>#[(by show 1<=1000;decide),q3 c]) (λc=>?_);have le:fm<=hm:=qAN.mp c;refine#[fc,fm,hc,hm,t,41,94,204,41,rfl,#[of,oh,kf.2.1.mono ∅ ∅ ∅,kh.1.2.1,∅,(),()],zt,∅,λ_ z=>absurd z c,λ_ _ b b0 zb best=>?_,λz=>absurd (qAm t0) z];refine#[fc,fm,hc,hm,b,t,rfl,kf,kh,b0,zb,t0,zt,λL g hu=>?_];exact#[(by show 4<=1000;decide),q le b L g b0 zb best hu]
variable (KR:qDi P w K mg base 13 "burst" ["f","house","t"] OY)
def Kj:Da P w K mg base "comes_above" Er 2 ["gaps","number","last","best"] FU:=by
 refine fq (N:=["gaps","number","last","best"]) scN λR U _ hr h=>?_
 obtain⟨gs,i,l,B,rfl,hi,zl,zB,zg,q⟩:=h;refine#[_,(Ac (Bq (B6 Gy (vN 1) (Al C6 (Cn Az (vN 0)) Ad)) (AR (Ak hr Aj (a2 (Ip rfl qC9) (vN 2)))) Ah)
  (AR (Ak hr Aj (a2 (vN 3) (A4 (A4 (vN 0) (Al Be (vN 1) Ad)) Ad))))),?_]
 refine BH (λc=>?_) (λc=>?_)
 .rw[qAa]at c;rw[qC5 ()]at q;exact#[0,l,_,_,rfl,Sz.zero,zl,∅,q]
 .rw[qAa]at c;have i1:i+1<↥gs:=();rw[qC6 i1]at q;refine atR (BK (cs:=gs) (i+1) () i1) ?_;exact#[B,_,_,_,rfl,zB,(zg _ i1).2,∅,q]
variable (Dq:qDi P w K mg base 2 "comes_above" ["gaps","number","last","best"] FU)
def VP:Da P w K mg base "left" Rb 9 qDd Ql:=by
 refine fq (N:=["f","g","gaps","last","slopes","corners","best","number","gap"]) scN λR U Y' hr h=>?_
 obtain⟨cs,m,ds,k,a,b,c,aq,bq,cq,A,rfl,r1,r2,z1,z2,hA,hA2,hl0,n1,n2,n3,q⟩:=h;refine#[_,(Ac (AI 2 Y' (Ak hr Bh (a1 (Ak hr A5 (a2 (vN 0) (vN 1))))))
  (Ac (AI 3 Y' (Ak hr Ar (a2 (vK 0) (vK 1))))
  (Ac (AI 4 Y' (Ak hr Bk (a2 (vN 2) (vN 3))))
  (Ac (AI 5 Y' (Gn Nk))
  (Ac (AI 6 Y' (Ip rfl qC9))
  (Ac (Vk (B3 PassesOwn.never rfl (Sn rfl Ci (pv 2)) (Qb rfl (FC (A9 (i:=7) Y'.nd rfl (Or.inl rfl)) (FC (A9 (i:=8) Y'.nd rfl (Or.inl rfl)) Ng))) (Dp.out (Ac (AI 6 Y' (Ak hr CB (a2 (vN 6) (vK 8))))
  (Ac (EZ (Bx (E6 qAC qAz qAA AV (pv 5) (AM (PE3.out (Bb (a2 (vK 8) (vN 6)))) Br))))
  (Ag (Bq (PW3.pt (Kd (AN (Ak hr Aj (a2 (vK 8) (vN 6)))) (F7 (AN (Ak hr Dq (Au (vN 2) (Au (vN 7) (a2 (vN 3) (vN 6))))))))) (Ag (EZ (Bx (E6 qAC qAz qAA AV (pv 5) (AM (PE3.out (Bb (a2 (Ak hr Dx (Au (vN 8) (a2 (A4 (vN 4) (vN 7)) (vN 6)))) (vN 6)))) Br))))) Ah)))))))
  (AR (Ak hr B5 (a2 (vN 5) (Ak hr CB (a2 (Ip rfl qC9) (vN 3)))))))))))),?_]
 have oc:=r1.o;have od:=r2.o;refine#[cs,m,ds,k,A,b+bq,c+cq,rfl,oc,od,(),(),z1.mono hA () (),z2.mono hA2 () (),(),(),(),λts ht hl=>?_];have tz:∀i,i<↥ts->Sz A (T ts i):=λi hi=>by
  rcases ht.of i hi with⟨j,hj,e⟩|⟨j,hj,e⟩
  .rw[e];exact(z1.tm j hj).mono hA
  .rw[e];exact(z2.tm j hj).mono hA2
 have vz:∀i,i<↥ts->Sz 1800 (val cs m (T ts i))/\Sz 1800 (val ds k (T ts i)):=λi hi=>#[(z1.va (Le ht hi) (tz i hi)).mono (),(z2.va (Le ht hi) (tz i hi)).mono ()];obtain⟨g,hg⟩:∃g,g=b+bq+c+cq+A+3:=#[_,rfl];obtain⟨X,hX⟩:∃X,X=2*(b+bq+c+cq)+A+6:=#[_,rfl];rw[<-hg,<-hX]at q;have gX:g<=X:=();have X2:X<=3000:=();have AX:A<=X:=();have gz:∀i,i<↥ts->Sz g (gap cs m ds k (T ts i)):=λi hi=>by rw[hg];exact UE z1 z2 (Le ht hi) (tz i hi)
 refine#[_,cs,m,ds,k,ts,1800,rfl,Or.inr rfl,(),∅,vz,?_];have gl:=CN (cs:=cs) (m:=m) (ds:=ds) (k:=k) (ts:=ts);have gC:SzC 3000 (gcs cs m ds k ts):=λi hi=>by
  rw[gl]at hi;rw[(BB hi).1,(BB hi).2];exact#[(tz i hi).mono (),(gz i hi).mono ()]
 have gU:Up (gcs cs m ds k ts):=λi hi=>by
  rw[gl]at hi;rw[(BB (show i<↥ts from ())).1,(BB hi).1];exact ht.up i hi
 have ne:=ht.ne;have zm:=z1.m oc;have zk:=z2.m od;have zL:Sz (b+bq+1) (m-k):=zm.sub zk;refine#[m,k,_,_,rfl,zm,zk,(),?_];refine#[_,gcs cs m ds k ts,m-k,rfl,Or.inl rfl,by rw[gl];exact ne,by rw[gl];omega,gC.mono ∅,Df.of gC ∅,gU,?_];refine#[(by show 0<=1000;decide),?_];refine#[λi τ=>∃(C:Cs)(B M:Rat)(y7 y8:Option S),τ=[some (.d (crv cs m)),some (.d (crv ds k)),some (.r ((gcs cs m ds k ts).map cd)),some (.d (qd (m-k))),some (.l ((HY (gcs cs m ds k ts) (m-k)).map qd)),some (.l (C.map cd)),some (.d (qd B)),y7,y8]/\(i=0->C=[]/\B=0)/\(0<i->Lft (gap cs m ds k) C (T ts (i-1)) B M (if i<↥ts then some (T ts i) else none)/\Ln (b+bq+1) g C M)/\(i=↥ts->M=mx 0 (m-k))/\↥C<=2*i/\(∀j,j<↥C->Sz X (tt C j)/\Sz g (vv C j))/\Sz g B,#[[],0,0,none,none,rfl,λ_=>#[rfl,rfl],λz=>absurd z ∅,λz=>absurd z (),qA9 _,(λj hj=>absurd hj (qAW j)),Sz.zero.mono ()],?_,?_]
 .rintro i τ x hx ⟨C,B,M,y7,y8,rfl,i0,ip,_,cl,zC,zB⟩;obtain⟨hi,rfl⟩:=DZ hx;rw[gl]at hi;obtain⟨e1,e2⟩:=BB (cs:=cs) (m:=m) (ds:=ds) (k:=k) hi;rw[e1,e2];have lin:=HN (m:=m) (k:=k) oc od ht hi;have t0:=Le ht hi;have es:slp (gcs cs m ds k ts) (m-k) i=sat cs m (T ts i)-sat ds k (T ts i):=lin.2;have zs:Sz (b+bq+1) (sat cs m (T ts i)-sat ds k (T ts i)):=(z1.sl _ t0).sub (z2.sl _ t0);have zic:Sz g (gap cs m ds k (T ts i)-(sat cs m (T ts i)-sat ds k (T ts i))*T ts i):=(OB z1 z2 t0).mono ();refine#[B,gap cs m ds k (T ts i),_,_,rfl,zB,gz i hi,(),?_];have zB':Sz g (mx B (gap cs m ds k (T ts i))):=by
   rcases(LD B (gap cs m ds k (T ts i))).2.2 with z|z
   .rw[z];exact zB
   .rw[z];exact gz i hi
  have LL:Lf0 (gap cs m ds k) (C++[(T ts i,mx B (gap cs m ds k (T ts i)))]) (T ts i) (mx B (gap cs m ds k (T ts i)))/\∀M',Sz (b+bq+1) M'->Sz g (mx B (gap cs m ds k (T ts i))-M'*T ts i)->Ln (b+bq+1) g (C++[(T ts i,mx B (gap cs m ds k (T ts i)))]) M':=by
   by_cases z:i=0
   .obtain⟨rfl,rfl⟩:=i0 z;subst z;refine#[?_,λM' h1 h2=>Ln.one h1 h2];rw[ht.t0];have ml:=LD 0 (gap cs m ds k 0);have l0:IsL (gap cs m ds k) 0 (mx 0 (gap cs m ds k 0)):=by
     refine#[ml.1,?_,λs s0 s1=>?_]
     .rcases ml.2.2 with z|z
      .exact .inl z
      .exact .inr #[0,qAc,qAc,z.symm]
     .have:s=0:=⋯;rw[this];exact ml.2.1
    refine#[Ord.one ml.1,rfl,rfl,l0,λM t t0 t1=>?_];have:t=0:=⋯;subst this;show IsL _ 0 (val [(0,mx 0 (gap cs m ds k 0))] M 0);rw[Cy (Ord.one ml.1)];exact l0
   .obtain⟨a',n'⟩:=ip ();rw[qC6 hi]at a';have lin0:=HN (m:=m) (k:=k) oc od ht (show i-1<↥ts from ());have ei:i-1+1=i:=();rw[ei]at lin0;have u:=ht.up (i-1) ();rw[ei]at u;have iB:=a'.l.nxt (Le ht (show i-1<↥ts from ())) rfl (qAm u) (λx x1 x2=>lin0.1 x x1 (λ_=>x2));exact#[a'.step iB,λM' h1 h2=>n'.snoc (a'.slope iB) h1 h2]
  obtain⟨L0,N0⟩:=LL;rw[show(if B<gap cs m ds k (T ts i) then gap cs m ds k (T ts i) else B)=mx B (gap cs m ds k (T ts i)) from rfl];have gB:gap cs m ds k (T ts i)<=mx B (gap cs m ds k (T ts i)):=(LD B _).2.1;generalize eB:mx B (gap cs m ds k (T ts i))=B' at L0 N0 zB' gB ⊢;have zC':∀j,j<(C++[(T ts i,B')]).length->Sz X (tt (C++[(T ts i,B')]) j)/\Sz g (vv (C++[(T ts i,B')]) j):=N9 zC ((tz i hi).mono AX) zB';have flat:Ln (b+bq+1) g (C++[(T ts i,B')]) 0:=N0 0 (Sz.zero.mono ()) (by rw[show B'-0*T ts i=B' from ⋯];exact zB');have hnx:∀u,(if i+1<↥ts then some (T ts (i+1)) else none)=some u->T ts i<u:=λu hu=>by
   by_cases i1:i+1<↥ts
   .rw[qC6 i1]at hu;cases hu;exact ht.up i i1
   .rw[qC5 i1]at hu;cases hu
  obtain⟨t1,t2,t3⟩:=L0.turn (s:=slp (gcs cs m ds k ts) (m-k) i) rfl hnx (λx x1 x2=>lin.1 x x1 λi1=>x2 _ (qC6 i1));have hs:i+1=↥ts->slp (gcs cs m ds k ts) (m-k) i=m-k:=λe=>AF (by rw[gl];omega);have lC:(C++[(T ts i,B')]).length<=2*(i+1):=by rw[qAr];show ↥C+1<=_;omega
  refine#[(by show 2<=1000;decide),?_];refine#[by rw[qAa];omega,?_];refine#[gap cs m ds k (T ts i),B',_,_,rfl,gz i hi,zB',(),?_];refine BH (λc=>?_) (λc=>?_)
  .refine#[gcs cs m ds k ts,i,m-k,B',rfl,by rw[gl];exact hi,zL.mono (),zB'.mono (),gC.mono ∅,?_];have hAb:(if i+1<(gcs cs m ds k ts).length then decide (B'<vv (gcs cs m ds k ts) (i+1)) else decide (0<m-k))=true ↔ Ab (gap cs m ds k) B' (slp (gcs cs m ds k ts) (m-k) i) (if i+1<↥ts then some (T ts (i+1)) else none):=by
    by_cases i1:i+1<↥ts
    .rw[qC6 (show i+1<(gcs cs m ds k ts).length by rw[gl];exact i1),qC6 i1,(BB i1).2,decide_eq_true_iff];exact Iff.rfl
    .rw[qC5 (show ¬i+1<(gcs cs m ds k ts).length by rw[gl];exact i1),qC5 i1,hs (),decide_eq_true_iff];exact Iff.rfl
   generalize (if i+1<(gcs cs m ds k ts).length then decide (B'<vv (gcs cs m ds k ts) (i+1)) else decide (0<m-k))=bb at hAb ⊢;rw[show bb=decide (bb=true) by cases bb<;>rfl];refine BH (λe=>?_) (λne=>?_)
   rotate_left
   .have t2:=t2 c (λz=>ne (hAb.mpr z));refine#[_,_,_,_,_,by rw[qAM];rfl,λz=>absurd z (),λ_=>#[t2,flat],λe=>?_,lC,zC',zB'];have nb:¬Ab (gap cs m ds k) B' (slp (gcs cs m ds k ts) (m-k) i) (if i+1<↥ts then some (T ts (i+1)) else none):=λz=>ne (hAb.mpr z);rw[qC5 (),hs e]at nb;have nb:¬0<m-k:=nb;unfold mx;rw[qC5 nb]
   .obtain⟨s0,t3⟩:=t3 c (hAb.mp e);rw[es]at s0 t3;have sne:sat cs m (T ts i)-sat ds k (T ts i)≠0:=λz=>by rw[z]at s0;exact absurd s0 ∅
    have xz:Sz X (T ts i+(B'-gap cs m ds k (T ts i))/(sat cs m (T ts i)-sat ds k (T ts i))):=(OI z1 z2 t0 zB' sne).mono ();refine atR (NQ (cs:=gcs cs m ds k ts) (m:=m-k) i rfl (by rw[gl];exact hi)) ?_;rw[es];refine#[T ts i,gap cs m ds k (T ts i),_,B',X,X,X,_,rfl,(tz i hi).mono AX,(gz i hi).mono gX,zB'.mono gX,zs,sne,(),?_];have N1:Ln (b+bq+1) g (C++[(T ts i,B')]++[(T ts i+(B'-gap cs m ds k (T ts i))/(sat cs m (T ts i)-sat ds k (T ts i)),B')]) (sat cs m (T ts i)-sat ds k (T ts i)):=by
     refine flat.snoc ?_ zs ?_
     .have ln:(C++[(T ts i,B')]).length-1=↥C:=by rw[Bf];omega
      rw[ln,O3];show(B'-B')/_=0;rw[show B'-B'=0 from ⋯,qCP,Rat.zero_mul]
     .show Sz g (B'-(sat cs m (T ts i)-sat ds k (T ts i))*(T ts i+(B'-gap cs m ds k (T ts i))/(sat cs m (T ts i)-sat ds k (T ts i))));generalize sat cs m (T ts i)-sat ds k (T ts i)=s at *
      generalize gap cs m ds k (T ts i)=G at *
      rw[show B'-s*(T ts i+(B'-G)/s)=G-s*T ts i from ⋯];exact zic
    generalize T ts i+(B'-gap cs m ds k (T ts i))/(sat cs m (T ts i)-sat ds k (T ts i))=Y at xz t3 N1 ⊢;refine#[(by show 2<=1000;decide),(by rw[qAr,qAa];show ↥C+1<1000000;omega),?_];refine#[_,_,_,_,_,by rw[qAM,qAM];rfl,λz=>absurd z (),λ_=>#[t3,N1],λe=>?_,?_,N9 zC' xz zB',zB']
    .rw[<-es,hs e]at s0 ⊢;unfold mx;rw[qC6 s0]
    .rw[qAr,qAr];show ↥C+1+1<=_;omega
  .have t1:=t1 c;refine iF ?_;have N1:Ln (b+bq+1) g (C++[(T ts i,B')]) (mx 0 (slp (gcs cs m ds k ts) (m-k) i)):=by
    rcases(LD 0 (slp (gcs cs m ds k ts) (m-k) i)).2.2 with z|z
    .rw[z];exact flat
    .rw[z,es];have eG:B'=gap cs m ds k (T ts i):=⋯;exact N0 _ zs (by rw[eG];exact zic)
   exact#[_,_,_,_,_,by rw[qAM];rfl,λz=>absurd z (),λ_=>#[t1,N1],λe=>by rw[hs e],lC,zC',zB']
 rintro τ ⟨C,B,M,y7,y8,rfl,i0,ip,iM,cl,zC,zB⟩;have iN:(List.map cd (gcs cs m ds k ts)).length=↥ts:=by rw[qAa,gl]
 rw[iN]at ip iM cl;obtain⟨a',n'⟩:=ip ne;rw[qC5 (qAY _)]at a';have eM:=iM rfl;subst eM;have zM:Sz 3000 (mx 0 (m-k)):=by
  rcases(LD 0 (m-k)).2.2 with z|z
  .rw[z];exact Sz.zero.mono ∅
  .rw[z];exact zL.mono ()
 refine#[0,m-k,_,_,rfl,Sz.zero,zL,(),?_];refine#[_,C,mx 0 (m-k),rfl,Or.inl rfl,?_,λ_=>?_,λno=>absurd #[a'.o,a'.M0] no]
 .exact SzK.d (n:=3000) #[(),λj hj=>#[(zC j hj).1.mono X2,(zC j hj).2.mono ()],zM] ∅
 have LC:LS X (b+bq+1) g C (mx 0 (m-k)):=n'.ls a'.o (λj hj=>(zC j hj).1);refine q _ _ (IH a'.o a'.M0) a'.M0 (λt t0=>?_) (LC.kept a'.o) ?_
 .rw[(HX a'.o t).1];exact a'.v t t0 (λu hu=>by cases hu)
 .have:=Kt C (mx 0 (m-k)) (↥C-1);have:=a'.o.ne;omega
variable (Oh:qDi P w K mg base 9 "left" qDd Ql)
def Qh:Da P w K mg base "unused" LU 10 ["coming","offer"] My:=by
 refine fq (N:=["coming","offer"]) scN λR U _ hr h=>?_
 obtain⟨cs,m,ds,k,a,b,c,aq,bq,cq,A,rfl,h1,h2,h3,h4,h5,h6,h7,h8,h9,h10,h11⟩:=h;refine#[_,(AR (Ak hr Oh (a2 (vN 1) (vN 0)))),?_];exact#[cs,m,ds,k,a,b,c,aq,bq,cq,A,rfl,h1,h2,h3,h4,h5,h6,h7,h8,h9,h10,h11]
variable (IA:qDi P w K mg base 10 "unused" ["coming","offer"] My)
def Sd:Da P w K mg base "served" K6 11 ["coming","offer"] ME:=by
 refine fq (N:=["coming","offer"]) scN λR U _ hr h=>?_
 obtain⟨cs,m,ds,k,a,b,c,aq,bq,cq,A,rfl,r1,r2,z1,z2,hA,hA2,hl0,hl1,n1,n2,n3,n4,q⟩:=h;refine#[_,(AR (Ak hr F4 (a2 (vN 1) (Ak hr IA (a2 (vN 0) (vN 1)))))),?_];refine#[cs,m,ds,k,a,b,c,aq,bq,cq,A,rfl,r1,r2,z1,z2,hA,hA2,(),(),(),(),λL K cL k0 vL zL lL=>?_];have rL:EO L K:=#[#[cL.ne,cL.t0,cL.v0,cL.up,cL.vu],k0];have cm:∀x y,0<=x->x<=y->val cs m x<=val cs m y:=λx y x0 xy=>Cu r1 x0 xy;have am:∀x y,0<=x->x<=y->val ds k x<=val ds k y:=λx y x0 xy=>Cu r2 x0 xy;refine#[cs,m,L,K,a,b,c,_,_,_,2*(b+bq+c+cq)+A+6,rfl,r1,rL,z1,zL,(),qAg _,(),(),(),(),λx y x0 xy=>TU cm am vL x0 xy,?_,λC M cC vC eM zC lC=>?_]
 .have c0:=Cy (m:=m) r1.o;have a0:=Cy (m:=k) r2.o;refine Qq (C:=val cs m) (A:=val ds k) (L:=val L K) (by rw[c0];exact r1.o.v0) (by rw[a0];exact r2.o.v0) (vL 0 qAc)
 .exact q L K C M cL k0 vL cC cC.m0 eM vC zC ()
variable (IM:qDi P w K mg base 11 "served" ["coming","offer"] ME)
def JC:Da P w K mg base "_law_cell_at" DS 1 ["_law_script","_law_k"] Fh:=by
 refine fq (N:=["_law_script","_law_k"]) scN λR U _ hr h=>?_
 obtain⟨ns,k,rfl,k0,k1,q⟩:=h;refine#[_,(Ac (Bq (B6 J5 (vN 1) (Cn Az (vN 0))) (AR (A4 (vN 0) (vN 1))) Ah)
  (AR (Al Be (Al AD Ad (vN 1)) Ad))),?_]
 unfold cl at q;refine BH (λc=>?_) (λc=>?_)
 .rw[qAa]at c;rw[qC6 c]at q;refine atR (GH (ms:=ns) k.toNat () ()) ?_;rw[show((k.toNat:Nat):Int)=k from ()];exact q
 .rw[qAa]at c;rw[qC5 c]at q;exact#[AE (m:=10) (n:=20) ∅ () ∅,q]
variable (Ax:qDi P w K mg base 1 "_law_cell_at" ["_law_script","_law_k"] Fh)
def NR:Da P w K mg base "_law_low" HJ 1 ["_law_top","_law_bottom"] JR:=by
 refine fq (N:=["_law_top","_law_bottom","_law_one","_law_other","_law_rest"]) scN λR U Y' hr h=>?_
 obtain⟨a,b,rfl,hb,h1,h2,q⟩:=h;refine#[_,(Ac (AI 2 Y' (La WX rfl MF qCf (a1 (vN 0))))
  (Ac (AI 3 Y' (vN 1))
  (Ac (Hy PassesOwn.never (B6 Vj (vN 3) Ad) (Ac (AI 4 Y' (Al B8 (vN 2) (vN 3)))
  (Ac (AI 2 Y' (vN 3))
  (Ag (AI 3 Y' (vN 4))))))
  (AR (Bb (a2 (Al BU (vN 0) (vN 2)) (Al BU (vN 1) (vN 2)))))))),?_]
 have hb0:b≠0:=by clear h1 h2;omega
 have hp:=Jl (a:=a) hb0;have hc:=O6 (a:=a) hb0;have e:cm a b=g a b:=qC5 (by clear h1 h2;omega);rw[e]at hp hc;have ga:=YX a b;rw[qC5 (show ¬b<0 by clear h1 h2;omega)]at ga;refine#[λm τ=>∃x y z,τ=[I a,I b,I x,I y,z]/\0<=x/\0<=y/\g x y=g a b/\m=y.toNat,#[_,_,_,_,rfl,Qd a,Int.le_of_lt hb,ga,rfl],?_];rintro m τ ⟨x,y,z,rfl,k1,k2,k3,rfl⟩;refine BH (λc=>?_) (λc=>?_)
 .clear h1 h2;have c:0<y:=c;refine#[(),(x.fmod y).toNat,?_,_,_,_,rfl,k2,?_,?_,rfl]
  .have:=qB8 x (show 0<y from ());omega
  .exact qCc x ()
  .rw[<-k3,qCD x k2];exact UT ()
 .have c:y=0:=by have:¬0<y:=c;omega
  subst c;rw[Yl k1]at k3;subst k3;refine#[#[hc,X4 h1],#[hc,X4 h2],(by show 2<=1000;decide),?_];show R (.d (.tup [.int (a.fdiv (g a b)),.int (b.fdiv (g a b))]));rw[hp.1,hp.2];exact q
variable (AW:qDi P w K mg base 1 "_law_low" ["_law_top","_law_bottom"] JR)
def NK:Da P w K mg base "_law_add" HB 1 qDe Jd:=by
 refine fq (N:=["_law_one","_law_other"]) scN λR U _ hr h=>?_
 obtain⟨a,b,c,d,rfl,⟨h1,h2,h3,h4⟩,q⟩:=h;refine#[_,(AR (Bb (a2 (Al Be (Al AD (vK 0) (vK 1)) (Al AD (vK 1) (vK 0))) (Al AD (vK 0) (vK 1))))),?_];exact#[AE h1 h4 ∅,AE h3 h2 ∅,AE h2 h4 ∅,(by show 2<=1000;decide),q]
variable (Bu:qDi P w K mg base 1 "_law_add" qDe Jd)
def Mn:Da P w K mg base "_law_take" Gs 1 qDe H0:=by
 refine fq (N:=["_law_one","_law_other"]) scN λR U _ hr h=>?_
 obtain⟨a,b,c,d,rfl,⟨h1,h2,h3,h4⟩,q⟩:=h;refine#[_,(AR (Bb (a2 (Al C6 (Al AD (vK 0) (vK 1)) (Al AD (vK 1) (vK 0))) (Al AD (vK 0) (vK 1))))),?_];exact#[AE h1 h4 ∅,AE h3 h2 ∅,AE h2 h4 ∅,(by show 2<=1000;decide),q]
variable (Av:qDi P w K mg base 1 "_law_take" qDe H0)
def L6:Da P w K mg base "_law_up_to" EU 1 qDe GI:=by
 refine fq (N:=["_law_one","_law_other"]) scN λR U _ hr h=>?_
 obtain⟨a,b,c,d,rfl,⟨h1,h2,h3,h4⟩,q⟩:=h;refine#[_,(AR (HC dA (Al AD (vK 0) (vK 1)) (Al AD (vK 1) (vK 0)) (DF _))),?_];exact#[AE h1 h4 ∅,AE h3 h2 ∅,q]
variable (Ai:qDi P w K mg base 1 "_law_up_to" qDe GI)
def KZ:Da P w K mg base "_law_slope" Fu 2 ["_law_f","_law_k"] Hf:=by
 refine fq (N:=["_law_f","_law_k","_law_high","_law_wide"]) scN λR U Y' hr h=>?_
 obtain⟨cs,m,k,j,n,rfl,rfl,jl,up,hn,zc,zm,q⟩:=h;refine#[_,(Ac (Bq (B6 Gy (Al Be (vN 1) Ad) (Cn Az (vK 0))) (AR (vK 0)) Ah)
  (Ac (AI 2 Y' (Ak hr Av (a2 (A4 (A4 (vK 0) (Al Be (vN 1) Ad)) Ad) (A4 (A4 (vK 0) (vN 1)) Ad))))
  (Ac (AI 3 Y' (Ak hr Av (a2 (A4 (A4 (vK 0) (Al Be (vN 1) Ad)) Ad) (A4 (A4 (vK 0) (vN 1)) Ad))))
  (AR (Bb (a2 (Al AD (vK 2) (vK 3)) (Al AD (vK 2) (vK 3)))))))),?_]
 refine BH (λc=>?_) (λc=>?_)
 .rw[qAa]at c;have e:slp cs m j=m:=AF ();rw[e]at q;exact q _ _ ((Wq.of zm).mono ())
 .rw[qAa]at c;have j1:j+1<↥cs:=();have b1:=BK (cs:=cs) (i:=(j:Int)+1) (j+1) () j1;have b0:=BK (cs:=cs) (i:=(j:Int)) j rfl jl;have z1:=zc _ j1;have z0:=zc _ jl;refine atR b1 ?_;refine atR b0 ?_;refine#[_,_,_,_,rfl,l4 z1.2 z0.2 (),?_];refine atR b1 ?_;refine atR b0 ?_;refine#[_,_,_,_,rfl,l4 z1.1 z0.1 (),?_];have w1:=(Wq.of z1.2).minus (Wq.of z0.2);have w2:=(Wq.of z1.1).minus (Wq.of z0.1);refine#[AE w1.la w2.lb (),AE w1.lb w2.la (),(by show 2<=1000;decide),?_];rw[Bo j1]at q;exact q _ _ ((w1.div w2 (Uz (up j j1))).mono ())
variable (A8:qDi P w K mg base 2 "_law_slope" ["_law_f","_law_k"] Hf)
def Py:Da P w K mg base "_law_at" JN 3 ["_law_f","_law_t"] KC:=by
 refine fq (N:=["_law_f","_law_t","_law_k","_law_slope_here","_law_gone"]) scN λR U Y' hr h=>?_
 obtain⟨cs,m,t,tn,td,n,rfl,oc,lc,hn,zc,zm,wt,t0,q⟩:=h;refine#[_,(Ac (AI 2 Y' Ad)
  (Ac (Hy PassesOwn.never (PW3.pt (Kd (B6 J5 (Al Be (vN 2) Ad) (Cn Az (vK 0))) (F7 (AN (Ak hr Ai (a2 (A4 (A4 (vK 0) (Al Be (vN 2) Ad)) Ad) (vN 1))))))) (Ag (AI 2 Y' (Al Be (vN 2) Ad))))
  (Ac (AI 3 Y' (Ak hr A8 (a2 (vN 0) (vN 2))))
  (Ac (AI 4 Y' (Ak hr Av (a2 (vN 1) (A4 (A4 (vK 0) (vN 2)) Ad))))
  (AR (Ak hr Bu (a2 (A4 (A4 (vK 0) (vN 2)) Ad) (Bb (a2 (Al AD (vK 3) (vK 4)) (Al AD (vK 3) (vK 4))))))))))),?_]
 refine#[λmm τ=>∃j:Nat,τ=[some (.d (crv cs m)),some (.d (tp tn td)),I j,none,none]/\j<↥cs/\tt cs j<=t/\mm=↥cs-j,#[_,0,rfl,oc.ne,by rw[oc.t0];exact t0,rfl],?_];rintro mm τ ⟨j,rfl,jl,jt,rfl⟩;refine BH (λc=>?_) (λc=>?_)
 .rw[qAa]at c;have j1:j+1<↥cs:=();refine atR (BK (cs:=cs) (i:=(j:Int)+1) (j+1) () j1) ?_;have w1:=Wq.of (zc _ j1).1;refine#[_,_,_,_,rfl,w1.l4 wt (),?_];refine BH (λc2=>?_) (λc2=>?_)
  .rw[w1.le_iff wt]at c2;exact#[↥cs-(j+1),(),j+1,rfl,j1,c2,rfl]
  .rw[w1.le_iff wt]at c2;have on:On cs j t:=#[jl,jt,λ_=>⋯];refine#[cs,m,_,j,n,rfl,rfl,jl,oc.up,(),zc,zm,λA B wS=>?_];have b0:=BK (cs:=cs) (i:=(j:Int)) j rfl jl;refine atR b0 ?_;have w0:=Wq.of (zc _ jl).1;refine#[_,_,_,_,rfl,wt.l4 w0 (),?_];have wg:=wt.minus w0;refine atR b0 ?_;have wm:=wS.mul wg;refine#[AE wS.la wg.la (),AE wS.lb wg.lb (),(by show 2<=1000;decide),?_];have wv:=Wq.of (zc _ jl).2;refine#[_,_,_,_,rfl,(wv.mono (show n<=400000 from ())).l4 (wm.mono ()) (qAg _),?_];exact q _ _ (((wv.plus wm).cast (B7 oc.up on).symm).mono ())
 .rw[qAa]at c;have on:On cs j t:=#[jl,jt,λh=>absurd h ()];refine#[cs,m,_,j,n,rfl,rfl,jl,oc.up,(),zc,zm,λA B wS=>?_];have b0:=BK (cs:=cs) (i:=(j:Int)) j rfl jl;refine atR b0 ?_;have w0:=Wq.of (zc _ jl).1;refine#[_,_,_,_,rfl,wt.l4 w0 (),?_];have wg:=wt.minus w0;refine atR b0 ?_;have wm:=wS.mul wg;refine#[AE wS.la wg.la (),AE wS.lb wg.lb (),(by show 2<=1000;decide),?_];have wv:=Wq.of (zc _ jl).2;refine#[_,_,_,_,rfl,(wv.mono (show n<=400000 from ())).l4 (wm.mono ()) (qAg _),?_];exact q _ _ (((wv.plus wm).cast (B7 oc.up on).symm).mono ())
variable (AU:qDi P w K mg base 3 "_law_at" ["_law_f","_law_t"] KC)
def Ls:Da P w K mg base "_law_ratio" E8 2 ["_law_found"] He:=by
 refine fq (N:=["_law_found","_law_part"]) scN λR U Y' hr h=>?_
 obtain⟨q0,rfl,hz,q⟩:=h;refine#[_,(Im (Bq (PW3.pt (Ji (w_not (AN (LJ .tuple (vN 0) rfl Ap rfl BF qBd))) (Fg (B6 WW (Cn Az (vN 0)) Ad)))) (AR HR) Ah)
  (Ac (QS (B3 PassesOwn.never rfl (Bt (pv 0)) (A9 (i:=1) Y'.nd rfl (Or.inl rfl)) (Dp.out (Ag (Bq (PW3.pt (Ji (w_not (AN (LJ .int (vN 1) rfl Ap rfl Nw qCX))) (Fg (AN (LJ .bool (vN 1) rfl Ap rfl Jq qCR))))) (AR HR) Ah)))))
  (AR (PH (HC Vj (vK 0) Ad (DF _)) (Uj (HC (TQ 1 (hu_ hr ∅)) (Ak hr AW (a2 (vK 0) (vK 0))) (vN 0) (DF _))))))),?_]
 have hd:=den_pos q0;refine#[#[trivial,rfl],?_];refine#[λn τ=>∃z,τ=[some (.d (qd q0)),z],#[_,rfl],?_,?_]
 .rintro n τ x hx ⟨z,rfl⟩;have ex:∃i,x=.int i:=by
   match n,hx with
   |0,hx=>exact#[_,(qAn hx).symm]
   |1,hx=>exact#[_,(qAn hx).symm]
  obtain⟨i,rfl⟩:=ex;exact#[trivial,#[trivial,#[_,rfl]]]
 rintro τ ⟨z,rfl⟩;refine BH (λ_=>?_) (λc=>absurd (show(0:Int)<q0.den from ()) c);refine#[q0.num,q0.den,rfl,(),hz.1,AA hz,rfl,rfl,?_];rw[qCy];have e:eqN 1 (qd q0) (qd q0)=true:=IU 1 _ rfl;show R (.d (.bl (eqN 1 (qd q0) (qd q0))));rw[e];exact q
variable (AQ:qDi P w K mg base 2 "_law_ratio" ["_law_found"] He)
def LP:Da P w K mg base "_law_curve" Fv 3 ["_law_found"] GU:=by
 refine fq (N:=["_law_found","_law_corner","_law_k","_law_one","_law_other"]) scN λR U Y' hr h=>?_
 obtain⟨cs,m,rfl,hc,hz,q⟩:=h;refine#[_,(Im (Bq (PW3.pt (Ji (w_not (AN (LJ .tuple (vN 0) rfl Ap rfl BF qBd))) (Ji (B6 WW (Cn Az (vN 0)) Ad) (Fg (w_not (AN (LJ .tuple (vK 0) rfl Ap rfl BF qBd))))))) (AR HR) Ah)
  (Im (Bq (PW3.pt (Ji (B6 Gy (Cn Az (vK 0)) Ad) (Ji (w_not (AN (Ak hr AQ (a1 (vK 0))))) (Fg (B6 J5 (A4 (vK 0) Ad) Ad))))) (AR HR) Ah)
  (Ac (Ec (B3 PassesOwn.never rfl (Bt (PE3.out (vK 0))) (A9 (i:=1) Y'.nd rfl (Or.inl rfl)) (Dp.out (Im (Bq (PW3.pt (Ji (w_not (AN (LJ .tuple (vN 1) rfl Ap rfl BF qBd))) (Fg (B6 WW (Cn Az (vN 1)) Ad)))) (AR HR) Ah)
  (Ag (Bq (PW3.pt (Ji (w_not (AN (Ak hr AQ (a1 (vK 1))))) (Fg (w_not (AN (Ak hr AQ (a1 (vK 1)))))))) (AR HR) Ah))))))
  (Im (Bq (PW3.pt (Ji (B6 (Ug 1 (hu_ hr ∅)) (A4 (A4 (vK 0) Ad) Ad) (Bb (a2 Ad Ad))) (Fg (B6 J5 (A4 (A4 (A4 (vK 0) Ad) Ad) Ad) Ad)))) (AR HR) Ah)
  (Ac (O2 (B3 PassesOwn.never rfl (Cz rfl AY (PA3.out (a2 Ad (Cn Az (vK 0))))) (A9 (i:=2) Y'.nd rfl (Or.inl rfl)) (Dp.out (Ac (Bq (AN (Ak hr Ai (a2 (A4 (A4 (vK 0) (vN 2)) Ad) (A4 (A4 (vK 0) (Al C6 (vN 2) Ad)) Ad)))) (AR HR) Ah)
  (Ac (Bq (w_not (AN (Ak hr Ai (a2 (A4 (A4 (vK 0) (Al C6 (vN 2) Ad)) Ad) (A4 (A4 (vK 0) (vN 2)) Ad))))) (AR HR) Ah)
  (Ac (AI 3 Y' (Ak hr A8 (a2 (vN 0) (Al C6 (vN 2) Ad))))
  (Ac (AI 4 Y' (Ak hr A8 (a2 (vN 0) (vN 2))))
  (Ag (Bq (B6 Gy (Al AD (vK 3) (vK 4)) (Al AD (vK 4) (vK 3))) (AR HR) Ah)))))))))
  (AR HR)))))),?_]
 have hl:=hz.len;have c0:=hc.ne;have a0:=BK (cs:=cs) (i:=0) 0 rfl c0;refine#[#[trivial,#[trivial,rfl]],?_];refine#[?_,?_]
 .refine BH (λc=>?_) (λ_=>?_)
  .rw[qAa]at c;omega
  refine#[m,rfl,hz.m.mono ∅,?_];exact BH (λc=>absurd c (OQ hc.m0)) (λ_=>rfl)
 refine#[λn τ=>∃z,τ=[some (.d (crv cs m)),z,none,none,none],#[_,rfl],?_,?_]
 .rintro n τ x hx ⟨z,rfl⟩;obtain⟨nl,rfl⟩:=DZ hx;refine#[#[trivial,rfl],?_];exact#[_,rfl,(hz.cs n nl).1.mono ∅,_,rfl,(hz.cs n nl).2.mono ∅,_,rfl]
 rintro τ ⟨z,rfl⟩;refine#[?_,?_]
 .refine atR a0 ?_;refine#[(by show 2<=1000;decide),rfl,rfl,?_];rw[hc.t0];refine atR a0 ?_;exact BH (λc=>absurd c (OQ hc.v0)) (λ_=>rfl)
 refine#[#[∅,∅,?_,?_],?_]
 .rw[qAa];omega
 .rw[qAa];omega
 refine#[λn τ=>∃y y2 y3,τ=[some (.d (crv cs m)),z,y,y2,y3],#[_,_,_,rfl],?_,?_]
 .rintro n τ hn ⟨y,y2,y3,rfl⟩;rw[qAa]at hn;have n1:n+1<↥cs:=();have b0:=BK (cs:=cs) (i:=1+n*1-1) n () ();have b1:=BK (cs:=cs) (i:=1+n*1) (n+1) () n1;have z0:=hz.cs n ();have z1:=hz.cs (n+1) n1;have w0:=Wq.of z0.1;have w1:=Wq.of z1.1;have u0:=Wq.of z0.2;have u1:=Wq.of z1.2;refine atR b1 ?_;refine atR b0 ?_;refine#[_,_,_,_,rfl,w1.l4 w0 ∅,?_];refine BH (λc=>absurd ((w1.le_iff w0).mp c) (qA1.mpr (hc.up n n1))) (λ_=>?_);refine atR b0 ?_;refine atR b1 ?_;refine#[_,_,_,_,rfl,u0.l4 u1 ∅,?_];refine Lk (λc=>absurd ((u0.le_iff u1).mpr (hc.vu n n1)) c) (λ_=>?_);refine#[cs,m,_,n,5200,rfl,(),(),hc.up,∅,hz.cs,hz.m,λA B wA=>?_];refine#[cs,m,_,n+1,5200,rfl,(),(),hc.up,∅,hz.cs,hz.m,λA2 B2 wB=>?_];refine#[AE wA.la wB.lb ∅,AE wB.la wA.lb ∅,?_];refine BH (λc=>absurd (Nf wA wB c) (hc.bend n n1)) (λ_=>?_);exact#[_,_,_,rfl]
 rintro τ ⟨y,y2,y3,rfl⟩;exact q
variable (BR:qDi P w K mg base 3 "_law_curve" ["_law_found"] GU)
def J8:Da P w K mg base "_law_slopes" Ew 1 ["_law_cells"] Gb:=by
 refine fq (N:=["_law_cells","_law_slopes_here","_law_slope_here","_law_cell","_law_kind"]) scN λR U Y' hr h=>?_
 obtain⟨ms,rfl,hl,q⟩:=h;refine#[_,(Ac (AI 1 Y' (Gn Nk))
  (Ac (AI 2 Y' Ad)
  (Ac (QS (B3 PassesOwn.never rfl (Bt (pv 0)) (A9 (i:=3) Y'.nd rfl (Or.inl rfl)) (Dp.out (Ac (AI 4 Y' (Al B8 (vN 3) Ad))
  (BJ (Bq (B6 Gy (vN 4) Ad) (Ag (AI 2 Y' Ad)) Ah)
  (BJ (Bq (B6 Gy (vN 4) Ad) (Ag (AI 2 Y' Ad)) Ah)
  (BJ (Bq (B6 Gy (vN 4) Ad) (Ag (AI 2 Y' (Al Be Ad (Al B8 (Al BU (vN 3) Ad) Ad)))) Ah)
  (BJ (Bq (B6 Gy (vN 4) Ad) (Ag (AI 2 Y' (Al Be Ad (Al B8 (Al BU (vN 3) Ad) Ad)))) Ah)
  (BJ (Bq (B6 Gy (vN 4) Ad) (Ag (AI 2 Y' (Al Be Ad (Al B8 (Al BU (vN 3) Ad) (Al PB Ad Ad))))) Ah)
  (Ag (EZ (Bx (E6 qAC qAz qAA AV (pv 1) (AM (PE3.out (vN 2)) Br))))))))))))))
  (Ag (DJ (pv 1)))))),?_]
 refine#[(by show 0<=1000;decide),?_];refine#[λn τ=>∃(s:Int)(sl:List Int)(y3 y4:Option S),τ=[some (.r (ms.map D.int)),some (.l (sl.map D.int)),I s,y3,y4]/\↥sl=n/\0<=s/\s<=2000000000000/\∀x∈sl,0<=x/\x<=2000000000000,#[0,[],_,_,rfl,rfl,∅,∅,λx hx=>by cases hx],?_,?_]
 .rintro n τ x hx ⟨s,sl,y3,y4,rfl,e,s0,s1,bs⟩;have hn:n<↥ms:=by have:=(qAe.mp hx).1;rw[qAa]at this;exact this
  obtain⟨c,_,rfl⟩:=Cf hx;have h12:(0:Int)<10^(12:Int).toNat:=∅;have h121:(10:Int)^(12:Int).toNat=1000000000000:=∅;have f5:=fm (a:=c.fdiv 24) (show(0:Int)<5 from ∅);have f1000:=fm (a:=c.fdiv 24) (show(0:Int)<1000 from ∅);have f12:=fm (a:=c.fdiv 24) h12;refine#[∅,?_];refine#[λτ=>∃s:Int,τ=[some (.r (ms.map D.int)),some (.l (sl.map D.int)),I s,I c,I (c.fmod 6)]/\0<=s/\s<=2000000000000,?_,?_]
  .refine BH (λ_=>#[0,rfl,∅,∅]) (λ_=>#[s,rfl,s0,s1])
  clear s0 s1;rintro τ ⟨s,rfl,s0,s1⟩;refine#[λτ=>∃s:Int,τ=[some (.r (ms.map D.int)),some (.l (sl.map D.int)),I s,I c,I (c.fmod 6)]/\0<=s/\s<=2000000000000,?_,?_]
  .refine BH (λ_=>#[1,rfl,∅,∅]) (λ_=>#[s,rfl,s0,s1])
  clear s0 s1;rintro τ ⟨s,rfl,s0,s1⟩;refine#[λτ=>∃s:Int,τ=[some (.r (ms.map D.int)),some (.l (sl.map D.int)),I s,I c,I (c.fmod 6)]/\0<=s/\s<=2000000000000,?_,?_]
  .refine BH (λ_=>#[#[∅,EK ∅],∅,_,rfl,(),()]) (λ_=>#[s,rfl,s0,s1])
  clear s0 s1;rintro τ ⟨s,rfl,s0,s1⟩;refine#[λτ=>∃s:Int,τ=[some (.r (ms.map D.int)),some (.l (sl.map D.int)),I s,I c,I (c.fmod 6)]/\0<=s/\s<=2000000000000,?_,?_]
  .refine BH (λ_=>#[#[∅,EK ∅],∅,_,rfl,(),()]) (λ_=>#[s,rfl,s0,s1])
  clear s0 s1;rintro τ ⟨s,rfl,s0,s1⟩;refine#[λτ=>∃s:Int,τ=[some (.r (ms.map D.int)),some (.l (sl.map D.int)),I s,I c,I (c.fmod 6)]/\0<=s/\s<=2000000000000,?_,?_]
  .refine BH (λ_=>#[#[∅,EK ∅],#[∅,∅,∅],qBl h12,_,rfl,(),by rw[h121]at f12 ⊢;omega]) (λ_=>#[s,rfl,s0,s1])
  clear s0 s1;rintro τ ⟨s,rfl,s0,s1⟩;refine#[by rw[qAa];omega,s,sl++[s],_,_,by rw[qAM];rfl,by rw[qAr,e];rfl,s0,s1,λx hx=>?_];rcases qAo.mp hx with h|h
  .exact bs x h
  .rw[qAG.mp h];exact#[s0,s1]
 rintro τ ⟨s,sl,y3,y4,rfl,e,s0,s1,bs⟩;rw[qAa]at e;exact q sl e bs
variable (Dg:qDi P w K mg base 1 "_law_slopes" ["_law_cells"] Gb)(GG:mg "sorted"=none)
def LO:Da P w K mg base "_law_drawn" E4 2 qDf G4:=by
 refine fq (N:=["_law_head","_law_cells","_law_start","_law_shape","_law_unit","_law_part","_law_slopes_here","_law_time","_law_value","_law_corners","_law_k","_law_gap"]) scN λR U Y' hr h=>?_
 obtain⟨c,ms,st,sh,rfl,m0,m1,s0,s1,q⟩:=h;refine#[_,(Ac (AI 4 Y' (Al Be Ad (Al B8 (vN 0) Ad)))
  (Ac (AI 5 Y' (Al Be Ad (Al B8 (Al BU (vN 0) Ad) Ad)))
  (BJ (Bq (B6 Gy (Al B8 (Al BU (vN 0) Ad) Ad) Ad) (Ag (AI 4 Y' (Al Be Ad (Al B8 (Al BU (vN 0) Ad) (Al PB Ad Ad))))) Ah)
  (Ac (AI 6 Y' (Ak hr Dg (a1 (vN 1))))
  (BJ (Bq (B6 Gy (vN 3) Ad) (Ag (AI 6 Y' (Sw (vN 6) rfl GG))) Ah)
  (BJ (Bq (B6 Gy (vN 3) Ad) (Ag (AI 6 Y' (Ud (vN 6) rfl GG))) Ah)
  (Ac (AI 7 Y' Ad)
  (Ac (AI 8 Y' (vN 2))
  (Ac (AI 9 Y' (Gn (a1 (Bb (a2 (Bb (a2 Ad Ad)) (Ak hr AW (a2 (vN 8) (Al AD (vN 4) (vN 5)))))))))
  (Ac (O2 (B3 PassesOwn.never rfl (Cz rfl AY (PA3.out (a2 Ad (Cn Az (vN 1))))) (A9 (i:=10) Y'.nd rfl (Or.inl rfl)) (Dp.out (Ac (AI 11 Y' (Al Be Ad (Al B8 (Al BU (A4 (vN 1) (Al C6 (vN 10) Ad)) Ad) Ad)))
  (BJ (Bq (B6 Gy (vN 11) Ad) (Ag (AI 11 Y' (Al Be Ad (Al B8 (Al AD (A4 (vN 1) (Al C6 (vN 10) Ad)) Ad) Ad)))) Ah)
  (Ac (AI 7 Y' (Al Be (vN 7) (vN 11)))
  (Ac (AI 8 Y' (Al Be (vN 8) (Al AD (vN 11) (A4 (vN 6) (Al C6 (vN 10) Ad)))))
  (Ag (Bq (B6 WW (A4 (vN 6) (vN 10)) (A4 (vN 6) (Al C6 (vN 10) Ad))) (Ag (EZ (Bx (E6 qAC qAz qAA AV (pv 9) (AM (PE3.out (Bb (a2 (Ak hr AW (a2 (vN 7) (vN 4))) (Ak hr AW (a2 (vN 8) (Al AD (vN 4) (vN 5))))))) Br))))) Ah)))))))))
  (AR (Bb (a2 (RS (vN 9) rfl BF) (Ak hr AW (a2 (A4 (vN 6) (EM Ad)) (vN 5)))))))))))))))),?_]
 have h12:(0:Int)<10^(12:Int).toNat:=∅;have h121:(10:Int)^(12:Int).toNat=1000000000000:=∅;have f6:=fm (a:=c) (show(0:Int)<6 from ∅);have f5:=fm (a:=c.fdiv 6) (show(0:Int)<5 from ∅);have f12:=fm (a:=c.fdiv 120) h12;refine#[∅,#[∅,EK ∅],∅,?_];refine#[λτ=>∃u p:Int,τ=[I c,some (.r (ms.map D.int)),I st,I sh,I u,I p,none,none,none,none,none,none]/\0<u/\u<=1000000000000/\0<p/\p<=5,?_,?_]
 .refine#[#[∅,EK ∅],∅,?_];refine BH (λ_=>?_) (λ_=>#[_,_,rfl,(),(),(),()]);exact#[#[∅,EK ∅],#[∅,∅,∅],qBl h12,_,_,rfl,(),by rw[h121]at f12 ⊢;omega,(),()]
 clear f6 f5 f12;rintro τ ⟨u,p,rfl,u0,u1,p0,p1⟩;refine#[ms,rfl,(),λsl el bs=>?_];refine#[λτ=>∃sl:List Int,τ=[I c,some (.r (ms.map D.int)),I st,I sh,I u,I p,some (.l (sl.map D.int)),none,none,none,none,none]/\↥sl=↥ms/\∀x∈sl,0<=x/\x<=2000000000000,?_,?_]
 .refine BH (λ_=>?_) (λ_=>#[sl,rfl,el,bs]);exact#[sl,rfl,(),λsl' pm=>#[sl',rfl,by rw[pm.length_eq];exact el,λx hx=>bs x (pm.mem_iff.mp hx)]]
 clear bs el;clear sl;rintro τ ⟨sl,rfl,el,bs⟩;refine#[λτ=>∃sl:List Int,τ=[I c,some (.r (ms.map D.int)),I st,I sh,I u,I p,some (.l (sl.map D.int)),none,none,none,none,none]/\↥sl=↥ms/\∀x∈sl,0<=x/\x<=2000000000000,?_,?_]
 .refine BH (λ_=>?_) (λ_=>#[sl,rfl,el,bs]);exact#[sl,rfl,(),λsl' pm=>#[sl',rfl,by rw[pm.length_eq];exact el,λx hx=>bs x (pm.mem_iff.mp hx)]]
 clear bs el;clear sl;rintro τ ⟨sl,rfl,el,bs⟩;have up0:0<u*p:=qBb u0 p0;have ub:u.natAbs<2^41:=();have pb:p.natAbs<2^4:=();have upb:(u*p).natAbs<2^100:=A6 (Aq ub pb) ∅;have ub':u.natAbs<2^100:=A6 ub ∅;have mup:IntMulOk u p:=AE ub pb ∅;have stb:st.natAbs<2^100:=();have u13:∀{x:Nat},x<2^100->x<2^13000:=λh=>A6 h ∅;have upb68:(u*p).natAbs<2^68:=A6 (Aq ub pb) ∅;have s9:∀j:Nat,j<↥sl->0<=cell sl j/\cell sl j<=2000000000000:=λj hj=>by
  refine bs _ ?_;unfold cell;rw[qBV,qAf,qAb hj];exact qBp hj
 have zsl:∀j:Nat,j<↥sl->Sz 45 (Rat.divInt (cell sl j) p):=λj hj=>by
  have:=s9 j hj;exact J9 p0 () (A6 pb ∅)
 refine#[(by show 2<=1000;decide),mup,st,u*p,rfl,up0,u13 stb,u13 upb,(by show 2<=1000;decide),(by show 1<=1000;decide),?_];refine#[#[∅,∅,by rw[qAa];omega,by rw[qAa];omega],?_];refine#[λn τ=>∃(ti va:Int)(cs:Cs)(y10 y11:Option S),τ=[I c,some (.r (ms.map D.int)),I st,I sh,I u,I p,some (.l (sl.map D.int)),I ti,I va,some (.l (cs.map cd)),y10,y11]/\Ord cs/\(Ln 45 68 cs (Rat.divInt (cell sl n) p)/\Bd cs (Rat.divInt (cell sl n) p)/\(∀i,i<↥cs->Sz 41 (tt cs i)/\Sz 68 (vv cs i))/\Rat.divInt va (u*p)=vv cs (↥cs-1)+Rat.divInt (cell sl n) p*(Rat.divInt ti u-tt cs (↥cs-1)))/\↥cs<=n+1/\tt cs (↥cs-1)<=Rat.divInt ti u/\vv cs (↥cs-1)<=Rat.divInt va (u*p)/\0<=ti/\ti<=n*1000010/\0<=va/\va<=4000000000000+n*2000020000000000000,#[0,st,[(0,Rat.divInt st (u*p))],_,_,rfl,Ord.one (Jo up0 s0),#[Ln.one (zsl 0 ()) (by show Sz 68 (Rat.divInt st (u*p)-Rat.divInt (cell sl 0) p*0);rw[show Rat.divInt st (u*p)-Rat.divInt (cell sl 0) p*0=Rat.divInt st (u*p) from ⋯];exact J9 up0 () upb68),XC,λi hi=>by(have:i=0:=by(have:i<1:=hi;omega));subst this;exact#[Sz.zero.mono ∅,J9 up0 () upb68],by rw[Rat.zero_divInt];show Rat.divInt st (u*p)=Rat.divInt st (u*p)+Rat.divInt (cell sl 0) p*(0-0);grind],qAg _,by rw[Rat.zero_divInt];exact qAc,qAc,∅,∅,s0,()],?_,?_]
 .rintro n τ hn ⟨ti,va,cs,y10,y11,rfl,oc,⟨zl,bd,zt,onl⟩,lc,ht,hv,t0,t1,v0,v1⟩;rw[qAa]at hn;have nl:n+1<↥ms:=();have b0:=GH (ms:=ms) (i:=1+n*1-1) n () ();have c0:=GH (ms:=sl) (i:=1+n*1-1) n () ();have c1:=GH (ms:=sl) (i:=1+n*1) (n+1) () ();have sn:=s9 n ();refine atR b0 ?_;have f4:=fm (a:=(cell ms n).fdiv 6) (show(0:Int)<4 from ∅);have f3:=fm (a:=cell ms n*48271) (show(0:Int)<1000003 from ∅);refine#[#[∅,EK ∅],∅,?_];refine#[λτ=>∃g:Int,τ=[I c,some (.r (ms.map D.int)),I st,I sh,I u,I p,some (.l (sl.map D.int)),I ti,I va,some (.l (cs.map cd)),I (1+n*1),I g]/\1<=g/\g<=1000010,?_,?_]
  .refine BH (λ_=>?_) (λ_=>#[_,rfl,(),()]);refine atR b0 ?_;exact#[PySem.IntMulOk.of_right ∅,∅,_,rfl,(),()]
  clear f4 f3;rintro τ ⟨g,rfl,g0,g1⟩;refine atR c0 ?_;have sn1:=s9 (n+1) ();have zs1:=zsl (n+1) ();generalize ecx:cell sl n=x at sn zl onl bd ⊢;have gx:0<=g*x:=qCY () sn.1;have gx1:g*x<=1000010*2000000000000:=Int.mul_le_mul g1 sn.2 sn.1 ∅;refine#[AE (m:=21) (n:=42) () () ∅,?_];refine atR c1 ?_;refine atR c0 ?_;have lt1:Rat.divInt ti u<Rat.divInt (ti+g) u:=MQ u0 ();have le1:Rat.divInt va (u*p)<=Rat.divInt (va+g*x) (u*p):=P8 up0 ();have tb:(ti+g).natAbs<2^100:=();have vb:(va+g*x).natAbs<2^100:=();have n60:(n:Int)<=58:=();have st2:=Sv (va:=va) (g:=g) (x:=x) (ti:=ti) u0 p0;have onl2:Rat.divInt (va+g*x) (u*p)=vv cs (↥cs-1)+Rat.divInt x p*(Rat.divInt (ti+g) u-tt cs (↥cs-1)):=by
   rw[st2,onl];generalize Rat.divInt x p=M;generalize Rat.divInt ti u=X0;generalize Rat.divInt (ti+g) u=X1;generalize vv cs (↥cs-1)=Y;generalize tt cs (↥cs-1)=Z;grind
  refine Lk (λnx=>?_) (λne=>?_)
  .refine#[ti+g,u,rfl,u0,u13 tb,u13 ub',mup,va+g*x,u*p,rfl,up0,u13 vb,u13 upb,(by show 2<=1000;decide),by rw[qAa];omega,?_];have dv:(Rat.divInt (va+g*x) (u*p)-vv cs (↥cs-1))/(Rat.divInt (ti+g) u-tt cs (↥cs-1))=Rat.divInt x p:=Ol (by rw[onl2];grind) ⋯;have o2:Ord (cs++[(Rat.divInt (ti+g) u,Rat.divInt (va+g*x) (u*p))]):=oc.snoc (c:=(Rat.divInt (ti+g) u,Rat.divInt (va+g*x) (u*p))) (by show _<Rat.divInt (ti+g) u;grind) (by show _<=Rat.divInt (va+g*x) (u*p);grind);have ln:(cs++[(Rat.divInt (ti+g) u,Rat.divInt (va+g*x) (u*p))]).length-1=↥cs:=by rw[Bf];omega
   refine#[_,_,cs++[(Rat.divInt (ti+g) u,Rat.divInt (va+g*x) (u*p))],_,_,by rw[qAM];rfl,o2,#[zl.snoc dv zs1 ?_,bd.snoc oc.ne dv (λz=>nx (by rw[ecx];exact(VI p0 z).symm)),?_,?_],by rw[Bf];omega,by rw[ln,OV];exact qAc,by rw[ln,O3];exact qAc,(),(),(),()]
   .show Sz 68 (Rat.divInt (va+g*x) (u*p)-Rat.divInt (cell sl ((n+1:Nat):Int)) p*Rat.divInt (ti+g) u);rw[Wb u0 p0];have m1:(va+g*x).natAbs<2^67:=();have m3:cell sl ((n+1:Nat):Int)*(ti+g)<=2000000000000*60000000:=Int.mul_le_mul sn1.2 () () ∅;have m4:0<=cell sl ((n+1:Nat):Int)*(ti+g):=qCY sn1.1 ();have m2:(cell sl ((n+1:Nat):Int)*(ti+g)).natAbs<2^67:=();exact J9 up0 (GJ m1 m2) upb68
   .intro i hi;rw[Bf]at hi;by_cases e:i<↥cs
    .rw[MM e,NY e];exact zt i e
    .have:i=↥cs:=();subst this;rw[OV,O3];exact#[J9 u0 () ub,J9 up0 () upb68]
   .rw[ln,OV,O3];show Rat.divInt (va+g*x) (u*p)=Rat.divInt (va+g*x) (u*p)+_*(Rat.divInt (ti+g) u-Rat.divInt (ti+g) u);grind
  .have ne:cell sl ((n+1:Nat):Int)=x:=ne.trans ecx;exact#[_,_,cs,_,_,rfl,oc,#[by rw[ne];exact zl,by rw[ne];exact bd,zt,by rw[ne];exact onl2],(),⋯,⋯,(),(),(),()]
 rintro τ ⟨ti,va,cs,y10,y11,rfl,oc,⟨zl,bd,zt,onl⟩,lc,ht,hv,t0,t1,v0,v1⟩;have eN:((((ms.map D.int).length:Nat):Int)-1).toNat=↥ms-1:=by rw[qAa];omega
 rw[eN]at lc zl bd;have bx:=s9 (↥ms-1) ();refine atR (MK (ms:=sl) ()) ?_;rw[el];have xb:(cell sl ((↥ms-1:Nat):Int)).natAbs<2^100:=();have pb':p.natAbs<2^100:=A6 pb ∅;refine#[cell sl ((↥ms-1:Nat):Int),p,rfl,p0,u13 xb,u13 pb',(by show 2<=1000;decide),?_];exact q cs _ #[#[oc.ne,oc.t0,oc.v0,Jo p0 bx.1,oc.up,oc.vu,bd],zl.ls oc (λi hi=>(zt i hi).1),(),λi hi=>(zt i hi).2]
variable (C1:qDi P w K mg base 2 "_law_drawn" qDf G4)
def NG:Da P w K mg base "_law_few" FG 2 ["_law_script","_law_begin","_law_many"] JQ:=by
 refine fq (N:=["_law_script","_law_begin","_law_many"]) scN λR U _ hr h=>?_
 obtain⟨ns,b,z,rfl,b0,b1,z0,z1,q⟩:=h;refine#[_,(AR (Gd (N:=["_law_k","_law_script"]) (idx:=[0]) (Bl.mk' (Aa FG) ["_law_script","_law_begin","_law_many"] rfl rfl (by decide +kernel)) rfl (Cz rfl AY (PA3.out (a2 (vN 1) (Al Be (vN 1) (vN 2))))) GV (λcl C s₀ H₀ fp=>CM) (λcl C s₀ H₀ fp=>(Ak hr Ax (a2 (vN 1) (vN 0)))))),?_];refine#[#[(),(),(),()],?_];generalize ec:(b+z-b).toNat=cnt;have hc:0<cnt/\cnt<=8:=();refine#[(List.range cnt).map fun(i:Nat)=>some (D.int (cl ns (b+(i:Int)*1))),by rw[BZ,qAa,qAx],?_,?_,?_]
 .intro n x hx;obtain⟨hn,rfl⟩:=Fs hx;refine#[ns,b+(n:Int)*1,rfl,(),(),?_];show((List.range cnt).map _)[n]? = _;rw[qAd,qAJ hn];rfl
 .rw[BZ];omega
 rw[VM];exact q _ (by rw[qAa,qAx];omega)
variable (Eb:qDi P w K mg base 2 "_law_few" ["_law_script","_law_begin","_law_many"] JQ)
def K2:Da P w K mg base "_law_ended" Fc 3 ["_law_f","_law_last"] G9:=by
 refine fq (N:=["_law_f","_law_last","_law_corners","_law_slope_here"]) scN λR U Y' hr h=>?_
 obtain⟨cs,m,l,rfl,kf,zl,l0,q⟩:=h;refine#[_,(Ac (AI 2 Y' (vK 0))
  (BJ (Bq (B6 Vj (Cn Az (vN 2)) Ad) (Ac (AI 3 Y' (Ak hr A8 (a2 (vN 0) (Al C6 (Cn Az (vN 2)) Ad))))
  (Ag (Bq (B6 Gy (Al AD (vK 3) (vK 1)) (Al AD (vK 1) (vK 3))) (Ag (AI 2 Y' (WU (vN 2) Yj (LB (EM Ad))))) Ah))) Ah)
  (AR (Bb (a2 (vN 2) (vN 1)))))),?_]
 have oc:=kf.1.rise.o;have lc:=kf.2.2.1;have hv:=kf.2.2.2;have zc:LS 41 94 68 cs m:=kf.2.1.mono ∅ ∅ ∅;have sc:=zc.szk (n:=204) oc () ∅;refine#[λτ=>∃(ds:Cs)(y3:Option S),τ=[some (.d (crv cs m)),some (.d (qd l)),some (.d (.tup (ds.map cd))),y3]/\KO ds l/\∀i,i<↥ds->Sz 68 (vv ds i),?_,?_]
 .have stay:KO cs l/\∀i,i<↥cs->Sz 68 (vv cs i):=#[#[#[oc,l0],Te zc oc hv zl ∅ ∅,lc,hv 0 oc.ne],hv];refine BH (λc=>?_) (λc=>#[cs,_,rfl,stay]);rw[qAa]at c;have l2:1<↥cs:=();refine#[cs,m,_,↥cs-2,204,rfl,by rw[qAa];omega,(),oc.up,∅,sc.cs,sc.m,λA B w=>?_];have wl:Wq 94 l.num l.den l:=Wq.of zl;refine#[AE w.la wl.lb ∅,AE wl.la w.lb ∅,?_];refine BH (λe=>?_) (λe=>#[cs,_,rfl,stay]);obtain⟨e1,e2⟩:=TM l2;exact#[e2,cs.dropLast,_,by rw[e1,<-List.dropLast_eq_take];rfl,#[#[UU oc l2,l0],Z8 zc oc l2 hv zl ∅ ∅,by rw[qBw];omega,by rw[(Gx (by rw[qBw];omega)).2];exact hv 0 oc.ne],λi hi=>by rw[(Gx hi).2];rw[qBw]at hi;exact hv i ()]
 rintro τ ⟨ds,y3,rfl,hk,hv2⟩;exact#[(by show 2<=1000;decide),q ds hk hv2]
variable (DE:qDi P w K mg base 3 "_law_ended" ["_law_f","_law_last"] G9)
def Ma:Da P w K mg base "_law_grown" Fw 4 ["_law_f","_law_start","_law_length"] G7:=by
 refine fq (N:=["_law_f","_law_start","_law_length"]) scN λR U _ hr h=>?_
 obtain⟨cs,m,s,L,sn,sd,ln,ld,n,rfl,o,hn,hz,ws,s0,wl,l0,q⟩:=h;refine#[_,(AR (Ak hr Av (a2 (Ak hr AU (a2 (vN 0) (Ak hr Bu (a2 (vN 1) (vN 2))))) (Ak hr AU (a2 (vN 0) (vN 1)))))),?_];have hc:=hz.cs.mono (show n<=n+n+1 from ());have hm:=hz.m.mono (show n<=n+n+1 from ());refine#[_,_,_,_,rfl,ws.l4 wl (),?_];refine#[cs,m,s+L,_,_,n+n+1,rfl,o,hz.len,(),hc,hm,ws.plus wl,qB9 s0 l0,λA B w1=>?_];refine#[cs,m,s,_,_,n+n+1,rfl,o,hz.len,(),hc,hm,ws.mono (),s0,λA' B' w2=>?_];exact#[_,_,_,_,rfl,w1.l4 w2 (),q _ _ ((w1.minus w2).mono ())]
variable (AO:qDi P w K mg base 4 "_law_grown" ["_law_f","_law_start","_law_length"] G7)
def Kb:Da P w K mg base "_law_places" Eh 2 ["_law_f","_law_g"] Ge:=by
 refine fq (N:=["_law_f","_law_g","_law_rows","_law_corner","_law_other"]) scN λR U Y' hr h=>?_
 obtain⟨cs,m,ds,k,rfl,hc,hd,q⟩:=h;refine#[_,(Ac (AI 2 Y' (Gn Nk))
  (Ac (Ec (B3 PassesOwn.never rfl (Bt (PE3.out (vK 0))) (A9 (i:=3) Y'.nd rfl (Or.inl rfl)) (Dp.out (Ac (Ec (B3 PassesOwn.never rfl (Bt (PE3.out (vK 0))) (A9 (i:=4) Y'.nd rfl (Or.inl rfl)) (Dp.out (Ag (Bq (AN (Ak hr Ai (a2 (vK 3) (vK 4)))) (Ag (EZ (Bx (E6 qAC qAz qAA AV (pv 2) (AM (PE3.out (Bb (a2 (vK 3) (Ak hr Av (a2 (vK 4) (vK 3)))))) Br))))) Ah)))))
  (Ag (Ec (B3 PassesOwn.never rfl (Bt (PE3.out (vK 1))) (A9 (i:=4) Y'.nd rfl (Or.inl rfl)) (Dp.out (Ac (EZ (Bx (E6 qAC qAz qAA AV (pv 2) (AM (PE3.out (Bb (a2 (vK 3) (vK 4)))) Br))))
  (Ag (Bq (AN (Ak hr Ai (a2 (vK 4) (vK 3)))) (Ag (EZ (Bx (E6 qAC qAz qAA AV (pv 2) (AM (PE3.out (Bb (a2 (Ak hr Av (a2 (vK 3) (vK 4))) (vK 4)))) Br))))) Ah)))))))))))
  (Ag (DJ (pv 2))))),?_]
 have o:=hc.1.o;have od:=hd.1.o;have lc:=hc.2.2;have ld:=hd.2.2;have Wt:∀{i:Nat},i<↥cs->Wq 1200 (tt cs i).num (tt cs i).den (tt cs i):=λhi=>Wq.of (hc.2.1.cs _ hi).1;have Wd:∀{i:Nat},i<↥ds->Wq 1200 (tt ds i).num (tt ds i).den (tt ds i):=λhi=>Wq.of (hd.2.1.cs _ hi).1;refine#[by show 0<=1000;decide,?_];refine#[λn τ=>∃(rows:List D)(y3 y4:Option S),τ=[some (.d (crv cs m)),some (.d (crv ds k)),some (.l rows),y3,y4]/\↥rows<=12*n/\n<=4/\(∀x∈rows,PLr x)/\∀i,i<n->i<↥cs->Row cs ds rows i ↥cs ↥ds,#[[],_,_,rfl,∅,∅,λx h=>(nomatch h),λi hi=>absurd hi (qAW i)],?_,?_]
 .rintro n τ x hx ⟨rows,y3,y4,rfl,lr,n7,hr,ho⟩;obtain⟨nl,rfl⟩:=DZ hx;have t0:=Ct o nl;refine#[λj τ=>∃(rows':List D)(y4:Option S),τ=[some (.d (crv cs m)),some (.d (crv ds k)),some (.l rows'),some (.d (.tup [qd (tt cs n),qd (vv cs n)])),y4]/\↥rows'<=12*n+j/\j<=4/\(∀x∈rows',PLr x)/\(∀i,i<n->i<↥cs->Row cs ds rows' i ↥cs ↥ds)/\Row cs ds rows' n j 0,#[rows,_,rfl,lr,∅,hr,ho,λk hk=>absurd hk (qAW k),λj hj=>absurd hj (qAW j),λj hj=>absurd hj (qAW j)],?_,?_]
  .rintro j τ x hx ⟨rows',y4,rfl,lr',j7,hr',ho',hn'⟩;obtain⟨jl,rfl⟩:=DZ hx;refine#[_,_,_,_,rfl,(Wt nl).l4 (Wt jl) ∅,?_];refine BH (λc=>?_) (λc=>#[rows',_,rfl,(),(),hr',ho',#[λk h1 h2 h3=>?_,hn'.two,hn'.thr]])
   .rw[(Wt nl).le_iff (Wt jl)]at c;refine#[_,_,_,_,rfl,(Wt jl).l4 (Wt nl) ∅,(by show 2<=1000;decide),(),?_];have px:PlX (tt cs n) (tt cs j-tt cs n) (.tup [qd (tt cs n),tp ((tt cs j).num*((tt cs n).den:Int)-(tt cs n).num*((tt cs j).den:Int)) (((tt cs j).den:Int)*((tt cs n).den:Int))]):=#[_,_,_,_,rfl,(Wt nl).mono ∅,((Wt jl).minus (Wt nl)).mono ∅];refine#[_,_,rfl,by rw[qAr];show _+1<=_;omega,(),NA hr' #[_,_,px,t0,⋯],λi h1 h2=>(ho' i h1 h2).app,#[λk h1 h2 h3=>?_,λi h=>absurd h (qAW i),λi h=>absurd h (qAW i)]];by_cases e:k<j
    .exact(hn'.one k e h2 h3).app
    .have:k=j:=();subst this;exact K9 px
   .rw[(Wt nl).le_iff (Wt jl)]at c;by_cases e:k<j
    .exact hn'.one k e h2 h3
    .have:k=j:=();subst this;exact absurd h3 c
  rintro τ ⟨rows',y4,rfl,lr',j7,hr',ho',hn'⟩;rw[qAa]at lr' j7 hn';refine#[λj τ=>∃(rows2:List D)(y4:Option S),τ=[some (.d (crv cs m)),some (.d (crv ds k)),some (.l rows2),some (.d (.tup [qd (tt cs n),qd (vv cs n)])),y4]/\↥rows2<=12*n+4+2*j/\j<=4/\(∀x∈rows2,PLr x)/\(∀i,i<n->i<↥cs->Row cs ds rows2 i ↥cs ↥ds)/\Row cs ds rows2 n ↥cs j,#[rows',_,rfl,(),∅,hr',ho',hn'],?_,?_]
  .rintro j τ x hx ⟨rows2,y4,rfl,lr2,j7,hr2,ho2,hn2⟩;obtain⟨jl,rfl⟩:=DZ hx;have d0:=Ct od jl;have p1:PlX (tt cs n) (tt ds j) (.tup [qd (tt cs n),qd (tt ds j)]):=#[_,_,_,_,rfl,(Wt nl).mono ∅,(Wd jl).mono ∅];have aa:=NA hr2 (y:=.tup [qd (tt cs n),qd (tt ds j)]) #[_,_,p1,t0,d0];refine#[(by show 2<=1000;decide),(),?_];refine#[_,_,_,_,rfl,(Wd jl).l4 (Wt nl) ∅,?_];refine BH (λc=>?_) (λc=>?_)
   .rw[(Wd jl).le_iff (Wt nl)]at c;refine#[_,_,_,_,rfl,(Wt nl).l4 (Wd jl) ∅,(by show 2<=1000;decide),by rw[qAr];show _+1<_;omega,?_];have p2:PlX (tt cs n-tt ds j) (tt ds j) (.tup [tp ((tt cs n).num*((tt ds j).den:Int)-(tt ds j).num*((tt cs n).den:Int)) (((tt cs n).den:Int)*((tt ds j).den:Int)),qd (tt ds j)]):=#[_,_,_,_,rfl,((Wt nl).minus (Wd jl)).mono ∅,(Wd jl).mono ∅];refine#[_,_,rfl,by rw[qAr,qAr];show _+1+1<=_;omega,(),NA aa #[_,_,p2,⋯,d0],λi h1 h2=>(ho2 i h1 h2).app.app,#[λk h1 h2 h3=>(hn2.one k h1 h2 h3).app.app,λi h1 h2=>?_,λi h1 h2 h3=>?_]]
    all_goals by_cases e:i<j
    .exact(hn2.two i e h2).app.app
    .have:i=j:=();subst this;exact(K9 p1).app
    .exact(hn2.thr i e h2 h3).app.app
    .have:i=j:=();subst this;exact K9 p2
   .rw[(Wd jl).le_iff (Wt nl)]at c;refine#[_,_,rfl,by rw[qAr];show _+1<=_;omega,(),aa,λi h1 h2=>(ho2 i h1 h2).app,#[λk h1 h2 h3=>(hn2.one k h1 h2 h3).app,λi h1 h2=>?_,λi h1 h2 h3=>?_]]
    all_goals by_cases e:i<j
    .exact(hn2.two i e h2).app
    .have:i=j:=();subst this;exact K9 p1
    .exact(hn2.thr i e h2 h3).app
    .have:i=j:=();subst this;exact absurd h3 c
  rintro τ ⟨rows2,y4,rfl,lr2,j7,hr2,ho2,hn2⟩;rw[qAa]at lr2 j7 hn2;refine#[rows2,_,_,rfl,(),(),hr2,λi h1 h2=>?_];by_cases e:i<n
  .exact ho2 i e h2
  .have:i=n:=();subst this;exact hn2
 rintro τ ⟨rows,y3,y4,rfl,lr,n7,hr,ho⟩;rw[qAa]at lr ho;exact q rows () hr λs L p=>Xl (λi hi=>ho i hi hi) p
variable (Bz:qDi P w K mg base 2 "_law_places" ["_law_f","_law_g"] Ge)
def Lv:Da P w K mg base "_law_keeps" EY 5 ["_law_coming","_law_f"] GY:=by
 refine fq (N:=["_law_coming","_law_f","_law_corner","_law_place"]) scN λR U Y' hr h=>?_
 obtain⟨cs,m,rfl,h,q⟩:=h;refine#[_,(Ac (Bq (w_not (AN (Ak hr Ai (a2 (vK 0) (vK 1))))) (AR HR) Ah)
  (Ac (Ec (B3 PassesOwn.never rfl (Bt (PE3.out (M4 Nr (vK 0) (vK 1)))) (A9 (i:=2) Y'.nd rfl (Or.inl rfl)) (Dp.out (Ag (Bq (w_not (AN (Ak hr Ai (a2 (Ak hr AU (a2 (vN 0) (vK 2))) (Ak hr AU (a2 (vN 1) (vK 2))))))) (AR HR) Ah)))))
  (Ac (Ec (B3 PassesOwn.never rfl (Bt (PE3.out (Ak hr Bz (a2 (vN 0) (vN 1))))) (A9 (i:=3) Y'.nd rfl (Or.inl rfl)) (Dp.out (Ag (Bq (w_not (AN (Ak hr Ai (a2 (Ak hr AO (Au (vN 0) (a2 (vK 3) (vK 3)))) (Ak hr AU (a2 (vN 1) (vK 3))))))) (AR HR) Ah)))))
  (AR HR)))),?_]
 have kq:=h.kq;have r:=h.1.rise;have o:=r.o;have lc:=kq.2.2;have hz:SzK 2401 cs m:=#[kq.2.1.len,kq.2.1.cs.mono ∅,kq.2.1.m.mono ∅];have wm:Wq 1200 m.num m.den m:=Wq.of kq.2.1.m;obtain⟨_,_,_,k0,km,sl⟩:=h.ko.st;refine#[_,_,_,_,rfl,wm.l4 wm ∅,?_];refine Lk (λc=>absurd ((wm.le_iff wm).mpr qAc) c) (λ_=>?_);refine#[Xs o.ne,by rw[qAa];omega,?_];rw[<-qAM];refine#[λn τ=>∃y y3:Option S,τ=[some (.d (crv cs m)),some (.d (crv cs m)),y,y3],#[_,_,rfl],?_,?_]
 .rintro n τ x hx ⟨y,y3,rfl⟩;obtain⟨c,hc_,rfl⟩:=Cf hx;obtain⟨z1,z0⟩:Sz 1200 c.1/\0<=c.1:=by
   have:c∈cs:=by rcases qAo.mp (qAE hc_) with h|h<;>exact h
   exact o.mem kq.2.1.cs this
  have w1:=Wq.of z1;refine#[cs,m,c.1,_,_,1200,rfl,o,kq.2.1.len,∅,kq.2.1.cs,kq.2.1.m,w1,z0,λA B wA=>?_];refine#[cs,m,c.1,_,_,1200,rfl,o,kq.2.1.len,∅,kq.2.1.cs,kq.2.1.m,w1,z0,λA' B' wB=>?_];refine#[_,_,_,_,rfl,wA.l4 wB ∅,?_];exact Lk (λd=>absurd ((wA.le_iff wB).mpr qAc) d) (λ_=>#[_,_,rfl])
 rintro τ ⟨y,y3,rfl⟩;refine#[cs,m,cs,m,rfl,kq,kq,λrows lr hr hp=>?_];refine#[λn τ=>∃y3:Option S,τ=[some (.d (crv cs m)),some (.d (crv cs m)),y,y3]/\∀j x,j<n->rows[j]? = some x->∀s L,PlX s L x->val cs m (s+L)-val cs m s<=val cs m L,#[_,rfl,λj x hj=>absurd hj (qAW j)],?_,?_]
 .rintro n τ x hx ⟨y3,rfl,hj⟩;obtain⟨s,L,px,s0,l0⟩:=hr x (qAE hx);have px':=px;obtain⟨a,b,c,d,rfl,ws,wL⟩:=px;refine#[cs,m,s,L,_,_,_,_,2401,rfl,o,∅,hz,ws,s0,wL,l0,λA B wA=>?_];refine#[cs,m,L,_,_,2401,rfl,o,hz.len,∅,hz.cs,hz.m,wL,l0,λA' B' wB=>?_];refine#[_,_,_,_,rfl,wA.l4 (wB.mono ∅) ∅,?_];refine Lk (λe=>q false (#[λz=>absurd z ∅,λkp=>absurd ((wA.le_iff wB).mpr (kp.2 s L s0 l0)) e])) (λe=>#[_,rfl,λj x j1 ej s' L' p=>?_]);by_cases z:j<n
  .exact hj j x z ej s' L' p
  .have:j=n:=();subst this;rw[hx]at ej;cases ej;obtain⟨rfl,rfl⟩:=PlX.eq px' p;exact(wA.le_iff wB).mp e
 rintro τ ⟨y3,rfl,h1⟩;have all:∀s L,W0 cs cs s L->val cs m (s+L)-val cs m s<=val cs m L:=λs L p=>by
  obtain⟨x,hx,px⟩:=hp s L p;obtain⟨j,ej⟩:=qBX.mp hx;exact h1 j x (qAe.mp ej).1 ej s L px
 exact q true #[λ_=>QZ r k0 ⋯ sl (U0 all),λ_=>rfl]
variable (BP:qDi P w K mg base 5 "_law_keeps" ["_law_coming","_law_f"] GY)
def Mt:Da P w K mg base "_law_sure" Gg 5 ["_law_offer","_law_g"] Ie:=by
 refine fq (N:=["_law_offer","_law_g","_law_place"]) scN λR U Y' hr h=>?_
 obtain⟨cs,m,ds,k,rfl,hc,hd,q⟩:=h;refine#[_,(Ac (Bq (w_not (AN (Ak hr Ai (a2 (vK 1) (vK 0))))) (AR HR) Ah)
  (Ac (Ec (B3 PassesOwn.never rfl (Bt (PE3.out (Ak hr Bz (a2 (vN 0) (vN 1))))) (A9 (i:=2) Y'.nd rfl (Or.inl rfl)) (Dp.out (Ag (Bq (w_not (AN (Ak hr Ai (a2 (Ak hr AU (a2 (vN 1) (vK 2))) (Ak hr AO (Au (vN 0) (a2 (vK 2) (vK 2)))))))) (AR HR) Ah)))))
  (AR HR))),?_]
 have o:=hc.1.o;have od:=hd.1.o;have lc:=hc.2.2;have ld:=hd.2.2;have hz:SzK 2401 cs m:=#[hc.2.1.len,hc.2.1.cs.mono ∅,hc.2.1.m.mono ∅];have hs:SzK 2401 ds k:=#[hd.2.1.len,hd.2.1.cs.mono ∅,hd.2.1.m.mono ∅];have wm:Wq 1200 m.num m.den m:=Wq.of hc.2.1.m;have wk:Wq 1200 k.num k.den k:=Wq.of hd.2.1.m;refine#[_,_,_,_,rfl,wk.l4 wm ∅,?_];refine Lk (λc=>q false (λh2=>absurd ((wk.le_iff wm).mpr (T1 od o λt t0=>?_)) c) (λz=>absurd z ∅)) (λ_=>?_)
 .have a:=h2 0 t qAc t0;rw[show 0+t=t from ⋯]at a;have:=Hk hc.1 (qAc (a:=0));grind
 refine#[cs,m,ds,k,rfl,hc,hd,λrows lr hr hp=>?_];refine#[λn τ=>∃y3:Option S,τ=[some (.d (crv cs m)),some (.d (crv ds k)),y3]/\∀j x,j<n->rows[j]? = some x->∀s L,PlX s L x->val ds k L<=val cs m (s+L)-val cs m s,#[_,rfl,λj x hj=>absurd hj (qAW j)],?_,?_]
 .rintro n τ x hx ⟨y3,rfl,hj⟩;obtain⟨s,L,px,s0,l0⟩:=hr x (qAE hx);have px':=px;obtain⟨a,b,c,d,rfl,ws,wL⟩:=px;refine#[ds,k,L,_,_,2401,rfl,od,hs.len,∅,hs.cs,hs.m,wL,l0,λA' B' wB=>?_];refine#[cs,m,s,L,_,_,_,_,2401,rfl,o,∅,hz,ws,s0,wL,l0,λA B wA=>?_];refine#[_,_,_,_,rfl,(wB.mono ∅).l4 wA ∅,?_];refine Lk (λe=>q false (λh2=>absurd ((wB.le_iff wA).mpr (h2 s L s0 l0)) e) (λz=>absurd z ∅)) (λe=>#[_,rfl,λj x j1 ej s' L' p=>?_]);by_cases z:j<n
  .exact hj j x z ej s' L' p
  .have:j=n:=();subst this;rw[hx]at ej;cases ej;obtain⟨rfl,rfl⟩:=PlX.eq px' p;exact(wB.le_iff wA).mp e
 rintro τ ⟨y3,rfl,h1⟩;have all:∀s L,W0 cs ds s L->val ds k L<=val cs m (s+L)-val cs m s:=λs L p=>by
  obtain⟨x,hx,px⟩:=hp s L p;obtain⟨j,ej⟩:=qBX.mp hx;exact h1 j x (qAe.mp ej).1 ej s L px
 exact q true (λ_=>rfl) (λ_=>all)
variable (Co:qDi P w K mg base 5 "_law_sure" ["_law_offer","_law_g"] Ie)
def Lz:Da P w K mg base "_law_alike" ET 1 qDe G2:=by
 refine fq (N:=["_law_one","_law_other"]) scN λR U _ hr h=>?_
 obtain⟨a,b,c,d,rfl,⟨h1,h2,h3,h4⟩,q⟩:=h;refine#[_,(AR (HC Gy (Al AD (vK 0) (vK 1)) (Al AD (vK 1) (vK 0)) (DF _))),?_];exact#[AE h1 h4 ∅,AE h3 h2 ∅,q]
variable (DN:qDi P w K mg base 1 "_law_alike" qDe G2)
def Iq:Da P w K mg base "_law_is_place" Dv 5 ["_law_f","_law_start","_law_stop","_law_sign"] EH:=by
 refine fq (N:=["_law_f","_law_start","_law_stop","_law_sign","_law_length","_law_gap"]) scN λR U Y' hr h=>?_
 obtain⟨cs,m,s,l,g,rfl,hc,zs,zl,s0,l0,lt,q⟩:=h;refine#[_,(Im (Bq (PW3.pt (Ji (w_not (AN (Ak hr AQ (a1 (vN 1))))) (Ji (w_not (AN (Ak hr AQ (a1 (vN 2))))) (Ji (B6 J5 (vK 1) Ad) (Fg (w_not (AN (Ak hr Ai (a2 (vN 1) (vN 2)))))))))) (AR HR) Ah)
  (Ac (AI 4 Y' (Ak hr Av (a2 (vN 2) (vN 1))))
  (Ac (AI 5 Y' (Ak hr Av (a2 (Ak hr AO (Au (vN 0) (a2 (vN 1) (vN 4)))) (Ak hr AU (a2 (vN 0) (vN 4))))))
  (AR (HC Vj (Al AD (vK 5) (vN 3)) Ad (DF _)))))),?_]
 have o:=hc.1.o;have zu:Sz 4871 (s+l):=(zs.add zl).mono ∅;have ws:Wq 4871 s.num s.den s:=(Wq.of zs).mono ∅;have wu:Wq 4871 (s+l).num (s+l).den (s+l):=Wq.of zu;have su:s<=s+l:=⋯;have hz:SzK 9743 cs m:=#[hc.2.1.len,hc.2.1.cs.mono ∅,hc.2.1.m.mono ∅];refine#[#[s,rfl,zs.mono ∅,s+l,rfl,zu.mono ∅,BH (λc=>absurd c (OQ s0)) (λ_=>#[_,_,_,_,rfl,ws.l4 wu ∅,Lk (λc=>absurd ((ws.le_iff wu).mpr su) c) (λ_=>rfl)])],?_];refine#[_,_,_,_,rfl,wu.l4 ws ∅,?_];have w:=wu.minus ws;rw[show s+l-s=l from ⋯]at w;refine#[cs,m,s,l,_,_,_,_,9743,rfl,o,∅,hz,ws.mono ∅,s0,w,l0,λA B wA=>?_];refine#[cs,m,l,_,_,9743,rfl,o,hz.len,∅,hz.cs,hz.m,w,l0,λA' B' wB=>?_];refine#[_,_,_,_,rfl,wA.l4 (wB.mono ∅) ∅,?_];have wD:=wA.minus (wB.mono (show 7*9743+4<=28*9743+23 from ∅));have gb:g.natAbs<2^1:=();refine#[AE wD.la gb ∅,?_];show R (.d (.bl (decide _)));rw[qC7]
 .exact q
 rcases lt with⟨rfl,lt⟩|⟨rfl,lt⟩
 .have:=((Wq.of (k:=1) Sz.zero).lt_iff wD).mpr ⋯;have:0<A*B'-A'*B:=by simpa using this
  omega
 .have:=(wD.lt_iff (Wq.of (k:=1) Sz.zero)).mpr ⋯;have:A*B'-A'*B<0:=by simpa using this
  omega
variable (BS:qDi P w K mg base 5 "_law_is_place" ["_law_f","_law_start","_law_stop","_law_sign"] EH)
def CF:Ae ["_law_f","_law_house","_law_length","e"] ["_law_f","_law_house","_law_length"] (Aa BN):=scN
variable (z_ValueError:mg "ValueError"=none)(qDr:mg "CurveError"=some (.ref qDj))(qDs:HnC K qDj)(qDt:W.mroIn K qDm (.ref qDj)=some true)
variable (qDu:W.kitOne K (.ref qDm) (.type "ValueError")=some true)(qDv:ExI K qDm)(qDw:HnC K qDm)(qDx:W.mroIn K qDm (.ref qDm)=some true)
variable (qDy:W.keepIn K (.ref qDm)=true)
def GP:Sp3:=λss _ U=>∃(x y:D)(t:Rat),ss=[.d x,.d y,.d (qd t)]/\Sz 41 t/\¬0<t/\U "NoTime"
def RJ (F:Fun K "under" "under" Jp f fd):KP P w K mg base (CXU P w) 1 f fd ["one","other"] (Af K mg IT):=by
 refine bW F L8 (λss R U h=>?_) (λcdv A outer s H E ss R U a9 o9 hr co h=>?_)
 .obtain⟨p,q,k,l,rfl,_⟩:=h;rfl
 obtain⟨q1,q2,k,l,rfl,h1,h2,hk,q⟩:=h;refine#[_,(AR (HC J5 (Al AD (vK 0) (vK 1)) (Al AD (vK 1) (vK 0)) (DF _))),?_];refine#[AE h1.1 (AA h2) (),AE h2.1 (AA h1) (),?_];have e:decide (q1.num*(q2.den:Int)<q2.num*(q1.den:Int))=decide (q1<q2):=decide_eq_decide.mpr (lt_iff q1 q2);show R (.d (.bl (decide (q1.num*(q2.den:Int)<q2.num*(q1.den:Int)))));rw[e];exact q
variable (H_under:WO P w K mg base 1 "under" qDc IT)
include Aj qC9 qDp qDq in
def Qy (F:Fun K "burst" "burst" Jz f fd):Ao P w K mg base (T3 P w) 2 f fd ["f","house","t"] (Af K mg GP):=by
 refine dS F FJ (λss R U h=>?_) (λcdv A outer s H E ss R U hr h xo=>?_)
 .obtain⟨x,y,t,rfl,_⟩:=h;rfl
 obtain⟨x,y,t,rfl,zt,t0,q⟩:=h;refine#[_,(Ac (Bq (w_not (AN (Ak hr Aj (a2 (Ip rfl qC9) (vN 2))))) (Ag (UB xo rfl EN rfl qDp qDq)) Ah) Of),?_];refine#[0,t,_,_,rfl,Sz.zero,zt,∅,?_];exact Lk (λ_=>q) (λz=>absurd z t0)
variable (C2_burst:Cal P w K mg base (T3 P w) 2 "burst" ["f","house","t"] GP)
include H_under qC9 qDp qDq qDy qDw in
def Ri (F:Fun K "burst" "burst" Jz f fd):KP P w K mg base (CXU P w) 2 f fd ["f","house","t"] (Af K mg GP):=by
 refine dB F FJ (λss R U h=>?_) (λcdv A outer s H E ss R U a9 o9 hr co h xo=>?_)
 .obtain⟨x,y,t,rfl,_⟩:=h;rfl
 obtain⟨x,y,t,rfl,zt,t0,q⟩:=h;refine#[_,(Ac (Bq (w_not (AN (Ro (Xa hr co) hr H_under (a2 (Ip rfl qC9) (vN 2))))) (Ag (Ub (Xa hr co) xo EN rfl qDp qDq qDy qDw)) Ah) Of),?_];refine#[0,t,_,_,rfl,Sz.zero,zt,∅,?_];exact Lk (λ_=>q) (λz=>absurd z t0)
variable (H_burst:WO P w K mg base 2 "burst" ["f","house","t"] GP)
def Vi:Sp3:=λss R _=>∃(x y:D)(t:Rat),ss=[.d x,.d y,.d (qd t)]/\Sz 41 t/\¬0<t/\R (.d (.bl true))
include Ap qDq H_burst z_ValueError qDr qDs qDt qDu qDv in
def Ek (F:Fun K "_law_refused_by_any" "_law_refused_by_any" BN f fd):KP P w K mg base (CXU P w) 3 f fd ["_law_f","_law_house","_law_length"] (Af K mg Vi):=by
 refine bW F CF (λss R U h=>?_) (λcdv A outer s H E ss R U a9 o9 hr co h=>?_)
 .obtain⟨x,y,t,rfl,_⟩:=h;rfl
 obtain⟨x,y,t,rfl,zt,t0,q⟩:=h;refine#[_,(BJ (Us (i:=3) (y0:="NoTime") rfl rfl (λ_ _ z=>z) (ZM (Xa hr co)) H_burst hr rfl (Au (vN 0) (a2 (vN 1) (vN 2))) CF.nd rfl (Or.inl rfl) rfl rfl qDr qDs (bN qDq qDt) qDq (λea oe hO=>(AR (YW (T:="ValueError") hO qDv qDu (pv 3) rfl z_ValueError JB rfl Ap)))) (AR HR)),?_];exact#[λ_=>False,#[x,y,t,rfl,zt,t0,rfl,λea=>#[rfl,q]],λ_ z=>z.elim]
variable (H_any:WO P w K mg base 3 "_law_refused_by_any" qDg Vi)
def Jj:Da P w K mg base "_law_refused" DV 15 qDg Fn:=by
 refine fq (N:=["_law_f","_law_house","_law_length"]) scN λR U _ hr h=>?_
 obtain⟨fc,fm,hc,hm,t,rfl,kf,kh,zt,t0,q⟩:=h;refine#[_,(BJ (W8 (ok:=λy=>y="NoTime") rfl rfl (λ_ _ z=>z) C2_burst (hr.mono ∅) rfl (Au (vN 0) (a2 (vN 1) (vN 2))) rfl qDq qDw (bN qDq qDx) (λea oe co=>AR (Ro (ZO hr rfl rfl co) hr H_any (Au (vN 0) (a2 (vN 1) (vN 2)))))) (AR HR)),?_];exact#[λ_=>False,#[_,_,t,rfl,zt,t0,rfl,_,_,t,rfl,zt,t0,q],λ_ z=>z.elim]
variable (CP:qDi P w K mg base 15 "_law_refused" qDg Fn)
def Kg:Da P w K mg base "_law_bursts" Ef 12 qDh FY:=by
 refine fq (N:=["_law_f","_law_house","_law_length","_law_found","_law_leaving","_law_after"]) scN λR U Y' hr h=>?_
 obtain⟨fc,fm,hc,hm,t,b,L,g,rfl,kf,kh,kp,sr,le,t0,zt,b0,zb,best,⟨kL,hu,zL,lL,g1,g2,g3⟩,q⟩:=h;refine#[_,(Im (Bq (PW3.pt (Ji (B6 WW (Cn Az (vN 3)) Ad) (Fg (B6 WW (vK 3) EN)))) (AR HR) Ah)
  (Im (Bq (PW3.pt (Ji (w_not (AN (Ak hr BR (a1 (vK 3))))) (Ji (w_not (AN (Ak hr BR (a1 (vK 3))))) (Ji (w_not (AN (Ak hr AQ (a1 (vK 3))))) (Fg (B6 J5 (A4 (vK 3) Ad) Ad)))))) (AR HR) Ah)
  (Im (Bq (PW3.pt (Ji (w_not (AN (Ak hr BP (a2 (vK 3) (vN 0))))) (Fg (w_not (AN (Ak hr Co (a2 (vK 3) (vN 1)))))))) (AR HR) Ah)
  (Ac (AI 4 Y' (Ak hr IM (a2 (vK 3) (vK 3))))
  (Ac (AI 5 Y' (Ak hr Eo (a2 (vN 0) (vN 1))))
  (Im (Bq (PW3.pt (Ji (w_not (AN (Ak hr BR (a1 (vN 4))))) (Fg (w_not (AN (Ak hr BR (a1 (vN 5)))))))) (AR HR) Ah)
  (AR (Ak hr DN (a2 (Ak hr AO (Au (vN 4) (a2 (vK 3) (vN 2)))) (Ak hr AU (a2 (vN 5) (vN 2)))))))))))),?_]
 have rf:=kf.1.rise;have rh:=kh.1.1;have lf:=kf.2.2.1;have lh:=kh.1.2.2.1;have oL:=kL.rise.o;have qL:KQ L g:=#[kL.rise,zL.szk oL () ∅,lL];obtain⟨_,_,_,_,km,sl⟩:=kf.ko.st;obtain⟨_,_,_,_,hkm,hsl⟩:=kh.1.st;have gA:∀x y,0<=x->0<=y->val fc fm (x+y)-val fc fm x<=g*y:=λx y x0 y0=>Q8 rf.o ⋯ (λi hi=>qAv (sl i hi) g1) x0 y0;have gH:∀x y,0<=x->0<=y->val hc hm (x+y)-val hc hm x<=g*y:=λx y x0 y0=>Q8 rh.o ⋯ (λi hi=>qAv (hsl i hi) g2) x0 y0;have sO:Sre (val L g) (val hc hm):=TN hu b0 sr gH;have kzf:SzK 5200 fc fm:=kf.2.1.szk rf.o () ∅;have kzL:SzK 5200 L g:=zL.szk oL () ∅;refine#[rfl,?_];refine#[#[fc,fm,rfl,kf.1,kzf,L,g,rfl,kL,kzL,b,rfl,zb.mono ∅,BH (λc=>absurd c (OQ b0)) (λ_=>rfl)],?_];refine#[#[fc,fm,rfl,kf,λx hx=>?_],?_]
 .have:x=true:=hx.mpr kp;subst this;refine#[L,g,hc,hm,rfl,qL,kh.1.kq,λy hy _=>?_];have:y=true:=hy sO;subst this;rfl
 refine#[L,g,fc,fm,84,300,770,41,45,68,84,rfl,kL.rise,rf,zL,kf.2.1,∅,∅,lL,lf,∅,∅,∅,∅,λV K C M cV k0 vV cC m0 eM vC zC lC=>?_];have srv:Srv (val fc fm) (val L g) (val C M):=Srv.of vV vC;have dO:∀x,0<=x->val C M x<=val L g x:=λx x0=>by
  rw[vC x x0];have:=(vV x x0).1;grind
 have key:=Rf hu b0 t0 kp sr best (λx x0=>Hk rf x0) (λx x0=>Hk rh x0) gA g3 srv dO;have oC:=cC.rise.o;have kzC:SzK 5200 C M:=zC.szk oC () ∅;obtain⟨S0,nS,sf,sh,s00⟩:∃S0:List Rat,S0.length<=7/\SL S0 fc fm/\SL S0 hc hm/\(0:Rat)∈S0:=by
  refine#[0::(slL fc fm++slL hc hm),by rw[qAU,qAr,LZ,LZ];omega,(Ob rf.o).mono λx h=>?_,(Ob rh.o).mono λx h=>?_,qAL]
  all_goals simp[h]
 refine#[fc,fm,hc,hm,41,94,204,210,S0,rfl,#[rf,rh,kf.2.1.mono ∅ ∅ ∅,kh.1.2.1,∅,∅,aZ lf lh nS,∅,sf,sh,s00,(),()],λc=>absurd le (qA1.mpr c),λ_ U kU iU zU _ lU=>?_];have oU:=kU.rise.o;have kzU:SzK 5200 U fm:=zU.szk oU () ∅;refine#[#[C,M,rfl,cC,kzC,U,fm,rfl,kU,kzU,rfl],?_];have wb:Wq 5200 b.num b.den b:=(Wq.of zb).mono ∅;have wt:Wq 5200 t.num t.den t:=(Wq.of zt).mono ∅;refine#[C,M,b,t,_,_,_,_,5200,rfl,oC,∅,kzC,wb,b0,wt,qAm t0,λA B wA=>?_];refine#[U,fm,t,_,_,5200,rfl,oU,kzU.len,∅,kzU.cs,kzU.m,wt,qAm t0,λA' B' wB=>?_];refine#[_,_,_,_,rfl,wA.l4 (wB.mono ∅) ∅,?_];have eU:val U fm t=val C M (b+t)-val C M b:=by
  rw[key];have iu:=iU t (qAm t0);have c:=iu.2.2 b b0;rcases iu.2.1 with e|⟨u,u0,e⟩
  .have d:=iu.2.2 0 qAc;have b1:=best 0 qAc;have v0:=sr 0 0 qAc qAc;rw[show(0:Rat)+0=0 from ⋯]at v0;have f0:=Hk rf (show 0<=t+0 from ⋯);unfold FZ at b1;grind
  .have d:=best u u0;unfold FZ at d;grind
 rw[eU]at wB;show R (.d (.bl (decide _)));rw[qC7 (Int.le_antisymm ((wA.le_iff wB).mpr qAc) ((wB.le_iff wA).mpr qAc))];exact q
variable (Dl:qDi P w K mg base 12 "_law_bursts" qDh FY)
def Mo:Da P w K mg base "_law_told" Gq 14 qDg Ia:=by
 refine fq (N:=["_law_f","_law_house","_law_length","_law_found"]) scN λR U Y' hr h=>?_
 obtain⟨fc,fm,hc,hm,t,rfl,kf,kh,t0,zt,q⟩:=h;refine#[_,(Ac (AI 3 Y' (Ak hr KR (Au (vN 0) (a2 (vN 1) (vN 2)))))
  (Im (Bq (PW3.pt (Ji (w_not (AN (LJ .tuple (vN 3) rfl Ap rfl BF qBd))) (Fg (B6 Gy (Cn Az (vN 3)) Ad)))) (AR HR) Ah)
  (Ac (Bq (w_not (AN (Ak hr BP (a2 (vN 0) (vN 0))))) (AR (PH (HC Gy (Cn Az (vN 3)) Ad (DF _)) (PH (HC Gy (vK 3) EN (DF _)) (Uj (Ak hr BS (Au (vN 0) (Au (vK 3) (a2 (vK 3) Ad)))))))) Ah)
  (Ac (Bq (w_not (AN (Ak hr Co (a2 (vN 1) (vN 1))))) (AR (PH (HC Gy (Cn Az (vN 3)) Ad (DF _)) (PH (HC Gy (vK 3) EN (DF _)) (Uj (Ak hr BS (Au (vN 1) (Au (vK 3) (a2 (vK 3) (EM Ad))))))))) Ah)
  (Ac (Bq (w_not (AN (Ak hr Ai (a2 (vK 0) (vK 1))))) (AR (HC (TQ 1 (hu_ hr ∅)) (vN 3) (Bb (a1 EN)) (DF _))) Ah)
  (AR (Ak hr Dl (Au (vN 0) (Au (vN 1) (a2 (vN 2) (vN 3))))))))))),?_]
 have rf:=kf.1.rise;have rh:=kh.1.1;have kq:=kh.1.kq;obtain⟨_,_,_,k0,km,sl⟩:=kh.1.st;have wm:Wq 1200 fm.num fm.den fm:=Wq.of kf.kq.2.1.m;have wk:Wq 1200 hm.num hm.den hm:=Wq.of kq.2.1.m;have sure2:∀x:Bool,(Sre (val hc hm) (val hc hm)->x=true)->(x=true->∀s L,W0 hc hc s L->val hc hm L<=val hc hm (s+L)-val hc hm s)->(x=true ↔ Sre (val hc hm) (val hc hm)):=λx h1 h2=>#[λe=>SW rh k0 ⋯ sl (U0 (h2 e)),h1];have no:∀{x:Bool}{P:Prop},(x=true ↔ P)->¬P->x=false:=λ{x P} h n=>by
  cases x with
  |false=>rfl
  |true=>exact absurd (h.mp rfl) n
 refine#[fc,fm,hc,hm,t,rfl,kf,kh,zt,λz=>absurd t0 z,λ_=>#[λs l s0 l0 zs zl lt=>?_,λkp=>#[λs l s0 l0 zs zl lt=>?_,λsr=>#[λlt=>?_,λle b L g b0 zb best hu=>?_]]]]
 .refine#[#[trivial,rfl],?_];refine#[fc,fm,rfl,kf,λx hx=>?_];have:=no hx λkp=>absurd (kp.2 s l s0 l0) (qA1.mpr lt);subst this;exact#[fc,fm,s,l,1,rfl,kf.kq,zs,zl,s0,l0,.inl #[rfl,lt],q]
 all_goals refine#[#[trivial,rfl],?_]
 all_goals refine#[fc,fm,rfl,kf,λx hx=>?_]
 all_goals have:x=true:=hx.mpr kp
 all_goals subst this
 all_goals refine#[hc,hm,hc,hm,rfl,kq,kq,λy h1 h2=>?_]
 .have:=no (sure2 y h1 h2) λsr=>absurd (sr s l s0 l0) (qA1.mpr lt);subst this;exact#[hc,hm,s,l,-1,rfl,kq,zs,zl,s0,l0,.inr #[rfl,lt],q]
 all_goals have:y=true:=h1 sr
 all_goals subst this
 all_goals refine#[_,_,_,_,rfl,wm.l4 wk ∅,?_]
 .refine Lk (λ_=>?_) (λc=>absurd ((wm.le_iff wk).mp c) (qA1.mpr lt));exact#[(by show 1<=1000;decide),rfl,rfl,q]
 .refine Lk (λc=>absurd ((wm.le_iff wk).mpr le) c) (λ_=>?_);exact#[fc,fm,hc,hm,t,b,L,g,rfl,kf,kh,kp,sr,le,t0,zt,b0,zb,best,hu,q]
variable (EC:qDi P w K mg base 14 "_law_told" qDg Ia)
def YQ:Da P w K mg base "law" NT 16 ["_law_script"] Yz:=by
 refine fq (N:=["_law_script","_law_way","_law_side","_law_shapes","_law_cells","_law_f","_law_start","_law_house","_law_cell","_law_length","_law_more"]) scN λR U Y' hr h=>?_
 obtain⟨ns,rfl,hl,q⟩:=h;refine#[_,(Ac (AI 1 Y' (Al B8 (Ak hr Ax (a2 (vN 0) Ad)) Ad))
  (Ac (AI 2 Y' (Ak hr Ax (a2 (vN 0) Ad)))
  (Ac (AI 3 Y' (Gn (a2 Ad Ad)))
  (BJ (Bq (B6 Gy (vN 1) Ad) (Ag (ZK (YS (PE3.out Ad) (XJ (pv 3) (PE3.out Ad) To)))) Ah)
  (BJ (Bq (B6 Gy (vN 1) Ad) (Ag (AI 3 Y' (Gn (a2 (Al B8 (Al BU (vN 2) Ad) Ad) (Al B8 (Al BU (vN 2) Ad) Ad))))) Ah)
  (Ac (AI 4 Y' (Ak hr Eb (Au (vN 0) (a2 Ad (Al Be Ad (Al B8 (Al Be (Al BU (vN 2) Ad) Ad) Ad))))))
  (Ac (AI 5 Y' (Ak hr C1 (Au (Al B8 (Ak hr Ax (a2 (vN 0) Ad)) Ad) (Au (vN 4) (a2 (Al AD (Al B8 (vN 2) Ad) (Al B8 (Al BU (Ak hr Ax (a2 (vN 0) Ad)) Ad) (Al PB Ad Ad))) (vK 3))))))
  (Ac (AI 2 Y' (Ak hr Ax (a2 (vN 0) Ad)))
  (Ac (AI 4 Y' (Ak hr Eb (Au (vN 0) (a2 Ad (Al Be Ad (Al B8 (Al Be (Al BU (vN 2) Ad) Ad) Ad))))))
  (Ac (AI 6 Y' Ad)
  (BJ (Bq (PW3.pt (Kd (B6 Gy (vN 1) Ad) (F7 (B6 Gy (Al B8 (vN 2) Ad) Ad)))) (Ag (AI 6 Y' (Al Be Ad (Al B8 (Al BU (vN 2) Ad) (Al PB Ad Ad))))) Ah)
  (Ac (AI 7 Y' (Ak hr C1 (Au (Al B8 (Ak hr Ax (a2 (vN 0) Ad)) Ad) (Au (vN 4) (a2 (vN 6) (vK 3))))))
  (BJ (Bq (B6 Vj (vN 1) Ad) (Ac (AI 10 Y' (Ak hr Bu (a2 (vK 5) (Ak hr Bu (a2 (vK 7) (Bb (a2 (Al BU (Al B8 (vN 2) Ad) Ad) Ad)))))))
  (Ag (AI 7 Y' (Ak hr DE (a2 (vN 7) (Ak hr AW (a2 (vK 10) (vK 10)))))))) Ah)
  (Ac (AI 8 Y' (Ak hr Ax (a2 (vN 0) Ad)))
  (Ac (AI 9 Y' (Ak hr AW (a2 (Al Be Ad (Al B8 (Al BU (vN 8) Ad) (Al PB Ad Ad))) (Al Be Ad (Al B8 (Al B8 (Al AD (vN 8) Ad) Ad) Ad)))))
  (BJ (Bq (B6 Gy (Al B8 (vN 8) Ad) Ad) (Ac (AI 9 Y' (Ak hr AW (a2 (EM (Al B8 (Al BU (vN 8) Ad) (Al PB Ad Ad))) (Al Be Ad (Al B8 (Al B8 (Al AD (vN 8) Ad) Ad) Ad)))))
  (Ac (Bq (w_not (AN (Ak hr CP (Au (vN 5) (a2 (vN 7) (vN 9)))))) (AR HR) Ah)
  (Ag (AI 9 Y' (Ak hr AW (a2 (Al Be Ad (Al B8 (Al BU (vN 8) Ad) Ad)) Ad)))))) Ah)
  (AR (Ak hr EC (Au (vN 5) (a2 (vN 7) (vN 9))))))))))))))))))))),?_]
 have h9:(0:Int)<10^(9:Int).toNat:=∅;have h91:(10:Int)^(9:Int).toNat=1000000000:=∅;have h12:(0:Int)<10^(12:Int).toNat:=∅;have h121:(10:Int)^(12:Int).toNat=1000000000000:=∅;have h6:(0:Int)<10^(6:Int).toNat:=∅;have h61:(10:Int)^(6:Int).toNat=1000000:=∅;refine#[ns,0,rfl,∅,∅,∅,ns,1,rfl,∅,∅,(by show 2<=1000;decide),?_];generalize (cl ns 0).fmod 6=w;refine#[λτ=>∃a b:Int,τ=[some (.r (ns.map D.int)),I w,I (cl ns 1),some (.l [.int a,.int b]),none,none,none,none,none,none,none],BH (λ_=>#[0,rfl,2,2,rfl]) (λ_=>#[1,2,rfl]),?_];rintro τ ⟨a,b,rfl⟩;refine#[λτ=>∃a b:Int,τ=[some (.r (ns.map D.int)),I w,I (cl ns 1),some (.l [.int a,.int b]),none,none,none,none,none,none,none],BH (λ_=>#[#[∅,EK ∅],∅,#[∅,EK ∅],∅,(by show 2<=1000;decide),_,_,rfl]) (λ_=>#[a,b,rfl]),?_];rintro τ ⟨a,b,rfl⟩;have f3:=fm (a:=(cl ns 1).fdiv 2+2) (show(0:Int)<3 from ∅);refine#[#[∅,EK ∅],∅,ns,6,_,rfl,∅,∅,(),(),λms lm=>?_];have f2:=fm (a:=cl ns 1) (show(0:Int)<2 from ∅);have f9:=fm (a:=(cl ns 2).fdiv 30) h9;refine#[ns,2,rfl,∅,∅,∅,∅,ns,2,rfl,∅,∅,#[∅,EK ∅],#[∅,∅,∅],qBl h9,AE (m:=2) (n:=31) () (by rw[h91]at f9 ⊢;omega) ∅,?_];obtain⟨st,est,s0,s1⟩:∃st:Int,(cl ns 1).fmod 2*((cl ns 2).fdiv 30).fmod (10^(9:Int).toNat)=st/\0<=st/\st<=1000000000:=by
  refine#[_,rfl,qCY f2.1 f9.1,?_];rw[h91]at f9 ⊢;rcases(show(cl ns 1).fmod 2=0\/(cl ns 1).fmod 2=1 from ()) with e|e<;>rw[e]<;>omega
 rw[est];refine#[_,ms,st,a,rfl,(),(),s0,(),λfc fm_ kf=>?_];have f3':=fm (a:=(cl ns 3).fdiv 2+2) (show(0:Int)<3 from ∅);refine#[ns,3,rfl,∅,∅,#[∅,EK ∅],∅,ns,9,_,rfl,∅,∅,(),(),λms2 lm2=>?_];refine#[λτ=>∃st:Int,τ=[some (.r (ns.map D.int)),I w,I (cl ns 3),some (.l [.int a,.int b]),some (.l (ms2.map D.int)),some (.d (crv fc fm_)),I st,none,none,none,none]/\0<=st/\st<=1000001,?_,?_]
 .refine BH (λ_=>#[∅,BH (λ_=>?_) (λ_=>#[0,rfl,∅,∅])]) (λ_=>#[0,rfl,∅,∅]);have f6:=fm (a:=(cl ns 3).fdiv 3) h6;rw[h61]at f6;exact#[#[∅,EK ∅],#[∅,∅,∅],qBl h6,_,rfl,by rw[h61];omega,by rw[h61];omega]
 rintro τ ⟨st2,rfl,t0,t1⟩;refine#[ns,4,rfl,∅,∅,∅,_,ms2,st2,b,rfl,(),(),t0,(),λhc0 hm0 kf2=>?_];refine#[λτ=>∃(hc:Cs)(hm:Rat)(y10:Option S),τ=[some (.r (ns.map D.int)),I w,I (cl ns 3),some (.l [.int a,.int b]),some (.l (ms2.map D.int)),some (.d (crv fc fm_)),I st2,some (.d (crv hc hm)),none,none,y10]/\KO hc hm/\∀i,i<↥hc->Sz 68 (vv hc i),?_,?_]
 .refine BH (λ_=>?_) (λ_=>#[hc0,hm0,_,rfl,kf2.ko,kf2.2.2.2]);have f5:=fm (a:=cl ns 3) (show(0:Int)<5 from ∅);have w1:Wq 45 fm_.num fm_.den fm_:=Wq.of (kf.2.1.m kf.1.rise.o);have w2:Wq 45 hm0.num hm0.den hm0:=Wq.of (kf2.2.1.m kf2.1.rise.o);have x2:0<=((cl ns 3).fmod 5).fdiv 2/\((cl ns 3).fmod 5).fdiv 2<=2:=by
   rw[qBm _ ∅];omega
  have w3:Wq 2 (((cl ns 3).fmod 5).fdiv 2) 1 (Rat.divInt (((cl ns 3).fmod 5).fdiv 2) 1):=Sh ∅ () ∅;have w4:=w2.plus w3;have w5:=w1.plus w4;refine#[∅,#[∅,EK ∅],(by show 2<=1000;decide),_,_,_,_,rfl,w2.l4 (w3.mono ∅) ∅,?_];refine#[_,_,_,_,rfl,(w1.mono ∅).l4 w4 ∅,?_];refine#[_,_,rfl,w5.pos,A6 w5.la ∅,A6 w5.lb ∅,?_];rw[GA w5];exact#[hc0,hm0,_,rfl,kf2,w5.sz.mono ∅,qB9 kf.1.m0 (qB9 kf2.1.m0 (Jo ∅ x2.1)),λds kd hv=>#[ds,_,_,rfl,kd,hv]]
 rintro τ ⟨hc,hm,y10,rfl,kh⟩;refine#[ns,5,rfl,∅,∅,?_];generalize cl ns 5=c;have g1:=fm (a:=c.fdiv 8) h12;rw[h121]at g1;have g2:=fm (a:=(c*48271).fmod 9973) (show(0:Int)<60 from ∅);have g3:=fm (a:=c.fdiv 8) (show(0:Int)<100 from ∅);have xa:(1+(c.fdiv 8).fmod (10^(12:Int).toNat)).natAbs<2^41:=by rw[h121];omega
 have xb:(1+((c*48271).fmod 9973).fmod 60).natAbs<2^41:=();have xc:(-(c.fdiv 8).fmod (10^(12:Int).toNat)).natAbs<2^41:=by rw[h121];omega
 have xd:(1+(c.fdiv 8).fmod 100).natAbs<2^41:=();refine#[#[∅,EK ∅],#[∅,∅,∅],qBl h12,PySem.IntMulOk.of_right ∅,∅,∅,_,_,rfl,(),A6 xa ∅,A6 xb ∅,?_];refine#[λτ=>∃t:Rat,τ=[some (.r (ns.map D.int)),I w,I (cl ns 3),some (.l [.int a,.int b]),some (.l (ms2.map D.int)),some (.d (crv fc fm_)),I st2,some (.d (crv hc hm)),I c,some (.d (qd t)),y10]/\0<t/\Sz 41 t,?_,?_]
 .refine#[∅,?_];refine BH (λ_=>?_) (λ_=>#[_,rfl,bD () (by rw[h121];omega) xa xb,J9 () xa xb]);refine#[#[∅,EK ∅],#[∅,∅,∅],qBl h12,PySem.IntMulOk.of_right ∅,∅,∅,_,_,rfl,(),A6 xc ∅,A6 xb ∅,?_];refine#[fc,fm_,hc,hm,_,rfl,kf,kh,J9 () xc xb,?_,?_]
  .have wx:=Sh (show 0<1+((c*48271).fmod 9973).fmod 60 from ()) xc xb;intro z;have:=((Wq.of (k:=1) Sz.zero).lt_iff wx).mpr z;rw[h121]at this;simp at this;omega
  exact#[#[∅,EK ∅],∅,_,_,rfl,∅,A6 xd ∅,∅,_,rfl,bD (n:=41) ∅ () xd ∅,J9 ∅ xd ∅]
 rintro τ ⟨t,rfl,p0,zt⟩;exact#[fc,fm_,hc,hm,t,rfl,kf,kh,p0,zt,q]
end
abbrev Due (l:W.OpenLaw)(w:World)(K:W.Frag)(mg:Str->Option Value)(fa:Addr):Prop:=∃fd:FuncData,(∀(s:Shared)(v:Value),BindsTo s fd #[[v],[]] [("_law_script",v)])/\∀base:Heap,K.In base->base.Ns mainGlobals mg->∃mg',Ao l.prog w K mg base CX0 16 fa fd ["_law_script"] (Af K mg' Oy)
def all_mk {l:W.OpenLaw}{w:World}{K:W.Frag}{h:Heap}{mg:Str->Option Value}{fa:Addr}(X:K.In h)(G:h.Ns mainGlobals mg)(hfa:mg "law"=some (.ref fa))(fx:Facts l K):Due l w K mg fa:=by
 obtain @⟨kV,dc,pm,cd,ct,oc,od,an,sl,fL,qDj,qDl,qDm,gt_NOUGHT_0,gt_NOUGHT_1,ga_NOUGHT_2,gd_NOUGHT_3,gn_NOUGHT_3,gs_NOUGHT_3,r0,r1,r2,r3,r4,r5,r6,r7,r8,r9,r10,r11,r12,r13,r14,r15,r16,r17,r18,r19,r20,r21,r22,r23,r24,r25,r26,r27,r28,r29,r30,r31,r32,r33,r34,r35,r36,r37,r38,r39,r40,r41,r42,r43,r44,r45,r46,r47,r48,r49,r50,r51,r52,r53,r54,r55,r56,r57,r58,r59,r60,r61,r62,r63,r64,r65,r66,r67,r68,r69,r70,r71,r72,r73,r74,r75,r76,r77,r78,r79,r80,r81,r82,r83,r84,r85,r86,r87,r88,r89,aL,lL,cL,kL,z0,z1,z2,z3,z4,z5,z6,z7,z8,z9,z10,z11,qDz,qDA,qDB,qDC,qDD,qDE,qDF,qDG,qDH,qDI,qDt,qDu,qDJ,qDK,qDL,qDM,qDN,qDO,qDP,qDQ,qDR,qDS,qDT,qDx,qDy,qDU,qDV,qDW,qDX,qDY,qDZ,qD0,qD1⟩:=fx;have e:=hfa.symm.trans (qBn X G aL);cases e;have Ap:=qAX X G z0;have Nw:=qAX X G z1;have Jq:=qAX X G z2;have MF:=qAX X G z3;have Az:=qAX X G z4;have AY:=qAX X G z5;have BF:=qAX X G z6;have UD:=qAX X G z7;have Nj:=qAX X G z8;have Ci:=qAX X G z9;have GG:=qAX X G z10;have z_ValueError:=qAX X G z11;have qC9:GC K mg "NOUGHT" (.tup [(.int 0),(.int 1)]):=KD.of (qBn X G qDC) (KD.tup qDD (Nat.le_of_ble_eq_true rfl) (.cons KD.int (.cons KD.int .nil)));have qDn:ExC K "NoCurve" qDl:=#[qDA,qDE];have qDo:=qBn X G qDA;have qDp:ExC K "NoTime" qDm:=#[qDB,qDF];have qDq:=qBn X G qDB;have qDr:=qBn X G qDz;have qDs:HnC K qDj:=#[qDG,qDH,qDI];have qDv:ExI K qDm:=#[qDJ,qDK,qDL,qDM,qDN,qDO,qDP,qDQ];have qDw:HnC K qDm:=#[qDR,qDS,qDT];obtain⟨⟨qD2,qD3⟩,qD4⟩:=qA6.mp qDU;obtain⟨⟨qD5,qD6⟩,qD7⟩:=qA6.mp qDW;obtain⟨⟨qD8,qD9⟩,qEa⟩:=qA6.mp qDY;obtain⟨⟨qEb,qEc⟩,qEd⟩:=qA6.mp qD0;refine#[W.fnOf "law" "law" (Gr NT) (BV NT) (Aa NT) .none kV dc pm an cd ct,λs v=>.of_eq rfl,λbase _ _=>#[mg,?_]];have M:=@mkC l.prog w K mg base h X G;have D7:=M r0 (λF _=>Ao.anyCX (Nq Ap Nw Jq F));have GW:=M r1 (λF _=>Ao.anyCX (PY MF F));have Bn:=M r2 (λF _=>Ao.anyCX (UA D7 GW F));have Bw:=M r3 (λF _=>Ao.anyCX (VC Bn F));have Ar:=M r4 (λF _=>Ao.anyCX (SY Bn F));have Gp:=M r5 (λF _=>Ao.anyCX (Ul Bn F));have FV:=M r6 (λF _=>Ao.anyCX (VY Bn F));have Aj:=M r7 (λF _=>Ao.anyCX (Uq F));have AZ:=M r7 (λF _=>Ao.anyCX (Nv F));have CB:=M r8 (λF _=>Ao.anyCX (PQ Aj F));have Dj:=M r9 (λF _=>Kl Aj Az qC9 qDn qDo F);have DD:=M r10 (λF _=>Ly Aj Az qDn qDo AY F);have AJ:=M r11 (λF _=>Ao.anyCX (Io Ar FV F));have Bk:=M r12 (λF _=>Ao.anyCX (Iw Az AY AJ F));have Am:=M r12 (λF _=>Ao.anyCX (Gh Az AY AJ F));have B5:=M r13 (λF _=>T7 Aj Az qC9 qDn qDo Dj AY DD Bk BF F);have F6:=M r14 (λF _=>WG qC9 B5 F);have BQ:=M r15 (λF _=>Lm Aj qC9 qDp qDq F);have AH:=mkL (P:=l.prog) (w:=w) (base:=base) X G r16 (λF _=>Kh Az F);have FL:=M r17 (λF a=>Nm Aj BQ AH F qD4 a qDV);have Cd:=M r18 (λF _=>Ao.anyCX (Hs Az AJ F));have A1:=M r19 (λF _=>NX Bw Ar Gp FL Cd F);have B0:=M r20 (λF _=>Ao.anyCX (GF Aj Az AY Am F));have A3:=M r21 (λF _=>Ao.anyCX (GZ Aj Az AY Am F));have AK:=M r22 (λF _=>Ao.anyCX (JY Am UD F));have BE:=M r23 (λF _=>Ao.anyCX (Nc Aj F));have Dx:=M r24 (λF _=>Ao.anyCX (Pj Bw Ar FV F));have Bh:=M r25 (λF _=>Ao.anyCX (LV Ar F));have CS:=M r26 (λF _=>Ao.anyCX (IV Aj Az F));have A5:=M r27 (λF _=>Ao.anyCX (Kk A1 CS F));have F4:=M r28 (λF _=>Ao.anyCX (WM Ar B5 Bh A5 F));have ES:=M r29 (λF _=>Ao.anyCX (Ti Bw Ar Aj qC9 Dx Bh A5 F));have CZ:=M r30 (λF _=>Ao.anyCX (Js Ar Gp F));have DB:=M r31 (λF _=>Ao.anyCX (Ms Am CZ Nj F));have EB:=M r32 (λF _=>Ao.anyCX (Mp Bn F));have FI:=M r33 (λF _=>Ao.anyCX (MZ Bn B5 EB F));have DM:=M r34 (λF _=>Ao.anyCX (LH F));have DI:=M r35 (λF _=>Ao.anyCX (Me F));have Mg:=M r36 (λF _=>Ao.anyCX (Wc DM DI F));have Fd:=M r37 (λF _=>Ao.anyCX (PX F));have IL:=M r38 (λF _=>Ao.anyCX (SK Ar qC9 Nj F));have CC:=M r39 (λF a=>Ao.anyCX (Kf AZ qC9 AH F qD7 a qDX));have CV:=M r40 (λF _=>Ao.anyCX (Jm AZ F));have CY:=M r41 (λF a=>Ao.anyCX (Jv AZ Az AH CV F qEa a qDZ));have Jf:=M r42 (λF _=>Ao.anyCX (VO F));have Ox:=M r43 (λF _=>Ao.anyCX (Xd Jf F));have N5:=M r44 (λF _=>Ao.anyCX (VS Jf F));have Cp:=mkM (P:=l.prog) (w:=w) (base:=base) X G r45 (λF _=>Mi F);have Ee:=M r46 (λF _=>Ao.anyCX (Np Bn F));have Es:=mkM (P:=l.prog) (w:=w) (base:=base) X G r47 (λF _=>MA Cp Ee F);have Fi:=M r48 (λF a=>Ao.anyCX (Px AZ AH CY Ox N5 Es Ci F qEd a qD1));have GN:=M r49 (λF _=>Ao.anyCX (O5 Bw Ar Aj B5 A1 F));have AL:=M r50 (λF _=>Ao.anyCX (FO B0 F));have Eo:=M r51 (λF _=>Ao.anyCX (Qv Bw Ar qC9 A3 BE DB FI Mg Fd IL CC Fi AL F));have D6:=M r52 (λF _=>Ao.anyCX (M5 Bw Ar A1 F));have Ce:=M r53 (λF _=>Ao.anyCX (Hw Ar Aj A3 AL F));have Jx:=M r54 (λF _=>Vs Aj qC9 BQ BE D6 Ce F);have CJ:=M r55 (λF _=>Ao.anyCX (NO Bw Jx F));have Ey:=M r56 (λF _=>Ao.anyCX (SN Eo F));have Iy:=M r57 (λF _=>Ao.anyCX (RN ES CJ Ey F));have Dy:=M r58 (λF _=>Ao.anyCX (O9 F6 AK F4 F));have IB:=M r59 (λF _=>Ao.anyCX (Rm qC9 F6 AK F4 Ey Dy F));have OF:=M r60 (λF _=>Ao.anyCX (WA ES CJ Dy IB F));have Hj:=M r61 (λF _=>Ao.anyCX (Pc Bw FV CB qC9 F6 A1 AK GN F));have KR:=M r62 (λF _=>TF Aj qC9 qDp qDq BE Jx Iy OF Hj F);have Dq:=M r63 (λF _=>Ao.anyCX (Kj Aj Az qC9 F));have Oh:=M r64 (λF _=>Ao.anyCX (VP Ar Aj CB qC9 Bk B5 Dx Bh A5 Ci Dq F));have IA:=M r65 (λF _=>Ao.anyCX (Qh Oh F));have IM:=M r66 (λF _=>Ao.anyCX (Sd F4 IA F));have Ax:=M r67 (λF _=>Ao.anyCX (JC Az F));have AW:=M r68 (λF _=>Ao.anyCX (NR MF F));have Bu:=M r69 (λF _=>Ao.anyCX (NK F));have Av:=M r70 (λF _=>Ao.anyCX (Mn F));have Ai:=M r71 (λF _=>Ao.anyCX (L6 F));have A8:=M r72 (λF _=>Ao.anyCX (KZ Az Av F));have AU:=M r73 (λF _=>Ao.anyCX (Py Az Bu Av Ai A8 F));have AQ:=M r74 (λF _=>Ao.anyCX (Ls Ap Nw Jq Az BF AW F));have BR:=M r75 (λF _=>Ao.anyCX (LP Ap Az AY BF Ai A8 AQ F));have Dg:=M r76 (λF _=>Ao.anyCX (J8 F));have C1:=M r77 (λF _=>Ao.anyCX (LO Az AY BF AW Dg GG F));have Eb:=M r78 (λF _=>Ao.anyCX (NG AY Ax F));have DE:=M r79 (λF _=>Ao.anyCX (K2 Az A8 F));have AO:=M r80 (λF _=>Ao.anyCX (Ma Bu Av AU F));have Bz:=M r81 (λF _=>Ao.anyCX (Kb Av Ai F));have BP:=M r82 (λF _=>Ao.anyCX (Lv Ai AU AO Bz F));have Co:=M r83 (λF _=>Ao.anyCX (Mt Ai AU AO Bz F));have DN:=M r84 (λF _=>Ao.anyCX (Lz F));have BS:=M r85 (λF _=>Ao.anyCX (Iq Av Ai AU AQ AO F));have H_under:=mkH (P:=l.prog) (w:=w) (base:=base) X G r7 (λF=>RJ F) (by intro _ _ _ _ _ _ us hl;first|(obtain⟨x0,x1,rfl⟩:=N2 hl;rfl)|(obtain⟨x0,x1,x2,rfl⟩:=Nd hl;rfl));have C2_burst:=mk2 (P:=l.prog) (w:=w) (base:=base) X G r62 (λF=>Qy Aj qC9 qDp qDq F) (by intro _ _ _ _ _ _ us hl;first|(obtain⟨x0,x1,rfl⟩:=N2 hl;rfl)|(obtain⟨x0,x1,x2,rfl⟩:=Nd hl;rfl));have H_burst:=mkH (P:=l.prog) (w:=w) (base:=base) X G r62 (λF=>Ri qC9 qDp qDq qDw qDy H_under F) (by intro _ _ _ _ _ _ us hl;first|(obtain⟨x0,x1,rfl⟩:=N2 hl;rfl)|(obtain⟨x0,x1,x2,rfl⟩:=Nd hl;rfl));have H_any:=mkH (P:=l.prog) (w:=w) (base:=base) X G r86 (λF=>Ek Ap qDq z_ValueError qDr qDs qDt qDu qDv H_burst F) (by intro _ _ _ _ _ _ us hl;first|(obtain⟨x0,x1,rfl⟩:=N2 hl;rfl)|(obtain⟨x0,x1,x2,rfl⟩:=Nd hl;rfl));have CP:=M r87 (λF _=>Ao.anyCX (Jj qDq qDw qDx C2_burst H_any F));have Dl:=M r88 (λF _=>Ao.anyCX (Kg Az Eo IM AU AQ BR AO BP Co DN F));have EC:=M r89 (λF _=>Ao.anyCX (Mo Ap Az BF KR Ai BP Co BS Dl F));exact YQ Ax AW Bu C1 Eb DE CP EC (KJ (st:=NT) lL cL kL)
end CL
theorem PySem.Challenge.cw_curvehouse_k40_a_burst_holds : PySem.Challenge.rw_curvehouse_k40_a_burst.Holds := by
 exact CL.front fun e1 e2 e3 e4 e5 fx=>L3.walk3 (l:=PySem.Challenge.rw_curvehouse_k40_a_burst) (k:=16) (x:="_law_script") rfl e1 #[rfl,∅,∅] e2 e3 e4 fun w mg fa h X G hg=>CL.all_mk X G (e5 ▸ hg) (fx w)
