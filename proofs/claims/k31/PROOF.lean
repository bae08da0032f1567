import PyProof.Rows.All
import PySem.Challenge.RW_curvehouse_k31_a_lack
import KE.KItem
import KE.KLam
import KE.KNestM
import KE.KIsAll
import KE.KLcPair
import KE.RegMulBits
import KE.KFromBytes
set_option Elab.async false
set_option linter.all false
set_option maxRecDepth 100000
local macro_rules|`(())=>`(by omega)
local macro_rules|`(∅)=>`(by decide)
local macro_rules|`(⋯)=>`(by grind)
section
open PySem
abbrev qAa:=@List.length_map
abbrev qAb:=@List.getElem?_eq_getElem
abbrev qAc:=@List.getElem?_map
abbrev qAd:=@List.getElem?_eq_some_iff
abbrev qAe:=@Nat.le_refl
abbrev qAf:=@List.getD_eq_getElem?_getD
abbrev qAg:=@Rat.le_refl
abbrev qAh:=@Heap.get?_push_of_some
abbrev qAi:=@Heap.lt_size
abbrev qAj:=@Rat.intCast_mul
abbrev qAk:=@List.mem_cons
abbrev qAl:=@Option.some.inj
abbrev qAm:=@Nat.lt_of_lt_of_le
abbrev qAn:=@Bool.false_ne_true
abbrev qAo:=@List.mem_append
abbrev qAp:=@List.getElem?_append_left
abbrev qAq:=@Nat.ne_of_lt
abbrev qAr:=@List.length_range
abbrev qAs:=@List.getElem?_append_right
abbrev qAt:=@Rat.mul_nonneg
abbrev qAu:=@Heap.get?_push_size
abbrev qAv:=@List.size_toArray
abbrev qAw:=@List.mem_append_right
abbrev qAx:=@List.length_append
abbrev qAy:=@Rat.le_of_lt
abbrev qAz:=@List.mem_singleton
abbrev qAA:=@PySem.F.slot_list_append
abbrev qAB:=@PySem.F.type_list_append
abbrev qAC:=@Rat.divInt_eq_div
abbrev qAD:=@PySem.F.plainAttrs_list
abbrev qAE:=@List.getElem?_range
abbrev qAF:=@List.mem_of_getElem?
abbrev qAG:=@List.all_eq_true
abbrev qAH:=@List.mem_map
abbrev qAI:=@List.mem_range
abbrev qAJ:=@Nat.le_trans
abbrev qAK:=@List.mem_cons_of_mem
abbrev qAL:=@Rat.le_trans
abbrev qAM:=@Rat.not_lt
abbrev qAN:=@List.getElem?_eq_none_iff
abbrev qAO:=@List.map_append
abbrev qAP:=@List.eq_nil_of_length_eq_zero
abbrev qAQ:=@W.kia_one
abbrev qAR:=@List.length_drop
abbrev qAS:=@List.length_take
abbrev qAT:=@Bool.and_eq_true
abbrev qAU:=@List.length_cons
abbrev qAV:=@List.mem_cons_self
abbrev qAW:=@W.mg_none_of
abbrev qAX:=@Rat.intCast_pos
abbrev qAY:=@Nat.lt_irrefl
abbrev qAZ:=@List.mem_append_left
abbrev qA0:=@Rat.lt_irrefl
abbrev qA1:=@Int.mul_pos
abbrev qA2:=@List.length_filter_le
abbrev qA3:=@Rat.div_mul_cancel
abbrev qA4:=@Nat.mul_le_mul_right
abbrev qA5:=@PyProof.Rows.callWith_type1
abbrev qA6:=@Rat.mul_eq_zero
abbrev qA7:=@List.filterMap_cons
abbrev qA8:=@Nat.zero_le
abbrev qA9:=@Nat.lt_trans
abbrev qBa:=@List.map_map
abbrev qBb:=@Rat.intCast_lt_intCast
abbrev qBc:=@Int.ne_of_gt
abbrev qBd:=@Int.fdiv_eq_ediv_of_nonneg
abbrev qBe:=@Rat.not_le
abbrev qBf:=@List.lookup_cons
abbrev qBg:=@List.filter_cons
abbrev qBh:=@Nat.eq_zero_or_pos
abbrev qBi:=@List.getElem?_zip_eq_some
abbrev qBj:=@List.mem_filter
abbrev qBk:=@Nat.le_of_lt
abbrev qBl:=@Nat.ne_of_gt
abbrev qBm:=@Option.isSome_iff_exists
abbrev qBn:=@Rat.intCast_add
abbrev qBo:=@Rat.intCast_sub
abbrev qBp:=@List.take_add_one
abbrev qBq:=@Rat.intCast_eq_zero_iff
abbrev qBr:=@List.length_reverse
abbrev qBs:=@List.getElem?_set_self
abbrev qBt:=@List.take_of_length_le
abbrev qBu:=@List.filterMap_map
abbrev qBv:=@List.getElem?_drop
abbrev qBw:=@Nat.add_sub_cancel
abbrev qBx:=@List.append_nil
abbrev qBy:=@List.getElem?_toArray
abbrev qBz:=@List.getElem?_reverse
abbrev qBA:=@F.slot_tuple_iterator_next
abbrev qBB:=@Rat.mul_pos
abbrev qBC:=@List.not_mem_nil
abbrev qBD:=@List.getElem?_cons_succ
abbrev qBE:=@W.mg_of
abbrev qBF:=@Bool.eq_iff_iff
abbrev qBG:=@Nat.not_lt_zero
abbrev qBH:=@W.kitx_list
abbrev qBI:=@Int.toNat_natCast
abbrev qBJ:=@Heap.size_push
abbrev qBK:=@PyProof.Rows.boot_abs
abbrev qBL:=@List.getElem?_set_ne
abbrev qBM:=@List.getElem_mem
abbrev qBN:=@Nat.le_add_right
abbrev qBO:=@Int.sign_eq_neg_one_of_neg
abbrev qBP:=@Nat.le_succ
abbrev qBQ:=@Nat.min_eq_left
abbrev qBR:=@List.mem_filterMap
abbrev qBS:=@List.getElem?_take_of_lt
abbrev qBT:=@List.length_filterMap_le
abbrev qBU:=@Int.fmod_lt_of_pos
abbrev qBV:=@Rat.add_nonneg
abbrev qBW:=@PyProof.Rows.boot_tuple
abbrev qBX:=@W.cellsFrom_some
abbrev qBY:=@Int.sign_eq_one_of_pos
abbrev qBZ:=@Int.fmod_nonneg_of_pos
abbrev qB0:=@Nat.lt_succ_self
abbrev qB1:=@List.filterMap_eq_map
abbrev qB2:=@PyProof.Rows.slot_tuple_getitem
abbrev qB3:=@List.nodup_cons
abbrev qB4:=@List.of_mem_zip
abbrev qB5:=@Nat.pow_le_pow_right
abbrev qB6:=@Nat.add_comm
abbrev qB7:=@List.getElem?_of_mem
abbrev qB8:=@List.forIn_cons
abbrev qB9:=@List.pairwise_append
abbrev qCa:=@List.mem_iff_getElem
abbrev qCb:=@F.slot_zip_next
abbrev qCc:=@Int.mul_fdiv_cancel
abbrev qCd:=@Nat.mul_le_mul_left
abbrev qCe:=@W.kla_fn
abbrev qCf:=@F.args_tuple_iterator_next_1
abbrev qCg:=@Int.mul_nonneg
abbrev qCh:=@Rat.num_divInt_den
abbrev qCi:=@F.entry_tuple_iterator_next
abbrev qCj:=@List.map_cons
abbrev qCk:=@Bool.and_true
abbrev qCl:=@List.map_drop
abbrev qCm:=@Int.fmod_eq_emod_of_nonneg
abbrev qCn:=@List.ext_getElem?
abbrev qCo:=@List.pairwise_iff_getElem
abbrev qCp:=@PySem.F.args_tuple_add_2
abbrev qCq:=@List.take_length
abbrev qCr:=@PyProof.Rows.boot_sorted
abbrev qCs:=@List.getElem?_replicate
abbrev qCt:=@PySem.F.entry_tuple_add
abbrev qCu:=@PyProof.Rows.intBits_le
abbrev qCv:=@List.pairwise_singleton
abbrev qCw:=@Int.mul_one
abbrev qCx:=@PySem.F.slot_tuple_add
abbrev qCy:=@List.length_pos_of_mem
abbrev qCz:=@List.drop_eq_nil_of_le
abbrev qCA:=@PyProof.Rows.boot_bool
abbrev qCB:=@List.take_append_drop
abbrev qCC:=@Int.natAbs_neg
abbrev qCD:=@List.filterMap_append
abbrev qCE:=@PyProof.Rows.boot_int
abbrev qCF:=@List.mem_iff_getElem?
abbrev qCG:=@Nat.sub_self
end
namespace L2
open PySem
def Fp (s:Stmt):Arguments:=match s with
 |.FunctionDef _ a _ _ _ _ _ _ _ _=>a
 |_=>{ posonlyargs:=[],args:=[],vararg:=none,kwonlyargs:=[],kw_defaults:=[],kwarg:=none,defaults:=[] }
def B7 (s:Stmt):List Stmt:=match s with
 |.FunctionDef _ _ b _ _ _ _ _ _ _=>b
 |_=>[]
def Aa (s:Stmt):Scope:=match s with
 |.FunctionDef _ _ _ _ _ _ sc _ _ _=>sc
 |_=>{ kind:=.function,names:=[],isGenerator:=false,isCoroutine:=false }
end L2
namespace L3
open PySem L2
abbrev rA (K:W.Frag)(n:Str)(f:Addr):Prop:=W.nsIn K mainGlobals n=some (some (.ref f))
abbrev rL (K:W.Frag)(f:Addr)(n:Str)(st:Stmt)(oc:Value)(od:Option Addr)(kV dc pm:Value)(an:Option Addr)(cd ct:Value)(sl:Array (Option Value)):Prop:=K.lookup f=some ⟨oc,od,.func (W.fnOf n n (Fp st) (B7 st) (Aa st) .none kV dc pm an cd ct),sl⟩
abbrev rC (K:W.Frag)(cd:Value)(n:Str):Prop:=W.codeIn K cd n=true
abbrev rK (K:W.Frag)(f:Addr):Prop:=W.keepIn K (.ref f)=true
inductive Rw (K:W.Frag)(n:Str)(st:Stmt):Prop
 |mk {f:Addr}{oc:Value}{od:Option Addr}{kV dc pm:Value}{an:Option Addr}{cd ct:Value}{sl:Array (Option Value)}(a:rA K n f) (l:rL K f n st oc od kV dc pm an cd ct sl) (c:rC K cd n) (k:rK K f)
end L3
namespace CL
open PySem L2 L3
def top (i:Nat):Stmt:=PySem.Challenge.pw_curvehouse_k31_a_lack.main.body.getD i (.Pass ⟨0,0,0,0⟩)
abbrev GB:Stmt:=top 6
abbrev Iv:Stmt:=top 7
abbrev LH:Stmt:=top 10
abbrev Pq:Stmt:=top 11
abbrev Li:Stmt:=top 12
abbrev Lc:Stmt:=top 13
abbrev NV:Stmt:=top 14
abbrev JC:Stmt:=top 15
abbrev LA:Stmt:=top 17
abbrev DP:Stmt:=top 18
abbrev EC:Stmt:=top 19
abbrev Oc:Stmt:=top 20
abbrev GN:Stmt:=top 21
abbrev EM:Stmt:=top 22
abbrev Ei:Stmt:=top 23
abbrev CJ:Stmt:=top 24
abbrev C7:Stmt:=top 25
abbrev Be:Stmt:=top 26
abbrev BA:Stmt:=top 27
abbrev BG:Stmt:=top 28
abbrev Cv:Stmt:=top 29
abbrev Gx:Stmt:=top 30
abbrev HF:Stmt:=top 31
abbrev DV:Stmt:=top 32
abbrev PD:Stmt:=top 34
abbrev Ls:Stmt:=top 35
abbrev CW:Stmt:=top 36
abbrev Cw:Stmt:=top 37
abbrev Dj:Stmt:=top 38
abbrev DY:Stmt:=top 40
abbrev Dy:Stmt:=top 41
abbrev EO:Stmt:=top 42
abbrev Fv:Stmt:=top 43
abbrev Mr:Stmt:=top 44
abbrev Ep:Stmt:=top 45
abbrev Es:Stmt:=top 46
abbrev FK:Stmt:=top 47
abbrev Gp:Stmt:=top 48
abbrev CN:Stmt:=top 49
abbrev Ez:Stmt:=top 50
abbrev Cr:Stmt:=top 51
abbrev Ds:Stmt:=top 52
abbrev Pa:Stmt:=top 53
abbrev NN:Stmt:=top 54
abbrev PC:Stmt:=top 55
abbrev Fl:Stmt:=top 56
abbrev Fg:Stmt:=top 57
abbrev GH:Stmt:=top 58
abbrev JI:Stmt:=top 60
abbrev NW:Stmt:=top 61
abbrev BX:Stmt:=top 62
abbrev BV:Stmt:=top 63
abbrev GA:Stmt:=top 64
abbrev Pe:Stmt:=top 66
abbrev JU:Stmt:=top 67
abbrev JD:Stmt:=top 68
abbrev II:Stmt:=top 69
abbrev GI:Stmt:=top 70
abbrev Dv:Stmt:=top 72
abbrev Gw:Stmt:=top 73
abbrev Gv:Stmt:=top 74
abbrev Fw:Stmt:=top 75
abbrev Ex:Stmt:=top 76
abbrev Eo:Stmt:=top 77
abbrev HL:Stmt:=top 78
abbrev ED:Stmt:=top 79
abbrev DT:Stmt:=top 80
abbrev En:Stmt:=top 81
abbrev ET:Stmt:=top 82
abbrev Ee:Stmt:=top 83
abbrev DW:Stmt:=top 84
abbrev Fy:Stmt:=top 85
abbrev C4:Stmt:=top 86
abbrev DX:Stmt:=top 87
abbrev EE:Stmt:=top 88
abbrev Dz:Stmt:=top 89
abbrev C6:Stmt:=top 90
abbrev Ej:Stmt:=top 91
abbrev Lr:Stmt:=top 92
inductive Facts (l:W.OpenLaw)(K:W.Frag):Prop
 |mk {kV dc pm cd ct oc:Value}{od an:Option Addr}{sl:Array (Option Value)}{fL K_NoCurve K_NoTime:Addr}{gt_NOUGHT_0:Tok}{gt_NOUGHT_1:Tok}{ga_NOUGHT_2:Addr}{gd_NOUGHT_3:Option Addr}{gn_NOUGHT_3:Nat}{gs_NOUGHT_3:Array (Option Value)}
  (r0:Rw K "is_whole" GB)
  (r1:Rw K "divisor" Iv)
  (r2:Rw K "ratio" LH)
  (r3:Rw K "plus" Pq)
  (r4:Rw K "minus" Li)
  (r5:Rw K "times" Lc)
  (r6:Rw K "over" NV)
  (r7:Rw K "under" JC)
  (r8:Rw K "check_begin" DP)
  (r9:Rw K "check_rise" EC)
  (r10:Rw K "slope_between" C7)
  (r11:Rw K "slopes_behind" Be)
  (r12:Rw K "curve" LA)
  (r13:Rw K "heap" Oc)
  (r14:Rw K "check_time" Ei)
  (r15:Rw K "count_while" DV)
  (r16:Rw K "piece_at" EM)
  (r17:Rw K "slope_of_piece" CJ)
  (r18:Rw K "value_at" GN)
  (r19:Rw K "steeper_corners" BA)
  (r20:Rw K "flatter_corners" BG)
  (r21:Rw K "steep_enough" Cv)
  (r22:Rw K "outgrows" Gx)
  (r23:Rw K "time_of" HF)
  (r24:Rw K "gap_points" Dj)
  (r25:Rw K "corner_times" Cw)
  (r26:Rw K "corner_rows" CW)
  (r27:Rw K "less" PD)
  (r28:Rw K "above" Ls)
  (r29:Rw K "line_through" Dy)
  (r30:Rw K "pieces_of" DY)
  (r31:Rw K "corner_of" Fv)
  (r32:Rw K "curve_of" EO)
  (r33:Rw K "moved_time" Ep)
  (r34:Rw K "moved_line" Es)
  (r35:Rw K "laid" Mr)
  (r36:Rw K "flipped" FK)
  (r37:Rw K "turned" Gp)
  (r38:Rw K "from_nought" CN)
  (r39:Rw K "sooner_begin" Ds)
  (r40:Rw K "side_by_side" Cr)
  (r41:Rw K "sign" PC)
  (r42:Rw K "side" Pa)
  (r43:Rw K "lean" NN)
  (r44:Rw K "add_piece" Fg)
  (r45:Rw K "crossing" GH)
  (r46:Rw K "add_lower" Fl)
  (r47:Rw K "lowered" Ez)
  (r48:Rw K "begin_and_steeper" BX)
  (r49:Rw K "undone" JI)
  (r50:Rw K "ahead_by" GA)
  (r51:Rw K "possible_leads" BV)
  (r52:Rw K "lead" NW)
  (r53:Rw K "place_of" GI)
  (r54:Rw K "missing" II)
  (r55:Rw K "growth" JD)
  (r56:Rw K "surest" JU)
  (r57:Rw K "lack" Pe)
  (r58:Rw K "_law_cell_at" Dv)
  (r59:Rw K "_law_low" Gw)
  (r60:Rw K "_law_add" Gv)
  (r61:Rw K "_law_take" Fw)
  (r62:Rw K "_law_up_to" Ex)
  (r63:Rw K "_law_slope" Eo)
  (r64:Rw K "_law_at" HL)
  (r65:Rw K "_law_ratio" ED)
  (r66:Rw K "_law_slopes" DT)
  (r67:Rw K "_law_drawn" En)
  (r68:Rw K "_law_few" ET)
  (r69:Rw K "_law_grown" Ee)
  (r70:Rw K "_law_places" DW)
  (r71:Rw K "_law_sure" Fy)
  (r72:Rw K "_law_least_in" C4)
  (r73:Rw K "_law_length" DX)
  (r74:Rw K "_law_sharp" EE)
  (r75:Rw K "_law_is_lack" Dz)
  (r76:Rw K "_law_flattest" C6)
  (r77:Rw K "_law_other" Ej)
  (aL:rA K "law" fL) (lL:rL K fL "law" Lr oc od kV dc pm an cd ct sl) (cL:rC K cd "law") (kL:rK K fL)
  (z0:W.nsIn K mainGlobals "isinstance"=some none)
  (z1:W.nsIn K mainGlobals "int"=some none)
  (z2:W.nsIn K mainGlobals "bool"=some none)
  (z3:W.nsIn K mainGlobals "abs"=some none)
  (z4:W.nsIn K mainGlobals "len"=some none)
  (z5:W.nsIn K mainGlobals "range"=some none)
  (z6:W.nsIn K mainGlobals "tuple"=some none)
  (z7:W.nsIn K mainGlobals "max"=some none)
  (z8:W.nsIn K mainGlobals "zip"=some none)
  (z9:W.nsIn K mainGlobals "enumerate"=some none)
  (z10:W.nsIn K mainGlobals "sorted"=some none)
  (n_NoCurve:rA K "NoCurve" K_NoCurve)
  (n_NoTime:rA K "NoTime" K_NoTime)
  (n_NOUGHT:W.nsIn K mainGlobals "NOUGHT"=some (some (.ref ga_NOUGHT_2)))
  (n_gl_NOUGHT_6:K.lookup ga_NOUGHT_2=some ⟨.type "tuple",gd_NOUGHT_3,.seq #[(.int 0 gt_NOUGHT_0),(.int 1 gt_NOUGHT_1)] gn_NOUGHT_3,gs_NOUGHT_3⟩)
  (x_NoCurve:W.excIn K K_NoCurve [.type "ValueError",.type "Exception",.type "BaseException",.type "object"] "ValueError.__new__"=true)
  (x_NoTime:W.excIn K K_NoTime [.type "ValueError",.type "Exception",.type "BaseException",.type "object"] "ValueError.__new__"=true)
  (ht_piece_at:(W.tabIn K "piece_at").isSome=true)
  (hp_piece_at:(PyProof.Rows.recsOf l.prog).any (fun d=>d.name == "piece_at")=true)
  (ht_from_nought:(W.tabIn K "from_nought").isSome=true)
  (hp_from_nought:(PyProof.Rows.recsOf l.prog).any (fun d=>d.name == "from_nought")=true)
  (ht_side_by_side:(W.tabIn K "side_by_side").isSome=true)
  (hp_side_by_side:(PyProof.Rows.recsOf l.prog).any (fun d=>d.name == "side_by_side")=true)
  (ht_lowered:(W.tabIn K "lowered").isSome=true)
  (hp_lowered:(PyProof.Rows.recsOf l.prog).any (fun d=>d.name == "lowered")=true)
end CL
section
set_option maxRecDepth 100000
set_option maxHeartbeats 0
open PySem PySem.W PyProof.Rows
theorem HD.ws:OpenLaw.wellSaid PySem.Challenge.rw_curvehouse_k31_a_lack=true:=by kernel_rfl
noncomputable abbrev HD.pr:Program:=(OpenLaw.row PySem.Challenge.rw_curvehouse_k31_a_lack).toRowW.prog
noncomputable def HD.qv:Program:={ PySem.Challenge.pw_curvehouse_k31_a_lack with main:={ PySem.Challenge.pw_curvehouse_k31_a_lack.main with body:=[CL.top 1,CL.top 2,CL.top 3,CL.top 4,CL.top 6,CL.top 7,CL.top 9,CL.top 10,CL.top 11,CL.top 12,CL.top 13,CL.top 14,CL.top 15,CL.top 17,CL.top 18,CL.top 19,CL.top 20,CL.top 21,CL.top 22,CL.top 23,CL.top 24,CL.top 25,CL.top 26,CL.top 27,CL.top 28,CL.top 29,CL.top 30,CL.top 31,CL.top 32,CL.top 34,CL.top 35,CL.top 36,CL.top 37,CL.top 38,CL.top 40,CL.top 41,CL.top 42,CL.top 43,CL.top 44,CL.top 45,CL.top 46,CL.top 47,CL.top 48,CL.top 49,CL.top 50,CL.top 51,CL.top 52,CL.top 53,CL.top 54,CL.top 55,CL.top 56,CL.top 57,CL.top 58,CL.top 60,CL.top 61,CL.top 62,CL.top 63,CL.top 64,CL.top 66,CL.top 67,CL.top 68,CL.top 69,CL.top 70,CL.top 72,CL.top 73,CL.top 74,CL.top 75,CL.top 76,CL.top 77,CL.top 78,CL.top 79,CL.top 80,CL.top 81,CL.top 82,CL.top 83,CL.top 84,CL.top 85,CL.top 86,CL.top 87,CL.top 88,CL.top 89,CL.top 90,CL.top 91,CL.top 92] } }
structure HD.R where
 o:List Obj
 e:List DictEntry
 p:List Value
 s:List Value
 n:Nat
 k:Nat
 m:Value
def HD.tx:List Str->Nat->List Value
 |[],_=>[]
 |x::l,k=>.str x k::HD.tx l (k+1)
def HD.tu (l:List Value):Obj:=⟨.type "tuple",none,.seq l.toArray 0,#[]⟩
def HD.fo (c:Value)(l:List Value):Obj:=⟨c,none,.fields l.toArray,#[]⟩
def HD.co (x:Str)(k i j f:Nat)(a:Value)(b:Bool)(c d e t:Value)(k':Nat):Obj :=
 HD.fo (.type "code") [.str x k,.str x (k+1),.str "/claim/cut.py" (k+2),.int i 0,.int j 0,.int 0 0,.int 0 0,.int f 0,a,.bool b,.int 181 0,c,.none,d,e,t,.int k' 0,.int i 0,.str "/claim/cut.py" (k'+1)]
def HD.fd (x:Str)(p:Arguments)(b:List Stmt)(s:Scope)(g:Addr)(m c:Value):Data:=.func ⟨x,x,p,.stmts b,s,g,[],.none,.none,.none,m,none,c,.none,0⟩
def HD.en (P:Params)(x:Str)(k:Nat)(v:Value):DictEntry:=⟨PyData.keyHash P x,.str x k,v⟩
def HD.cl (P:Params)(x:Str)(q:Pos)(a k:Nat)(m:Value)(b:List Value)(mro:List Value)(s:List Value)(r:Bool):List Obj :=
 let u (j:Nat):Value:=.ref (a+j)
 let f:=HD.en P "__firstlineno__" (k+11) (.int q.line (k+10))
 let g:=HD.en P "__static_attributes__" (k+12) (u 7)
 let n:=HD.en P "__module__" (k+7) m
 [HD.tu b,HD.fo (.type "builtin_function_or_method") [.builtin "type.__prepare__",.type "type"],
  ⟨.type "dict",none,.dict [n,HD.en P "__qualname__" (k+9) (.str x (k+8)),f,g].toArray 4,#[]⟩,HD.tu [],HD.fo .none [],
  HD.co x (k+2) q.line 0 0 (u 3) false (u 4) .none .none .none (k+5),
  ⟨.type "frame",none,.plain,#[some (u 5),some (.ref 3),some (u 2),none,some m,none,some (.ref 0)]⟩,HD.tu [],
  ⟨.type "dict",none,.dict ([n,f,g]++(match r with|true=>[HD.en P "__weakref__" (k+14) (u 10),HD.en P "__doc__" (k+15) .none]|false=>[HD.en P "__doc__" (k+13) .none])).toArray (match r with|true=>3|false=>2),#[]⟩,
  ⟨.type "type",none,.cls ⟨x,b,u 9::mro,a+8,x,true,[],s,false,none,false⟩,#[some (u 0),none,some (.str x k),some (.str x (k+8)),some (.builtin "ValueError.__new__"),some (.bool true)]⟩] ++
 (match r with|true=>[HD.fo (.type "getset_descriptor") [.str "__weakref__" (k+13),u 9,.builtin "ExceptionGroup.__weakref__",.none]]|false=>[]) ++
 [HD.fo (.type "super") [u 9,u 9,u 9],HD.fo (.type "builtin_function_or_method") [.builtin "object.__init_subclass__",u 9]]
def HD.ve:List Value:=[.type "ValueError",.type "Exception",.type "BaseException",.type "object"]
def HD.cs:List PySem.Expr->Nat->List Value
 |.Constant (.int i) _ _::l,k=>.int i k::HD.cs l (k+1)
 |_,_=>[]
def HD.one (P:Params)(t:Stmt)(a k:Nat)(m:Value)(r:Nat->Nat->Value->HD.R):HD.R:=match t with
 |.FunctionDef x p b _ _ _ s _ _ q=>match localNames p s (.stmts b) with
  |some (y,z)=>match r (a+7) (k+3+y.length+z.length+3) m with
   |⟨o,e,l,u,n,i,j⟩=>⟨HD.tu []::HD.fo .none []::HD.tu (HD.tx y (k+3))::HD.tu (HD.tx z (k+3+y.length)) :: ⟨.none,none,HD.fd x p b s 0 .none .none,#[]⟩ ::
    HD.co x k q.line p.args.length 3 (.ref a) true (.ref (a+1)) (.ref (a+2)) (.ref (a+3)) (.ref (a+4)) (k+3+y.length+z.length) :: ⟨.type "function",none,HD.fd x p b s 3 m (.ref (a+5)),#[]⟩::o,
    HD.en P x (k+3+y.length+z.length+2) (.ref (a+6))::e,.int q.line 0 :: .int q.col 0 :: .ref (a+5)::l,u,n,i,j⟩
  |none=>match r (a+5) (k+6) m with
   |⟨o,e,l,u,n,i,j⟩=>⟨HD.tu []::HD.fo .none [] :: ⟨.none,none,HD.fd x p b s 0 .none .none,#[]⟩ ::
    HD.co x k q.line p.args.length 3 (.ref a) true (.ref (a+1)) .none .none (.ref (a+2)) (k+3) :: ⟨.type "function",none,HD.fd x p b s 3 m (.ref (a+3)),#[]⟩::o,
    HD.en P x (k+5) (.ref (a+4))::e,.int q.line 0 :: .int q.col 0 :: .ref (a+3)::l,u,n,i,j⟩
 |.ClassDef x _ _ _ _ _ _ _ _ _ q=>match Nat.beq a 15 with
  |true=>match r (a+13) (k+18) m with
   |⟨o,e,l,u,n,i,j⟩=>⟨HD.cl P x q a k m [.type "ValueError"] HD.ve u true++o,HD.en P x (k+17) (.ref (a+9))::e,.int q.line 0 :: .int q.col 0 :: .ref (a+5)::l,u,n,i,j⟩
  |false=>match r (a+12) (k+16) m with
   |⟨o,e,l,u,n,i,j⟩=>⟨HD.cl P x q a k m [.ref 24] (.ref 24::HD.ve) [] false++o,HD.en P x (k+15) (.ref (a+9))::e,.int q.line 0 :: .int q.col 0 :: .ref (a+5)::l,.ref (a+9)::u,n,i,j⟩
 |.Assign _ (.Constant (.str x) _ _) _=>r a (k+2) (.str x k)
 |.Assign [.Name x _] (.Tuple b _ _) _=>match r (a+1) (k+b.length+1) m with
  |⟨o,e,l,u,n,i,j⟩=>⟨HD.tu (HD.cs b k)::o,HD.en P x (k+b.length) (.ref a)::e,l,u,n,i,j⟩
 |_=>r a k m
def HD.go (P:Params):List Stmt->Nat->Nat->Value->HD.R
 |[],a,k,m=>⟨[],[],[],[],a,k,m⟩
 |t::l,a,k,m=>HD.one P t a k m (fun a k m=>HD.go P l a k m)
def HD.alt:List Obj->List Obj
 |x::_::l=>x::HD.alt l
 |l=>l
def HD.bt:Nat->List Obj->BT
 |n+1,x::l=>.node x (HD.bt n (HD.alt l)) (HD.bt n (HD.alt l.tail))
 |_,_=>.nil
def HD.bu:Nat->List Obj->BT
 |n+1,x::l=>.node x (HD.bu n (HD.alt l)) (HD.bu n (HD.alt l.tail))
 |_,_=>.nil
noncomputable def HD.ob (P:Params)(r:HD.R):List Obj :=
 boot_o_0 P::boot_o_1 P::boot_o_2 P::(match boot_o_3 P with
  |⟨c,d,.dict es n,s⟩=>(match es.toList with
   |x::l=>⟨c,d,.dict (⟨x.hash,x.key,r.m⟩::(l++r.e)).toArray (n+r.e.length),s⟩
   |[]=>default)
  |o=>o)::boot_o_4 P::boot_o_5 P::boot_o_6 P::boot_o_7 P::boot_o_8 P::boot_o_9 P::boot_o_10 P::HD.tu []::HD.fo .none r.p ::
 HD.co "<module>" 182 1 0 0 (.ref 11) false (.ref 12) .none .none .none 185 :: ⟨.type "frame",none,.plain,#[some (.ref 13),some (.ref 3),some (.ref 3),none,some (.str "__main__" 164),none,some (.ref 0)]⟩::r.o
noncomputable def HD.S (f:Nat->List Obj->BT)(l:List Stmt)(P:Params)(os:OsState):SharedT :=
 match HD.go P l 15 187 (.str "__main__" 164) with
 |r=>⟨f 12 (HD.ob P r),r.n,(boot_heap P).life,Array.mk [],boot_drawn,r.k,os⟩
theorem HD.ap {tb:String->Option Builtin}{p:Program}{w:World}{n₀:Nat}{ann:Option Value}{env:Env}{q:Pos}{n N:Nat}{s s':SharedT}{r:Shared}{l:List Stmt}{c:Code}{pos p':Pos}(i:Nat) (h:segRunT tb p w n₀ ann 1 n s (piecesOf (l.take i) env c pos [topFrame q])=some (.next,s',c,p'))
 (k:topRun tb p w n₀ ann N s'.abs (restOf (l.drop i) env c p' [topFrame q])=some r):topRun tb p w n₀ ann (n+N) s.abs (restOf l env c pos [topFrame q])=some r:=by
 have:=piece_app (segRun_of h) k
 rwa [qCB] at this
theorem HD.ae {tb:String->Option Builtin}{p:Program}{w:World}{n₀:Nat}{ann:Option Value}{env:Env}{q:Pos}{n N:Nat}{s s':SharedT}{r:Shared}{l:List Stmt}{c:Code}{pos p':Pos}(h:segRunT tb p w n₀ ann 1 n s (piecesOf l env c pos [topFrame q])=some (.next,s',c,p'))
 (k:topRun tb p w n₀ ann N s'.abs ⟨doneF .next,c,p',[topFrame q]⟩=some r):topRun tb p w n₀ ann (n+N) s.abs (restOf l env c pos [topFrame q])=some r:=by
 have:=piece_app (rest:=[]) (segRun_of h) (piece_nil k)
 rwa [qBx] at this
noncomputable def HD.ok (p:Program)(w:World)(s:Shared):Bool :=
 staticsOk (importedModules p.main.body) (boot_heap w.params) s.heap&&namesBound p s.heap &&
 gensDone s&&laidKept (boot_heap w.params) s.heap
theorem HD.lo {p q:Program}{Xt:Shared->Bool}{α:Type}{Yf:Shared->α}{Ya:World->α}{N M k:Nat}{H:Params->Heap}(le:Nat.ble M N=true)
 (o:∀w:World,(fencedOpening treeTable p w N).map (fun s=>(s.heap,s.gens,s.drawn,s.toks))=some (boot_heap w.params,Array.mk [],boot_drawn,boot_toks))
 (r:∀(w:World)(os:OsState),topRun treeTable p w 11 (some (.ref 6)) M ⟨boot_heap w.params,Array.mk [],boot_drawn,boot_toks,os⟩ (topStub p)=some ⟨H w.params,Array.mk [],boot_drawn,k,os⟩)
 (a:∀(w:World)(os:OsState),(HD.ok p w ⟨H w.params,Array.mk [],boot_drawn,k,os⟩,openSeen q [] (importedModules p.main.body) Xt true ⟨H w.params,Array.mk [],boot_drawn,k,os⟩)=(true,openGood q []))
 (b:∀(w:World)(os:OsState),Yf ⟨H w.params,Array.mk [],boot_drawn,k,os⟩=Ya w):LeftO p q [] Xt Yf Ya N true :=
 LeftO.of_pieces o (fun w=>by kernel_rfl) r le fun w=>funext fun os=>by
  obtain⟨e,f⟩:=Prod.mk.inj (a w os)
  exact looks_pair e (looks_pair f (b w os))
theorem HD.tri {β γ δ ε ζ η θ ι κ:Type}{b:Bool}{x y:β×γ×δ×ε×ζ×η×θ×ι×κ}(h0:b=true) (h1:x.1=y.1) (h2:x.2.1=y.2.1) (h3:x.2.2.1=y.2.2.1) (h4:x.2.2.2.1=y.2.2.2.1) (h5:x.2.2.2.2.1=y.2.2.2.2.1) (h6:x.2.2.2.2.2.1=y.2.2.2.2.2.1) (h7:x.2.2.2.2.2.2.1=y.2.2.2.2.2.2.1) (h8:x.2.2.2.2.2.2.2.1=y.2.2.2.2.2.2.2.1) (h9:x.2.2.2.2.2.2.2.2=y.2.2.2.2.2.2.2.2):(b,x)=(true,y) :=
 Prod.ext h0 (Prod.ext h1 (Prod.ext h2 (Prod.ext h3 (Prod.ext h4 (Prod.ext h5 (Prod.ext h6 (Prod.ext h7 (Prod.ext h8 h9))))))))
theorem HD.op (w:World):(fencedOpening treeTable HD.pr w 6852).map (fun s=>(s.heap,s.gens,s.drawn,s.toks))=some (boot_heap w.params,Array.mk [],boot_drawn,boot_toks):=boot_open (by kernel_rfl) (by decide +kernel) (fun s=>by kernel_rfl) w
noncomputable def HD.bd:List Stmt:=behindTheImports HD.pr
noncomputable def HD.ev:Env:={ scope:=HD.pr.main.scope,locals:=3,globals:=3,cells:=[],code:=.ref 13,frame:=some 14 }
noncomputable def HD.cE:Code:=.body HD.bd HD.ev
noncomputable def HD.H (P:Params):Heap:=absHeap (HD.S HD.bt HD.bd P default).tree 588 (boot_heap P).life
noncomputable def HD.Z (w:World)(os:OsState):Shared:=⟨HD.H w.params,Array.mk [],boot_drawn,974,os⟩
theorem HD.pre (w:World)(os:OsState):topGo treeTable HD.pr w 11 (some (.ref 6)) 12 ⟨boot_heap w.params,Array.mk [],boot_drawn,boot_toks,os⟩ (topStub HD.pr)=some ((HD.S HD.bt [] w.params os).abs,⟨denote treeTable HD.cE,HD.cE,⟨0,0,0,0⟩,[topFrame ⟨0,0,0,0⟩]⟩):=by kernel_rfl
theorem HD.blk (w:World)(os:OsState):segRun treeTable HD.pr w 11 (some (.ref 6)) 1 1 (HD.S HD.bt [] w.params os).abs (blockOf HD.bd HD.ev HD.cE ⟨0,0,0,0⟩ [topFrame ⟨0,0,0,0⟩])=some (.next,(HD.S HD.bt [] w.params os).abs,HD.cE,⟨0,0,0,0⟩):=by kernel_rfl
theorem HD.q0 (w:World)(os:OsState):segRunT treeTable HD.pr w 11 (some (.ref 6)) 1 835 (HD.S HD.bt [] w.params os) (piecesOf (HD.bd.take 5) HD.ev HD.cE ⟨0,0,0,0⟩ [topFrame ⟨0,0,0,0⟩])=some (.next,(HD.S HD.bu (HD.bd.take 5) w.params os),HD.cE,⟨8,0,9,8⟩):=by kernel_rfl
theorem HD.q1 (w:World)(os:OsState):segRunT treeTable HD.pr w 11 (some (.ref 6)) 1 830 (HD.S HD.bu (HD.bd.take 5) w.params os) (piecesOf ((HD.bd.drop 5).take 31) HD.ev HD.cE ⟨8,0,9,8⟩ [topFrame ⟨0,0,0,0⟩])=some (.next,(HD.S HD.bt (HD.bd.take 36) w.params os),HD.cE,⟨119,0,127,15⟩):=by kernel_rfl
theorem HD.q2 (w:World)(os:OsState):segRunT treeTable HD.pr w 11 (some (.ref 6)) 1 855 (HD.S HD.bt (HD.bd.take 36) w.params os) (piecesOf (((HD.bd.drop 5).drop 31).take 31) HD.ev HD.cE ⟨119,0,127,15⟩ [topFrame ⟨0,0,0,0⟩])=some (.next,(HD.S HD.bu (HD.bd.take 67) w.params os),HD.cE,⟨266,0,267,60⟩):=by kernel_rfl
theorem HD.q3 (w:World)(os:OsState):segRunT treeTable HD.pr w 11 (some (.ref 6)) 1 810 (HD.S HD.bu (HD.bd.take 67) w.params os) (piecesOf (((HD.bd.drop 5).drop 31).drop 31) HD.ev HD.cE ⟨266,0,267,60⟩ [topFrame ⟨0,0,0,0⟩])=some (.next,(HD.S HD.bt HD.bd w.params os),HD.cE,⟨438,0,454,55⟩):=by kernel_rfl
theorem HD.fn (w:World)(os:OsState):topRun treeTable HD.pr w 11 (some (.ref 6)) 2 (HD.S HD.bt HD.bd w.params os).abs ⟨doneF .next,HD.cE,⟨438,0,454,55⟩,[topFrame ⟨0,0,0,0⟩]⟩=some (HD.Z w os):=by kernel_rfl
theorem HD.run (w:World)(os:OsState):topRun treeTable HD.pr w 11 (some (.ref 6)) (12+(1+(835+(830+(855+(810+2)))))) ⟨boot_heap w.params,Array.mk [],boot_drawn,boot_toks,os⟩ (topStub HD.pr)=some (HD.Z w os):=go_top (HD.pre w os) (piece_block (HD.blk w os) (HD.ap 5 (HD.q0 w os) (HD.ap 31 (HD.q1 w os) (HD.ap 31 (HD.q2 w os) (HD.ae (HD.q3 w os) (HD.fn w os))))))
noncomputable abbrev HD.xt:Shared->Bool:=fun s=>xlAt HD.qv [] s&&recOk (RowW.records (OpenRow.toRowW (OpenLaw.row PySem.Challenge.rw_curvehouse_k31_a_lack))) s
noncomputable abbrev HD.sn (w:World)(os:OsState):=openSeen HD.qv [] (importedModules HD.pr.main.body) HD.xt true (HD.Z w os)
theorem HD.l0 (w:World)(os:OsState):HD.ok HD.pr w (HD.Z w os)=true:=by kernel_rfl
theorem HD.l1 (w:World)(os:OsState):(HD.sn w os).1=expectedOf HD.qv:=by kernel_rfl
theorem HD.l2 (w:World)(os:OsState):(HD.sn w os).2.1=bltViewBooted:=by kernel_rfl
theorem HD.l3 (w:World)(os:OsState):(HD.sn w os).2.2.1=true:=by kernel_rfl
theorem HD.l4 (w:World)(os:OsState):(HD.sn w os).2.2.2.1=true:=by kernel_rfl
theorem HD.l5 (w:World)(os:OsState):(HD.sn w os).2.2.2.2.1=pinGoodD (drecsOf HD.qv):=by kernel_rfl
theorem HD.l6 (w:World)(os:OsState):(HD.sn w os).2.2.2.2.2.1=plainGoodE HD.qv (looseW HD.qv []):=by kernel_rfl
theorem HD.l7 (w:World)(os:OsState):(HD.sn w os).2.2.2.2.2.2.1=plainGoodD HD.qv []:=by kernel_rfl
theorem HD.l8 (w:World)(os:OsState):(HD.sn w os).2.2.2.2.2.2.2.1=wideGood HD.qv:=by kernel_rfl
theorem HD.l9 (w:World)(os:OsState):(HD.sn w os).2.2.2.2.2.2.2.2=clsGoodW HD.qv []:=by kernel_rfl
theorem HD.lA (w:World)(os:OsState):(HD.ok HD.pr w (HD.Z w os),HD.sn w os)=(true,openGood HD.qv []):=HD.tri (HD.l0 w os) (HD.l1 w os) (HD.l2 w os) (HD.l3 w os) (HD.l4 w os) (HD.l5 w os) (HD.l6 w os) (HD.l7 w os) (HD.l8 w os) (HD.l9 w os)
end
section
open PySem PySem.W PyProof.Rows
local macro_rules|`(tactic| o_head $H)=>`(tactic| (
 refine holds_open (q:=HD.qv) (loose:=[]) (N:=6852)
  (Xt:=(fun s=>xlAt HD.qv [] s&&recOk (RowW.records (OpenRow.toRowW (OpenLaw.row PySem.Challenge.rw_curvehouse_k31_a_lack))) s))
  (XP:=XL HD.qv []) (Yf:=Hook.obs $H) (Ya:=Hook.val $H)
  (YP:=Hook.says $H) ?hl (Hook.of $H) (Hook.keeps $H)
  (fun s e=>xl_of s (Bool.and_eq_true_iff.mp e).1) XL.keeps (by rfl) (by rfl) (by rfl)
  (fun s e=>recFacts_of (Bool.and_eq_true_iff.mp e).2) (by rfl) (by first|assumption|decide +kernel)
  (by decide +kernel) ⟨rfl,rfl,rfl,rfl,rfl,by decide +kernel⟩ ?hw ?hc
 case hl =>
  refine HD.lo (by decide +kernel) HD.op HD.run HD.lA ?_
  intro w os
  kernel_rfl))
set_option maxRecDepth 100000 in
set_option maxHeartbeats 0 in
theorem CL.front (hF:∀{q:Program}{loose:List Str}{XP:(Str->Option Value)->Heap->Prop}{YP:World->Heap->Prop}{d:DefRec}{K:Params->W.Frag},d.params.defaults=[]->(∀y:Str,(recsOf PySem.Challenge.rw_curvehouse_k31_a_lack.prog).any (fun d=>d.name==y)=true->(recsOf q).any (fun d=>d.name==y)=true)->(∀(w:World)(h:Heap),YP w h->(K w.params).In h)->(∀w:World,W.noTabs (K w.params)=true)->d.name="law"->(∀w:World,CL.Facts PySem.Challenge.rw_curvehouse_k31_a_lack (K w.params))->W.WalkO q loose XP YP PySem.Challenge.rw_curvehouse_k31_a_lack.row.toRowW d [] (fun f vs=>PySem.call f vs)):PySem.Challenge.rw_curvehouse_k31_a_lack.Holds:=by
 w_on;refine holds_law HD.ws fun said=>?_;k_head;(case hw=>w_witness2)
 k_fill
 refine hF rfl (fun _ h=>h) (fun w h Y=>W.km_in_of Y) (fun w=>?nt) rfl (fun w=>?F)
 case nt=>kernel_rfl
 case F =>
  refine' CL.Facts.mk (.mk ?a0 ?l0 ?c0 ?k0) (.mk ?a1 ?l1 ?c1 ?k1) (.mk ?a2 ?l2 ?c2 ?k2) (.mk ?a3 ?l3 ?c3 ?k3) (.mk ?a4 ?l4 ?c4 ?k4) (.mk ?a5 ?l5 ?c5 ?k5) (.mk ?a6 ?l6 ?c6 ?k6) (.mk ?a7 ?l7 ?c7 ?k7) (.mk ?a8 ?l8 ?c8 ?k8) (.mk ?a9 ?l9 ?c9 ?k9) (.mk ?a10 ?l10 ?c10 ?k10) (.mk ?a11 ?l11 ?c11 ?k11) (.mk ?a12 ?l12 ?c12 ?k12) (.mk ?a13 ?l13 ?c13 ?k13) (.mk ?a14 ?l14 ?c14 ?k14) (.mk ?a15 ?l15 ?c15 ?k15) (.mk ?a16 ?l16 ?c16 ?k16) (.mk ?a17 ?l17 ?c17 ?k17) (.mk ?a18 ?l18 ?c18 ?k18) (.mk ?a19 ?l19 ?c19 ?k19) (.mk ?a20 ?l20 ?c20 ?k20) (.mk ?a21 ?l21 ?c21 ?k21) (.mk ?a22 ?l22 ?c22 ?k22) (.mk ?a23 ?l23 ?c23 ?k23) (.mk ?a24 ?l24 ?c24 ?k24) (.mk ?a25 ?l25 ?c25 ?k25) (.mk ?a26 ?l26 ?c26 ?k26) (.mk ?a27 ?l27 ?c27 ?k27) (.mk ?a28 ?l28 ?c28 ?k28) (.mk ?a29 ?l29 ?c29 ?k29) (.mk ?a30 ?l30 ?c30 ?k30) (.mk ?a31 ?l31 ?c31 ?k31) (.mk ?a32 ?l32 ?c32 ?k32) (.mk ?a33 ?l33 ?c33 ?k33) (.mk ?a34 ?l34 ?c34 ?k34) (.mk ?a35 ?l35 ?c35 ?k35) (.mk ?a36 ?l36 ?c36 ?k36) (.mk ?a37 ?l37 ?c37 ?k37) (.mk ?a38 ?l38 ?c38 ?k38) (.mk ?a39 ?l39 ?c39 ?k39) (.mk ?a40 ?l40 ?c40 ?k40) (.mk ?a41 ?l41 ?c41 ?k41) (.mk ?a42 ?l42 ?c42 ?k42) (.mk ?a43 ?l43 ?c43 ?k43) (.mk ?a44 ?l44 ?c44 ?k44) (.mk ?a45 ?l45 ?c45 ?k45) (.mk ?a46 ?l46 ?c46 ?k46) (.mk ?a47 ?l47 ?c47 ?k47) (.mk ?a48 ?l48 ?c48 ?k48) (.mk ?a49 ?l49 ?c49 ?k49) (.mk ?a50 ?l50 ?c50 ?k50) (.mk ?a51 ?l51 ?c51 ?k51) (.mk ?a52 ?l52 ?c52 ?k52) (.mk ?a53 ?l53 ?c53 ?k53) (.mk ?a54 ?l54 ?c54 ?k54) (.mk ?a55 ?l55 ?c55 ?k55) (.mk ?a56 ?l56 ?c56 ?k56) (.mk ?a57 ?l57 ?c57 ?k57) (.mk ?a58 ?l58 ?c58 ?k58) (.mk ?a59 ?l59 ?c59 ?k59) (.mk ?a60 ?l60 ?c60 ?k60) (.mk ?a61 ?l61 ?c61 ?k61) (.mk ?a62 ?l62 ?c62 ?k62) (.mk ?a63 ?l63 ?c63 ?k63) (.mk ?a64 ?l64 ?c64 ?k64) (.mk ?a65 ?l65 ?c65 ?k65) (.mk ?a66 ?l66 ?c66 ?k66) (.mk ?a67 ?l67 ?c67 ?k67) (.mk ?a68 ?l68 ?c68 ?k68) (.mk ?a69 ?l69 ?c69 ?k69) (.mk ?a70 ?l70 ?c70 ?k70) (.mk ?a71 ?l71 ?c71 ?k71) (.mk ?a72 ?l72 ?c72 ?k72) (.mk ?a73 ?l73 ?c73 ?k73) (.mk ?a74 ?l74 ?c74 ?k74) (.mk ?a75 ?l75 ?c75 ?k75) (.mk ?a76 ?l76 ?c76 ?k76) (.mk ?a77 ?l77 ?c77 ?k77) ?aL ?lL ?cL ?kL ?z0 ?z1 ?z2 ?z3 ?z4 ?z5 ?z6 ?z7 ?z8 ?z9 ?z10 ?n_NoCurve ?n_NoTime ?n_NOUGHT ?n_gl_NOUGHT_6 ?x_NoCurve ?x_NoTime ?ht_piece_at ?hp_piece_at ?ht_from_nought ?hp_from_nought ?ht_side_by_side ?hp_side_by_side ?ht_lowered ?hp_lowered
  case a0|l0|c0|k0|a1|l1|c1|k1|a2|l2|c2|k2|a3|l3|c3|k3|a4|l4|c4|k4|a5|l5|c5|k5|a6|l6|c6|k6|a7|l7|c7|k7|a8|l8|c8|k8|a9|l9|c9|k9|a10|l10|c10|k10|a11|l11|c11|k11|a12|l12|c12|k12|a13|l13|c13|k13|a14|l14|c14|k14|a15|l15|c15|k15|a16|l16|c16|k16|a17|l17|c17|k17|a18|l18|c18|k18|a19|l19|c19|k19|a20|l20|c20|k20|a21|l21|c21|k21|a22|l22|c22|k22|a23|l23|c23|k23|a24|l24|c24|k24|a25|l25|c25|k25|a26|l26|c26|k26|a27|l27|c27|k27|a28|l28|c28|k28|a29|l29|c29|k29|a30|l30|c30|k30|a31|l31|c31|k31|a32|l32|c32|k32|a33|l33|c33|k33|a34|l34|c34|k34|a35|l35|c35|k35|a36|l36|c36|k36|a37|l37|c37|k37|a38|l38|c38|k38|a39|l39|c39|k39|a40|l40|c40|k40|a41|l41|c41|k41|a42|l42|c42|k42|a43|l43|c43|k43|a44|l44|c44|k44|a45|l45|c45|k45|a46|l46|c46|k46|a47|l47|c47|k47|a48|l48|c48|k48|a49|l49|c49|k49|a50|l50|c50|k50|a51|l51|c51|k51|a52|l52|c52|k52|a53|l53|c53|k53|a54|l54|c54|k54|a55|l55|c55|k55|a56|l56|c56|k56|a57|l57|c57|k57|a58|l58|c58|k58|a59|l59|c59|k59|a60|l60|c60|k60|a61|l61|c61|k61|a62|l62|c62|k62|a63|l63|c63|k63|a64|l64|c64|k64|a65|l65|c65|k65|a66|l66|c66|k66|a67|l67|c67|k67|a68|l68|c68|k68|a69|l69|c69|k69|a70|l70|c70|k70|a71|l71|c71|k71|a72|l72|c72|k72|a73|l73|c73|k73|a74|l74|c74|k74|a75|l75|c75|k75|a76|l76|c76|k76|a77|l77|c77|k77|aL|lL|cL|kL|z0|z1|z2|z3|z4|z5|z6|z7|z8|z9|z10|n_NoCurve|n_NoTime|n_NOUGHT|n_gl_NOUGHT_6=>(show _=_;k_is)
  case x_NoCurve|x_NoTime|ht_piece_at|hp_piece_at|ht_from_nought|hp_from_nought|ht_side_by_side|hp_side_by_side|ht_lowered|hp_lowered=>kernel_rfl
end
local macro_rules|`(#[$xs,*])=>`(⟨$xs,*⟩)
namespace L2
open PySem PySem.Spec PyProof.Rows
abbrev Key:=Sum Int Str
def UH:Key->Value->Bool
 |.inl k,v=>Value.isInt k v
 |.inr x,v=>Value.isStrOf x v
def XQ (w:World):Key->Int
 |.inl k=>hashInt k
 |.inr x=>hashStr w x
theorem Bg:∀{k:Key}{v:Value},UH k v=true->(∃i t,k=Sum.inl i/\v=Value.int i t)\/(∃x t,k=Sum.inr x/\v=Value.str x t)
 |.inl i,v,h=>by
  obtain⟨t,e⟩:=Value.isInt_shape (k:=i) (v:=v) h
  exact .inl #[i,t,rfl,e]
 |.inr x,v,h=>by
  obtain⟨t,e⟩:=Value.isStrOf_shape (x:=x) (v:=v) h
  exact .inr #[x,t,rfl,e]
theorem Uz (a b:Int):decide ((Sum.inl a:Key)=Sum.inl b)=(a==b):=by
 by_cases e:a=b
 .subst e;simp
 .have h:¬(Sum.inl a:Key)=Sum.inl b:=fun q=>e (Sum.inl.inj q)
  rw[decide_eq_false h]
  exact(beq_eq_false_iff_ne.mpr e).symm
theorem UQ (a b:Str):decide ((Sum.inr a:Key)=Sum.inr b)=decide (a=b):=by
 by_cases e:a=b
 .subst e;simp
 .have h:¬(Sum.inr a:Key)=Sum.inr b:=fun q=>e (Sum.inr.inj q)
  rw[decide_eq_false h,decide_eq_false e]
theorem Vk (a:Int)(b:Str):decide ((Sum.inl a:Key)=Sum.inr b)=false:=decide_eq_false (fun q=>nomatch q)
theorem Vx (a:Str)(b:Int):decide ((Sum.inr a:Key)=Sum.inl b)=false:=decide_eq_false (fun q=>nomatch q)
def LO (prog:Program)(w:World):PySem.KeyKind prog w Key where
 is:=UH
 hash:=XQ w
 inj:=fun v a b ha hb=>by
  rcases Bg ha with⟨i,t,rfl,rfl⟩|⟨x,t,rfl,rfl⟩
  .rcases Bg hb with⟨j,u,rfl,e⟩|⟨y,u,rfl,e⟩
   .injection e with e1 _;rw[e1]
   .exact nomatch e
  .rcases Bg hb with⟨j,u,rfl,e⟩|⟨y,u,rfl,e⟩
   .exact nomatch e
   .injection e with e1 _;rw[e1]
 byValue:=fun k v h=>by
  rcases Bg h with⟨i,t,rfl,rfl⟩|⟨x,t,rfl,rfl⟩<;>rfl
 pyHash:=fun hv h=>by
  rcases Bg hv with⟨i,t,rfl,rfl⟩|⟨x,t,rfl,rfl⟩
  .exact wpAny_pyHash_int h
  .exact wpAny_pyHash_str h
 eqBool:=fun hu hv h=>by
  rcases Bg hu with⟨i,t,rfl,rfl⟩|⟨x,t,rfl,rfl⟩
  .rcases Bg hv with⟨j,u,rfl,rfl⟩|⟨y,u,rfl,rfl⟩
   .rw[Uz] at h;exact wpAny_eqBool_int h
   .rw[Vk] at h;exact SeqAt.EqAt.int_str i t y u _ _ _ _ h
  .rcases Bg hv with⟨j,u,rfl,rfl⟩|⟨y,u,rfl,rfl⟩
   .rw[Vx] at h;exact SeqAt.EqAt.str_int x t j u _ _ _ _ h
   .rw[UQ] at h;exact wpAny_eqBool_str h
 «strs»:=fun k x t v h=>by
  rcases Bg h with⟨i,u,rfl,e⟩|⟨y,u,rfl,e⟩
  .exact nomatch e
  .injection e with e1 _
   subst e1
   cases v<;>rfl
inductive V where
 |non|bl (b:Bool)|int (i:Int)|str (x:Str)|byt (b:Array UInt8)|flt (b:UInt64)|ref (a:Addr)|ty (n:String)
 deriving DecidableEq
def Cz:V->Value->Prop
 |.non,u=>u=Value.none
 |.bl b,u=>u=Value.bool b
 |.int i,u=>∃t,u=Value.int i t
 |.str x,u=>∃t,u=Value.str x t
 |.byt b,u=>∃t,u=Value.bytes b t
 |.flt b,u=>∃t,u=Value.float b t
 |.ref a,u=>u=Value.ref a
 |.ty n,u=>u=Value.type n
abbrev B4:List V->List Value->Prop:=Paired Cz
theorem B4.length {xs:List V}{us:List Value}(r:B4 xs us):xs.length=us.length:=Paired.length r
theorem B4.get:∀{xs:List V}{us:List Value}{i:Nat}{x:V},B4 xs us->xs[i]? = some x->∃u,us[i]? = some u/\Cz x u
 |_,_,_,_,.nil,e=>by simp at e
 |_,_,0,_,.cons r _,e=>by simp at e;subst e;exact#[_,rfl,r]
 |_,_,i+1,x,.cons _ t,e=>by
  obtain⟨u,h1,h2⟩:=B4.get (i:=i) (x:=x) t (by simpa using e)
  exact#[u,by simpa using h1,h2]
theorem B4.append:∀{xs ys:List V}{us ws:List Value},B4 xs us->B4 ys ws->B4 (xs++ys) (us++ws)
 |_,_,_,_,.nil,s=>s
 |_,_,_,_,.cons r t,s=>.cons r (B4.append t s)
theorem B4.take:∀{xs:List V}{us:List Value}(n:Nat),B4 xs us->B4 (xs.take n) (us.take n)
 |_,_,0,_=>.nil
 |_,_,_+1,.nil=>.nil
 |_,_,n+1,.cons r t=>.cons r (B4.take n t)
theorem B4.drop:∀{xs:List V}{us:List Value}(n:Nat),B4 xs us->B4 (xs.drop n) (us.drop n)
 |_,_,0,r=>r
 |_,_,_+1,.nil=>.nil
 |_,_,n+1,.cons _ t=>B4.drop n t
def We:Option V->Option Value->Prop
 |some v,some u=>Cz v u
 |none,none=>True
 |_,_=>False
def KV {κ:Type}:List (κ×V)->List (κ×Value)->Prop:=Paired fun(p:κ×V)(q:κ×Value)=>p.1=q.1/\Cz p.2 q.2
def kV:Key->V
 |.inl i=>.int i
 |.inr x=>.str x
inductive HO where
 |lst (xs:List V)
 |tup (xs:List V)
 |dK (kvs:List (Key×V))|dT (kvs:List (List Key×V))
 |set (S:Int->Bool) (n:Nat)
 |ins (C dx:Addr) (fs:List (Str×V))
 |own (x:Addr)
 |xd (fs:List (Str×V))
 |met (f x:Addr)
 |rng (lo hi:Int)
 |frz (o:Obj) (u:HO)
 |tbl (ps:Array Value)
 |ext (φ:Heap->Prop)
abbrev Hp:=Addr->Option HO
def upd (H:Hp)(a:Addr)(o:HO):Hp:=fun b=>if b=a then some o else H b
theorem Aq {H:Hp}{a:Addr}{o:HO}:upd H a o a=some o:=by unfold upd;rw[if_pos rfl]
theorem Al {H:Hp}{a b:Addr}{o:HO}(h:b≠a):upd H a o b=H b:=by unfold upd;rw[if_neg h]
theorem AA {H:Hp}{a b:Addr}{o:HO}(h:H a=some o) (h':H b=none):a≠b:=by
 intro e;subst e;rw[h] at h';cases h'
def LJ (H:Hp)(h:Heap)(a:Addr):Prop:=∃tab:Array Value,h.get? a=some { cls:=.none,data:=.fields tab }/\TriplesOk tab.toList /\
 ∀(pos:Pos)(cv:Value),codeAmong pos tab.toList=some cv->∃(c:Addr)(oc:Obj)(fs:Array Value)(nm:Str)(t:Nat),cv=.ref c/\H c=some (.frz oc (.own a))/\oc.data=.fields fs/\fs[1]? = some (.str nm t)
theorem LJ.stay {H H':Hp}{h h':Heap}{a:Addr}(x:LJ H h a) (k:∀o,h.get? a=some o->h'.get? a=some o) (hf:∀b o u,H b=some (.frz o u)->H' b=some (.frz o u)):LJ H' h' a:=by
 obtain⟨tab,e,tr,q⟩:=x
 refine#[tab,k _ e,tr,fun pos cv z=>?_]
 obtain⟨c,oc,fs,nm,t,z1,z2,z3⟩:=q pos cv z
 exact#[c,oc,fs,nm,t,z1,hf _ _ _ z2,z3]
section
variable (P:Program) (w:World)
def C1 (H:Hp)(h:Heap)(a:Addr):HO->Prop
 |.lst xs=>xs.length<=sizeLine/\∃(its:List Value)(n:Nat),B4 xs its/\h.get? a=some { cls:=.type "list",data:=.seq its.toArray n }
 |.tup xs=>xs.length<=sizeLine/\∃its:List Value,B4 xs its/\IsTup h a its.toArray
 |.dK kvs=>kvs.length<=sizeLine/\(a==sysModules)=false/\∃vs,KV kvs vs/\h.DictOf (LO P w) a vs
 |.dT kvs=>kvs.length<=sizeLine/\(a==sysModules)=false/\∃xs:List (List Key×Addr×Value),
  Paired (fun(p:List Key×V)(q:List Key×Addr×Value)=>p.1=q.1/\H q.2.1=some (.tup (p.1.map kV))/\Cz p.2 q.2.2) kvs xs /\
  ∃o es ep,h.get? a=some o/\o.ExactDict/\o.data=.dict es ep/\es.toList=xs.map (entryOfKey (tupleKind (LO P w)))/\(xs.map (·.1)).Nodup
 |.set S n=>h.SetOf (intKind P w) a S n
 |.ins C dx fs=>H dx=some (.own a)/\fs.length<=1000/\dx≠a/\h.get? a=some (W.instObj C dx) /\
  ∃mA,h.Ns1 dx mA/\(∀f,We (fs.lookup f) (mA f))/\PySem.Within mA (fs.map (·.1))
 |.own _=>∃o,h.get? a=some o
 |.xd fs=>∃mA,h.Ns1 a mA/\∀f,We (fs.lookup f) (mA f)
 |.rng lo hi=>∃t u v,h.get? a=some { cls:=.type "range",data:=.fields (List.toArray [.int lo t,.int hi u,.int 1 v]) }
 |.frz o u=>h.get? a=some o/\C1 H h a u
 |.tbl _=>LJ H h a
 |.met f x=>h.get? a=some (W.methodObj (.ref f) (.ref x))
 |.ext φ=>φ h/\(∃o,h.get? a=some o)/\∀h1 h2:Heap,φ h1->(∀o,h1.get? a=some o->h2.get? a=some o)->φ h2
def HOk (H:Hp)(h:Heap):Prop:=∀a o,H a=some o->C1 P w H h a o
end
section
variable {P:Program}{w:World}{H H':Hp}{h h':Heap}{a:Addr}{o:HO}
theorem C1.lt (x:C1 P w H h a o):a<h.objs.size:=by
 cases o with
 |lst xs=>obtain⟨_,_,_,_,e⟩:=x;exact qAi e
 |tup xs=>obtain⟨_,_,_,p⟩:=x;exact p.lt
 |dK kvs=>obtain⟨_,_,_,_,o,_,_,e,_⟩:=x;exact qAi e
 |dT kvs=>obtain⟨_,_,_,_,o,_,_,e,_⟩:=x;exact qAi e
 |set S n=>obtain⟨o,_,_,_,e,_⟩:=x;exact qAi e
 |ins C dx fs=>obtain⟨_,_,_,e,_⟩:=x;exact qAi e
 |own y=>obtain⟨_,e⟩:=x;exact qAi e
 |xd fs=>obtain⟨_,⟨_,_,_,e,_⟩,_⟩:=x;exact qAi e
 |rng lo hi=>obtain⟨_,_,_,e⟩:=x;exact qAi e
 |frz ob u=>obtain⟨e,_⟩:=x;exact qAi e
 |tbl ps=>obtain⟨_,e,_⟩:=x;exact qAi e
 |met f y=>exact qAi (show h.get? a=some _ from x)
 |ext φ=>obtain⟨_,⟨_,e⟩,_⟩:=x;exact qAi e
theorem Paired.mapP {α β:Type}{F G:α->β->Prop}:∀{l₁:List α}{l₂:List β},Paired F l₁ l₂->(∀a b,F a b->G a b)->Paired G l₁ l₂
 |_,_,.nil,_=>.nil
 |_,_,.cons r t,f=>.cons (f _ _ r) (Paired.mapP t f)
theorem C1.stay (x:C1 P w H h a o)(k:∀b u,(b=a\/H b=some (.own a))->h.get? b=some u->h'.get? b=some u)
 (ho:∀b,H b=some (.own a)->H' b=some (.own a))(ht:∀b xs,H b=some (.tup xs)->H' b=some (.tup xs))(hf:∀b o u,H b=some (.frz o u)->H' b=some (.frz o u):=by intro _ _ _ q;exact q):C1 P w H' h' a o:=by
 induction o with
 |lst xs=>obtain⟨z,its,n,r,e⟩:=x;exact#[z,its,n,r,k _ _ (.inl rfl) e]
 |tup xs=>obtain⟨z,its,r,ob,e,c⟩:=x;exact#[z,its,r,ob,k _ _ (.inl rfl) e,c]
 |dK kvs=>obtain⟨z,y,vs,r,ob,es,ep,e,c⟩:=x;exact#[z,y,vs,r,ob,es,ep,k _ _ (.inl rfl) e,c]
 |dT kvs =>
  obtain⟨z,y,xs,r,ob,es,ep,e,c⟩:=x
  exact#[z,y,xs,Paired.mapP r fun p q z=>#[z.1,ht _ _ z.2.1,z.2.2],ob,es,ep,k _ _ (.inl rfl) e,c]
 |set S n=>obtain⟨ob,es,ep,t,e,c⟩:=x;exact#[ob,es,ep,t,k _ _ (.inl rfl) e,c]
 |ins C dx fs =>
  obtain⟨d,z,ne,e,mA,⟨od,es,ep,e2,c⟩,r⟩:=x
  exact#[ho _ d,z,ne,k _ _ (.inl rfl) e,mA,#[od,es,ep,k _ _ (.inr d) e2,c],r]
 |own y=>obtain⟨ob,e⟩:=x;exact#[ob,k _ _ (.inl rfl) e]
 |xd fs=>obtain⟨mA,⟨od,es,ep,e,c⟩,r⟩:=x;exact#[mA,#[od,es,ep,k _ _ (.inl rfl) e,c],r]
 |rng lo hi=>obtain⟨t,u,v,e⟩:=x;exact#[t,u,v,k _ _ (.inl rfl) e]
 |frz ob u ih=>obtain⟨e,q⟩:=x;exact#[k _ _ (.inl rfl) e,ih q]
 |tbl ps=>exact LJ.stay x (fun u q=>k _ _ (.inl rfl) q) hf
 |met f y =>
  have e:h.get? a=some (W.methodObj (.ref f) (.ref y)):=x
  show h'.get? a=some (W.methodObj (.ref f) (.ref y))
  exact k a _ (.inl rfl) e
 |ext φ=>obtain⟨p,⟨o,e⟩,st⟩:=x;exact#[st _ _ p fun o q=>k _ _ (.inl rfl) q,#[o,k _ _ (.inl rfl) e],st]
theorem HOk.lt (x:HOk P w H h)(e:H a=some o):a<h.objs.size:=(x a o e).lt
theorem HOk.fresh (x:HOk P w H h)(e:h.objs.size<=a):H a=none:=by
 cases q:H a with
 |none=>rfl
 |some u=>exact absurd (qAm (x.lt q) e) (qAY _)
theorem HOk.kept (x:HOk P w H h)(k:∀b u,h.get? b=some u->h'.get? b=some u):HOk P w H h':=fun a o e =>
 (x a o e).stay (fun b u _ q=>k b u q) (fun _ q=>q) fun _ _ q=>q
theorem HOk.laid (x:HOk P w H h)(k:∀b u,h.get? b=some u->h'.get? b=some u)(hp:h.objs.size<=a)(new:C1 P w (upd H a o) h' a o):HOk P w (upd H a o) h':=fun b u e=>by
 have hn:=x.fresh hp
 by_cases hb:b=a
 .subst hb;rw[Aq] at e;cases e;exact new
 .rw[Al hb] at e
  exact(x b u e).stay (hf:=fun c w1 w2 q=>by rw[Al (AA q hn)];exact q) (fun c v _ q=>k c v q) (fun c q=>by rw[Al (AA q hn)];exact q) fun c xs q=>by rw[Al (AA q hn)];exact q
end
def Rd (H:Hp)(a:Addr)(u:HO):Prop:=H a=some u\/∃o,H a=some (.frz o u)
theorem Rd.ok {P:Program}{w:World}{H:Hp}{h:Heap}{a:Addr}{u:HO}(r:Rd H a u) (x:HOk P w H h):C1 P w H h a u:=by
 rcases r with r|⟨o,r⟩
 .exact x a u r
 .obtain⟨_,q⟩:=x a _ r
  exact q
def Mut:Option HO->Prop
 |some (.lst _)=>True
 |some (.dK _)=>True
 |some (.dT _)=>True
 |some (.set _ _)=>True
 |some (.ins _ _ _)=>True
 |some (.ext _)=>True
 |_=>False
section
variable {P:Program}{w:World}{H:Hp}{h h':Heap}{x e:Addr}{o':HO}
theorem HOk.write (ok:HOk P w H h)(mu:Mut (H x))(he:e=x\/H e=some (.own x))(k:∀b u,b≠e->h.get? b=some u->h'.get? b=some u)(heo:∃u,h'.get? e=some u)
 (new:C1 P w (upd H x o') h' x o'):HOk P w (upd H x o') h':=fun b u q=>by
 have nown:∀c y,H c=some (.own y)->c≠x:=fun c y r z=>by subst z;rw[r] at mu;exact mu
 have ntup:∀c xs,H c=some (.tup xs)->c≠x:=fun c xs r z=>by subst z;rw[r] at mu;exact mu
 by_cases hb:b=x
 .subst hb;rw[Aq] at q;cases q;exact new
 .rw[Al hb] at q
  by_cases hbe:b=e
  .have q':H b=some (.own x):=by
    rcases he with z|z
    .exact absurd (hbe.trans z) hb
    .rw[hbe];exact z
   rw[q] at q';cases q'
   obtain⟨v,hv⟩:=heo
   exact#[v,by rw[hbe];exact hv]
  .refine(ok b u q).stay (hf:=fun c w1 w2 r=>by rw[Al (fun z=>by subst z;rw[r] at mu;exact mu)];exact r) (fun c v hc r=>k c v ?_ r) (fun c r=>by rw[Al (nown c b r)];exact r) fun c xs r=>by rw[Al (ntup c xs r)];exact r
   rcases hc with rfl|hc
   .exact hbe
   .rintro rfl
    rcases he with z|z
    .exact nown c b hc z
    .rw[hc] at z;cases z;exact hb rfl
end
structure Un (fs ex:List Addr)(H H':Hp)(h h':Heap):Prop where
 keep:∀b o,h.get? b=some o->H b=none->b∉fs->b∉ex->h'.get? b=some o
 slot:∀b o,h.get? b=some o->H b=none->b∈fs->b∉ex->∃sl,h'.get? b=some { o with slots:=sl }
 free:∀b o,h.get? b=some o->H b=none->b∉ex->H' b=none
 there:∀b o,h.get? b=some o->b∉ex->∃o',h'.get? b=some o'
 tups:∀b xs,H b=some (.tup xs)->H' b=some (.tup xs)
 frzs:∀b o u,H b=some (.frz o u)->H' b=some (.frz o u)
 tbls:∀b ps,H b=some (.tbl ps)->∃more,H' b=some (.tbl (ps++more))
section
variable {fs fs' ex ex':List Addr}{H H1 H2:Hp}{h h1 h2 h':Heap}{a x e:Addr}{o:HO}
theorem Un.any (u:Un fs ex H H1 h h1){b:Addr}{ob:Obj}(q:h.get? b=some ob) (n:H b=none) (hx:b∉ex):∃sl,h1.get? b=some { ob with slots:=sl }:=by
 by_cases hb:b∈fs
 .exact u.slot b ob q n hb hx
 .exact#[ob.slots,u.keep b ob q n hb hx]
theorem Un.kept (k:∀b u,h.get? b=some u->h'.get? b=some u):Un fs ex H H h h' :=
 #[fun b ob q _ _ _=>k b ob q,fun b ob q _ _ _=>#[ob.slots,k b ob q],fun _ _ _ n _=>n,fun b ob q _=>#[ob,k b ob q],fun _ _ q=>q,fun _ _ _ q=>q,fun _ ps q=>#[(List.toArray []),by rw[q];simp]]
theorem Un.refl:Un fs ex H H h h:=Un.kept fun _ _ q=>q
theorem Un.laid (k:∀b u,h.get? b=some u->h'.get? b=some u)(hp:h.objs.size<=a)(hn:H a=none):Un fs ex H (upd H a o) h h' where
 keep:=fun b u q _ _ _=>k b u q
 slot:=fun b u q _ _ _=>#[u.slots,k b u q]
 free:=fun b u q n _=>by rw[Al (qAq (qAm (qAi q) hp))];exact n
 there:=fun b u q _=>#[u,k b u q]
 tups:=fun b xs q=>by rw[Al (AA q hn)];exact q
 frzs:=fun b u xs q=>by rw[Al (AA q hn)];exact q
 tbls:=fun b ps q=>#[(List.toArray []),by rw[Al (AA q hn),q];simp]
theorem Un.write (mu:Mut (H x))(he:e=x\/H e=some (.own x))(k:∀b u,b≠e->h.get? b=some u->h'.get? b=some u)(heo:∃u,h'.get? e=some u):Un fs ex H (upd H x o) h h':=by
 have hx:∀b,H b=none->b≠x:=fun b n z=>by subst z;rw[n] at mu;exact mu
 have hb:∀b,H b=none->b≠e:=fun b n z=>by
  subst z
  rcases he with r|r
  .exact hx b n r
  .rw[n] at r;cases r
 have hm:∀b u,H b=some u->¬Mut (some u)->b≠x:=fun b u q nm z=>by subst z;rw[q] at mu;exact nm mu
 refine#[fun b u q n _ _=>k b u (hb b n) q,fun b u q n _ _=>#[u.slots,k b u (hb b n) q],fun b u q n _=>by rw[Al (hx b n)];exact n,fun b u q _=>?_,
  fun b xs q=>by rw[Al (hm b _ q fun z=>z)];exact q,fun b u xs q=>by rw[Al (hm b _ q fun z=>z)];exact q,fun b ps q=>#[(List.toArray []),by rw[Al (hm b _ q fun z=>z),q];simp]]
 by_cases hbe:b=e
 .subst hbe;exact heo
 .exact#[u,k b u hbe q]
end
def trk (h:Heap)(H:Hp):List Addr:=(List.range h.objs.size).filter fun a=>(H a).isSome
def PX (h:Heap)(H:Hp):Heap:=W.hideAll h (trk h H)
theorem O3 (h:Heap)(H:Hp):(PX h H).objs.size=h.objs.size:=W.hideAll_size _ _
theorem Qq {h:Heap}{H:Hp}{b:Addr}{o:Obj}(e:h.get? b=some o) (n:H b=none):(PX h H).get? b=some o :=
 W.hideAll_get _ e fun hm=>by
  have q:(H b).isSome=true:=(qBj.mp hm).2
  rw[n] at q;simp at q
theorem TF {h:Heap}{H:Hp}{b:Addr}{o:Obj}(e:(PX h H).get? b=some o):h.get? b=some o/\H b=none:=by
 have e':h.get? b=some o:=W.of_hideAll (trk h H) e
 refine#[e',?_]
 cases q:H b with
 |none=>rfl
 |some x =>
  have hm:b∈trk h H:=qBj.mpr #[qAI.mpr (qAi e'),by simp[q]]
  have z:(PX h H).get? b=none:=W.hideAll_none (trk h H) hm
  rw[z] at e;cases e
structure Mod (K:W.Frag)(mg:Str->Option Value)(base:Heap):Prop where
 kin:K.In base
 glob:base.Ns mainGlobals mg
 blt:∃mb,base.Ns builtinsNs mb/\∀x:Str,x≠"__name__"->mb x=bootBuiltins x
 nolimit:base.NoLimit
structure Cx where
 prog:Program
 w:World
 K:W.Frag
 mg:Str->Option Value
 base:Heap
 A:Around
 N:List Str
 s₀:Shared
 H₀:Hp
 env:Env
 outer:List Env
 stack:List Env
 ex:List Addr
 fn:Str->Bool
 calm:Bool
 pn:List (Addr×Obj)
 xe:Value->Shared->Prop
 lent:Option (Nat×Addr):=none
def frs (l:List Env):List Addr:=l.filterMap (·.frame)
abbrev Cx.fs (X:Cx):List Addr:=frs X.outer
def Vis (sc:Scope)(x:Str):Prop:=sc.names.lookup x=some .local\/sc.names.lookup x=some .cell\/sc.names.lookup x=some .free
def Loc (sc:Scope)(x:Str):Prop:=sc.names.lookup x=some .local\/sc.names.lookup x=some .cell
def Yb (env:Env)(h:Heap)(m:Str->Option Value)(x:Str)(u:Value):Prop :=
 (env.kindOf x=some .local/\m x=some u)\/((env.kindOf x=some .cell\/env.kindOf x=some .free)/\∃c,env.cells.lookup x=some c/\h.IsCell c (some u))
structure TB (P:Program)(K:W.Frag)(mg:Str->Option Value)(base:Heap)(H:Hp):Prop where
 bm:∃(b:Addr)(o:Obj),mg "__builtins__"=some (.ref b)/\b≠builtinsNs/\base.get? b=some o/\o.cls=.type "module"/\o.dict=some builtinsNs/\o.data=.plain
 tab:∀(x:Str)(c T:Addr),W.tabIn K x=some (c,T)->(recsOf P).any (fun d=>d.name==x)=true->W.CodeHd base c T/\∃ps,H T=some (.tbl ps)
structure Cx.Ok (X:Cx):Prop where
 mod:Mod X.K X.mg X.base
 kind:X.env.scope.kind=.function
 glob:X.env.globals=mainGlobals
 blt:X.env.builtins=builtinsNs
 above:X.s₀.heap.objs.size<=X.env.locals
 inj:∀x y c,X.env.cells.lookup x=some c->X.env.cells.lookup y=some c->x=y
 has:∀x,(X.env.kindOf x=some .cell\/X.env.kindOf x=some .free)->∃c,X.env.cells.lookup x=some c
 cab:∀x c,X.fn x=true->X.env.cells.lookup x=some c->X.s₀.heap.objs.size<=c
 hd:X.calm=true->X.A.handled=none
 frames:X.A.frames=some X.stack
 stk:X.stack=X.outer\/(X.stack=X.env::X.outer/\X.env.frame=some X.env.locals)
 exf:∀b∈X.ex,b≠X.env.locals/\∀x c,X.env.cells.lookup x=some c->c≠b
 bs:∀b o,X.base.get? b=some o->X.s₀.heap.get? b=some o/\X.H₀ b=none
 bsz:X.base.objs.size<=X.s₀.heap.objs.size
 noex:∀b o,X.base.get? b=some o->b∉X.ex
 exfs:∀b∈X.ex,b∉X.fs
 funs:X.s₀.heap.FunFrames X.base X.outer
 frf:∀b∈X.fs,X.H₀ b=none
 tb:TB X.prog X.K X.mg X.base X.H₀
structure Inv (X:Cx)(pins:List (Addr×Obj))(σ:List (Option V))(H:Hp)(s:Shared):Prop where
 ok:X.Ok
 os:s.os=X.s₀.os
 bare:AllBare s.gens
 base:Un X.fs X.ex X.H₀ H X.s₀.heap s.heap
 loc:∃m,s.heap.Ns X.env.locals m/\∀(i:Nat)(x:Str)(v:V),X.N[i]? = some x->σ[i]? = some (some v)->Vis X.env.scope x->∃u,Cz v u/\Yb X.env s.heap m x u
 cell:∀x c,X.env.cells.lookup x=some c->∃v,s.heap.IsCell c v
 free:H X.env.locals=none
 freeC:∀x c,X.env.cells.lookup x=some c->H c=none
 pin:∀p∈X.pn++pins,s.heap.get? p.1=some p.2/\H p.1=none/\p.1≠X.env.locals/\p.1∉X.fs/\∀v,p.2.data≠.cell v
 hok:HOk X.prog X.w H s.heap
 len:σ.length=X.N.length
section
variable {X:Cx}{pins:List (Addr×Obj)}{σ:List (Option V)}{H H':Hp}{s:Shared}{h':Heap}
theorem Cx.Ok.nofr (ok:X.Ok){b:Addr}{o:Obj}(e:X.base.get? b=some o):b∉X.fs:=fun hb=>by
 have:=(ok.funs.mem hb).1
 rw[e] at this;cases this
theorem Inv.bs (I:Inv X pins σ H s):∀b o,X.base.get? b=some o->s.heap.get? b=some o/\H b=none:=fun b o e =>
 #[I.base.keep b o (I.ok.bs b o e).1 (I.ok.bs b o e).2 (I.ok.nofr e) (I.ok.noex b o e),I.base.free b o (I.ok.bs b o e).1 (I.ok.bs b o e).2 (I.ok.noex b o e)]
theorem Inv.bk (I:Inv X pins σ H s):∀b o,X.base.get? b=some o->s.heap.get? b=some o:=fun b o e=>(I.bs b o e).1
theorem Inv.tb (I:Inv X pins σ H s):TB X.prog X.K X.mg X.base H:=#[I.ok.tb.bm,fun x c T h1 h2=>by
 obtain⟨z,ps,e⟩:=I.ok.tb.tab x c T h1 h2
 obtain⟨more,e'⟩:=I.base.tbls T ps e
 exact#[z,_,e']]
theorem Inv.mod (I:Inv X pins σ H s):Mod X.K X.mg X.base:=I.ok.mod
theorem Inv.kIn (I:Inv X pins σ H s):X.K.In s.heap:=I.ok.mod.kin.keeps I.bk
theorem Inv.lt (I:Inv X pins σ H s):X.env.locals<s.heap.objs.size:=let #[_,hn,_]:=I.loc;hn.lt
theorem Inv.sz (I:Inv X pins σ H s):X.s₀.heap.objs.size<=s.heap.objs.size:=qAJ I.ok.above (qBk I.lt)
theorem Inv.nofs (I:Inv X pins σ H s){a:Addr}(h:s.heap.objs.size<=a):a∉X.fs:=fun hb=>by
 obtain⟨_,o,ho,_⟩:=I.ok.funs.mem hb
 exact absurd (qAm (qAi ho) (qAJ I.sz h)) (qAY _)
theorem Inv.cne (I:Inv X pins σ H s):∀x c,X.env.cells.lookup x=some c->c≠X.env.locals:=fun x c e z=>by
 obtain⟨v,o,ho,hd⟩:=I.cell x c e
 obtain⟨m,⟨o',es,ep,ho',hd',_⟩,_⟩:=I.loc
 rw[z,ho'] at ho;cases ho;rw[hd'] at hd;cases hd
theorem Inv.funs (I:Inv X pins σ H s):s.heap.FunFrames X.base X.outer:=by
 have all:∀(l:List Env),(∀b∈frs l,b∈X.fs)->X.s₀.heap.FunFrames X.base l->s.heap.FunFrames X.base l:=by
  intro l
  induction l with
  |nil=>intro _ _;trivial
  |cons env r ih =>
   intro hs hl
   obtain⟨hk,⟨L,o,hf,hn,ho,hd⟩,hr⟩:=hl
   have hL:L∈X.fs:=hs L (by unfold frs;rw[qA7,hf];exact qAV)
   obtain⟨sl,e⟩:=I.base.slot L o ho (I.ok.frf L hL) hL fun z=>I.ok.exfs L z hL
   exact#[hk,#[L,_,hf,hn,e,hd],ih (fun b hb=>hs b (by unfold frs;rw[qA7,hf];exact qAK _ hb)) hr]
 exact all X.outer (fun _ hb=>hb) I.ok.funs
theorem Inv.stack (I:Inv X pins σ H s):s.heap.FunFrames X.base X.stack:=by
 rcases I.ok.stk with e|⟨e,hf⟩
 .rw[e];exact I.funs
 .rw[e]
  obtain⟨m,hn,_⟩:=I.loc
  refine .cons (by rw[I.ok.kind];decide) hf hn ?_ I.funs
  exact Heap.get?_none_of_le (qAJ I.ok.bsz I.ok.above)
theorem Inv.stkSub (I:Inv X pins σ H s):∀b∈frs X.stack,b∈X.env.locals::X.fs:=fun b hb=>by
 rcases I.ok.stk with e|⟨e,hf⟩
 .rw[e] at hb;exact qAK _ hb
 .rw[e] at hb
  unfold frs at hb
  rw[qA7,hf] at hb
  exact hb
theorem Inv.stkFree (I:Inv X pins σ H s):∀b∈frs X.stack,H b=none:=fun b hb=>by
 rcases qAk.mp (I.stkSub b hb) with e|hb
 .rw[e];exact I.free
 .obtain⟨_,o,ho,_⟩:=I.ok.funs.mem hb
  exact I.base.free b o ho (I.ok.frf b hb) fun z=>I.ok.exfs b z hb
theorem Inv.step {g':Array GenState}{t':Nat}{d':Drawn}{ch:List Addr}(I:Inv X pins σ H s)
 (hch:∀b∈ch,(b∈X.ex\/X.s₀.heap.objs.size<=b)/\b≠X.env.locals/\(∀x c,X.env.cells.lookup x=some c->c≠b)/\∀p∈X.pn++pins,p.1≠b)
 (keep:∀b o,b≠X.env.locals->b∉X.fs->b∉ch->s.heap.get? b=some o->H b=none->h'.get? b=some o)
 (slot:∀b o,b≠X.env.locals->b∈X.fs->b∉ch->s.heap.get? b=some o->H b=none->∃sl,h'.get? b=some { o with slots:=sl }) (free:∀b o,b∉ch->s.heap.get? b=some o->H b=none->H' b=none)
 (there:∀b o,b∉ch->s.heap.get? b=some o->∃o',h'.get? b=some o')
 (tups:∀b xs,H b=some (.tup xs)->H' b=some (.tup xs)) (frzs:∀b o u,H b=some (.frz o u)->H' b=some (.frz o u)) (tbls:∀b ps,H b=some (.tbl ps)->∃more,H' b=some (.tbl (ps++more)))
 (ns:∀m,s.heap.Ns X.env.locals m->h'.Ns X.env.locals m) (hok:HOk X.prog X.w H' h') (hg:AllBare g') :
 Inv X pins σ H' { s with heap:=h',gens:=g',drawn:=d',toks:=t' }:=by
 have neL:∀b o,X.s₀.heap.get? b=some o->b≠X.env.locals:=fun b o e=>qAq (qAm (qAi e) I.ok.above)
 have neC:∀b o,X.s₀.heap.get? b=some o->b∉X.ex->b∉ch:=fun b o e hx hb=>by
  rcases(hch b hb).1 with z|z
  .exact hx z
  .exact absurd (qAm (qAi e) z) (qAY _)
 have cellK:∀x c,X.env.cells.lookup x=some c->∀v,s.heap.IsCell c v->h'.IsCell c v:=fun x c e v hh=>by
  obtain⟨o,ho,hd⟩:=hh
  have nch:c∉ch:=fun z=>(hch c z).2.2.1 x c e rfl
  by_cases hc:c∈X.fs
  .obtain⟨sl,q⟩:=slot c o (I.cne x c e) hc nch ho (I.freeC x c e)
   exact#[_,q,hd]
  .exact#[o,keep c o (I.cne x c e) hc nch ho (I.freeC x c e),hd]
 refine#[I.ok,I.os,hg,#[fun b o e n hb hx=>?_,fun b o e n hb hx=>?_,fun b o e n hx=>?_,fun b o e hx=>?_,fun b xs e=>tups b xs (I.base.tups b xs e),fun b o xs e=>frzs b o xs (I.base.frzs b o xs e),fun b ps e=>?_],?_,fun x c e=>?_,?_,fun x c e=>?_,fun p hp=>?_,hok,I.len]
 .exact keep b o (neL b o e) hb (neC b o e hx) (I.base.keep b o e n hb hx) (I.base.free b o e n hx)
 .obtain⟨sl,e1⟩:=I.base.slot b o e n hb hx
  obtain⟨sl',e2⟩:=slot b _ (neL b o e) hb (neC b o e hx) e1 (I.base.free b o e n hx)
  exact#[sl',e2]
 .obtain⟨o',e1⟩:=I.base.there b o e hx
  exact free b o' (neC b o e hx) e1 (I.base.free b o e n hx)
 .obtain⟨o',e1⟩:=I.base.there b o e hx
  exact there b o' (neC b o e hx) e1
 .obtain⟨m1,e1⟩:=I.base.tbls b ps e
  obtain⟨m2,e2⟩:=tbls b _ e1
  exact#[m1++m2,by rw[e2,Array.append_assoc]]
 .obtain⟨m,hn,hl⟩:=I.loc
  refine#[m,ns m hn,fun i x v e1 e2 e3=>?_]
  obtain⟨u,r,l⟩:=hl i x v e1 e2 e3
  refine#[u,r,?_]
  rcases l with l|⟨k,c,e,z⟩
  .exact .inl l
  .exact .inr #[k,c,e,cellK x c e _ z]
 .obtain⟨v,z⟩:=I.cell x c e
  exact#[v,cellK x c e v z]
 .obtain⟨m,⟨o,_,_,ho,_⟩,_⟩:=I.loc
  exact free _ o (fun z=>(hch _ z).2.1 rfl) ho I.free
 .obtain⟨v,o,ho,hd⟩:=I.cell x c e
  exact free c o (fun z=>(hch c z).2.2.1 x c e rfl) ho (I.freeC x c e)
 .obtain⟨e,n,ne,nf,d⟩:=I.pin p hp
  have nch:p.1∉ch:=fun z=>(hch p.1 z).2.2.2 p hp rfl
  exact#[keep p.1 p.2 ne nf nch e n,free p.1 p.2 nch e n,ne,nf,d]
theorem Inv.un {t':Nat}(I:Inv X pins σ H s) (u:Un X.fs [] H H' s.heap h') (hok:HOk X.prog X.w H' h'):Inv X pins σ H' { s with heap:=h',toks:=t' }:=by
 obtain⟨m,⟨o,es,ep,ho,r⟩,_⟩:=id I.loc
 obtain⟨sl,hL⟩:=u.any ho I.free (by simp)
 exact I.step (g':=s.gens) (d':=s.drawn) (ch:=[]) (fun _ z=>nomatch z) (fun b o _ hb _ e n=>u.keep b o e n hb (by simp)) (fun b o _ hb _ e n=>u.slot b o e n hb (by simp)) (fun b o _ e n=>u.free b o e n (by simp)) (fun b o _ e=>u.there b o e (by simp)) u.tups u.frzs u.tbls (fun m' hm=>by
  obtain⟨o',es',ep',ho',r'⟩:=hm
  rw[ho] at ho';cases ho'
  exact#[_,es',ep',hL,r']) hok I.bare
theorem Inv.call {g':Array GenState}{t':Nat}{d':Drawn}{ch:List Addr}(I:Inv X pins σ H s) (u:Un (frs X.stack) ch H H' s.heap h') (hok:HOk X.prog X.w H' h') (hg:AllBare g')
 (hch:∀b∈ch,(b∈X.ex\/X.s₀.heap.objs.size<=b)/\b≠X.env.locals/\(∀x c,X.env.cells.lookup x=some c->c≠b)/\∀p∈X.pn++pins,p.1≠b) :
 Inv X pins σ H' { s with heap:=h',gens:=g',drawn:=d',toks:=t' }:=by
 obtain⟨m,⟨o,es,ep,ho,r⟩,_⟩:=id I.loc
 obtain⟨sl,hL⟩:=u.any ho I.free fun z=>(hch _ z).2.1 rfl
 exact I.step (ch:=ch) hch (fun b o hL hb hc e n=>u.keep b o e n (fun z=>(qAk.mp (I.stkSub b z)).elim hL hb) hc) (fun b o _ _ hc e n=>u.any e n hc) (fun b o hc e n=>u.free b o e n hc) (fun b o hc e=>u.there b o e hc) u.tups u.frzs u.tbls (fun m' hm=>by
  obtain⟨o',es',ep',ho',r'⟩:=hm
  rw[ho] at ho';cases ho'
  exact#[_,es',ep',hL,r']) hok hg
theorem Inv.turned {t':Nat}{it:Addr}(I:Inv X pins σ H s) (k:∀b o,b≠it->s.heap.get? b=some o->h'.get? b=some o) (hn:H it=none) (hL:it≠X.env.locals)
 (h1:it∈X.ex\/X.s₀.heap.objs.size<=it) (h2:∀x c,X.env.cells.lookup x=some c->c≠it) (h3:∀p∈X.pn++pins,p.1≠it):Inv X pins σ H { s with heap:=h',toks:=t' }:=by
 have nit:∀b u,H b=some u->b≠it:=fun b u e z=>by rw[z,hn] at e;cases e
 refine I.step (g':=s.gens) (d':=s.drawn) (ch:=[it]) (fun b hb=>?_) (fun b o _ _ hc e _=>k b o (fun z=>hc (by simp[z])) e) (fun b o _ _ hc e _=>#[o.slots,k b o (fun z=>hc (by simp[z])) e]) (fun _ _ _ _ n=>n)
  (fun b o hc e=>#[o,k b o (fun z=>hc (by simp[z])) e]) (fun _ _ e=>e) (fun _ _ _ e=>e) (fun b ps e=>#[(List.toArray []),by rw[e];simp]) (fun m hm=>?_) (fun b u e=>?_) I.bare
 .have e:b=it:=by simpa using hb
  subst e
  exact#[h1,hL,h2,h3]
 .obtain⟨o,es,ep,ho,r⟩:=hm
  exact#[o,es,ep,k _ o (Ne.symm hL) ho,r]
 .refine(I.hok b u e).stay (fun c v hc q=>k c v ?_ q) (fun _ q=>q) fun _ _ q=>q
  rcases hc with z|z
  .rw[z];exact nit b u e
  .exact nit c _ z
theorem Inv.tok (I:Inv X pins σ H s)(t:Nat):Inv X pins σ H { s with toks:=t }:=I.un (h':=s.heap) (t':=t) Un.refl I.hok
theorem Inv.kept {t':Nat}(I:Inv X pins σ H s) (k:∀b u,s.heap.get? b=some u->h'.get? b=some u):Inv X pins σ H { s with heap:=h',toks:=t' }:=I.un (Un.kept k) (I.hok.kept k)
theorem Inv.laid {a:Addr}{o:HO}{t':Nat}(I:Inv X pins σ H s) (k:∀b u,s.heap.get? b=some u->h'.get? b=some u) (hp:s.heap.objs.size<=a) (new:C1 X.prog X.w (upd H a o) h' a o) :
 Inv X pins σ (upd H a o) { s with heap:=h',toks:=t' }:=I.un (Un.laid k hp (I.hok.fresh hp)) (I.hok.laid k hp new)
theorem Inv.write {x e:Addr}{o:HO}{t':Nat}(I:Inv X pins σ H s) (mu:Mut (H x)) (he:e=x\/H e=some (.own x)) (k:∀b u,b≠e->s.heap.get? b=some u->h'.get? b=some u) (heo:∃u,h'.get? e=some u)
 (new:C1 X.prog X.w (upd H x o) h' x o):Inv X pins σ (upd H x o) { s with heap:=h',toks:=t' }:=I.un (Un.write mu he k heo) (I.hok.write mu he k heo new)
theorem Inv.pins_of {pins':List (Addr×Obj)}(I:Inv X pins σ H s) (h:∀p∈pins',s.heap.get? p.1=some p.2/\H p.1=none/\p.1≠X.env.locals/\p.1∉X.fs/\∀v,p.2.data≠.cell v):Inv X pins' σ H s :=
 #[I.ok,I.os,I.bare,I.base,I.loc,I.cell,I.free,I.freeC,fun p hp=>(qAo.mp hp).elim (fun z=>I.pin p (qAZ _ z)) (h p),I.hok,I.len]
theorem Me {N:List Str}(hN:N.Nodup){i j:Nat}{x:Str}(a:N[i]? = some x) (b:N[j]? = some x):i=j:=by
 obtain⟨h1,e1⟩:=qAd.mp a
 obtain⟨h2,e2⟩:=qAd.mp b
 exact(List.getElem_inj hN).mp (e1.trans e2.symm)
theorem IE {M:Model}{A:Around}{E:Value->Shared->Prop}{i:Nat}{x:Str}{v:V}{u:Value}{Q:Unit->Shared->Prop}(I:Inv X pins σ H s) (hN:X.N.Nodup) (hi:X.N[i]? = some x) (hx:Loc X.env.scope x) (r:Cz v u)
 (h:∀s',Inv X pins (σ.set i (some v)) H s'->(∃a,Heap.SameBut a s.heap s'.heap/\(a=X.env.locals\/X.env.cells.lookup x=some a))->Q Unit.unit s') (hf:X.fn x=true\/X.env.scope.names.lookup x=some .local:=by first|exact .inl rfl|exact .inr rfl|assumption):wpAny M A (storeName X.env x u) Q E s:=by
 obtain⟨m,hn,hl⟩:=id I.loc
 have hcls:(X.env.scope.kind == .class||(X.env.scope.kind == .module&&X.env.locals != X.env.globals))=false:=by rw[I.ok.kind];rfl
 have hiσ:i<σ.length:=by rw[I.len];exact(qAd.mp hi).1
 have cne:=I.cne
 have tracked:∀{a:Addr}{h':Heap},(∃o,s.heap.get? a=some o/\H a=none)->Heap.SameBut a s.heap h'->HOk X.prog X.w H h':=fun {a h'} ha hs b ob e=>by
  obtain⟨_,_,hfree⟩:=ha
  refine(I.hok b ob e).stay (fun c w' hc q=>(hs.2 c ?_).trans q) (fun _ q=>q) fun _ _ q=>q
  rintro rfl
  rcases hc with rfl|hc
  .rw[hfree] at e;cases e
  .rw[hfree] at hc;cases hc
 rcases hx with hk|hk
 .refine wpAny_storeName_local hk hn (fun h' hn' hs=>?_) hcls
  obtain⟨oL,_,_,hoL,_⟩:=id hn
  refine h _ #[I.ok,I.os,I.bare,#[fun b o e n hb hx=>?_,fun b o e n hb hx=>?_,I.base.free,fun b o e hx=>?_,I.base.tups,I.base.frzs,I.base.tbls],#[_,hn',fun j y v' e1 e2 e3=>?_],fun y c e=>?_,I.free,I.freeC,fun p hp=>?_,tracked #[oL,hoL,I.free] hs,by simpa using I.len] #[_,hs,.inl rfl]
  .exact(hs.2 b (qAq (qAm (qAi e) I.ok.above))).trans (I.base.keep b o e n hb hx)
  .obtain⟨sl,e1⟩:=I.base.slot b o e n hb hx
   exact#[sl,(hs.2 b (qAq (qAm (qAi e) I.ok.above))).trans e1]
  .obtain⟨o',e1⟩:=I.base.there b o e hx
   exact#[o',(hs.2 b (qAq (qAm (qAi e) I.ok.above))).trans e1]
  .by_cases hj:j=i
   .subst hj
    rw[hi] at e1;cases e1
    rw[qBs hiσ] at e2
    cases e2
    exact#[u,r,.inl #[hk,by simp]]
   .rw[qBL (Ne.symm hj)] at e2
    obtain⟨u',r',q⟩:=hl j y v' e1 e2 e3
    refine#[u',r',?_]
    rcases q with⟨k,e⟩|⟨k,c,e,z⟩
    .refine .inl #[k,?_]
     have:y≠x:=fun e=>hj (Me hN e1 (e ▸ hi))
     simp[this,e]
    .exact .inr #[k,c,e,z.sameBut hs (cne y c e)]
  .obtain⟨w',z⟩:=I.cell y c e
   exact#[w',z.sameBut hs (cne y c e)]
  .obtain⟨e,n,ne,nf,d⟩:=I.pin p hp
   exact#[(hs.2 p.1 ne).trans e,n,ne,nf,d]
 .have hfn:X.fn x=true:=by
   rcases hf with z|z
   .exact z
   .rw[z] at hk;cases hk
  obtain⟨c,hc⟩:=I.ok.has x (.inl hk)
  obtain⟨w',z⟩:=I.cell x c hc
  refine wpAny_storeName_cell I.ok.kind hk hc z (fun h' hc' hs=>?_)
  obtain⟨oc,hoc,hocd⟩:=id z
  refine h { s with heap:=h' } #[I.ok,I.os,I.bare,#[fun b o e n hb hx=>?_,fun b o e n hb hx=>?_,I.base.free,fun b o e hx=>?_,I.base.tups,I.base.frzs,I.base.tbls],#[m,hn.sameBut hs (Ne.symm (cne x c hc)),fun j y v' e1 e2 e3=>?_],fun y c' e=>?_,I.free,I.freeC,fun p hp=>?_,tracked #[oc,hoc,I.freeC x c hc] hs,by simpa using I.len] #[c,hs,.inr hc]
  .exact(hs.2 b (qAq (qAm (qAi e) (I.ok.cab x c hfn hc)))).trans (I.base.keep b o e n hb hx)
  .obtain⟨sl,e1⟩:=I.base.slot b o e n hb hx
   exact#[sl,(hs.2 b (qAq (qAm (qAi e) (I.ok.cab x c hfn hc)))).trans e1]
  .obtain⟨o',e1⟩:=I.base.there b o e hx
   exact#[o',(hs.2 b (qAq (qAm (qAi e) (I.ok.cab x c hfn hc)))).trans e1]
  .by_cases hj:j=i
   .subst hj
    rw[hi] at e1;cases e1
    rw[qBs hiσ] at e2
    cases e2
    exact#[u,r,.inr #[.inl hk,c,hc,hc']]
   .rw[qBL (Ne.symm hj)] at e2
    obtain⟨u',r',q⟩:=hl j y v' e1 e2 e3
    refine#[u',r',?_]
    rcases q with q|⟨k,c',e,z'⟩
    .exact .inl q
    .refine .inr #[k,c',e,z'.sameBut hs ?_]
     rintro rfl
     exact hj (Me hN e1 (I.ok.inj _ _ _ e hc ▸ hi))
  .by_cases hcc:c'=c
   .subst hcc;exact#[_,hc']
   .obtain⟨w2,z2⟩:=I.cell y c' e
    exact#[w2,z2.sameBut hs hcc]
  .obtain⟨e,n,ne,nf,d⟩:=I.pin p hp
   refine#[(hs.2 p.1 ?_).trans e,n,ne,nf,d]
   intro q
   rw[q,hoc] at e
   have q':oc=p.2:=qAl e
   exact d w' (by rw[<-q'];exact hocd)
theorem Hl {M:Model}{A:Around}{E:Value->Shared->Prop}{i:Nat}{x:Str}{v:V}{u:Value}{Q:Unit->Shared->Prop}(I:Inv X pins σ H s) (hN:X.N.Nodup) (hi:X.N[i]? = some x) (hx:Loc X.env.scope x) (r:Cz v u)
 (h:∀s',Inv X pins (σ.set i (some v)) H s'->Q Unit.unit s') (hf:X.fn x=true\/X.env.scope.names.lookup x=some .local:=by first|exact .inl rfl|exact .inr rfl|assumption):wpAny M A (storeName X.env x u) Q E s :=
 IE I hN hi hx r (fun s' I' _=>h s' I') hf
theorem Inv.call' {s':Shared}{ch:List Addr}(I:Inv X pins σ H s) (ho:s'.os=s.os) (u:Un (frs X.stack) ch H H' s.heap s'.heap) (hok:HOk X.prog X.w H' s'.heap) (hg:AllBare s'.gens)
 (hch:∀b∈ch,(b∈X.ex\/X.s₀.heap.objs.size<=b)/\b≠X.env.locals/\(∀x c,X.env.cells.lookup x=some c->c≠b)/\∀p∈X.pn++pins,p.1≠b):Inv X pins σ H' s':=by
 obtain⟨h',g',d',t',o'⟩:=s'
 have e:o'=s.os:=ho
 subst e
 exact I.call (g':=g') (t':=t') (d':=d') u hok hg hch
end
abbrev XK:=Value->Option Addr->Hp->Prop
abbrev St:=List (Option V)
abbrev VK:=V->Hp->Prop
abbrev TE:=St->Hp->VK->Prop
abbrev TT:=St->Hp->(Bool->Hp->Prop)->Prop
abbrev TA:=St->Hp->(List V->Hp->Prop)->Prop
structure M7 where
 nx:St->Hp->Prop
 rt:VK
 bk:St->Hp->Prop:=fun _ _=>False
 ct:St->Hp->Prop:=fun _ _=>False
abbrev TS:=M7->St->Hp->Prop
def EP (X:Cx)(pins:List (Addr×Obj))(σ:St)(Q:VK)(u:Value)(s':Shared):Prop:=∃v H',Inv X pins σ H' s'/\Cz v u/\Q v H'
def TP (X:Cx)(pins:List (Addr×Obj))(σ:St)(Q:Bool->Hp->Prop)(b:Bool)(s':Shared):Prop:=∃H',Inv X pins σ H' s'/\Q b H'
def AP (X:Cx)(pins:List (Addr×Obj))(σ:St)(Q:List V->Hp->Prop)(us:List Value)(s':Shared):Prop:=∃vs H',Inv X pins σ H' s'/\B4 vs us/\Q vs H'
def SP (X:Cx)(pins:List (Addr×Obj))(D:M7)(f:Flow)(s':Shared):Prop :=
 match f with
 |.next=>∃σ' H',Inv X pins σ' H' s'/\D.nx σ' H'
 |.brk=>∃σ' H',Inv X pins σ' H' s'/\D.bk σ' H'
 |.cont=>∃σ' H',Inv X pins σ' H' s'/\D.ct σ' H'
 |.ret u=>∃v σ' H',Inv X pins σ' H' s'/\Cz v u/\D.rt v H'
def PE (X:Cx)(e:Expr)(t:TE):Prop :=
 ∀(pins:List (Addr×Obj))(s:Shared)(σ:St)(H:Hp)(Q:VK),Inv X pins σ H s->t σ H Q->wpAny (model X.prog X.w) X.A (eval e X.env) (EP X pins σ Q) X.xe s
def PT (X:Cx)(e:Expr)(t:TT):Prop :=
 ∀(pins:List (Addr×Obj))(s:Shared)(σ:St)(H:Hp)(Q:Bool->Hp->Prop),Inv X pins σ H s->t σ H Q->wpAny (model X.prog X.w) X.A (isTrue e X.env (eval e X.env)) (TP X pins σ Q) X.xe s
def PW (X:Cx)(e:Expr)(t:TT):Prop :=
 ∀(whole:Sem Value)(pins:List (Addr×Obj))(s:Shared)(σ:St)(H:Hp)(Q:Bool->Hp->Prop),Inv X pins σ H s->t σ H Q->wpAny (model X.prog X.w) X.A (isTrue e X.env whole) (TP X pins σ Q) X.xe s
def PA (X:Cx)(es:List Expr)(t:TA):Prop :=
 ∀(pos:Pos)(pins:List (Addr×Obj))(s:Shared)(σ:St)(H:Hp)(Q:List V->Hp->Prop),Inv X pins σ H s->t σ H Q->wpAny (model X.prog X.w) X.A (spliced (backTo pos (starEach es X.env))) (AP X pins σ Q) X.xe s
def PS (X:Cx)(st:Stmt)(t:TS):Prop :=
 ∀(pins:List (Addr×Obj))(s:Shared)(σ:St)(H:Hp)(D:M7),Inv X pins σ H s->t D σ H->wpAny (model X.prog X.w) X.A (exec st X.env) (SP X pins D) X.xe s
def PSs (X:Cx)(st:List Stmt)(t:TS):Prop :=
 ∀(pins:List (Addr×Obj))(s:Shared)(σ:St)(H:Hp)(D:M7),Inv X pins σ H s->t D σ H->wpAny (model X.prog X.w) X.A (execs st X.env) (SP X pins D) X.xe s
theorem thn {α:Type}{t:Sem α}{Q Q':α->Shared->Prop}{M:Model}{A:Around}{E:Value->Shared->Prop}{s:Shared}(h:wpAny M A t Q E s) (hQ:∀a s,Q a s->Q' a s):wpAny M A t Q' E s:=wpAny_mono h hQ fun _ _ x=>x
section
variable {X:Cx}
def Pd (i:Nat):TE:=fun σ H Q=>∃v,σ[i]? = some (some v)/\Q v H
def tC (v:V):TE:=fun _ H Q=>Q v H
theorem T7 {i:Nat}{x:Str}{pos:Pos}(hN:X.N[i]? = some x) (hv:Vis X.env.scope x) (hd:(x==("__debug__":Str))=false:=by decide) (hcd:(x==("__classdict__":Str))=false:=by decide):PE X (.Name x pos) (Pd i):=by
 intro pins s σ H Q I h
 obtain⟨v,e,h⟩:=h
 obtain⟨m,hn,hl⟩:=I.loc
 obtain⟨u,r,l⟩:=hl i x v hN e hv
 have fin:EP X pins σ Q u s:=#[v,H,I,r,h]
 rcases l with⟨hk,hm⟩|⟨hk,c,hc,hcell⟩
 .exact wpAny_Name (wpAny_loadName_local I.ok.kind hk hn hm fin) hd
 .rcases hk with hk|hk
  .exact wpAny_Name (wpAny_loadName_cell I.ok.kind hk hc hcell fin) hd
  .exact wpAny_Name (wpAny_loadName_free I.ok.kind hk hc hcell fin hcd) hd
theorem Ui {i j pos}:PE X (.Constant (.int i) j pos) (tC (.int i)):=fun _ _ _ H _ I h=>wpAny_Constant_int #[.int i,H,I.tok _,#[_,rfl],h]
theorem UZ {b j pos}:PE X (.Constant (.bool b) j pos) (tC (.bl b)):=fun _ _ _ H _ I h=>Constant_bool #[.bl b,H,I,rfl,h]
theorem T5 {j pos}:PE X (.Constant .none j pos) (tC .non):=fun _ _ _ H _ I h=>Constant_none #[.non,H,I,rfl,h]
theorem Vv {x j pos}:PE X (.Constant (.str x) j pos) (tC (.str x)):=fun _ _ _ H _ I h=>Calls.Constant_str #[.str x,H,I.tok _,#[_,rfl],h]
def Gl (X:Cx)(x:Str):Prop:=X.env.kindOf x=some .globalImplicit
theorem JH {E:Value->Shared->Prop}{pins:List (Addr×Obj)}{s:Shared}{σ:St}{H:Hp}{x:Str}{u:Value}{pos:Pos}{Q:Value->Shared->Prop}(I:Inv X pins σ H s) (hg:Gl X x) (hm:X.mg x=some u) (h:Q u s)
 (hd:(x==("__debug__":Str))=false:=by decide):wpAny (model X.prog X.w) X.A (eval (.Name x pos) X.env) Q E s :=
 Calls.Name_function_global I.ok.kind hg (Calls.loadGlobal_global (by rw[I.ok.glob];exact I.mod.glob.keeps I.bk) hm h) hd
theorem GS {E:Value->Shared->Prop}{pins:List (Addr×Obj)}{s:Shared}{σ:St}{H:Hp}{x:Str}{u:Value}{pos:Pos}{Q:Value->Shared->Prop}(I:Inv X pins σ H s) (hg:Gl X x) (hm:X.mg x=none) (hv:bootBuiltins x=some u) (h:Q u s)
 (hn:x≠"__name__":=by decide) (hd:(x==("__debug__":Str))=false:=by decide):wpAny (model X.prog X.w) X.A (eval (.Name x pos) X.env) Q E s:=by
 obtain⟨mb,h1,h2⟩:=I.mod.blt
 exact Calls.Name_function_global I.ok.kind hg (Calls.loadGlobal_builtin (by rw[I.ok.glob];exact I.mod.glob.keeps I.bk) hm (by rw[I.ok.blt];exact h1.keeps I.bk) ((h2 x hn).trans hv) h) hd
theorem Se {x:Str}{v:V}{u:Value}{pos:Pos}(hg:Gl X x) (hm:X.mg x=some u) (r:Cz v u) (hd:(x==("__debug__":Str))=false:=by decide):PE X (.Name x pos) (tC v) :=
 fun _ _ _ H _ I h=>JH I hg hm #[v,H,I,r,h] hd
theorem Su {x:Str}{v:V}{u:Value}{pos:Pos}(hg:Gl X x) (hm:X.mg x=none) (hv:bootBuiltins x=some u) (r:Cz v u) (hn:x≠"__name__":=by decide) (hd:(x==("__debug__":Str))=false:=by decide):PE X (.Name x pos) (tC v) :=
 fun _ _ _ H _ I h=>GS I hg hm hv #[v,H,I,r,h] hn hd
variable {a b:Expr}{ta tb:TE}{pos:Pos}
def tB (t:TE):TT:=fun σ H Q=>t σ H fun x H1=>∃c,x=.bl c/\Q c H1
theorem U7 {e:Expr}{t:TE}(h:PE X e t) (he:∀whole,isTrue e X.env whole=(do let v <-whole;standAt e.pos;holding [v] (truthy v)):=by intro _;rfl):PT X e (tB t):=by
 intro pins s σ H Q I hw
 refine isTrue_plain (thn (h pins s σ H _ I hw) fun v s1 #[x,H1,I1,r1,q1]=>?_) (he _)
 obtain⟨d,rfl,q⟩:=q1
 cases r1
 exact wpAny_truthy_bool #[H1,I1,q]
variable {tA tB':TT}{rest:List Expr}
def X4 (t u:TT):TT:=fun σ H Q=>t σ H fun c H1=>if c=true then u σ H1 Q else Q false H1
def tOr (t u:TT):TT:=fun σ H Q=>t σ H fun c H1=>if c=true then Q true H1 else u σ H1 Q
def XJ (t:TT):TT:=fun σ H Q=>t σ H fun c H1=>Q (!c) H1
theorem SK (ha:PT X a tA):PW X (.BoolOp .And [a] pos) tA:=by
 intro wh pins s σ H Q I h
 refine isTrue_and (thn (ha pins s σ H Q I h) fun c s1 e=>?_)
 cases c with
 |true=>exact isTrue_and_nil e
 |false=>exact e
theorem VI (ha:PT X a tA):PW X (.BoolOp .Or [a] pos) tA:=by
 intro wh pins s σ H Q I h
 refine isTrue_or (thn (ha pins s σ H Q I h) fun c s1 e=>?_)
 cases c with
 |false=>exact isTrue_or_nil e
 |true=>exact e
theorem Vr (ha:PT X a tA)(hb:PW X (.BoolOp .And (b::rest) pos) tB'):PW X (.BoolOp .And (a::b::rest) pos) (X4 tA tB'):=by
 intro wh pins s σ H Q I h
 refine isTrue_and (thn (ha pins s σ H _ I h) fun c s1 hh=>?_)
 obtain⟨H1,I1,q1⟩:=hh
 cases c with
 |true=>exact hb wh pins s1 σ H1 Q I1 q1
 |false=>exact#[H1,I1,q1]
theorem WM (ha:PT X a tA)(hb:PW X (.BoolOp .Or (b::rest) pos) tB'):PW X (.BoolOp .Or (a::b::rest) pos) (tOr tA tB'):=by
 intro wh pins s σ H Q I h
 refine isTrue_or (thn (ha pins s σ H _ I h) fun c s1 hh=>?_)
 obtain⟨H1,I1,q1⟩:=hh
 cases c with
 |true=>exact#[H1,I1,q1]
 |false=>exact hb wh pins s1 σ H1 Q I1 q1
theorem Vp (ha:PT X a tA):PT X (.UnaryOp .Not a pos) (XJ tA):=by
 intro pins s σ H Q I h
 exact isTrue_not (ha pins s σ H (fun c H1=>Q (!c) H1) I h)
def W6 (ta tb:TE):TE:=fun σ H Q=>ta σ H fun x H1=>∃c,x=.bl c/\if c=true then tb σ H1 Q else Q (.bl false) H1
def Wm (ta:TE):TE:=fun σ H Q=>ta σ H fun x H1=>∃c,x=.bl c/\Q (.bl (!c)) H1
theorem Vd {op}{t:TE}(h:PE X a t):PE X (.BoolOp op [a] pos) t:=fun pins s σ H Q I hw=>BoolOp_one (h pins s σ H Q I hw)
theorem Va (ha:PE X a ta)(hb:PE X (.BoolOp .And (b::rest) pos) tb):PE X (.BoolOp .And (a::b::rest) pos) (W6 ta tb):=by
 intro pins s σ H Q I h
 refine BoolOp_and (thn (ha pins s σ H _ I h) fun v s1 hh=>?_)
 obtain⟨x,H1,I1,r1,q1⟩:=hh
 obtain⟨c,rfl,q1⟩:=q1
 cases r1
 refine wpAny_truthy_bool ?_
 cases c with
 |true=>exact hb pins s1 σ H1 Q I1 q1
 |false=>exact#[.bl false,H1,I1,rfl,q1]
theorem U9 (ha:PE X a ta):PE X (.UnaryOp .Not a pos) (Wm ta):=by
 intro pins s σ H Q I h
 refine UnaryOp_ (thn (ha pins s σ H _ I h) fun v s1 hh=>?_)
 obtain⟨x,H1,I1,r1,q1⟩:=hh
 obtain⟨c,rfl,q1⟩:=q1
 cases r1
 exact not_of (wpAny_truthy_bool #[.bl (!c),H1,I1,rfl,q1])
end
def SqL (K:W.Frag)(H:Hp)(a:Addr)(xs:List V):Prop :=
 Rd H a (.lst xs) \/
  ∃(o:Obj)(its:Array Value)(n:Nat),K.lookup a=some o/\o.cls=.type "list"/\o.dict=none/\o.data=.seq its n/\its.size<=sizeLine/\B4 xs its.toList
def SqT (K:W.Frag)(H:Hp)(a:Addr)(xs:List V):Prop :=
 Rd H a (.tup xs) \/
  ∃(o:Obj)(its:Array Value)(n:Nat),K.lookup a=some o/\o.cls=.type "tuple"/\o.data=.seq its n/\its.size<=sizeLine/\B4 xs its.toList
def Xw:Value->Option V
 |.none=>some .non
 |.bool b=>some (.bl b)
 |.int i _=>some (.int i)
 |.str x _=>some (.str x)
 |.bytes b _=>some (.byt b)
 |.float b _=>some (.flt b)
 |.ref a=>some (.ref a)
 |.type n=>some (.ty n)
 |_=>none
theorem Cz.abs {x:V}{u:Value}(r:Cz x u):Xw u=some x:=by
 cases x with
 |non=>cases r;rfl
 |bl _=>cases r;rfl
 |int _=>obtain⟨t,rfl⟩:=r;rfl
 |str _=>obtain⟨t,rfl⟩:=r;rfl
 |byt _=>obtain⟨t,rfl⟩:=r;rfl
 |flt _=>obtain⟨t,rfl⟩:=r;rfl
 |ref _=>cases r;rfl
 |ty _=>cases r;rfl
theorem Cz.inj {x y:V}{u:Value}(r:Cz x u) (q:Cz y u):x=y:=qAl (r.abs.symm.trans q.abs)
theorem B4.inj:∀{xs ys:List V}{us:List Value},B4 xs us->B4 ys us->xs=ys
 |_,_,_,.nil,.nil=>rfl
 |_,_,_,.cons r t,.cons r' t'=>by rw[r.inj r',B4.inj t t']
section
variable {X:Cx}{pins:List (Addr×Obj)}{σ:St}{H:Hp}{s:Shared}{a:Addr}{xs ys:List V}
theorem SqL.of {K:W.Frag}(h:H a=some (.lst xs)):SqL K H a xs:=.inl (.inl h)
theorem SqT.of {K:W.Frag}(h:H a=some (.tup xs)):SqT K H a xs:=.inl (.inl h)
theorem Inv.list (I:Inv X pins σ H s)(h:SqL X.K H a xs):∃its:List Value,B4 xs its/\PlainL s.heap a its.toArray/\xs.length<=sizeLine:=by
 rcases h with h|⟨o,its,n,hk,hc,hd,hs,hz,r⟩
 .obtain⟨z,its,n,r,e⟩:=h.ok I.hok
  exact#[its,r,#[_,n,e,rfl,rfl,rfl],z]
 .refine#[its.toList,r,#[o,n,I.kIn a o hk,hc,hd,by simpa using hs],?_]
  have e:=r.length
  simp only[Array.length_toList] at e
  omega
theorem Inv.tuple (I:Inv X pins σ H s)(h:SqT X.K H a xs):∃its:List Value,B4 xs its/\IsTup s.heap a its.toArray/\xs.length<=sizeLine:=by
 rcases h with h|⟨o,its,n,hk,hc,hs,hz,r⟩
 .obtain⟨z,its,r,p⟩:=h.ok I.hok
  exact#[its,r,p,z]
 .refine#[its.toList,r,#[o,I.kIn a o hk,hc,n,by simpa using hs],?_]
  have e:=r.length
  simp only[Array.length_toList] at e
  omega
theorem Inv.list_inj (I:Inv X pins σ H s)(h:SqL X.K H a xs)(h':SqL X.K H a ys):xs=ys:=by
 obtain⟨its,r,⟨o,n,e,_,_,d⟩,_⟩:=I.list h
 obtain⟨its',r',⟨o',n',e',_,_,d'⟩,_⟩:=I.list h'
 rw[e] at e';cases e'
 rw[d] at d'
 injection d' with d1 _
 have:its=its':=by simpa using congrArg Array.toList d1
 subst this
 exact r.inj r'
theorem Inv.tuple_inj (I:Inv X pins σ H s)(h:SqT X.K H a xs)(h':SqT X.K H a ys):xs=ys:=by
 obtain⟨its,r,⟨o,e,_,n,d⟩,_⟩:=I.tuple h
 obtain⟨its',r',⟨o',e',_,n',d'⟩,_⟩:=I.tuple h'
 rw[e] at e';cases e'
 rw[d] at d'
 injection d' with d1 _
 have:its=its':=by simpa using congrArg Array.toList d1
 subst this
 exact r.inj r'
end
abbrev Cx.wish (X:Cx)(E:Value->Shared->Prop):Cx:={ X with xe:=E }
abbrev Cx.nox (X:Cx):Cx:=X.wish fun _ _=>False
theorem Cx.Ok.wish {X:Cx}(ok:X.Ok) (E:Value->Shared->Prop):(X.wish E).Ok :=
 #[ok.mod,ok.kind,ok.glob,ok.blt,ok.above,ok.inj,ok.has,ok.cab,ok.hd,ok.frames,ok.stk,ok.exf,ok.bs,ok.bsz,ok.noex,ok.exfs,ok.funs,ok.frf,ok.tb]
theorem Cx.Ok.unwish {X:Cx}{E:Value->Shared->Prop}(ok:(X.wish E).Ok):X.Ok :=
 #[ok.mod,ok.kind,ok.glob,ok.blt,ok.above,ok.inj,ok.has,ok.cab,ok.hd,ok.frames,ok.stk,ok.exf,ok.bs,ok.bsz,ok.noex,ok.exfs,ok.funs,ok.frf,ok.tb]
section
variable {X:Cx}{pins:List (Addr×Obj)}{σ:St}{H:Hp}{s:Shared}{E:Value->Shared->Prop}
theorem Inv.wish (I:Inv X pins σ H s)(E:Value->Shared->Prop):Inv (X.wish E) pins σ H s:=#[I.ok.wish E,I.os,I.bare,I.base,I.loc,I.cell,I.free,I.freeC,I.pin,I.hok,I.len]
theorem Inv.unwish (I:Inv (X.wish E) pins σ H s):Inv X pins σ H s:=#[I.ok.unwish,I.os,I.bare,I.base,I.loc,I.cell,I.free,I.freeC,I.pin,I.hok,I.len]
theorem SP.unwish {D:M7}{f:Flow}{s':Shared}(h:SP (X.wish E) pins D f s'):SP X pins D f s':=by
 cases f with
 |next=>obtain⟨σ',H',I,q⟩:=h;exact#[σ',H',I.unwish,q]
 |brk=>obtain⟨σ',H',I,q⟩:=h;exact#[σ',H',I.unwish,q]
 |cont=>obtain⟨σ',H',I,q⟩:=h;exact#[σ',H',I.unwish,q]
 |ret u=>obtain⟨v,σ',H',I,r,q⟩:=h;exact#[v,σ',H',I.unwish,r,q]
theorem PSs.nox {st:List Stmt}{t:TS}(h:PSs X.nox st t):PSs X st t:=fun pins s σ H D I hw =>
 wpAny_mono (h pins s σ H D (I.wish _) hw) (fun _ _ q=>q.unwish) fun _ _ z=>False.elim z
end
section
variable {X:Cx}{st:Stmt}{rest:List Stmt}{t u:TS}{e:Expr}{te:TE}{pos:Pos}
def V9:TS:=fun D σ H=>D.nx σ H
def XN (t u:TS):TS:=fun D σ H=>t { D with nx:=u D } σ H
theorem SO:PSs X [] V9:=fun _ _ σ H _ I h=>wpAny_execs_nil #[σ,H,I,h]
theorem L8 (h1:PS X st t)(h2:PSs X rest u):PSs X (st::rest) (XN t u):=by
 intro pins s σ H D I h
 refine wpAny_execs_cons (thn (h1 pins s σ H { D with nx:=u D } I h) fun f s1 q=>?_)
 cases f with
 |next =>
  obtain⟨σ',H',I',q⟩:=q
  exact h2 pins s1 σ' H' D I' q
 |ret v=>exact q
 |brk=>exact q
 |cont=>exact q
theorem Sm (h1:PS X st t):PSs X [st] t:=by
 intro pins s σ H D I h
 refine wpAny_execs_cons (thn (h1 pins s σ H D I h) fun f s1 q=>?_)
 cases f with
 |next=>exact wpAny_execs_nil q
 |ret v=>exact q
 |brk=>exact q
 |cont=>exact q
theorem Inv.quiet {pins:List (Addr×Obj)}{σ:St}{H:Hp}{s:Shared}(I:Inv X pins σ H s):interactive X.env=false:=by simp[interactive,I.ok.kind]
def Um (te:TE):TS:=fun D σ H=>te σ H fun _ H1=>D.nx σ H1
theorem Bq (he:PE X e te)(hs:swapsWith e none pos.line X.env=pure false:=by rfl):PS X (.Expr e pos) (Um te):=by
 intro pins s σ H D I h
 exact wpAny_Expr_any (thn (he pins s σ H _ I h) fun v s1 #[x,H1,I1,r1,q1]=>#[σ,H1,I1,q1]) I.quiet hs
def X5 (te:TE):TS:=fun D σ H=>te σ H D.rt
theorem Rg (he:PE X e te):PS X (.Return (some e) pos) (X5 te):=by
 intro pins s σ H D I h
 exact wpAny_Return_some (thn (he pins s σ H _ I h) fun v s1 #[x,H1,I1,r1,q1]=>#[x,σ,H1,I1,r1,q1])
def Yc (c:TT)(t u:TS):TS:=fun D σ H=>c σ H fun b H1=>if b=true then t D σ H1 else u D σ H1
theorem WD {c:Expr}{a b:List Stmt}{tc:TT}(hc:PT X c tc) (ha:PSs X a t) (hb:PSs X b u):PS X (.If c a b pos) (Yc tc t u):=by
 intro pins s σ H D I h
 refine wpAny_If (thn (hc pins s σ H _ I h) fun d s1 hh=>?_)
 obtain⟨H1,I1,q1⟩:=hh
 cases d with
 |true=>exact ha pins s1 σ H1 D I1 q1
 |false=>exact hb pins s1 σ H1 D I1 q1
def T8:TS:=fun _ _ _=>False
theorem QA:PS X st T8:=fun _ _ _ _ _ _ h=>h.elim
end
abbrev TG:=V->St->Hp->(St->Hp->Prop)->Prop
abbrev TGs:=List V->St->Hp->(St->Hp->Prop)->Prop
def PG (X:Cx)(target:Expr)(t:TG):Prop :=
 ∀(pins:List (Addr×Obj))(s:Shared)(σ:St)(H:Hp)(v:V)(u:Value)(Q:St->Hp->Prop),Inv X pins σ H s->Cz v u->t v σ H Q ->
  wpAny (model X.prog X.w) X.A (assign target X.env u) (fun _ s'=>∃σ' H',Inv X pins σ' H' s'/\Q σ' H') X.xe s
def PGs (X:Cx)(ts:List Expr)(t:TGs):Prop :=
 ∀(pins:List (Addr×Obj))(s:Shared)(σ:St)(H:Hp)(vs:List V)(us:List Value)(Q:St->Hp->Prop),Inv X pins σ H s->B4 vs us->t vs σ H Q ->
  wpAny (model X.prog X.w) X.A (assignInOrder ((assignEach ts X.env).map (·.2)) us) (fun _ s'=>∃σ' H',Inv X pins σ' H' s'/\Q σ' H') X.xe s
abbrev TIp:=V->V->Hp->VK->Prop
def PIp (X:Cx)(op:Operator)(t:TIp):Prop :=
 ∀(pins:List (Addr×Obj))(s:Shared)(σ:St)(H:Hp)(x y:V)(v u:Value)(Q:VK),Inv X pins σ H s->Cz x v->Cz y u->t x y H Q ->
  wpAny (model X.prog X.w) X.A (inplaceOp op v u) (EP X pins σ Q) X.xe s
section
variable {X:Cx}{pos:Pos}
def El (i:Nat):TG:=fun v σ H Q=>Q (σ.set i (some v)) H
theorem A9 {i:Nat}{x:Str}(hN:X.N.Nodup) (hi:X.N[i]? = some x) (hx:Loc X.env.scope x) (hf:X.fn x=true\/X.env.scope.names.lookup x=some .local:=by first|exact .inl rfl|exact .inr rfl|assumption):PG X (.Name x pos) (El i):=by
 intro pins s σ H v u Q I r h
 exact wpAny_assign_Name (Hl I hN hi hx r (fun s' I'=>#[_,H,I',h]) hf)
def VX:TGs:=fun vs σ H Q=>vs=[]/\Q σ H
def N2 (t:TG)(u:TGs):TGs:=fun vs σ H Q=>∃v r,vs=v::r/\t v σ H fun σ' H'=>u r σ' H' Q
theorem Of:PGs X [] VX:=by
 intro pins s σ H vs us Q I r h
 obtain⟨e,h⟩:=h
 subst e
 cases r
 exact assignInOrder_nil #[σ,H,I,h]
theorem Hj {e:Expr}{es:List Expr}{t:TG}{u:TGs}(h1:PG X e t) (h2:PGs X es u)
 (hs:(assignEach (e::es) X.env).map (·.2)=assign e X.env::(assignEach es X.env).map (·.2):=by rfl):PGs X (e::es) (N2 t u):=by
 intro pins s σ H vs us Q I r h
 obtain⟨v,vr,e1,h⟩:=h
 subst e1
 cases r with
 |cons r rr =>
  rw[hs]
  refine assignInOrder_cons (thn (h1 pins s σ H _ _ _ I r h) fun _ s1 hh=>?_)
  obtain⟨σ1,H1,I1,q1⟩:=hh
  exact h2 pins s1 σ1 H1 _ _ Q I1 rr q1
def VZ (K:W.Frag)(n:Nat)(t:TGs):TG:=fun v σ H Q=>∃a xs,v=.ref a/\SqT K H a xs/\xs.length=n/\t xs σ H Q
theorem Ri {es:List Expr}{k:Nat}{t:TGs}{n:Nat}(hc:X.calm=true) (h:PGs X es t)
 (hn:(assignEach es X.env).length=n:=by rfl) (hst:(assignEach es X.env).findIdx? (·.1)=none:=by rfl):PG X (.Tuple es k pos) (VZ X.K n t):=by
 intro pins s σ H v u Q I r hw
 obtain⟨a,xs,e1,hq,hl,hw⟩:=hw
 subst e1
 cases r
 obtain⟨its,rv,ht,hz⟩:=I.tuple hq
 refine assign_Tuple_tuple (I.ok.hd hc) ht (by simp[hn,<-hl,rv.length]) hst fun h' hx=>?_
 have I1:Inv X pins σ H { s with heap:=h' }:=I.kept (t':=s.toks) fun b o e=>hx b o (qAq (qAi e)) e
 exact h pins _ σ H xs _ Q I1 (by simpa using rv) hw
def XM (te:TE)(g:TG):TS:=fun D σ H=>te σ H fun x H1=>g x σ H1 D.nx
theorem T6 {i:Nat}{x:Str}{e:Expr}{te:TE}{pos':Pos}(hN:X.N.Nodup) (hi:X.N[i]? = some x) (hx:Loc X.env.scope x) (he:PE X e te) (hs:swapsWith e (some (.Name x pos')) pos.line X.env=pure false:=by rfl) (hf:X.fn x=true\/X.env.scope.names.lookup x=some .local:=by first|exact .inl rfl|exact .inr rfl|assumption) :
 PS X (.Assign [.Name x pos'] e pos) (XM te (El i)):=by
 intro pins s σ H D I h
 refine wpAny_Assign_Name (thn (he pins s σ H _ I h) fun v s1 #[y,H1,I1,r1,q1]=>?_) hs
 exact Hl I1 hN hi hx r1 (fun s2 I2=>#[_,H1,I2,q1]) hf
def Xx (i:Nat)(te:TE)(ti:TIp):TS:=fun D σ H=>∃x,σ[i]? = some (some x)/\te σ H fun y H1=>ti x y H1 fun z H2=>D.nx (σ.set i (some z)) H2
theorem U5 {i:Nat}{x:Str}{e:Expr}{te:TE}{op:Operator}{ti:TIp}{pos':Pos}(hN:X.N.Nodup) (hi:X.N[i]? = some x) (hx:Loc X.env.scope x) (he:PE X e te) (ho:PIp X op ti) (hf:X.fn x=true\/X.env.scope.names.lookup x=some .local:=by first|exact .inl rfl|exact .inr rfl|assumption) :
 PS X (.AugAssign (.Name x pos') op e pos) (Xx i te ti):=by
 intro pins s σ H D I h
 obtain⟨v,e1,h⟩:=h
 obtain⟨m,hn,hl⟩:=I.loc
 have vis:Vis X.env.scope x:=by rcases hx with k|k;exact .inl k;exact .inr (.inl k)
 obtain⟨u,r,l⟩:=hl i x v hi e1 vis
 refine wpAny_AugAssign_Name ?_
 have go:wpAny (model X.prog X.w) X.A (eval e X.env) (fun w s₂=>wpAny (model X.prog X.w) X.A (inplaceOp op u w) (fun r s₃=>wpAny (model X.prog X.w) X.A (storeName X.env x r) (fun _=>SP X pins D .next) X.xe s₃) X.xe s₂) X.xe s:=by
  refine thn (he pins s σ H _ I h) fun w s1 hh=>?_
  obtain⟨y,H1,I1,r1,q1⟩:=hh
  refine thn (ho pins s1 σ H1 v y u w _ I1 r r1 q1) fun z s2 hh=>?_
  obtain⟨zv,H2,I2,r2,q2⟩:=hh
  exact Hl I2 hN hi hx r2 (fun s3 I3=>#[_,H2,I3,q2]) hf
 rcases l with⟨hk,hm⟩|⟨hk,c,hc,hcell⟩
 .exact wpAny_loadName_local I.ok.kind hk hn hm go
 .rcases hk with hk|hk
  .exact wpAny_loadName_cell I.ok.kind hk hc hcell go
  .rcases hx with k|k
   .have:X.env.scope.names.lookup x=some .free:=hk
    rw[k] at this;cases this
   .have:X.env.scope.names.lookup x=some .free:=hk
    rw[k] at this;cases this
def ipI (f:Int->Int->Int):TIp:=fun x y H Q=>∃i j,x=.int i/\y=.int j/\Q (.int (f i j)) H
theorem Uc:PIp X .Add (ipI fun i j=>i+j):=by
 intro pins s σ H x y v u Q I r1 r2 h
 obtain⟨i,j,e1,e2,q⟩:=h
 subst e1;subst e2
 obtain⟨t,rfl⟩:=r1
 obtain⟨t',rfl⟩:=r2
 exact iadd_int #[.int _,H,I.tok _,#[_,rfl],q]
end
section
variable {X:Cx}{pos:Pos}
def Uw (c:TT)(tb:TS):TS:=fun D σ H=>∃W:Nat->St->Hp->Prop,(∃m,W m σ H)/\∀m σ H,W m σ H ->
 c σ H fun b H1=>if b=true then ∃N:St->Hp->Prop,(∀σ' H',N σ' H'->∃m',m'<m/\W m' σ' H')/\tb { D with nx:=N,ct:=N,bk:=D.nx } σ H1 else D.nx σ H1
theorem Qd {c:Expr}{body:List Stmt}{tc:TT}{tb:TS}(hp:PassesOwn (model X.prog X.w) X.A X.env X.xe) (hc:PT X c tc) (hb:PSs X body tb):PS X (.While c body [] pos) (Uw tc tb):=by
 intro pins s σ H D I h
 obtain⟨W,⟨m0,w0⟩,turn⟩:=h
 refine wpAny_While (codeAny_whileLoop (fun n s'=>∃σ' H',Inv X pins σ' H' s'/\W n σ' H') ?_ m0 #[σ,H,I,w0])
 rintro n s1 ⟨σ1,H1,I1,w1⟩
 refine wpAny_passesOwn hp (thn (hc pins s1 σ1 H1 _ I1 (turn n σ1 H1 w1)) fun b s2 hh=>?_)
 obtain⟨H2,I2,q2⟩:=hh
 cases b with
 |true =>
  obtain⟨N,hN,q2⟩:=q2
  rw[if_pos rfl]
  refine wpAny_passesOwn hp (thn (hb pins s2 σ1 H2 _ I2 q2) fun f s3 q3=>?_)
  cases f with
  |next =>
   obtain⟨σ3,H3,I3,n3⟩:=q3
   obtain⟨m',hm,w3⟩:=hN σ3 H3 n3
   exact#[m',hm,σ3,H3,I3,w3]
  |cont =>
   obtain⟨σ3,H3,I3,n3⟩:=q3
   obtain⟨m',hm,w3⟩:=hN σ3 H3 n3
   exact#[m',hm,σ3,H3,I3,w3]
  |brk=>exact q3
  |ret v=>exact q3
 |false =>
  rw[if_neg qAn]
  exact wpAny_execs_nil #[σ1,H2,I2,q2]
end
structure It where
 go:Nat->Hp->Prop
 yld:Nat->Hp->V->Hp->Prop
 stop:Nat->Hp->Prop
def MR (X:Cx)(pins:List (Addr×Obj))(H:Hp)(b:Addr):Prop :=
 H b=none/\b≠X.env.locals/\b∉X.fs/\(b∈X.ex\/X.s₀.heap.objs.size<=b)/\(∀x c,X.env.cells.lookup x=some c->c≠b)/\∀p∈X.pn++pins,p.1≠b
theorem Inv.fpOk {X:Cx}{pins:List (Addr×Obj)}{σ:St}{H H':Hp}{s:Shared}{b:Addr}(I:Inv X pins σ H s) (hb:s.heap.objs.size<=b) (hn:H' b=none):MR X pins H' b:=by
 refine#[hn,qBl (qAm I.lt hb),I.nofs hb,.inr (qAJ I.sz hb),fun x c e z=>?_,fun p hp z=>?_]
 .obtain⟨v,q⟩:=I.cell x c e
  exact absurd (qAm q.lt (by rw[z];exact hb)) (qAY _)
 .exact absurd (qAm (qAi (I.pin p hp).1) (by rw[z];exact hb)) (qAY _)
structure Q9 (P:Program)(w:World)(K:W.Frag)(tg:Expr)(J:It)(fp:List Addr)(it:Addr)(tn:Nat->Heap->Prop):Prop where
 mem:it∈fp
 obj:∀i h,tn i h->∀b∈fp,∃o,h.get? b=some o/\∀v,o.data≠.cell v
 keep:∀i h h',tn i h->(∀b∈fp,∀o,h.get? b=some o->h'.get? b=some o)->tn i h'
 item:∀(X:Cx),X.prog=P->X.w=w->X.K=K->X.calm=true->∀(i:Nat)(pins:List (Addr×Obj))(s:Shared)(σ:St)(H:Hp)(E:Value->Shared->Prop),Inv X pins σ H s->(∀b∈fp,MR X pins H b)->tn i s.heap->J.go i H ->
  wpAny (model P w) X.A (pyNext (.ref it)) (fun r s1=>∃u,r=some u /\
   wpAny (model P w) X.A (letOwnedTupleGo tg (.ref it) u) (fun _ s2=>∃x H',Inv X pins σ H' s2/\Cz x u/\J.yld i H x H'/\tn (i+1) s2.heap/\∀b∈fp,H' b=none) E s1) E s
 done:∀(X:Cx),X.prog=P->X.w=w->X.K=K->X.calm=true->∀(i:Nat)(pins:List (Addr×Obj))(s:Shared)(σ:St)(H:Hp)(E:Value->Shared->Prop),Inv X pins σ H s->(∀b∈fp,MR X pins H b)->tn i s.heap->J.stop i H ->
  wpAny (model P w) X.A (pyNext (.ref it)) (fun r s1=>r=none/\Inv X pins σ H s1) E s
 self:∀(A:Around)(i:Nat)(s:Shared)(Q:Value->Shared->Prop)(E:Value->Shared->Prop),tn i s.heap->Q (.ref it) s->wpAny (model P w) A (pyIter (.ref it)) Q E s
abbrev TI:=St->Hp->(It->Hp->Prop)->Prop
def PIE (X:Cx)(pins:List (Addr×Obj))(σ:St)(tg:Expr)(R:It->Hp->Prop)(itv:Value)(s2:Shared):Prop :=
 ∃(it:Addr)(fp:List Addr)(tn:Nat->Heap->Prop)(J:It)(H':Hp),itv=.ref it/\Inv X pins σ H' s2/\Q9 X.prog X.w X.K tg J fp it tn/\tn 0 s2.heap/\(∀b∈fp,MR X pins H' b)/\R J H'
def PI (X:Cx)(tg iter:Expr)(wi:TI):Prop :=
 ∀(pins:List (Addr×Obj))(s:Shared)(σ:St)(H:Hp)(R:It->Hp->Prop),Inv X pins σ H s->wi σ H R ->
  wpAny (model X.prog X.w) X.A (eval iter X.env) (fun v s1=>wpAny (model X.prog X.w) X.A (pyIter v) (PIE X pins σ tg R) X.xe s1) X.xe s
theorem S8 {M:Model}{A:Around}{E:Value->Shared->Prop}{s:Shared}{tg:Expr}{it:Addr}{u:Value}{o:Obj}{n:String}{vs:Array Value}{Q:Unit->Shared->Prop}(ho:s.heap.get? it=some o) (hc:o.cls=.type n) (hd:o.data=.fields vs)
 (hn:["enumerate","zip","dict_itemiterator","dict_reverseitemiterator","odict_iterator","itertools.zip_longest","itertools.pairwise"].contains n=false) (hQ:Q Unit.unit s):wpAny M A (letOwnedTupleGo tg (.ref it) u) Q E s:=by
 unfold letOwnedTupleGo
 cases tg<;>first
  |exact wpAny_pure hQ
  |(cases u<;>first
   |exact wpAny_pure hQ
   |(refine wpAny_bind (wpAny_load ho ?_)
     rw[hc,hd]
     show wpAny M A (if (["enumerate","zip","dict_itemiterator","dict_reverseitemiterator","odict_iterator","itertools.zip_longest","itertools.pairwise"].contains n&&vs[0]? == some (rawInt _))=true then _ else _) Q E s
     rw[if_neg (by intro h;rw[hn,Bool.false_and] at h;cases h)]
     exact wpAny_pure hQ))
def Itl (K:W.Frag)(a:Addr):It :=
 #[fun i H=>∃xs x,SqL K H a xs/\xs[i]? = some x,fun i H x H'=>H'=H/\∀xs,SqL K H a xs->xs[i]? = some x,fun i H=>∃xs,SqL K H a xs/\xs.length<=i]
def Itt (K:W.Frag)(a:Addr):It :=
 #[fun i H=>∃xs x,SqT K H a xs/\xs[i]? = some x,fun i H x H'=>H'=H/\∀xs,SqT K H a xs->xs[i]? = some x,fun i H=>∃xs,SqT K H a xs/\xs.length<=i]
def Itr (lo:Int)(n:Nat):It:=#[fun i _=>i<n,fun i H x H'=>H'=H/\x=.int (lo+i),fun i _=>n<=i]
theorem N9 {P:Program}{w:World}{K:W.Frag}{tg:Expr}(a it:Addr):Q9 P w K tg (Itl K a) [it] it (fun i h=>h.IsListIter it a i) where
 mem:=by simp
 obj:=fun i h st b hb=>by
  have e:b=it:=by simpa using hb
  subst e
  obtain⟨o,e,c,d⟩:=st
  exact#[o,e,fun v z=>by rw[d] at z;cases z]
 keep:=fun i h h' st k=>st.at fun o e=>k it (by simp) o e
 item:=by
  intro X hP hw hK hc i pins s σ H E I hf st hg
  subst hP hw hK
  obtain⟨xs,x,hq,hx⟩:=hg
  obtain⟨its,rv,p,hz⟩:=I.list hq
  obtain⟨u,hu,ru⟩:=rv.get hx
  obtain⟨f0,f1,f2,f3,f4,f5⟩:=hf it (by simp)
  refine wpAny_pyNext_list_item st p.isList (x:=u) (by simpa using hu) fun h' st' sb=>?_
  have I1:Inv X pins σ H { s with heap:=h' }:=I.turned (t':=s.toks) (fun b o hb e=>(sb.2 b hb).trans e) f0 f1 f3 f4 f5
  obtain⟨o,e,c,d⟩:=id st'
  exact#[u,rfl,S8 (s:={ s with heap:=h' }) e c d ∅ #[x,H,I1,ru,#[rfl,fun ys hy=>by rw[I.list_inj hy hq];exact hx],st',fun b hb=>(hf b hb).1]]
 done:=by
  intro X hP hw hK hc i pins s σ H E I hf st hg
  subst hP hw hK
  obtain⟨xs,hq,hx⟩:=hg
  obtain⟨its,rv,p,hz⟩:=I.list hq
  obtain⟨f0,f1,f2,f3,f4,f5⟩:=hf it (by simp)
  have hl:=rv.length
  exact wpAny_pyNext_list_end (I.ok.hd hc) st p.isList (by simp;omega) fun h' eb=>#[rfl,I.turned (t':=s.toks) (fun b o hb e=>eb b o hb e) f0 f1 f3 f4 f5]
 self:=fun _ _ _ _ _ st h=>wpAny_pyIter_listiter st h
theorem Nw {P:Program}{w:World}{K:W.Frag}{tg:Expr}(a it:Addr):Q9 P w K tg (Itt K a) [it] it (fun i h=>h.IsTupleIter it a i) where
 mem:=by simp
 obj:=fun i h st b hb=>by
  have e:b=it:=by simpa using hb
  subst e
  obtain⟨o,e,c,d⟩:=st
  exact#[o,e,fun v z=>by rw[d] at z;cases z]
 keep:=fun i h h' st k=>st.at fun o e=>k it (by simp) o e
 item:=by
  intro X hP hw hK hc i pins s σ H E I hf st hg
  subst hP hw hK
  obtain⟨xs,x,hq,hx⟩:=hg
  obtain⟨its,rv,p,hz⟩:=I.tuple hq
  obtain⟨u,hu,ru⟩:=rv.get hx
  obtain⟨f0,f1,f2,f3,f4,f5⟩:=hf it (by simp)
  refine wpAny_pyNext_tuple_item st (show s.heap.IsTuple a its.toArray from p) (x:=u) (by simpa using hu) fun h' st' sb=>?_
  have I1:Inv X pins σ H { s with heap:=h' }:=I.turned (t':=s.toks) (fun b o hb e=>(sb.2 b hb).trans e) f0 f1 f3 f4 f5
  obtain⟨o,e,c,d⟩:=id st'
  exact#[u,rfl,S8 (s:={ s with heap:=h' }) e c d ∅ #[x,H,I1,ru,#[rfl,fun ys hy=>by rw[I.tuple_inj hy hq];exact hx],st',fun b hb=>(hf b hb).1]]
 done:=by
  intro X hP hw hK hc i pins s σ H E I hf st hg
  subst hP hw hK
  obtain⟨xs,hq,hx⟩:=hg
  obtain⟨its,rv,p,hz⟩:=I.tuple hq
  obtain⟨f0,f1,f2,f3,f4,f5⟩:=hf it (by simp)
  have hl:=rv.length
  exact wpAny_pyNext_tuple_end (I.ok.hd hc) st (show s.heap.IsTuple a its.toArray from p) (by simp;omega) fun h' eb=>#[rfl,I.turned (t':=s.toks) (fun b o hb e=>eb b o hb e) f0 f1 f3 f4 f5]
 self:=fun _ _ _ _ _ st h=>wpAny_pyIter_tupleiter st h
theorem MU {P:Program}{w:World}{K:W.Frag}{tg:Expr}(it:Addr) (lo:Int) (n:Nat):Q9 P w K tg (Itr lo n) [it] it (fun i h=>IsRangeIter h it (lo+(i:Nat)*1) ((n:Int)-(i:Nat)) 1) where
 mem:=by simp
 obj:=fun i h st b hb=>by
  have e:b=it:=by simpa using hb
  subst e
  exact#[_,st,fun v z=>by
   have z':Data.fields _=Data.cell v:=z
   cases z']
 keep:=fun i h h' st k=>k it (by simp) _ st
 item:=by
  intro X hP hw hK hc i pins s σ H E I hf st hg
  subst hP hw hK
  obtain⟨f0,f1,f2,f3,f4,f5⟩:=hf it (by simp)
  have W:=Walks.range (prog:=X.prog) (w:=X.w) (I.ok.hd hc) it lo 1 n
  refine W.item i s _ _ hg st fun v h' tk hv st' kk=>?_
  obtain⟨t,rfl⟩:=hv
  have I1:Inv X pins σ H { s with heap:=h',toks:=tk }:=I.turned (fun b o hb e=>kk b o (by simpa using hb) e) f0 f1 f3 f4 f5
  refine#[_,rfl,S8 (s:={ s with heap:=h',toks:=tk }) (n:="range_iterator") st' rfl rfl ∅ #[.int (lo+i),H,I1,#[t,?_],#[rfl,rfl],st',fun b hb=>(hf b hb).1]]
  rw[qCw]
 done:=by
  intro X hP hw hK hc i pins s σ H E I hf st hg
  subst hP hw hK
  obtain⟨f0,f1,f2,f3,f4,f5⟩:=hf it (by simp)
  exact wpAny_pyNext_range_end (I.ok.hd hc) st (by have:n<=i:=hg;omega) fun h' eb=>#[rfl,I.turned (t':=s.toks) (fun b o hb e=>eb b o hb e) f0 f1 f3 f4 f5]
 self:=fun _ _ _ _ _ st h=>wpAny_pyIter_rangeiter st h
section
variable {X:Cx}{tg:Expr}
theorem Ma {pins:List (Addr×Obj)}{σ:St}{H:Hp}{s:Shared}{R:It->Hp->Prop}{E:Value->Shared->Prop}{lo hi:Int}{t u v:Tok}{tk:Nat}(I:Inv X pins σ H s) (h1:-(2^62)<=lo) (h2:lo<2^62) (h3:-(2^62)<=hi) (h4:hi<2^62)
 (q:R (Itr lo (hi-lo).toNat) H):wpAny (model X.prog X.w) X.A (pyIter (.ref s.heap.objs.size)) (PIE X pins σ tg R) E { s with heap:=s.heap.push { cls:=.type "range",data:=.fields (List.toArray [.int lo t,.int hi u,.int 1 v]) },toks:=tk }:=by
 refine wpAny_pyIter_range (IsRange.new ..) (small_one h1 h2 h3 h4) ?_
 have I1:Inv X pins σ H { s with heap:=s.heap.push { cls:=.type "range",data:=.fields (List.toArray [.int lo t,.int hi u,.int 1 v]) },toks:=tk }:=I.kept fun b o e=>qAh _ e
 refine#[(s.heap.push { cls:=.type "range",data:=.fields (List.toArray [.int lo t,.int hi u,.int 1 v]) }).objs.size,[(s.heap.push { cls:=.type "range",data:=.fields (List.toArray [.int lo t,.int hi u,.int 1 v]) }).objs.size],_,_,H,rfl,
  I1.kept (t':=tk) fun b o e=>qAh _ e,MU _ lo (hi-lo).toNat,?_,fun b hb=>?_,q]
 .have e1:lo+((0:Nat):Int)*1=lo:=by simp
  have e2:(((hi-lo).toNat:Nat):Int)-((0:Nat):Int)=Builtin.Range.rangeSize lo hi 1:=by rw[rangeSize_one];split<;>omega
  show IsRangeIter _ _ (lo+((0:Nat):Int)*1) ((((hi-lo).toNat:Nat):Int)-((0:Nat):Int)) 1
  rw[e1,e2]
  exact qAu _ rfl
 .have e:b=(s.heap.push { cls:=.type "range",data:=.fields (List.toArray [.int lo t,.int hi u,.int 1 v]) }).objs.size:=by simpa using hb
  subst e
  exact I1.fpOk (qAe _) (I1.hok.fresh (qAe _))
def Ud (ta:TA):TI:=fun σ H R=>ta σ H fun vs H1=>∃j:Int,vs=[.int j]/\-(2^62)<=j/\j<2^62/\R (Itr 0 j.toNat) H1
def TK (ta:TA):TI:=fun σ H R=>ta σ H fun vs H1=>∃i j:Int,vs=[.int i,.int j]/\(-(2^62)<=i/\i<2^62/\-(2^62)<=j/\j<2^62)/\R (Itr i (j-i).toNat) H1
theorem N1 {a:Expr}{ta:TA}{p pos:Pos}(hg:Gl X "range") (hm:X.mg "range"=none) (ha:PA X [a] ta) (hs:starEach [a] X.env=[(false,eval a X.env)]:=by rfl):PI X tg (.Call (.Name "range" p) [a] [] pos) (Ud ta):=by
 intro pins s σ H R I h
 refine Call_ (GS I hg hm boot_range (qA5 (thn (ha pos pins s σ H _ I h) fun us s1 #[vs,H1,I1,r1,q1]=>?_) hs rfl))
 obtain⟨j,e,q1,q2,q⟩:=q1
 subst e
 cases r1 with
 |cons r rr =>
  cases rr
  obtain⟨t,rfl⟩:=r
  exact call_range_1 (Ma I1 () () q1 q2 (by simpa using q))
theorem CG {a b:Expr}{ta:TA}{p pos:Pos}(hg:Gl X "range") (hm:X.mg "range"=none) (ha:PA X [a,b] ta) (hs:starEach [a,b] X.env=[(false,eval a X.env),(false,eval b X.env)]:=by rfl) (hs2:starEach [b] X.env=[(false,eval b X.env)]:=by rfl) :
 PI X tg (.Call (.Name "range" p) [a,b] [] pos) (TK ta):=by
 intro pins s σ H R I h
 refine Call_ (GS I hg hm boot_range (qA5 (thn (ha pos pins s σ H _ I h) fun us s1 #[vs,H1,I1,r1,q1]=>?_) (by rw[hs,hs2]) (by rw[hs2];rfl)))
 obtain⟨i,j,e,⟨q1,q2,q3,q4⟩,q⟩:=q1
 subst e
 cases r1 with
 |cons r rr =>
  cases rr with
  |cons r' rr =>
   cases rr
   obtain⟨t,rfl⟩:=r
   obtain⟨t',rfl⟩:=r'
   exact call_range_2 (Ma I1 q1 q2 q3 q4 q)
def Sw (wi:TI)(g:TG)(tb:TS):TS:=fun D σ H=>wi σ H fun J H1=>∃W:Nat->Nat->St->Hp->Prop,(∃m,W 0 m σ H1)/\∀i m σ H,W i m σ H ->
 (J.stop i H/\D.nx σ H)\/(J.go i H/\∃N:St->Hp->Prop,(∀σ' H',N σ' H'->∃m',m'<m/\W (i+1) m' σ' H')/\∀x H',J.yld i H x H'->g x σ H' fun σ2 H2=>tb { D with nx:=N,ct:=N,bk:=D.nx } σ2 H2)
def Js (fp:List Addr)(h:Heap):List (Addr×Obj):=fp.filterMap fun b=>(h.get? b).map fun o=>(b,o)
theorem C0 {fp:List Addr}{h:Heap}{b:Addr}{o:Obj}(hb:b∈fp) (e:h.get? b=some o):(b,o)∈Js fp h:=qBR.mpr #[b,hb,by rw[e];rfl]
theorem Pj {fp:List Addr}{h:Heap}{p:Addr×Obj}(hp:p∈Js fp h):p.1∈fp/\h.get? p.1=some p.2:=by
 obtain⟨b,hb,e⟩:=qBR.mp hp
 cases q:h.get? b with
 |none=>rw[q] at e;cases e
 |some o =>
  rw[q] at e
  have e':(b,o)=p:=qAl e
  subst e'
  exact#[hb,q]
theorem Inv.pinned {pins:List (Addr×Obj)}{σ:St}{H:Hp}{s:Shared}{fp:List Addr}(I:Inv X pins σ H s) (hf:∀b∈fp,MR X pins H b) (ho:∀b∈fp,∃o,s.heap.get? b=some o/\∀v,o.data≠.cell v):Inv X (pins++Js fp s.heap) σ H s :=
 I.pins_of fun p hp=>(qAo.mp hp).elim (fun z=>I.pin p (qAw _ z)) fun z=>by
  obtain⟨hb,e⟩:=Pj z
  obtain⟨f0,f1,f2,_⟩:=hf p.1 hb
  obtain⟨o,e',d⟩:=ho p.1 hb
  rw[e] at e';cases e'
  exact#[e,f0,f1,f2,d]
theorem Inv.unpinned {pins pl:List (Addr×Obj)}{σ:St}{H:Hp}{s:Shared}(I:Inv X (pins++pl) σ H s):Inv X pins σ H s:=I.pins_of fun p hp=>I.pin p (qAw _ (qAZ _ hp))
theorem Cb {iter:Expr}{body:List Stmt}{wi:TI}{g:TG}{tb:TS}{pos:Pos}(hp:PassesOwn (model X.prog X.w) X.A X.env X.xe) (hc:X.calm=true) (hi:PI X tg iter wi) (hg:PG X tg g) (hb:PSs X body tb)
 (hs:∀x,foldedSetIterable iter X.env x=pure x:=by intro _;rfl):PS X (.For tg iter body [] pos) (Sw wi g tb):=by
 intro pins s σ H D I h
 refine wpAny_For (thn (hi pins s σ H _ I h) fun v s1 h1=>thn h1 fun itv s2 h2=>?_) hs
 obtain⟨it,fp,tn,J,H2,e,I2,T,st2,f2,W,⟨m0,w0⟩,turn⟩:=h2
 subst e
 have stat:∀{H':Hp},(∀b∈fp,H' b=none)->∀b∈fp,MR X pins H' b:=fun hn b hb=>#[hn b hb,(f2 b hb).2]
 refine codeAny_forLoop_any (fun n s'=>∃i σ' H',Inv X pins σ' H' s'/\tn i s'.heap/\(∀b∈fp,H' b=none)/\W i n σ' H') ?_ m0 #[0,σ,H2,I2,st2,fun b hb=>(f2 b hb).1,w0]
 rintro n s3 ⟨i,σ3,H3,I3,st3,fr3,w3⟩
 rcases turn i n σ3 H3 w3 with⟨stop,qn⟩|⟨go,N,hN,step⟩
 .refine wpAny_passesOwn hp (thn (T.done X rfl rfl rfl hc i pins s3 σ3 H3 X.xe I3 (stat fr3) st3 stop) fun r s4 hh=>?_)
  obtain⟨hr,I4⟩:=hh
  subst hr
  exact wpAny_execs_nil #[σ3,H3,I4,qn]
 .refine wpAny_passesOwn hp (thn (T.item X rfl rfl rfl hc i pins s3 σ3 H3 X.xe I3 (stat fr3) st3 go) fun r s4 hh=>?_)
  obtain⟨u,hr,h4⟩:=hh
  subst hr
  refine wpAny_passesOwn hp (thn h4 fun _ s5 hh=>?_)
  obtain⟨x,H5,I5,r5,y5,st5,fr5⟩:=hh
  have I5':=I5.pinned (stat fr5) (T.obj _ _ st5)
  refine wpAny_passesOwn hp (thn (hg _ s5 σ3 H5 x u _ I5' r5 (step x H5 y5)) fun _ s6 hh=>?_)
  obtain⟨σ6,H6,I6,q6⟩:=hh
  refine wpAny_passesOwn hp (thn (hb _ s6 σ6 H6 _ I6 q6) fun f s7 q7=>?_)
  have again:∀{σ7:St}{H7:Hp},Inv X (pins++Js fp s5.heap) σ7 H7 s7->N σ7 H7->∃m,m<n/\∃i σ' H',Inv X pins σ' H' s7/\tn i s7.heap/\(∀b∈fp,H' b=none)/\W i m σ' H':=fun {σ7 H7} I7 n7=>by
   obtain⟨m',hm,w7⟩:=hN σ7 H7 n7
   refine#[m',hm,i+1,σ7,H7,I7.unpinned,T.keep _ _ _ st5 fun b hb o e=>(I7.pin (b,o) (qAw _ (qAw _ (C0 hb e)))).1,fun b hb=>?_,w7]
   obtain⟨o,e,d⟩:=T.obj _ _ st5 b hb
   exact(I7.pin (b,o) (qAw _ (qAw _ (C0 hb e)))).2.1
  cases f with
  |next=>obtain⟨σ7,H7,I7,n7⟩:=q7;exact again I7 n7
  |cont=>obtain⟨σ7,H7,I7,n7⟩:=q7;exact again I7 n7
  |brk=>obtain⟨σ7,H7,I7,q7⟩:=q7;exact#[σ7,H7,I7.unpinned,q7]
  |ret v=>obtain⟨x7,σ7,H7,I7,r7,q7⟩:=q7;exact#[x7,σ7,H7,I7.unpinned,r7,q7]
end
theorem P2 {K:W.Frag}{a:Addr}{xs:List V}{g:TG}{tb:TS}{D:M7}{σ:St}{H:Hp}(Pv:Nat->St->Hp->Prop) (h0:Pv 0 σ H) (hl:∀i σ H,i<=xs.length->Pv i σ H->SqL K H a xs)
 (hs:∀i x σ H,xs[i]? = some x->Pv i σ H->g x σ H fun σ2 H2=>tb { D with nx:=Pv (i+1),ct:=Pv (i+1),bk:=D.nx } σ2 H2) (hd:∀σ H,Pv xs.length σ H->D.nx σ H) :
 ∃W:Nat->Nat->St->Hp->Prop,(∃m,W 0 m σ H)/\∀i m σ H,W i m σ H ->
  ((Itl K a).stop i H/\D.nx σ H)\/((Itl K a).go i H/\∃N:St->Hp->Prop,(∀σ' H',N σ' H'->∃m',m'<m/\W (i+1) m' σ' H')/\∀x H',(Itl K a).yld i H x H'->g x σ H' fun σ2 H2=>tb { D with nx:=N,ct:=N,bk:=D.nx } σ2 H2):=by
 refine#[fun i m σ H=>m=xs.length-i/\i<=xs.length/\Pv i σ H,#[xs.length,by simp,qA8 _,h0],?_]
 rintro i m σ H ⟨rfl,hi,p⟩
 have q:=hl i σ H hi p
 by_cases hlt:i<xs.length
 .refine .inr #[#[xs,xs[i],q,by simp[hlt]],Pv (i+1),fun σ' H' p'=>#[xs.length-(i+1),(),rfl,hlt,p'],fun x H' y=>?_]
  obtain⟨e,y⟩:=y
  subst e
  exact hs i x σ _ (y xs q) p
 .have e:i=xs.length:=()
  subst e
  exact .inl #[#[xs,q,qAe _],hd σ H p]
theorem Sg {K:W.Frag}{a:Addr}{xs:List V}{g:TG}{tb:TS}{D:M7}{σ:St}{H:Hp}(Pv:Nat->St->Hp->Prop) (h0:Pv 0 σ H) (hl:∀i σ H,i<=xs.length->Pv i σ H->SqT K H a xs)
 (hs:∀i x σ H,xs[i]? = some x->Pv i σ H->g x σ H fun σ2 H2=>tb { D with nx:=Pv (i+1),ct:=Pv (i+1),bk:=D.nx } σ2 H2) (hd:∀σ H,Pv xs.length σ H->D.nx σ H) :
 ∃W:Nat->Nat->St->Hp->Prop,(∃m,W 0 m σ H)/\∀i m σ H,W i m σ H ->
  ((Itt K a).stop i H/\D.nx σ H)\/((Itt K a).go i H/\∃N:St->Hp->Prop,(∀σ' H',N σ' H'->∃m',m'<m/\W (i+1) m' σ' H')/\∀x H',(Itt K a).yld i H x H'->g x σ H' fun σ2 H2=>tb { D with nx:=N,ct:=N,bk:=D.nx } σ2 H2):=by
 refine#[fun i m σ H=>m=xs.length-i/\i<=xs.length/\Pv i σ H,#[xs.length,by simp,qA8 _,h0],?_]
 rintro i m σ H ⟨rfl,hi,p⟩
 have q:=hl i σ H hi p
 by_cases hlt:i<xs.length
 .refine .inr #[#[xs,xs[i],q,by simp[hlt]],Pv (i+1),fun σ' H' p'=>#[xs.length-(i+1),(),rfl,hlt,p'],fun x H' y=>?_]
  obtain⟨e,y⟩:=y
  subst e
  exact hs i x σ _ (y xs q) p
 .have e:i=xs.length:=()
  subst e
  exact .inl #[#[xs,q,qAe _],hd σ H p]
theorem Kn {lo:Int}{n:Nat}{g:TG}{tb:TS}{D:M7}{σ:St}{H:Hp}(Pv:Nat->St->Hp->Prop) (h0:Pv 0 σ H)
 (hs:∀i σ H,i<n->Pv i σ H->g (.int (lo+i)) σ H fun σ2 H2=>tb { D with nx:=Pv (i+1),ct:=Pv (i+1),bk:=D.nx } σ2 H2) (hd:∀σ H,Pv n σ H->D.nx σ H) :
 ∃W:Nat->Nat->St->Hp->Prop,(∃m,W 0 m σ H)/\∀i m σ H,W i m σ H ->
  ((Itr lo n).stop i H/\D.nx σ H)\/((Itr lo n).go i H/\∃N:St->Hp->Prop,(∀σ' H',N σ' H'->∃m',m'<m/\W (i+1) m' σ' H')/\∀x H',(Itr lo n).yld i H x H'->g x σ H' fun σ2 H2=>tb { D with nx:=N,ct:=N,bk:=D.nx } σ2 H2):=by
 refine#[fun i m σ H=>m=n-i/\i<=n/\Pv i σ H,#[n,by simp,qA8 _,h0],?_]
 rintro i m σ H ⟨rfl,hi,p⟩
 by_cases hlt:i<n
 .refine .inr #[hlt,Pv (i+1),fun σ' H' p'=>#[n-(i+1),(),rfl,hlt,p'],fun x H' y=>?_]
  obtain⟨e,y⟩:=y
  subst e y
  exact hs i σ _ hlt p
 .have e:i=n:=()
  subst e
  exact .inl #[qAe _,hd σ H p]
abbrev R2:=V->V->Hp->VK->Prop
def OpR (X:Cx)(f:Value->Value->Sem Value)(r:R2):Prop :=
 ∀(pins:List (Addr×Obj))(s:Shared)(σ:St)(H:Hp)(x y:V)(v u:Value)(Q:VK),Inv X pins σ H s->Cz x v->Cz y u->r x y H Q ->
  wpAny (model X.prog X.w) X.A (f v u) (EP X pins σ Q) X.xe s
def UnR (X:Cx)(f:Value->Sem Value)(r:V->Hp->VK->Prop):Prop :=
 ∀(pins:List (Addr×Obj))(s:Shared)(σ:St)(H:Hp)(x:V)(v:Value)(Q:VK),Inv X pins σ H s->Cz x v->r x H Q ->
  wpAny (model X.prog X.w) X.A (f v) (EP X pins σ Q) X.xe s
def HK (X:Cx)(f:Value)(r:List V->Hp->VK->Prop):Prop :=
 ∀(pins:List (Addr×Obj))(s:Shared)(σ:St)(H:Hp)(xs:List V)(us:List Value)(Q:VK),Inv X pins σ H s->B4 xs us->r xs H Q ->
  wpAny (model X.prog X.w) X.A (call f us) (EP X pins σ Q) X.xe s
def X2 (X:Cx)(r:V->Hp->(Bool->Hp->Prop)->Prop):Prop :=
 ∀(pins:List (Addr×Obj))(s:Shared)(σ:St)(H:Hp)(x:V)(v:Value)(Q:Bool->Hp->Prop),Inv X pins σ H s->Cz x v->r x H Q ->
  wpAny (model X.prog X.w) X.A (truthy v) (TP X pins σ Q) X.xe s
def tOp (r:R2)(ta tb:TE):TE:=fun σ H Q=>ta σ H fun x H1=>tb σ H1 fun y H2=>r x y H2 Q
def tUn (r:V->Hp->VK->Prop)(ta:TE):TE:=fun σ H Q=>ta σ H fun x H1=>r x H1 Q
def rI (C:Int->Int->Prop)(g:Int->Int->V):R2:=fun x y H Q=>∃i j,x=.int i/\y=.int j/\C i j/\Q (g i j) H
def rI0 (g:Int->Int->V):R2:=fun x y H Q=>∃i j,x=.int i/\y=.int j/\Q (g i j) H
def rU (g:Int->V):V->Hp->VK->Prop:=fun x H Q=>∃i,x=.int i/\Q (g i) H
section
variable {X:Cx}{a b c:Expr}{ta tb tc:TE}{pos:Pos}
theorem V1 (ha:PE X a ta)(hb:PE X b tb){pins:List (Addr×Obj)}{s:Shared}{σ:St}{H:Hp}{R:V->V->Hp->Prop}(I:Inv X pins σ H s)
 (h:ta σ H fun x H1=>tb σ H1 fun y H2=>R x y H2){Q:Value->Shared->Prop}{f:Value->Value->Sem Value}
 (hf:∀v u s2 x y H2,Inv X pins σ H2 s2->Cz x v->Cz y u->R x y H2->wpAny (model X.prog X.w) X.A (f v u) Q X.xe s2) :
 wpAny (model X.prog X.w) X.A (eval a X.env) (fun v s₁=>wpAny (model X.prog X.w) X.A (eval b X.env) (fun u s₂=>wpAny (model X.prog X.w) X.A (f v u) Q X.xe s₂) X.xe s₁) X.xe s:=by
 refine thn (ha pins s σ H _ I h) fun v s1 hh=>?_
 obtain⟨x,H1,I1,r1,q1⟩:=hh
 refine thn (hb pins s1 σ H1 _ I1 q1) fun u s2 hh=>?_
 obtain⟨y,H2,I2,r2,q2⟩:=hh
 exact hf v u s2 x y H2 I2 r1 r2 q2
theorem Uq {op:Operator}{r:R2}(ho:OpR X (binaryOp op) r) (ha:PE X a ta) (hb:PE X b tb):PE X (.BinOp a op b pos) (tOp r ta tb):=by
 intro pins s σ H Q I h
 exact wpAny_BinOp (V1 ha hb I h fun v u s2 x y H2 I2 rx ry q=>ho pins s2 σ H2 x y v u Q I2 rx ry q)
theorem WR {op:UnaryOp}{r:V->Hp->VK->Prop}(ho:UnR X (unaryOp op) r) (ha:PE X a ta):PE X (.UnaryOp op a pos) (tUn r ta):=by
 intro pins s σ H Q I h
 exact UnaryOp_ (thn (ha pins s σ H _ I h) fun v s1 #[x,H1,I1,r1,q1]=>ho pins s1 σ H1 x v Q I1 r1 q1)
theorem opI {f:Value->Value->Sem Value}{C:Int->Int->Prop}{g:Int->Int->Int}
 (rule:∀(i j:Int)(t u:Tok)(s:Shared)(Q:Value->Shared->Prop)(E:Value->Shared->Prop),C i j->Q (.int (g i j) s.toks) { s with toks:=s.toks+1 }->wpAny (model X.prog X.w) X.A (f (.int i t) (.int j u)) Q E s) :
 OpR X f (rI C fun i j=>.int (g i j)):=by
 intro pins s σ H x y v u Q I rx ry h
 obtain⟨i,j,rfl,rfl,hc,q⟩:=h
 obtain⟨t,rfl⟩:=rx
 obtain⟨t',rfl⟩:=ry
 exact rule i j t t' s _ _ hc #[.int (g i j),H,I.tok _,#[_,rfl],q]
theorem W7 {f:Value->Value->Sem Value}{g:Int->Int->Int}
 (rule:∀(i j:Int)(t u:Tok)(s:Shared)(Q:Value->Shared->Prop)(E:Value->Shared->Prop),Q (.int (g i j) s.toks) { s with toks:=s.toks+1 }->wpAny (model X.prog X.w) X.A (f (.int i t) (.int j u)) Q E s) :
 OpR X f (rI0 fun i j=>.int (g i j)):=by
 intro pins s σ H x y v u Q I rx ry h
 obtain⟨i,j,rfl,rfl,q⟩:=h
 obtain⟨t,rfl⟩:=rx
 obtain⟨t',rfl⟩:=ry
 exact rule i j t t' s _ _ #[.int (g i j),H,I.tok _,#[_,rfl],q]
theorem VP {f:Value->Value->Sem Value}{g:Int->Int->Bool}
 (rule:∀(i j:Int)(t u:Tok)(s:Shared)(Q:Value->Shared->Prop)(E:Value->Shared->Prop),Q (.bool (g i j)) s->wpAny (model X.prog X.w) X.A (f (.int i t) (.int j u)) Q E s) :
 OpR X f (rI0 fun i j=>.bl (g i j)):=by
 intro pins s σ H x y v u Q I rx ry h
 obtain⟨i,j,rfl,rfl,q⟩:=h
 obtain⟨t,rfl⟩:=rx
 obtain⟨t',rfl⟩:=ry
 exact rule i j t t' s _ _ #[.bl (g i j),H,I,rfl,q]
def W8 (i j:Int):Prop:=0<=j/\j<=1000000/\i.natAbs<2^64
theorem RK:OpR X (binaryOp .Add) (rI0 fun i j=>.int (i+j)):=W7 fun _ _ _ _ _ _ _ q=>add_int q
theorem UR:OpR X (binaryOp .Sub) (rI0 fun i j=>.int (i-j)):=W7 fun _ _ _ _ _ _ _ q=>sub_int q
theorem Tc:OpR X (binaryOp .Mod) (rI (fun _ j=>j≠0) fun i j=>.int (i.fmod j)):=opI fun _ _ _ _ _ _ _ hc q=>mod_int' hc q
theorem U4:OpR X (binaryOp .Pow) (rI W8 fun i j=>.int (i^j.toNat)):=opI fun _ _ _ _ _ _ _ hc q=>pow_int_small hc.1 hc.2.1 hc.2.2 q
theorem unI {f:Value->Sem Value}{g:Int->Int}
 (rule:∀(i:Int)(t:Tok)(s:Shared)(Q:Value->Shared->Prop)(E:Value->Shared->Prop),Q (.int (g i) s.toks) { s with toks:=s.toks+1 }->wpAny (model X.prog X.w) X.A (f (.int i t)) Q E s) :
 UnR X f (rU fun i=>.int (g i)):=by
 intro pins s σ H x v Q I rx h
 obtain⟨i,rfl,q⟩:=h
 obtain⟨t,rfl⟩:=rx
 exact rule i t s _ _ #[.int (g i),H,I.tok _,#[_,rfl],q]
theorem T3:UnR X (unaryOp .USub) (rU fun i=>.int (-i)):=unI fun _ _ _ _ _ q=>neg_int q
end
def Xf:V->V->Bool
 |.non,.non=>true|.non,.int _=>true|.int _,.non=>true|.non,.bl _=>true|.bl _,.non=>true|.non,.str _=>true|.str _,.non=>true
 |.int _,.int _=>true|.bl _,.bl _=>true|.str _,.str _=>true|.byt _,.byt _=>true
 |.int _,.str _=>true|.str _,.int _=>true|.bl _,.str _=>true|.str _,.bl _=>true
 |_,_=>false
def rEq:R2:=fun x y H Q=>Xf x y=true/\Q (.bl (decide (x=y))) H
def rNe:R2:=fun x y H Q=>Xf x y=true/\Q (.bl (!decide (x=y))) H
theorem Ou {i j:Int}:decide (V.int i=V.int j)=(i==j):=by
 rw[qBF]
 simp
theorem RB {i j:Bool}:decide (V.bl i=V.bl j)=(i==j):=by
 rw[qBF]
 simp
theorem OQ {i j:Str}:decide (V.str i=V.str j)=(i==j):=by
 rw[qBF]
 simp
theorem Oj {i j:Array UInt8}:decide (V.byt i=V.byt j)=(i.toList==j.toList):=by
 rw[qBF]
 cases i
 cases j
 simp
section
variable {X:Cx}{a b c:Expr}{ta tb tc:TE}{pos:Pos}
theorem A4 {pins:List (Addr×Obj)}{σ:St}{H:Hp}{s:Shared}{Q:VK}{k k':Bool}(I:Inv X pins σ H s) (q:Q (.bl k) H) (e:k=k'):EP X pins σ Q (.bool k') s:=by
 subst e
 exact#[.bl k,H,I,rfl,q]
theorem WI:OpR X (compareOp .Eq) rEq:=by
 intro pins s σ H x y v u Q I rx ry h
 obtain⟨hs,q⟩:=h
 cases x with
 |non =>
  cases rx
  cases y with
  |non=>cases ry;exact PySem.EqNone.eq_none_none (A4 I q (by simp))
  |bl j=>cases ry;exact PySem.EqNone.eq_none_bool (A4 I q (by simp))
  |int j=>obtain⟨t',rfl⟩:=ry;exact PySem.EqNone.eq_none_int (A4 I q (by simp))
  |str j=>obtain⟨t',rfl⟩:=ry;exact PySem.EqNone.eq_none_str (A4 I q (by simp))
  |_=>exact absurd (show false=true from hs) qAn
 |bl i =>
  cases rx
  cases y with
  |non=>cases ry;exact PySem.EqNone.eq_bool_none (A4 I q (by simp))
  |bl j=>cases ry;exact eq_bool (A4 I q RB)
  |str j=>obtain⟨t',rfl⟩:=ry;exact PySem.EqMixed.eq_bool_str (A4 I q (by simp))
  |_=>exact absurd (show false=true from hs) qAn
 |int i =>
  obtain⟨t,rfl⟩:=rx
  cases y with
  |non=>cases ry;exact PySem.EqNone.eq_int_none (A4 I q (by simp))
  |int j=>obtain⟨t',rfl⟩:=ry;exact eq_int (A4 I q Ou)
  |str j=>obtain⟨t',rfl⟩:=ry;exact PySem.EqMixed.eq_int_str (A4 I q (by simp))
  |_=>exact absurd (show false=true from hs) qAn
 |str i =>
  obtain⟨t,rfl⟩:=rx
  cases y with
  |non=>cases ry;exact PySem.EqNone.eq_str_none (A4 I q (by simp))
  |bl j=>cases ry;exact PySem.EqMixed.eq_str_bool (A4 I q (by simp))
  |int j=>obtain⟨t',rfl⟩:=ry;exact PySem.EqMixed.eq_str_int (A4 I q (by simp))
  |str j=>obtain⟨t',rfl⟩:=ry;exact eq_str (A4 I q OQ)
  |_=>exact absurd (show false=true from hs) qAn
 |byt i =>
  obtain⟨t,rfl⟩:=rx
  cases y with
  |byt j=>obtain⟨t',rfl⟩:=ry;exact W.eq_bytes (A4 I q Oj)
  |_=>exact absurd (show false=true from hs) qAn
 |_=>cases y<;>exact absurd (show false=true from hs) qAn
theorem Wo:OpR X (compareOp .NotEq) rNe:=by
 intro pins s σ H x y v u Q I rx ry h
 obtain⟨hs,q⟩:=h
 cases x with
 |non =>
  cases rx
  cases y with
  |non=>cases ry;exact PySem.EqNone.ne_none_none (A4 I q (by simp))
  |bl j=>cases ry;exact PySem.EqNone.ne_none_bool (A4 I q (by simp))
  |int j=>obtain⟨t',rfl⟩:=ry;exact PySem.EqNone.ne_none_int (A4 I q (by simp))
  |str j=>obtain⟨t',rfl⟩:=ry;exact PySem.EqNone.ne_none_str (A4 I q (by simp))
  |_=>exact absurd (show false=true from hs) qAn
 |bl i =>
  cases rx
  cases y with
  |non=>cases ry;exact PySem.EqNone.ne_bool_none (A4 I q (by simp))
  |bl j=>cases ry;exact ne_bool (A4 I q (congrArg not RB))
  |str j=>obtain⟨t',rfl⟩:=ry;exact PySem.EqMixed.ne_bool_str (A4 I q (by simp))
  |_=>exact absurd (show false=true from hs) qAn
 |int i =>
  obtain⟨t,rfl⟩:=rx
  cases y with
  |non=>cases ry;exact PySem.EqNone.ne_int_none (A4 I q (by simp))
  |int j=>obtain⟨t',rfl⟩:=ry;exact ne_int (A4 I q (congrArg not Ou))
  |str j=>obtain⟨t',rfl⟩:=ry;exact PySem.EqMixed.ne_int_str (A4 I q (by simp))
  |_=>exact absurd (show false=true from hs) qAn
 |str i =>
  obtain⟨t,rfl⟩:=rx
  cases y with
  |non=>cases ry;exact PySem.EqNone.ne_str_none (A4 I q (by simp))
  |bl j=>cases ry;exact PySem.EqMixed.ne_str_bool (A4 I q (by simp))
  |int j=>obtain⟨t',rfl⟩:=ry;exact PySem.EqMixed.ne_str_int (A4 I q (by simp))
  |str j=>obtain⟨t',rfl⟩:=ry;exact ne_str (A4 I q (congrArg not OQ))
  |_=>exact absurd (show false=true from hs) qAn
 |byt i =>
  obtain⟨t,rfl⟩:=rx
  cases y with
  |byt j=>obtain⟨t',rfl⟩:=ry;exact W.ne_bytes (A4 I q (congrArg not Oj))
  |_=>exact absurd (show false=true from hs) qAn
 |_=>cases y<;>exact absurd (show false=true from hs) qAn
theorem W5:OpR X (compareOp .Lt) (rI0 fun i j=>.bl (decide (i<j))):=VP fun _ _ _ _ _ _ _ q=>lt_int q
theorem Wk:OpR X (compareOp .LtE) (rI0 fun i j=>.bl (decide (i<=j))):=VP fun _ _ _ _ _ _ _ q=>le_int q
theorem V2:OpR X (compareOp .Gt) (rI0 fun i j=>.bl (decide (j<i))):=VP fun _ _ _ _ _ _ _ q=>gt_int q
theorem Wb:OpR X (compareOp .GtE) (rI0 fun i j=>.bl (decide (j<=i))):=VP fun _ _ _ _ _ _ _ q=>ge_int q
theorem U8:OpR X (compareOp .Is) (fun x y H Q=>y=.non/\Q (.bl (decide (x=.non))) H):=by
 intro pins s σ H x y v u Q I rx ry h
 obtain⟨rfl,q⟩:=h
 cases ry
 refine is_none_gen (A4 I q ?_)
 cases x<;>first
  |(cases rx;rfl)
  |(obtain⟨t,rfl⟩:=rx;rfl)
theorem OpR.or {f:Value->Value->Sem Value}{r r':R2}(h:OpR X f r) (h':OpR X f r'):OpR X f (fun x y H Q=>r x y H Q\/r' x y H Q):=by
 intro pins s σ H x y v u Q I rx ry q
 rcases q with q|q
 .exact h pins s σ H x y v u Q I rx ry q
 .exact h' pins s σ H x y v u Q I rx ry q
theorem Jj (b:Expr){op:CmpOp}(h:op≠.In:=by decide) (h2:op≠.NotIn:=by decide):behindInMarks op b=false:=by
 have e1:(op==CmpOp.In)=false:=by cases op<;>first|rfl|exact absurd rfl h
 have e2:(op==CmpOp.NotIn)=false:=by cases op<;>first|rfl|exact absurd rfl h2
 cases b<;>simp[behindInMarks,e1,e2]
theorem R7 {op:CmpOp}{r:R2}(ho:OpR X (compareOp op) r) (ha:PE X a ta) (hb:PE X b tb) (hm:behindInMarks op b=false):PE X (.Compare a [op] [b] pos) (tOp r ta tb):=by
 intro pins s σ H Q I h
 exact wpAny_Compare1 (V1 ha hb I h fun v u s2 x y H2 I2 rx ry q=>ho pins s2 σ H2 x y v u Q I2 rx ry q) hm
def V6 (t:TE):TT:=fun σ H Q=>t σ H fun x H'=>∃k,x=.bl k/\Q k H'
theorem Sy {op:CmpOp}{r:R2}(ho:OpR X (compareOp op) r) (ha:PE X a ta) (hb:PE X b tb) (hm:behindInMarks op b=false):PT X (.Compare a [op] [b] pos) (V6 (tOp r ta tb)):=by
 intro pins s σ H Q I h
 refine wpAny_isTrue_Compare1 (thn (ha pins s σ H _ I h) fun v s1 #[x,H1,I1,r1,q1]=>thn (hb pins s1 σ H1 _ I1 q1) fun u s2 #[y,H2,I2,r2,q2] =>
  thn (ho pins s2 σ H2 x y v u _ I2 r1 r2 q2) fun c s3 #[z,H3,I3,r3,k,e,q3]=>?_) hm
 subst e
 cases r3
 exact wpAny_truthy_bool #[H3,I3,q3]
def Xo (K:W.Frag)(x:V)(H:Hp)(k:Bool):Prop :=
 match x with
 |.non=>k=false
 |.bl b=>k=b
 |.int i=>k=(i != 0)
 |.str y=>y.length<=sizeLine/\k=((y.length:Int) != 0)
 |.byt y=>y.size<=sizeLine/\k=((y.size:Int) != 0)
 |.ref p=>(∃xs,SqL K H p xs/\k=!xs.isEmpty)\/(∃xs,SqT K H p xs/\k=!xs.isEmpty)\/∃kvs,H p=some (.dK kvs)/\k=!kvs.isEmpty
 |_=>False
theorem Nf {κ:Type}{kvs:List (κ×V)}{vs:List (κ×Value)}(r:KV kvs vs):(!vs.isEmpty)=!kvs.isEmpty:=by
 cases r<;>rfl
theorem Jc {xs:List V}{its:List Value}(r:B4 xs its):(!its.toArray.isEmpty)=!xs.isEmpty:=by
 cases r<;>simp
theorem L9:(sizeLine:Nat)<2^63:=by rw[sizeLine_eq];decide
theorem U1:X2 X (fun x H Q=>∃k,Xo X.K x H k/\Q k H):=by
 intro pins s σ H x v Q I rx h
 obtain⟨k,e,q⟩:=h
 have hl:=L9
 have hs:sizeLine=16777216:=sizeLine_eq
 cases x with
 |non =>
  cases rx
  have e':k=false:=e
  subst e'
  exact truthy_none #[H,I,q]
 |bl b =>
  cases rx
  have e':k=b:=e
  subst e'
  exact wpAny_truthy_bool #[H,I,q]
 |int i =>
  obtain⟨t,rfl⟩:=rx
  have e':k=(i != 0):=e
  subst e'
  exact PySem.P.truthy_int #[H,I,q]
 |str y =>
  obtain⟨t,rfl⟩:=rx
  obtain⟨hy,e'⟩:y.length<=sizeLine/\k=((y.length:Int) != 0):=e
  subst e'
  exact PySem.P.truthy_str () #[H,I.tok _,q]
 |byt y =>
  obtain⟨t,rfl⟩:=rx
  obtain⟨hy,e'⟩:y.size<=sizeLine/\k=((y.size:Int) != 0):=e
  subst e'
  exact W.truthy_bytes () #[H,I.tok _,q]
 |ref p =>
  cases rx
  have e':(∃xs,SqL X.K H p xs/\k=!xs.isEmpty)\/(∃xs,SqT X.K H p xs/\k=!xs.isEmpty)\/∃kvs,H p=some (.dK kvs)/\k=!kvs.isEmpty:=e
  rcases e' with⟨xs,hx,e'⟩|⟨xs,hx,e'⟩|⟨kvs,hx,e'⟩
  .subst e'
   obtain⟨its,r,pl,hz⟩:=I.list hx
   have hlen:=r.length
   exact wpAny_truthy_list pl.isList (by simp only[qAv];omega) #[H,I.tok _,by rw[Jc r];exact q]
  .subst e'
   obtain⟨its,r,pl,hz⟩:=I.tuple hx
   have hlen:=r.length
   exact truthy_tuple pl (by simp only[qAv];omega) #[H,I.tok _,by rw[Jc r];exact q]
  .subst e'
   obtain⟨hz,hS,vs,r,m⟩:kvs.length<=sizeLine/\(p==sysModules)=false/\∃vs,KV kvs vs/\s.heap.DictOf (LO X.prog X.w) p vs:=I.hok p _ hx
   have hlen:kvs.length=vs.length:=Paired.length r
   exact wpAny_truthy_dict hS m () #[H,I.tok _,by rw[Nf r];exact q]
 |_=>exact(show False from e).elim
theorem P0 (ha:PE X a ta)(he:∀whole,isTrue a X.env whole=(do let v <-whole;standAt a.pos;holding [v] (truthy v))) :
 PT X a (fun σ H Q=>ta σ H fun x H'=>∃k,Xo X.K x H' k/\Q k H'):=by
 intro pins s σ H Q I h
 exact isTrue_plain (thn (ha pins s σ H _ I h) fun v s1 #[x,H1,I1,r1,q1]=>U1 pins s1 σ H1 x v Q I1 r1 q1) (he _)
theorem K7 {x:V}{us:List Value}(r:B4 [x] us):∃u,us=[u]/\Cz x u:=by
 cases r with
 |cons r1 r2=>cases r2;exact#[_,rfl,r1]
theorem WV {x y:V}{us:List Value}(r:B4 [x,y] us):∃u w',us=[u,w']/\Cz x u/\Cz y w':=by
 cases r with
 |cons r1 r2 =>
  cases r2 with
  |cons r3 r4=>cases r4;exact#[_,_,rfl,r1,r3]
theorem P7:HK X (.builtin "abs") (fun xs H Q=>∃i,xs=[.int i]/\Q (.int (if i<0 then -i else i)) H):=by
 intro pins s σ H xs us Q I r h
 obtain⟨i,rfl,q⟩:=h
 obtain⟨u,rfl,t,rfl⟩:=K7 r
 exact call_abs_int fun u tk=>#[.int (if i<0 then -i else i),H,I.tok _,#[_,rfl],q]
end
structure WK (h:Heap)(x dx C:Addr)(mA:Str->Option Value):Prop where
 obj:h.get? x=some (W.instObj C dx)
 ns:h.Ns1 dx mA
 ne:dx≠x
theorem OM {h:Heap}{dx:Addr}{mA:Str->Option Value}(n:h.Ns1 dx mA):∃od,h.get? dx=some od/\∀name,W.lookIn name od=some (mA name):=by
 obtain⟨o,es,ep,ho,hd,hk,_,hm⟩:=n
 refine#[o,ho,fun name=>?_]
 have e:=hm name
 unfold nsFind findBy at e
 rw[<-Array.find?_toList] at e
 unfold W.lookIn
 rw[hd]
 dsimp only
 split
 .rename_i y q
  rw[q] at e
  exact congrArg some e
 .rename_i q
  rw[q] at e
  have a:es.toList.any (·.refKey)=false:=by
   rw[List.any_eq_false]
   intro y hy
   obtain⟨z,t,hkey⟩:=hk y (Array.mem_toList_iff.mp hy)
   simp[DictEntry.refKey,hkey]
  have a':¬es.toList.any (·.refKey)=true:=by rw[a];exact qAn
  rw[if_neg a']
  exact congrArg some e
theorem WK.look {h:Heap}{x dx C:Addr}{mA:Str->Option Value}(I:WK h x dx C mA):∃od,W.InstAt h x (W.instObj C dx) C (some od)/\∀name,W.lookIn name od=some (mA name) :=
 let #[od,ho,hl]:=OM I.ns
 #[od,#[I.obj,rfl,rfl,ho],hl]
section
variable {prog:Program}{w:World}{A:Around}{E:Value->Shared->Prop}{s:Shared}{K:W.Frag}{x dx C f:Addr}{mA:Str->Option Value}{name:Str}{v:Value}
end
section
variable {P:Program}{w:World}{H H':Hp}{h h':Heap}{a C dx:Addr}{fs fs':List (Str×V)}
theorem Tr (hok:HOk P w H h)(e:H a=some (.ins C dx fs)):∃mA,WK h a dx C mA/\(∀f,We (fs.lookup f) (mA f))/\PySem.Within mA (fs.map (·.1))/\fs.length<=1000/\H dx=some (.own a):=by
 obtain⟨d,z,ne,ob,mA,n,r,q⟩:=(show C1 P w H h a (.ins C dx fs) from hok a _ e)
 exact#[mA,#[ob,n,ne],r,q,z,d]
end
structure Cls (K:W.Frag)(C:Addr):Prop where
 pg:W.plainGet K C Str.empty=true
 hd:W.hasDictIn K C=true
 po:W.plainOver K C=true
 sa:W.findIn K (.ref C) "__setattr__"=some (some (.builtin "object.__setattr__"))
theorem Cls.get {K:W.Frag}{C:Addr}(c:Cls K C) (f:Str):W.plainGet K C f=true:=c.pg
section
variable {X:Cx}{pins:List (Addr×Obj)}{σ:St}{H:Hp}{s:Shared}{a C dx:Addr}{fs:List (Str×V)}{f:Str}{v:V}{A:Around}{E:Value->Shared->Prop}
end
section
variable {X:Cx}{o e value:Expr}{f:Str}{pos pos' tpos:Pos}{ta tv:TE}
end
section
variable {X:Cx}{pins:List (Addr×Obj)}{σ:St}{H:Hp}{s:Shared}{A:Around}{E:Value->Shared->Prop}{Q:Value->Shared->Prop}{c:Value}{b:Bool}
inductive NA (K:W.Frag)(H:Hp):V->Value->Prop where
 |non:NA K H .non (.type "NoneType")
 |bl (x:Bool):NA K H (.bl x) (.type "bool")
 |int (i:Int):NA K H (.int i) (.type "int")
 |str (x:Str):NA K H (.str x) (.type "str")
 |flt (x:UInt64):NA K H (.flt x) (.type "float")
 |lst {a:Addr}{xs:List V}(e:H a=some (.lst xs)):NA K H (.ref a) (.type "list")
 |frz {a:Addr}{o:Obj}{xs:List V}(e:H a=some (.frz o (.lst xs))):NA K H (.ref a) (.type "list")
 |tup {a:Addr}{xs:List V}(e:H a=some (.tup xs)):NA K H (.ref a) (.type "tuple")
 |dK {a:Addr}{kvs:List (Key×V)}(e:H a=some (.dK kvs)):NA K H (.ref a) (.type "dict")
 |dT {a:Addr}{kvs:List (List Key×V)}(e:H a=some (.dT kvs)):NA K H (.ref a) (.type "dict")
 |ins {a C dx:Addr}{fs:List (Str×V)}(e:H a=some (.ins C dx fs)) (cl:Cls K C) (ha:W.findIn K (.ref C) "__class__"=some (some (.builtin "object.__class__")))
  (hn:W.specialIn K (.builtin "object.__class__") "__get__"=some (some (.builtin "getset_descriptor.__get__"))) (htk:W.takesIn K (.builtin "object.__class__")=some true)
  (hm:W.mroIn K C (.type "object")=some true):NA K H (.ref a) (.ref C)
theorem Ga {x:V}{u t:Value}(I:Inv X pins σ H s) (rx:Cz x u) (ty:NA X.K H x t) (e:W.kitOne X.K t c=some b) (h:∀tk,Q (.bool b) { s with toks:=tk }) :
 wpAny (model X.prog X.w) A (call (.builtin "isinstance") [u,c]) Q E s:=by
 cases ty with
 |non=>cases (show u=Value.none from rx);exact qAQ W.kitx_none I.kIn True.intro e (fun z=>nomatch z) h
 |bl y=>cases (show u=Value.bool y from rx);exact qAQ W.kitx_bool I.kIn True.intro e (fun z=>nomatch z) h
 |int i=>obtain⟨t,q⟩:=(show ∃t,u=Value.int i t from rx);cases q;exact qAQ W.kitx_int I.kIn True.intro e (fun z=>nomatch z) h
 |str y=>obtain⟨t,q⟩:=(show ∃t,u=Value.str y t from rx);cases q;exact qAQ W.kitx_str I.kIn True.intro e (fun z=>nomatch z) h
 |flt y=>obtain⟨t,q⟩:=(show ∃t,u=Value.float y t from rx);cases q;exact qAQ W.kitx_float I.kIn True.intro e (fun z=>nomatch z) h
 |@lst a xs ea =>
  cases (show u=Value.ref a from rx)
  obtain⟨_,_,n,_,h1⟩:=(show C1 X.prog X.w H s.heap a (.lst xs) from I.hok a _ ea)
  exact qAQ qBH I.kIn #[_,h1,rfl] e (fun z=>nomatch z) h
 |@frz a ob xs ea =>
  cases (show u=Value.ref a from rx)
  obtain⟨_,_,_,n,_,h1⟩:=(show C1 X.prog X.w H s.heap a (.frz ob (.lst xs)) from I.hok a _ ea)
  exact qAQ qBH I.kIn #[_,h1,rfl] e (fun z=>nomatch z) h
 |@tup a xs ea =>
  cases (show u=Value.ref a from rx)
  obtain⟨_,_,_,p⟩:=(show C1 X.prog X.w H s.heap a (.tup xs) from I.hok a _ ea)
  obtain⟨o,h1,h2,_⟩:=p
  exact qAQ W.kitx_tuple I.kIn #[o,h1,h2] e (fun z=>nomatch z) h
 |@dK a kvs ea =>
  cases (show u=Value.ref a from rx)
  obtain⟨_,_,vs,_,p⟩:=(show C1 X.prog X.w H s.heap a (.dK kvs) from I.hok a _ ea)
  obtain⟨o,es,ep,h1,h2,_⟩:=p
  exact qAQ W.kitx_dict I.kIn #[o,h1,h2.1] e (fun z=>nomatch z) h
 |@dT a kvs ea =>
  cases (show u=Value.ref a from rx)
  obtain⟨_,_,xs,_,o,es,ep,h1,h2,_⟩:=(show C1 X.prog X.w H s.heap a (.dT kvs) from I.hok a _ ea)
  exact qAQ W.kitx_dict I.kIn #[o,h1,h2.1] e (fun z=>nomatch z) h
 |@ins a C dx fs ea cl ha hn htk hm =>
  cases (show u=Value.ref a from rx)
  obtain⟨mA,O,_⟩:=Tr I.hok ea
  obtain⟨od,J,_⟩:=O.look
  exact qAQ (W.kitx_own (cl.get _) cl.hd ha hn htk hm) I.kIn J e (fun z=>nomatch z) h
end
structure E9 (k:Nat)(A:Around):Prop where
 hd:A.handled=none
 dp:A.depth+3*k+5<recursionLimit
 un:A.units+16*k+200<cLine
theorem E9.mono {j k:Nat}{A:Around}(r:E9 k A) (h:j<=k):E9 j A:=#[r.hd,by have:=r.dp;omega,by have:=r.un;omega]
theorem E9.deeper {k:Nat}{A:Around}(r:E9 (k+1) A) (env:Env):E9 k (A.deeper env) :=
 #[r.hd,by have:=r.dp;show A.depth+1+3*k+5<_;omega,by have:=r.un;show A.units+3+16*k+200<_;omega]
theorem E9.depth {k:Nat}{A:Around}(r:E9 k A):A.depth<recursionLimit:=by have:=r.dp;omega
def WB:TA:=fun _ H Q=>Q [] H
def RR (ta:TE)(tr:TA):TA:=fun σ H Q=>ta σ H fun x H1=>tr σ H1 fun xs H2=>Q (x::xs) H2
section
variable {X:Cx}{e:Expr}{es:List Expr}{te:TE}{t:TA}{pos:Pos}
theorem Bt:PA X [] WB:=fun _ _ _ _ H Q I h=>Calls.spliced_nil #[[],H,I,.nil,h]
theorem AX (ha:PE X e te)(hr:PA X es t)(hs:starEach (e::es) X.env=(false,eval e X.env)::starEach es X.env:=by rfl):PA X (e::es) (RR te t):=by
 intro pos pins s σ H Q I h
 rw[hs]
 show wpAny _ _ (spliced ((false,eval e X.env)::backTo pos (starEach es X.env))) _ _ s
 refine Calls.spliced_cons (thn (ha pins s σ H _ I h) fun u s1 hh=>?_)
 obtain⟨x,H1,I1,r1,q1⟩:=hh
 exact thn (hr pos pins s1 σ H1 _ I1 q1) fun us s2 #[xs,H2,I2,r2,q2]=>#[x::xs,H2,I2,.cons r1 r2,q2]
def XI (t:TA):TE:=fun σ H Q=>t σ H fun xs H1=>xs.length<=sizeLine/\∀p,H1 p=none->Q (.ref p) (upd H1 p (.tup xs))
theorem Vi {x1}(h:PA X es t):PE X (.Tuple es x1 pos) (XI t):=by
 intro pins s σ H Q I hq
 refine wpAny_Tuple_spliced (thn (h pos pins s σ H _ I hq) fun us s1 #[xs,H1,I1,r,z,q]=>#[by rw[<-r.length];exact z,?_])
 have hf:H1 s1.heap.objs.size=none:=I1.hok.fresh (qAe _)
 refine#[.ref s1.heap.objs.size,upd H1 s1.heap.objs.size (.tup xs),I1.laid (t':=s1.toks) (fun b u e=>qAh _ e) (qAe _) ?_,rfl,q _ hf]
 exact#[z,us,r,#[_,qAu _ rfl,rfl,_,rfl]]
end
abbrev Sp:=List V->Hp->VK->XK->Prop
abbrev CXT:=List Env->Hp->Shared->XK->Value->Shared->Prop
structure Tt (P:Program)(w:World)(K:W.Frag)(mg:Str->Option Value)(base:Heap)(A:Around)(outer:List Env)(s:Shared)(H:Hp):Prop where
 frames:A.frames=some outer
 mod:Mod K mg base
 bs:∀b o,base.get? b=some o->s.heap.get? b=some o/\H b=none
 bsz:base.objs.size<=s.heap.objs.size
 funs:s.heap.FunFrames base outer
 frf:∀b∈frs outer,H b=none
 hok:HOk P w H s.heap
 bare:AllBare s.gens
 tb:TB P K mg base H
def CE (outer:List Env)(P:Program)(w:World)(H:Hp)(s:Shared)(Q:VK)(u:Value)(s':Shared):Prop :=
 ∃v H',s'.os=s.os/\AllBare s'.gens/\Un (frs outer) [] H H' s.heap s'.heap/\HOk P w H' s'.heap/\Cz v u/\Q v H'
def CR (CX:CXT)(outer:List Env)(P:Program)(w:World)(H:Hp)(s:Shared)(Q:VK)(E:XK)(r:Result)(s':Shared):Prop :=
 match r with
 |.ok (.ret u)=>CE outer P w H s Q u s'
 |.ok _=>False
 |.error e=>CX outer H s E e s'
structure Ap (P:Program)(w:World)(K:W.Frag)(mg:Str->Option Value)(base:Heap)(CX:CXT)(k:Nat)(f:Addr)(fd:FuncData)(ps:List Str)(sp:Sp):Prop where
 len:∀vs H Q E,sp vs H Q E->vs.length=ps.length
 run:∀(A:Around)(outer:List Env)(s:Shared)(H:Hp)(args:Args)(us:List Value)(vs:List V)(Q:VK)(E:XK),E9 k A->Tt P w K mg base A outer s H->BindsTo s fd args (ps.zip us)->B4 vs us->sp vs H Q E ->
  codeAny (model P w) A (.call (.ref f) args) (CR CX outer P w H s Q E) s
theorem Ap.imp {P:Program}{w:World}{K:W.Frag}{mg:Str->Option Value}{base:Heap}{CX:CXT}{k:Nat}{f:Addr}{fd:FuncData}{ps:List Str}{sp sp':Sp}(F:Ap P w K mg base CX k f fd ps sp)
 (h:∀vs H Q E,sp' vs H Q E->sp vs H Q E):Ap P w K mg base CX k f fd ps sp' :=
 #[fun vs H Q E q=>F.len vs H Q E (h _ _ _ _ q),fun A outer s H args us vs Q E hr he hb hv hs=>F.run A outer s H args us vs Q E hr he hb hv (h _ _ _ _ hs)]
section
variable {X:Cx}{pins:List (Addr×Obj)}{σ:St}{H:Hp}{s s':Shared}
theorem Inv.env0 (I:Inv X pins σ H s):Tt X.prog X.w X.K X.mg X.base X.A X.stack s H :=
 #[I.ok.frames,I.ok.mod,I.bs,qAJ I.ok.bsz I.sz,I.stack,I.stkFree,I.hok,I.bare,I.tb]
theorem Inv.after {Q:VK}{u:Value}(I:Inv X pins σ H s) (h:CE X.stack X.prog X.w H s Q u s'):EP X pins σ Q u s':=by
 obtain⟨v,H',os,bare,un,hok,r,q⟩:=h
 obtain⟨hh,g,d,t,os'⟩:=s'
 obtain rfl:os'=s.os:=os
 exact#[v,H',I.call (h':=hh) (g':=g) (d':=d) (t':=t) (ch:=[]) un hok bare (fun b z=>absurd z (by simp)),r,q]
end
def Wj (sp:Sp)(dvs:List V)(E:XK)(t:TA):TE:=fun σ H Q=>t σ H fun vs H1=>sp (vs++dvs) H1 Q E
def Binds (K:W.Frag)(fd:FuncData)(ps:List Str)(ds:List Value):Prop :=
 ∀(s:Shared)(us:List Value),K.In s.heap->(us++ds).length=ps.length->BindsTo s fd #[us,[]] (ps.zip (us++ds))
theorem Binds.all {K:W.Frag}{fd:FuncData}{ps:List Str}(h:∀us:List Value,us.length=ps.length->bindArgs fd #[us,[]]=pure (ps.zip us)):Binds K fd ps []:=fun s us _ hl=>by
 rw[qBx] at hl ⊢
 exact .of_eq (h us hl)
def N5 (CX:CXT)(X:Cx)(E:XK):Prop:=∀(pins:List (Addr×Obj))(σ:St)(H:Hp)(s:Shared)(e:Value)(s':Shared),Inv X pins σ H s->CX X.stack H s E e s'->X.xe e s'
section
variable {X:Cx}{CX:CXT}{k:Nat}{f C:Addr}{fd:FuncData}{ps:List Str}{sp:Sp}{dvs:List V}{ds:List Value}{E:XK}{x m:Str}{p pos apos:Pos}{e o:Expr}{es:List Expr}{ta:TE}{t:TA}
theorem Ua {pins:List (Addr×Obj)}{σ:St}{H:Hp}{s:Shared}{Q:VK}{us:List Value}{vs:List V}(F:Ap X.prog X.w X.K X.mg X.base CX k f fd ps sp) (hr:E9 k X.A) (hb:Binds X.K fd ps ds) (hd:B4 dvs ds) (hx:N5 CX X E)
 (I:Inv X pins σ H s) (r:B4 vs us) (h:sp (vs++dvs) H Q E):wpAny (model X.prog X.w) X.A (call (.ref f) us) (EP X pins σ Q) X.xe s:=by
 have r2:B4 (vs++dvs) (us++ds):=r.append hd
 have hl:(us++ds).length=ps.length:=by rw[<-r2.length];exact F.len _ _ _ _ h
 refine wpAny_call (codeAny_mono (F.run X.A X.stack s H #[us,[]] (us++ds) (vs++dvs) Q E hr I.env0 (hb s us I.kIn hl) r2 h) fun r s' hq=>?_)
 cases r with
 |error e=>exact hx pins σ H s e s' I hq
 |ok fl =>
  cases fl with
  |ret u=>exact I.after hq
  |next=>exact False.elim hq
  |brk=>exact False.elim hq
  |cont=>exact False.elim hq
theorem OF (F:Ap X.prog X.w X.K X.mg X.base CX k f fd ps sp)(hr:E9 k X.A)(hg:Gl X x)(hm:X.mg x=some (.ref f))(hk:W.keepIn X.K (.ref f)=true)(hb:Binds X.K fd ps ds)(hd:B4 dvs ds)(hx:N5 CX X E)
 (ha:PA X (e::es) t)(hdb:(x==("__debug__":Str))=false:=by decide)(he:starEach (e::es) X.env=(false,eval e X.env)::starEach es X.env:=by rfl)(hpl:(backTo pos (starEach es X.env)).any (·.1)=false:=by rfl) :
 PE X (.Call (.Name x p) (e::es) [] pos) (Wj sp dvs E t):=by
 intro pins s σ H Q I h
 refine wpAny_Call_Name_kw (JH I hg hm ?_ hdb)
 refine W.callWith_K (h₀:=X.base) I.ok.mod.kin hk (thn (ha pos pins s σ H _ I h) fun us s1 #[vs,H1,I1,r,q]=>#[I1.kIn,?_]) he hpl
 exact Ua F hr hb hd hx I1 r q
end
def PK (X:Cx)(kws:List Keyword)(t:TA):Prop :=
 ∀(pos:Pos)(pins:List (Addr×Obj))(s:Shared)(σ:St)(H:Hp)(Q:List V->Hp->Prop),Inv X pins σ H s->t σ H Q->wpAny (model X.prog X.w) X.A (evalAll ((backToKw pos (keywordEach kws X.env)).map (·.2))) (AP X pins σ Q) X.xe s
section
variable {X:Cx}{CX:CXT}{k:Nat}{f C:Addr}{fd:FuncData}{ps ks:List Str}{sp:Sp}{E:XK}{x m:Str}{p pos apos kpos:Pos}{e o:Expr}{es:List Expr}{kws:List Keyword}{te ta:TE}{t tk:TA}{nm:Option Str}
theorem Vf:PK X [] WB:=fun _ _ _ _ H Q I h=>wpAny_evalAll_nil #[[],H,I,.nil,h]
theorem Tf (ha:PE X e te)(hr:PK X kws t):PK X (#[nm,e,kpos]::kws) (RR te t):=by
 intro pos pins s σ H Q I h
 show wpAny _ _ (evalAll ((do let v <-eval e X.env;standAt pos;pure v)::(backToKw pos (keywordEach kws X.env)).map (·.2))) _ _ s
 refine wpAny_evalAll_cons (wpAny_bind (thn (ha pins s σ H _ I h) fun u s1 #[x,H1,I1,r1,q1]=>wpAny_bind (wpAny_standAt (wpAny_pure ?_))))
 exact thn (hr pos pins s1 σ H1 _ I1 q1) fun us s2 #[xs,H2,I2,r2,q2]=>#[x::xs,H2,I2,.cons r1 r2,q2]
variable {g:List Value->List Value->List Value}{gV:List V->List V->List V}
end
structure Ad (N P:List Str)(sc:Scope):Prop where
 kind:sc.kind=.function
 co:sc.isCoroutine=false
 gen:sc.isGenerator=false
 nd:N.Nodup
 pre:N.take P.length=P
 par:∀x∈P,sc.names.lookup x=some .local\/sc.names.lookup x=some .cell
 nofree:∀y∈sc.names,y.2≠.free
theorem KH {kindOf:Str->Option NameKind}{x:Str}:∀{binds:List (Str×Value)}{m:Str->Option Value},(∀v,(x,v)∉binds)->bindL kindOf binds m x=m x
 |[],_,_=>rfl
 |(n,v)::r,m,h=>by
  unfold bindL
  rw[KH fun w hw=>h w (qAK _ hw)]
  split
  .have:x≠n:=by rintro rfl;exact h v qAV
   simp[this]
  .rfl
theorem KN {kindOf:Str->Option NameKind}{x:Str}:∀{binds:List (Str×Value)}{m:Str->Option Value},(∀v,(x,v)∉binds)->bindC kindOf binds m x=m x
 |[],_,_=>rfl
 |(n,v)::r,m,h=>by
  unfold bindC
  rw[KN fun w hw=>h w (qAK _ hw)]
  split
  .rfl
  .have:x≠n:=by rintro rfl;exact h v qAV
   simp[this]
theorem KQ {kindOf:Str->Option NameKind}{x:Str}{v:Value}:∀{P:List Str}{vs:List Value}{i:Nat}{m:Str->Option Value},P.Nodup->P[i]? = some x->vs[i]? = some v->kindOf x=some .local ->
 bindL kindOf (P.zip vs) m x=some v
 |[],_,_,_,_,h,_,_=>by simp at h
 |_::_,[],_,_,_,_,h,_=>by simp at h
 |p::P,w::vs,0,m,nd,h1,h2,hk=>by
  simp at h1 h2;subst h1;subst h2
  show bindL kindOf ((p,w)::P.zip vs) m p=_
  unfold bindL
  rw[KH fun v hv=>(qB3.mp nd).1 (qB4 hv).1,if_pos hk]
  simp
 |p::P,w::vs,i+1,m,nd,h1,h2,hk=>by
  show bindL kindOf ((p,w)::P.zip vs) m x=_
  unfold bindL
  exact KQ (i:=i) (qB3.mp nd).2 (by simpa using h1) (by simpa using h2) hk
theorem K2 {kindOf:Str->Option NameKind}{x:Str}{v:Value}:∀{P:List Str}{vs:List Value}{i:Nat}{m:Str->Option Value},P.Nodup->P[i]? = some x->vs[i]? = some v->kindOf x≠some .local ->
 bindC kindOf (P.zip vs) m x=some v
 |[],_,_,_,_,h,_,_=>by simp at h
 |_::_,[],_,_,_,_,h,_=>by simp at h
 |p::P,w::vs,0,m,nd,h1,h2,hk=>by
  simp at h1 h2;subst h1;subst h2
  show bindC kindOf ((p,w)::P.zip vs) m p=_
  unfold bindC
  rw[KN fun v hv=>(qB3.mp nd).1 (qB4 hv).1,if_neg hk]
  simp
 |p::P,w::vs,i+1,m,nd,h1,h2,hk=>by
  show bindC kindOf ((p,w)::P.zip vs) m x=_
  unfold bindC
  exact K2 (i:=i) (qB3.mp nd).2 (by simpa using h1) (by simpa using h2) hk
def start (N:List Str)(vs:List V):St:=vs.map some++List.replicate (N.length-vs.length) none
def KR (CX:CXT)(P:Program)(w:World)(K:W.Frag)(mg:Str->Option Value)(base:Heap)(N:List Str)(qual:Str)(scope:Scope)(f:Addr)(cd:Value)(A:Around)(outer:List Env)(s:Shared)(H:Hp)(E:XK):Cx where
 prog:=P
 w:=w
 K:=K
 mg:=mg
 base:=base
 A:=A.deeper (envOfC qual scope s.heap.objs.size f cd)
 N:=N
 s₀:=s
 H₀:=H
 env:=envOfC qual scope s.heap.objs.size f cd
 outer:=outer
 stack:=envOfC qual scope s.heap.objs.size f cd::outer
 ex:=[]
 calm:=true
 fn:=fun _=>true
 pn:=[]
 xe:=fun e s'=>wpAny (model P w) (A.deeper (envOfC qual scope s.heap.objs.size f cd)) (leaving (envOfC qual scope s.heap.objs.size f cd) e) (fun _ s''=>CX outer H s E e s'') (fun e' s''=>CX outer H s E e' s'') s'
theorem MG {sc:Scope}{n:Nat}{x:Str}(h:sc.names.lookup x=some .cell):∃c,(cellsFrom n sc.names []).lookup x=some c:=by
 have q:=qBX sc.names n [] (.inl h)
 exact qBm.mp q
theorem Ky {CX:CXT}{P:Program}{w:World}{K:W.Frag}{mg:Str->Option Value}{base:Heap}{N ps:List Str}{qual:Str}{scope:Scope}{f:Addr}{cd:Value}{A:Around}{outer:List Env}{s s1:Shared}{H:Hp}{E:XK}{us:List Value}{vs:List V}
 (S:Ad N ps scope) (hd:A.handled=none) (e0:Tt P w K mg base A outer s H) (hl:vs.length=ps.length) (r:B4 vs us)
 (x:InCallC s s.heap.objs.size (bindL (envOfC qual scope s.heap.objs.size f cd).kindOf (ps.zip us) fun _=>none) (cellsFrom (s.heap.objs.size+1) scope.names []) (bindC (envOfC qual scope s.heap.objs.size f cd).kindOf (ps.zip us) fun _=>none) s1) :
 Inv (KR CX P w K mg base N qual scope f cd A outer s H E) [] (start N vs) H s1:=by
 have hpl:ps.length<=N.length:=by have:=congrArg List.length S.pre;rw[qAS] at this;omega
 obtain⟨h1,tk,rfl,hk⟩:=x.done
 have noA:∀b:Addr,b∉(KR CX P w K mg base N qual scope f cd A outer s H E).ex:=fun b z=>absurd (show b∈([]:List Addr) from z) (by simp)
 refine#[#[e0.mod,S.kind,rfl,rfl,qAe _,fun y z c h1 h2=>?_,fun y hy=>?_,fun y c _ h=>?_,fun _=>hd,Around.frames_deeper e0.frames,.inr #[rfl,rfl],fun b z=>absurd z (noA b),e0.bs,e0.bsz,fun b _ _=>noA b,fun b z=>absurd z (noA b),e0.funs,e0.frf,e0.tb],
  rfl,e0.bare,Un.kept hk,#[_,x.toInCall.ns,fun i y v h1 h2 h3=>?_],fun y c h=>#[_,x.cell y c h],e0.hok.fresh (qAe _),fun y c h=>?_,fun p hp=>absurd (show p∈([]:List (Addr×Obj)) from hp) (by simp),e0.hok.kept hk,?_]
 .exact name_of_addr x.apart (PySem.mem_of_lookup h1) (PySem.mem_of_lookup h2)
 .have hy:scope.names.lookup y=some .cell\/scope.names.lookup y=some .free:=hy
  rcases hy with hy|hy
  .exact MG hy
  .exact absurd rfl (S.nofree _ (PySem.mem_of_lookup hy))
 .exact qBk (x.above y c (PySem.mem_of_lookup h))
 .have hi:i<vs.length:=by
   unfold start at h2
   by_cases hi:i<vs.length
   .exact hi
   .rw[qAs (by simpa using hi)] at h2
    rw[qCs] at h2
    split at h2<;>cases h2
  have ha:vs[i]? = some v:=by
   unfold start at h2
   rw[qAp (by simpa using hi),qAc] at h2
   cases e:vs[i]? with
   |none=>rw[e] at h2;cases h2
   |some a=>rw[e] at h2;cases h2;rfl
  obtain⟨u,hu,rv⟩:=r.get ha
  have hp:ps[i]? = some y:=by
   rw[<-S.pre,qBS ()];exact h1
  have ndP:ps.Nodup:=by rw[<-S.pre];exact S.nd.sublist (List.take_sublist _ _)
  refine#[u,rv,?_]
  rcases S.par y (qAF hp) with k|k
  .exact .inl #[k,KQ ndP hp hu k]
  .obtain⟨c,e⟩:=MG (n:=s.heap.objs.size+1) k
   refine .inr #[.inl k,c,e,?_]
   have q:=x.cell y c e
   rw[K2 ndP hp hu (by show scope.names.lookup y≠_;rw[k];decide)] at q
   exact q
 .exact e0.hok.fresh (qBk (x.above y c (PySem.mem_of_lookup h)))
 .unfold start
  show _=N.length
  rw[qAx,qAa,List.length_replicate]
  omega
theorem QS {CX:CXT}{P:Program}{w:World}{K:W.Frag}{mg:Str->Option Value}{base:Heap}{k:Nat}{f:Addr}{name qual:Str}{params:Arguments}{body:List Stmt}{scope:Scope}{dV kV doc pm cdv ct oc:Value}{an od:Option Addr}
 {osl:Array (Option Value)}{N ps:List Str}{sp:Sp}(lk:K.lookup f=some #[oc,od,.func (W.fnOf name qual params body scope dV kV doc pm an cdv ct),osl]) (hcd:W.codeIn K cdv qual=true) (S:Ad N ps scope)
 (len:∀vs H Q E,sp vs H Q E->vs.length=ps.length)
 (hbody:∀(A:Around)(outer:List Env)(s:Shared)(H:Hp)(vs:List V)(Q:VK)(E:XK),E9 k (A.deeper (envOfC qual scope s.heap.objs.size f cdv))->sp vs H Q E ->
  ∃t,PSs (KR CX P w K mg base N qual scope f cdv A outer s H E) body t/\t { nx:=fun _ H'=>Q .non H',rt:=Q } (start N vs) H) :
 Ap P w K mg base CX (k+1) f (W.fnOf name qual params body scope dV kV doc pm an cdv ct) ps sp:=by
 refine#[len,fun A outer s H args us vs Q E hr e0 hb r hsp=>?_]
 have hl:=len _ _ _ _ hsp
 have KX:K.In s.heap:=e0.mod.kin.keeps fun b o e=>(e0.bs b o e).1
 have lim:s.heap.NoLimit:=e0.mod.nolimit.keeps fun b o e=>(e0.bs b o e).1
 have hkind:∀y∈ps.zip us,scope.names.lookup y.1=some .local\/(scope.names.lookup y.1=some .cell/\((cellsFrom (s.heap.objs.size+1) scope.names []).lookup y.1).isSome=true):=fun#[n,v] hy=>by
  rcases S.par n (qB4 hy).1 with q|q
  .exact .inl q
  .exact .inr #[q,qBX _ _ _ (.inl q)]
 refine codeAny_call_function hr.depth (KX _ _ lk) rfl S.co S.gen rfl (W.codeRec_of KX hcd) (hb _ _ _ _ ?_)
 refine wpAny_newFunctionEnv_cells S.kind hkind fun env he s1 x=>?_
 subst he
 refine#[lim.keeps x.toInCall.keep,codeAny_func ?_]
 obtain⟨t,ht,hq⟩:=hbody A outer s H vs Q E (hr.deeper _) hsp
 have I:Inv (KR CX P w K mg base N qual scope f cdv A outer s H E) [] (start N vs) H s1:=Ky S hr.hd e0 hl r x
 refine wpAny_mono (ht [] s1 (start N vs) H _ I hq) (fun fl s' hs=>?_) fun e s' hs=>hs
 have fin:∀{σ':St}{H':Hp}{v:V}{u:Value},Inv (KR CX P w K mg base N qual scope f cdv A outer s H E) [] σ' H' s'->Cz v u->Q v H'->CE outer P w H s Q u s' :=
  fun {σ' H' v u} J rv q=>#[v,H',J.os,J.bare,J.base,J.hok,rv,q]
 cases fl with
 |ret u =>
  obtain⟨v,σ',H',J,rv,q⟩:=hs
  exact fin J rv q
 |next =>
  obtain⟨σ',H',J,q⟩:=hs
  exact fin (v:=V.non) (u:=Value.none) J rfl q
 |brk =>
  obtain⟨_,_,_,q⟩:=hs
  exact False.elim q
 |cont =>
  obtain⟨_,_,_,q⟩:=hs
  exact False.elim q
section
variable {X:Cx}{x:Str}{p pos:Pos}{e:Expr}{es:List Expr}{t:TA}{id T:String}{r:List V->Hp->VK->Prop}
def tCB (r:List V->Hp->VK->Prop)(t:TA):TE:=fun σ H Q=>t σ H fun vs H1=>r vs H1 Q
theorem Hu (hc:HK X (.builtin id) r)(hg:Gl X x)(hm:X.mg x=none)(hv:bootBuiltins x=some (.builtin id))(ha:PA X (e::es) t)(hn:x≠"__name__":=by decide)(hdb:(x==("__debug__":Str))=false:=by decide)
 (he:starEach (e::es) X.env=(false,eval e X.env)::starEach es X.env:=by rfl)(hpl:(backTo pos (starEach es X.env)).any (·.1)=false:=by rfl):PE X (.Call (.Name x p) (e::es) [] pos) (tCB r t):=by
 intro pins s σ H Q I h
 refine wpAny_Call_Name_kw (GS I hg hm hv ?_ hn hdb)
 exact PyProof.Rows.callWith_builtin1 (thn (ha pos pins s σ H _ I h) fun us s1 #[vs,H1,I1,r1,q1]=>hc pins s1 σ H1 vs us Q I1 r1 q1) he hpl
theorem Oz (hc:HK X (.type T) r)(hg:Gl X x)(hm:X.mg x=none)(hv:bootBuiltins x=some (.type T))(ha:PA X (e::es) t)(hn:x≠"__name__":=by decide)(hdb:(x==("__debug__":Str))=false:=by decide)
 (he:starEach (e::es) X.env=(false,eval e X.env)::starEach es X.env:=by rfl)(hpl:(backTo pos (starEach es X.env)).any (·.1)=false:=by rfl):PE X (.Call (.Name x p) (e::es) [] pos) (tCB r t):=by
 intro pins s σ H Q I h
 refine wpAny_Call_Name_kw (GS I hg hm hv ?_ hn hdb)
 exact qA5 (thn (ha pos pins s σ H _ I h) fun us s1 #[vs,H1,I1,r1,q1]=>hc pins s1 σ H1 vs us Q I1 r1 q1) he hpl
end
end L2
namespace HT
open PySem PyProof.Rows
section
open PySem.SeqAt
open PySem.AutoSeq1 (wpAny_loadPart')
open PySem.MeetsSeq PySem.MeetsSeq2 PySem.MeetsSeq3
end
section
variable {prog:Program}{w:World}{A:Around}{E:Value->Shared->Prop}{s:Shared}
theorem cat_tup {t b:Addr}{vs ws:List Value}{Q:Value->Shared->Prop}(ht:IsTup s.heap t vs.toArray) (hb:IsTup s.heap b ws.toArray) (hv:vs≠[])
 (h1:ws=[]->Q (.ref t) s) (h2:ws≠[]->Q (.ref s.heap.objs.size) { s with heap:=s.heap.push { cls:=.type "tuple",data:=.seq (vs++ws).toArray } })
 (hsz:vs.length+ws.length<=sizeLine):wpAny (model prog w) A (binaryOp .Add (.ref t) (.ref b)) Q E s:=by
 obtain⟨⟨cls,dd,data,sl⟩,ho,hc,n,hd⟩:=id ht
 obtain⟨⟨cls2,dd2,data2,sl2⟩,ho2,hc2,n2,hd2⟩:=id hb
 simp only at hc hd hc2 hd2
 subst hc hd hc2 hd2
 have e:vs.toArray++ws.toArray=(vs++ws).toArray:=by simp
 by_cases hw:ws=[]
 .exact concat_meets #[_,ho,rfl] #[_,ho2,rfl] noFill_tuple_add seq_tuple_add qCx qCt (qCp _ _)
   (tuple_addW1 t b vs.toArray ws.toArray n n2 dd dd2 sl sl2 (by simpa using hv) (by simp[hw])) #[ho,ho2,h1 hw]
 .refine concat_meets #[_,ho,rfl] #[_,ho2,rfl] noFill_tuple_add seq_tuple_add qCx qCt (qCp _ _)
   (tuple_addW2 t b vs.toArray ws.toArray n n2 dd dd2 sl sl2 (by simpa using hv) (by simpa using hw) (by rw[qAv,qAv];exact hsz)) #[ho,ho2,?_]
  rw[e]
  exact h2 hw
def sIx (n d:Nat):Option Int->Nat
 |none=>d
 |some v=>if v<0 then (v+(n:Int)).toNat else min v.toNat n
theorem sIx_none (n d:Nat):sIx n d none=d:=rfl
theorem sIx_nat (n d k:Nat):sIx n d (some (k:Int))=min k n:=by
 show(if (k:Int)<0 then ((k:Int)+(n:Int)).toNat else min (k:Int).toNat n)=min k n
 rw[if_neg (),qBI]
theorem Uo (n d:Nat)(hd:d<=n)(o:Option Int):sIx n d o<=n:=by
 cases o with
 |none=>exact hd
 |some v =>
  show(if v<0 then (v+(n:Int)).toNat else min v.toNat n)<=n
  by_cases hv:v<0
  .rw[if_pos hv];omega
  .rw[if_neg hv];exact Nat.min_le_right _ _
theorem PJ (v:Int)(n d:Nat):(if v<0 then max (v+(n:Int)) 0 else min v (n:Int))=((sIx n d (some v):Nat):Int):=by
 show(if v<0 then max (v+(n:Int)) 0 else min v (n:Int))=(((if v<0 then (v+(n:Int)).toNat else min v.toNat n):Nat):Int)
 by_cases hv:v<0
 .simp only[if_pos hv];omega
 .simp only[if_neg hv];omega
theorem M4 (lo hi:Option Int)(n:Nat):Builtin.Slice.sliceAdjust lo hi 1 (n:Int)=(((sIx n 0 lo:Nat):Int),((sIx n n hi:Nat):Int)):=by
 have h1:¬((1:Int)<0):=()
 unfold Builtin.Slice.sliceAdjust
 simp only[h1,if_false]
 refine Prod.ext ?_ ?_
 .cases lo with
  |none=>rfl
  |some v=>exact PJ v n 0
 .cases hi with
  |none=>rfl
  |some v=>exact PJ v n n
theorem M3 (i j:Nat):Builtin.Slice.slicePlaces (i:Int) (j:Int) 1=j-i:=by
 unfold Builtin.Slice.slicePlaces
 have h1:(1:Int)>0:=()
 simp only[h1,if_true,Int.ediv_one]
 split<;>omega
theorem Jb {v:Value}{o:Option Int}{Q:Option Int->Shared->Prop}(p:IsPart v o) (h:Q o s):wpAny (model prog w) A (Builtin.Slice.slicePartIndex v) Q E s:=by
 cases p with
 |none=>exact slicePart_none h
 |int i t=>exact slicePart_int h
theorem G5 {sl:Addr}{vl vu:Value}{lo hi:Option Int}{n:Nat}{Q:Int×Int×Nat->Shared->Prop}(hs:s.heap.IsSliceOf sl vl vu .none) (pl:IsPart vl lo) (pu:IsPart vu hi)
 (h:Q (((sIx n 0 lo:Nat):Int),1,sIx n n hi-sIx n 0 lo) s):wpAny (model prog w) A (Builtin.Slice.sliceApplied (.ref sl) (pure (n:Int))) Q E s:=by
 obtain⟨os,hos,hcs,hds⟩:=id hs
 unfold Builtin.Slice.sliceApplied Builtin.Slice.sliceFields
 refine wpAny_bind (wpAny_bind (wpAny_field hos hds (x:=vl) rfl (wpAny_bind (wpAny_field hos hds (x:=vu) rfl (wpAny_bind (wpAny_field hos hds (x:=.none) rfl (wpAny_pure ?_)))))))
 refine wpAny_bind (slicePart_none ?_)
 show wpAny _ _ (if ((1:Int)==0)=true then _ else _) _ _ s
 rw[if_neg ∅]
 refine wpAny_bind (Jb pl (wpAny_bind (Jb pu (wpAny_bind (wpAny_pure ?_)))))
 show wpAny _ _ (match Builtin.Slice.sliceAdjust lo hi 1 (n:Int) with|(lo,hi)=>pure (lo,(1:Int),Builtin.Slice.slicePlaces lo hi 1)) _ _ s
 rw[M4 lo hi n]
 show wpAny _ _ (pure (((sIx n 0 lo:Nat):Int),(1:Int),Builtin.Slice.slicePlaces ((sIx n 0 lo:Nat):Int) ((sIx n n hi:Nat):Int) 1)) _ _ s
 rw[M3]
 exact wpAny_pure h
theorem QW (xs:Array Value)(i k:Nat):((List.range k).filterMap fun(m:Nat)=>xs[((i:Int)+(m:Int)*1).toNat]?).toArray=((xs.toList.drop i).take k).toArray:=by
 have e:(fun(m:Nat)=>xs[((i:Int)+(m:Int)*1).toNat]?)=fun m=>xs[i+m]? := by
  funext m
  have:((i:Int)+(m:Int)*1).toNat=i+m:=()
  rw[this]
 rw[e]
 have:=pick_run xs i k
 rw[qBu] at this
 have e2:((fun x=>xs[x]?) ∘ fun x=>i+x)=fun m=>xs[i+m]? := rfl
 rw[e2] at this
 rw[this]
theorem getItem_tuple_cut {t sl:Addr}{items:Array Value}{vl vu:Value}{lo hi:Option Int}{Q:Value->Shared->Prop}(ht:IsTup s.heap t items) (hs:s.heap.IsSliceOf sl vl vu .none) (pl:IsPart vl lo) (pu:IsPart vu hi)
 (hw:¬(sIx items.size 0 lo=0/\sIx items.size items.size hi=items.size))
 (h:Q (.ref s.heap.objs.size) { s with heap:=s.heap.push { cls:=.type "tuple",data:=.seq ((items.toList.drop (sIx items.size 0 lo)).take (sIx items.size items.size hi-sIx items.size 0 lo)).toArray } })
 (hsz:items.size<=sizeLine):wpAny (model prog w) A (getItem (.ref t) (.ref sl)) Q E s:=by
 have htake:sizeOk (.seq ((items.toList.drop (sIx items.size 0 lo)).take (sIx items.size items.size hi-sIx items.size 0 lo)).toArray):=by
  show((items.toList.drop (sIx items.size 0 lo)).take (sIx items.size items.size hi-sIx items.size 0 lo)).toArray.size<=sizeLine
  rw[qAv,qAS,qAR,Array.length_toList]
  omega
 have hj:sIx items.size items.size hi<=items.size:=Uo _ _ (qAe _) hi
 obtain⟨os,hos,hcs,hds⟩:=id hs
 have hTs:s.TypeIs (.ref sl) "slice":=#[os,hos,hcs]
 unfold getItem
 try with_reducible refine wpAny_holding ?_
 first|refine wpAny_bind (wpAny_pure ?_)|skip
 refine wpAny_bind (wpAny_sequenceKey ht.typeIs ∅ ?_)
 refine wpAny_bind (wpAny_callSpecial?_slot (name:=Str.ofString "__getitem__") ht.typeIs qB2
  (wpAny_call_entry qB2 ht.typeIs entry_tuple_getitem ?_ (args_tuple_getitem _ _)))
 show wpAny _ _ (Builtin.Tuple.tupleItemsOf (.ref t) >>= _) _ _ s
 refine wpAny_bind (tupleItemsOf_ ht ?_)
 refine wpAny_bind (wpAny_typeOf hTs ?_)
 rw[if_pos ∅]
 refine wpAny_bind (G5 hs pl pu ?_)
 have hno:¬((((sIx items.size 0 lo:Nat):Int)==0&&(1:Int)==1&&(sIx items.size items.size hi-sIx items.size 0 lo)==items.size)=true):=by
  intro q
  rw[qAT,qAT] at q
  have q1:((sIx items.size 0 lo:Nat):Int)=0:=eq_of_beq q.1.1
  have q2:sIx items.size items.size hi-sIx items.size 0 lo=items.size:=eq_of_beq q.2
  exact hw #[(),()]
 show wpAny _ _ (if (((sIx items.size 0 lo:Nat):Int)==0&&(1:Int)==1&&(sIx items.size items.size hi-sIx items.size 0 lo)==items.size)=true then _ else _) _ _ s
 rw[if_neg hno,QW]
 first
  |exact wpAny_bind (m:=Builtin.Tuple.tupleExact _) (wpAny_newObj_type (wpAny_pure #[_,rfl,wpAny_pure h]) htake)
  |exact wpAny_bind (m:=Builtin.Tuple.tupleExact _) (wpAny_newObj_type (wpAny_bind (wpAny_pure (wpAny_pure #[_,rfl,wpAny_pure h]))) htake)
  |exact wpAny_bind (wpAny_bind (m:=Builtin.Tuple.tupleExact _) (wpAny_newObj_type (wpAny_pure (wpAny_pure #[_,rfl,wpAny_pure h])) htake))
  |exact wpAny_bind (wpAny_bind (m:=Builtin.Tuple.tupleExact _) (wpAny_newObj_type (wpAny_pure #[_,rfl,wpAny_pure h]) htake))
end
end HT
namespace L2
open PySem PySem.Spec PyProof.Rows
abbrev TO:=St->Hp->(Option Int->Hp->Prop)->Prop
def PO (X:Cx)(e:Option Expr)(t:TO):Prop :=
 ∀(pins:List (Addr×Obj))(s:Shared)(σ:St)(H:Hp)(Q:Option Int->Hp->Prop),Inv X pins σ H s->t σ H Q ->
  wpAny (model X.prog X.w) X.A (evalPart e X.env) (fun u s'=>∃o H',Inv X pins σ H' s'/\IsPart u o/\Q o H') X.xe s
def Si:TO:=fun _ H Q=>Q none H
def Ws (t:TE):TO:=fun σ H Q=>t σ H fun x H1=>∃i,x=.int i/\Q (some i) H1
section
variable {X:Cx}{e:Expr}{te:TE}{lo hi:Option Expr}{tl th:TO}{pos p2:Pos}
theorem SE:PO X none Si:=by
 intro pins s σ H Q I h
 rw[evalPart_none]
 exact wpAny_pure #[none,H,I,.none,h]
theorem TX (h:PE X e te):PO X (some e) (Ws te):=by
 intro pins s σ H Q I hw
 rw[evalPart_some]
 refine thn (h pins s σ H _ I hw) fun u s1 hh=>?_
 obtain⟨x,H1,I1,r1,q1⟩:=hh
 obtain⟨i,rfl,q⟩:=q1
 obtain⟨t,rfl⟩:=r1
 exact#[some i,H1,I1,.int i t,q]
def SlR (X:Cx)(r:V->Option Int->Option Int->Hp->VK->Prop):Prop :=
 ∀(pins:List (Addr×Obj))(s:Shared)(σ:St)(H:Hp)(x:V)(v vl vu:Value)(lo hi:Option Int)(sl:Addr)(Q:VK),Inv X pins σ H s->Cz x v->s.heap.IsSliceOf sl vl vu .none->IsPart vl lo->IsPart vu hi->r x lo hi H Q ->
  ∃T id,typeLookup (.type T) "__getitem__"=pure (some (.builtin id))/\s.TypeIs v T/\wpAny (model X.prog X.w) X.A (getItem v (.ref sl)) (EP X pins σ Q) X.xe s
theorem SlR.or {r r':V->Option Int->Option Int->Hp->VK->Prop}(h:SlR X r) (h':SlR X r'):SlR X (fun x lo hi H Q=>r x lo hi H Q\/r' x lo hi H Q):=by
 intro pins s σ H x v vl vu lo hi sl Q I rx hs pl pu q
 rcases q with q|q
 .exact h pins s σ H x v vl vu lo hi sl Q I rx hs pl pu q
 .exact h' pins s σ H x v vl vu lo hi sl Q I rx hs pl pu q
def tSl (r:V->Option Int->Option Int->Hp->VK->Prop)(te:TE)(tl th:TO):TE:=fun σ H Q=>te σ H fun x H1=>tl σ H1 fun l H2=>th σ H2 fun u H3=>r x l u H3 Q
theorem Q3 {r:V->Option Int->Option Int->Hp->VK->Prop}(hr:SlR X r) (he:PE X e te) (hl:PO X lo tl) (hu:PO X hi th):PE X (.Subscript e (.Slice lo hi none p2) pos) (tSl r te tl th):=by
 intro pins s σ H Q I h
 refine Subscript_ (thn (he pins s σ H _ I h) fun v s1 hh=>?_)
 obtain⟨x,H1,I1,r1,q1⟩:=hh
 refine wpAny_Slice (thn (hl pins s1 σ H1 _ I1 q1) fun vl s2 #[l,H2,I2,pl,q2]=>thn (hu pins s2 σ H2 _ I2 q2) fun vu s3 hh=>?_)
 obtain⟨u,H3,I3,pu,q3⟩:=hh
 rw[evalPart_none]
 refine wpAny_pure ?_
 have I4:Inv X pins σ H3 { s3 with heap:=s3.heap.push { cls:=.type "slice",data:=.fields (List.toArray [vl,vu,.none]) } }:=I3.kept (t':=s3.toks) fun b ob q=>qAh _ q
 obtain⟨T,id,hT,ht,hg⟩:=hr pins { s3 with heap:=s3.heap.push { cls:=.type "slice",data:=.fields (List.toArray [vl,vu,.none]) } } σ H3 x v vl vu l u s3.heap.objs.size Q I4 r1 (Heap.IsSliceOf.new ..) pl pu q3
 show wpAny (model X.prog X.w) X.A (subscriptTail e (.Slice lo hi none p2) v (.ref s3.heap.objs.size)) (EP X pins σ Q) X.xe { s3 with heap:=s3.heap.push { cls:=.type "slice",data:=.fields (List.toArray [vl,vu,.none]) } }
 exact tail_any (ops:=[.ref s3.heap.objs.size,v]) ht hT hg (by with_unfolding_all rfl)
def NB (xs:List V)(lo hi:Option Int):List V:=(xs.drop (HT.sIx xs.length 0 lo)).take (HT.sIx xs.length xs.length hi-HT.sIx xs.length 0 lo)
theorem HG (xs:List V)(lo hi:Option Int):(NB xs lo hi).length<=xs.length:=by
 unfold NB
 rw[qAS,qAR]
 omega
def XV (K:W.Frag):V->Option Int->Option Int->Hp->VK->Prop:=fun x lo hi H Q=>∃a xs,x=.ref a/\SqT K H a xs /\
 ¬(HT.sIx xs.length 0 lo=0/\HT.sIx xs.length xs.length hi=xs.length)/\∀p,H p=none->Q (.ref p) (upd H p (.tup (NB xs lo hi)))
theorem Vq:SlR X (XV X.K):=by
 intro pins s σ H x v vl vu lo hi sl Q I rx hs pl pu h
 obtain⟨a,xs,rfl,hx,hw,q⟩:=h
 cases rx
 obtain⟨its,r,ht,hz⟩:=I.tuple hx
 have hlen:its.toArray.size=xs.length:=by rw[qAv];exact r.length.symm
 refine#["tuple",_,PyProof.Rows.slot_tuple_getitem.lookup,ht.typeIs,?_]
 refine HT.getItem_tuple_cut ht hs pl pu (by rw[hlen];exact hw) ?_ (by rw[hlen];exact hz)
 rw[hlen]
 refine#[.ref s.heap.objs.size,_,I.laid (t':=s.toks) (o:=.tup (NB xs lo hi)) (fun b ob q=>qAh _ q) (qAe _) ?_,rfl,q _ (I.hok.fresh (qAe _))]
 exact#[qAJ (HG xs lo hi) hz,_,(r.drop (HT.sIx xs.length 0 lo)).take (HT.sIx xs.length xs.length hi-HT.sIx xs.length 0 lo),IsTup.new _ _]
def Wv (K:W.Frag):R2:=fun x y H Q=>∃a b xs ys,x=.ref a/\y=.ref b/\SqT K H a xs/\SqT K H b ys/\xs≠[]/\xs.length+ys.length<=sizeLine /\
 (ys=[]->Q (.ref a) H)/\(ys≠[]->∀p,H p=none->Q (.ref p) (upd H p (.tup (xs++ys))))
theorem B4.nil_iff {xs:List V}{us:List Value}(r:B4 xs us):us=[] ↔ xs=[]:=by
 cases r with
 |nil=>simp
 |cons _ _=>simp
theorem Tl:OpR X (binaryOp .Add) (Wv X.K):=by
 intro pins s σ H x y v u Q I rx ry h
 obtain⟨a,b,xs,ys,rfl,rfl,ha,hb,hx,hz,q1,q2⟩:=h
 cases rx
 cases ry
 obtain⟨its,r1,p1,_⟩:=I.tuple ha
 obtain⟨its2,r2,p2,_⟩:=I.tuple hb
 refine HT.cat_tup p1 p2 (fun z=>hx (r1.nil_iff.mp z)) (fun z=>#[.ref a,H,I,rfl,q1 (r2.nil_iff.mp z)]) (fun z=>?_) (by rw[<-r1.length,<-r2.length];exact hz)
 refine#[.ref s.heap.objs.size,_,I.laid (t':=s.toks) (o:=.tup (xs++ys)) (fun b ob q=>qAh _ q) (qAe _) ?_,rfl,q2 (fun w=>z (r2.nil_iff.mpr w)) _ (I.hok.fresh (qAe _))]
 exact#[by rw[qAx];exact hz,_,r1.append r2,IsTup.new _ _]
end
def ixN (n:Nat)(i:Int):Option Nat:=if 0<=i then (if i<n then some i.toNat else none) else if -(n:Int)<=i then some (i+n).toNat else none
def atI {α:Type}(xs:List α) (i:Int):Option α:=(ixN xs.length i).bind fun j=>xs[j]?
theorem Tu {n:Nat}{i:Int}{j:Nat}(h:ixN n i=some j):seqIndex? i n=some j/\j<n/\-(n:Int)<=i/\i<n:=by
 unfold ixN at h
 by_cases h0:0<=i
 .rw[if_pos h0] at h
  by_cases h1:i<n
  .rw[if_pos h1] at h
   have e:i.toNat=j:=qAl h
   exact#[by rw[seqIndex_of h0 h1,e],(),(),h1]
  .rw[if_neg h1] at h;cases h
 .rw[if_neg h0] at h
  by_cases h1:-(n:Int)<=i
  .rw[if_pos h1] at h
   have e:(i+n).toNat=j:=qAl h
   exact#[by rw[seqIndex_neg () h1,e],(),h1,()]
  .rw[if_neg h1] at h;cases h
theorem OH {α:Type}{xs:List α}{i:Int}{v:α}(h:atI xs i=some v):∃j,seqIndex? i xs.length=some j/\xs[j]? = some v/\j<xs.length/\-(xs.length:Int)<=i/\i<xs.length:=by
 unfold atI at h
 cases e:ixN xs.length i with
 |none=>rw[e] at h;cases h
 |some j =>
  rw[e] at h
  obtain⟨h1,h2,h3,h4⟩:=Tu e
  exact#[j,h1,h,h2,h3,h4]
theorem atI_nat {α:Type}{xs:List α}{j:Nat}{v:α}(h:xs[j]? = some v):atI xs (j:Int)=some v:=by
 have hj:j<xs.length:=(qAd.mp h).1
 have e:ixN xs.length (j:Int)=some j:=by
  unfold ixN
  rw[if_pos (),if_pos ()];simp
 unfold atI;rw[e];exact h
def OU (b:Expr):Prop:=∀o i,subscripted b false o i=operate [o,i] (getItem o i)
def IxR (X:Cx)(r:R2):Prop :=
 ∀(value slice:Expr)(pins:List (Addr×Obj))(s:Shared)(σ:St)(H:Hp)(x y:V)(v u:Value)(Q:VK),Inv X pins σ H s->Cz x v->Cz y u->r x y H Q ->
  subscripted slice false v u=operate [v,u] (getItem v u)->wpAny (model X.prog X.w) X.A (subscriptTail value slice v u) (EP X pins σ Q) X.xe s
def MtR (X:Cx)(id:String)(r:V->List V->Hp->VK->Prop):Prop :=
 ∀(pins:List (Addr×Obj))(s:Shared)(σ:St)(H:Hp)(x:V)(xs:List V)(v:Value)(us:List Value)(Q:VK),Inv X pins σ H s->Cz x v->B4 xs us->r x xs H Q ->
  wpAny (model X.prog X.w) X.A (call (.builtin id) (v::us)) (EP X pins σ Q) X.xe s
section
variable {X:Cx}{a b:Expr}{ta tb:TE}{pos:Pos}
theorem IxR.or {r r':R2}(h:IxR X r) (h':IxR X r'):IxR X (fun x y H Q=>r x y H Q\/r' x y H Q):=by
 intro value slice pins s σ H x y v u Q I rx ry q hs
 rcases q with q|q
 .exact h value slice pins s σ H x y v u Q I rx ry q hs
 .exact h' value slice pins s σ H x y v u Q I rx ry q hs
theorem Wc {r:R2}(hr:IxR X r) (ha:PE X a ta) (hb:PE X b tb) (hs:OU b):PE X (.Subscript a b pos) (tOp r ta tb):=by
 intro pins s σ H Q I h
 exact Subscript_ (V1 ha hb I h fun v u s2 x y H2 I2 rx ry q=>hr a b pins s2 σ H2 x y v u Q I2 rx ry q (hs _ _))
def X8 (K:W.Frag):R2:=fun x y H Q=>∃p xs i v,x=.ref p/\y=.int i/\SqL K H p xs/\atI xs i=some v/\Q v H
def XF (K:W.Frag):R2:=fun x y H Q=>∃p xs i v,x=.ref p/\y=.int i/\SqT K H p xs/\atI xs i=some v/\Q v H
theorem TN:IxR X (X8 X.K):=by
 intro value slice pins s σ H x y v u Q I rx ry h hs
 obtain⟨p,xs,i,z,rfl,rfl,hq,he,q⟩:=h
 cases rx
 obtain⟨t,rfl⟩:=ry
 obtain⟨its,r,pl,hz⟩:=I.list hq
 obtain⟨j,h1,h2,h3,h4,h5⟩:=OH he
 obtain⟨w,ew,rw'⟩:=r.get h2
 have hl:=r.length
 have hn:=L9
 have fin:EP X pins σ Q w s:=#[z,H,I,rw',q]
 by_cases h0:0<=i
 .have hj:i.toNat=j:=by
   rw[seqIndex_of h0 h5] at h1
   exact qAl h1
  exact item_listR pl.isList h0 () (by rw[hj];simpa using ew) fin hs
 .have hj:(i+(its.toArray.size:Int)).toNat=j:=by
   rw[seqIndex_neg () h4] at h1
   rw[qAv,<-hl]
   exact qAl h1
  exact subscriptTail_builtinR (x:=w) pl.isList.typeIs slot_list_getitem.lookup
   (wpAny_getItem_list_neg (Q:=fun r s'=>r=w/\EP X pins σ Q r s') pl.isList () (by rw[qAv]<;>omega) () (by rw[hj];simpa using ew) #[rfl,fin]) hs
theorem UJ:IxR X (XF X.K):=by
 intro value slice pins s σ H x y v u Q I rx ry h hs
 obtain⟨p,xs,i,z,rfl,rfl,hq,he,q⟩:=h
 cases rx
 obtain⟨t,rfl⟩:=ry
 obtain⟨its,r,pl,hz⟩:=I.tuple hq
 obtain⟨j,h1,h2,h3,h4,h5⟩:=OH he
 obtain⟨w,ew,rw'⟩:=r.get h2
 have hl:=r.length
 have hn:=L9
 have fin:EP X pins σ Q w s:=#[z,H,I,rw',q]
 exact subscriptTail_builtinR (x:=w) pl.typeIs slot_tuple_getitem.lookup
  (getItem_tuple (j:=j) (Q:=fun r s'=>r=w/\EP X pins σ Q r s') pl () () (by rw[qAv,<-hl];exact h1) (by simpa using ew) #[rfl,fin]) hs
theorem KT (lo hi:Option Int)(n:Nat):(sliceBounds lo hi none n).1=((HT.sIx n 0 lo:Nat):Int)/\(sliceBounds lo hi none n).2.1=((HT.sIx n n hi:Nat):Int)/\(sliceBounds lo hi none n).2.2=1:=by
 refine#[?_,?_,rfl]
 .cases lo with
  |none=>simp[sliceBounds,HT.sIx]
  |some i =>
   simp only[sliceBounds,HT.sIx,Option.getD_none,show(1:Int)>0 from ∅,if_true]
   by_cases h:i<0
   .simp only[h,if_true]<;>omega
   .simp only[h,if_false]<;>omega
 .cases hi with
  |none=>simp[sliceBounds,HT.sIx]
  |some i =>
   simp only[sliceBounds,HT.sIx,Option.getD_none,show(1:Int)>0 from ∅,if_true]
   by_cases h:i<0
   .simp only[h,if_true]<;>omega
   .simp only[h,if_false]<;>omega
theorem JE (its:List Value)(lo hi:Option Int):slicePick its.toArray lo hi none=((its.drop (HT.sIx its.length 0 lo)).take (HT.sIx its.length its.length hi-HT.sIx its.length 0 lo)).toArray:=by
 obtain⟨h1,h2,h3⟩:=KT lo hi its.toArray.size
 unfold slicePick
 rw[h1,h2,h3]
 simp only[sliceRange_one,pick_run,qAv]<;>rfl
def Yi (K:W.Frag):V->Option Int->Option Int->Hp->VK->Prop:=fun x lo hi H Q=>∃a xs,x=.ref a/\SqL K H a xs/\∀p,H p=none->Q (.ref p) (upd H p (.lst (NB xs lo hi)))
theorem Sh:SlR X (Yi X.K):=by
 intro pins s σ H x v vl vu lo hi sl Q I rx hs pl pu h
 obtain⟨a,xs,rfl,hx,q⟩:=h
 cases rx
 obtain⟨its,r,ht,hz⟩:=I.list hx
 have hlen:=r.length
 refine#["list",_,slot_list_getitem.lookup,ht.isList.typeIs,?_]
 refine wpAny_getItem_list_slice ht.isList hs pl pu .none (by simp) ?_ (by rw[qAv]<;>omega)
 rw[JE,<-hlen]
 refine#[.ref s.heap.objs.size,_,I.laid (t':=s.toks) (o:=.lst (NB xs lo hi)) (fun b ob q=>qAh _ q) (qAe _) ?_,rfl,q _ (I.hok.fresh (qAe _))]
 exact#[qAJ (HG xs lo hi) hz,_,0,(r.drop (HT.sIx xs.length 0 lo)).take (HT.sIx xs.length xs.length hi-HT.sIx xs.length 0 lo),qAu _ rfl]
def flatV:V->Bool
 |.non=>true
 |.bl _=>true
 |.int _=>true
 |.str _=>true
 |_=>false
def eqV:V->V->Bool
 |.non,.non=>true
 |.bl a,.bl b=>a==b
 |.bl a,.int b=>(if a then 1 else 0)==b
 |.int a,.bl b=>a==(if b then 1 else 0)
 |.int a,.int b=>a==b
 |.str a,.str b=>a==b
 |_,_=>false
theorem Rc {A:Around}{s:Shared}{y x:V}{u v:Value}(ry:Cz y u) (rx:Cz x v) (fy:flatV y=true) (fx:flatV x=true):SeqAt.EqAt A s u v (eqV y x):=by
 cases y with
 |non =>
  cases ry
  cases x with
  |non=>cases rx;exact SeqAt.EqAt.same _
  |bl b=>cases rx;exact SeqAt.EqAt.none_bool b
  |int b=>obtain⟨t,rfl⟩:=rx;exact SeqAt.EqAt.none_int b t
  |str b=>obtain⟨t,rfl⟩:=rx;exact SeqAt.EqAt.none_str b t
  |_=>exact absurd (show false=true from fx) qAn
 |bl a =>
  cases ry
  cases x with
  |non=>cases rx;exact SeqAt.EqAt.bool_none a
  |bl b=>cases rx;exact SeqAt.EqAt.bool_bool a b
  |int b=>obtain⟨t,rfl⟩:=rx;exact SeqAt.EqAt.bool_int a b t
  |str b=>obtain⟨t,rfl⟩:=rx;exact SeqAt.EqAt.bool_str a b t
  |_=>exact absurd (show false=true from fx) qAn
 |int a =>
  obtain⟨t',rfl⟩:=ry
  cases x with
  |non=>cases rx;exact SeqAt.EqAt.int_none a t'
  |bl b=>cases rx;exact SeqAt.EqAt.int_bool a t' b
  |int b=>obtain⟨t,rfl⟩:=rx;exact SeqAt.EqAt.int_int a t' b t
  |str b=>obtain⟨t,rfl⟩:=rx;exact SeqAt.EqAt.int_str a t' b t
  |_=>exact absurd (show false=true from fx) qAn
 |str a =>
  obtain⟨t',rfl⟩:=ry
  cases x with
  |non=>cases rx;exact SeqAt.EqAt.str_none a t'
  |bl b=>cases rx;exact SeqAt.EqAt.str_bool a t' b
  |int b=>obtain⟨t,rfl⟩:=rx;exact SeqAt.EqAt.str_int a t' b t
  |str b=>obtain⟨t,rfl⟩:=rx;exact SeqAt.EqAt.str_str a t' b t
  |_=>exact absurd (show false=true from fx) qAn
 |_=>exact absurd (show false=true from fy) qAn
theorem KS:HK X (.builtin "len") (fun xs H Q=>∃p ys,xs=[.ref p]/\(SqL X.K H p ys\/SqT X.K H p ys)/\Q (.int ys.length) H):=by
 intro pins s σ H xs us Q I r h
 obtain⟨p,ys,rfl,hq,q⟩:=h
 obtain⟨u,rfl,rx⟩:=K7 r
 cases rx
 have hn:=L9
 rcases hq with hq|hq
 .obtain⟨its,r',pl,hz⟩:=I.list hq
  have hlen:=r'.length
  exact Calls.call_len_list pl.isList (by simp only[qAv]<;>omega) #[.int ys.length,H,I.tok _,#[s.toks+1,by rw[qAv,hlen]],q]
 .obtain⟨its,r',pl,hz⟩:=I.tuple hq
  have hlen:=r'.length
  exact len_tuple pl (by simp only[qAv]<;>omega) #[.int ys.length,H,I.tok _,#[s.toks+1,by rw[qAv,hlen]],q]
theorem JB:HK X (.type "tuple") (fun xs H Q=>∃p ys,xs=[.ref p]/\((SqL X.K H p ys/\∀l,H l=none->Q (.ref l) (upd H l (.tup ys)))\/(SqT X.K H p ys/\Q (.ref p) H))):=by
 intro pins s σ H xs us Q I r h
 obtain⟨p,ys,rfl,h⟩:=h
 obtain⟨u,rfl,rx⟩:=K7 r
 cases rx
 rcases h with⟨hq,q⟩|⟨hq,q⟩
 .obtain⟨its,r',pl,hz⟩:=I.list hq
  have hlen:=r'.length
  refine call_tuple_list pl.isList (fun h' kp=>?_) (by simp only[qAv]<;>omega)
  have I1:Inv X pins σ H { s with heap:=h' }:=I.kept (t':=s.toks) kp
  have I2:Inv X pins σ (upd H h'.objs.size (.tup ys)) { s with heap:=h'.push { cls:=.type "tuple",data:=.seq its.toArray } } :=
   I1.laid (t':=s.toks) (fun b o e=>qAh _ e) (qAe _) (show C1 X.prog X.w _ _ _ (.tup ys) from #[hz,its,r',IsTup.new _ _])
  exact#[.ref h'.objs.size,_,I2,rfl,q _ (I1.hok.fresh (qAe _))]
 .obtain⟨its,r',pl,hz⟩:=I.tuple hq
  exact call_tuple_same pl #[.ref p,H,I,rfl,q]
def tyV (K:W.Frag)(T:String)(x:V)(H:Hp):Prop:=match x with
 |.str _=>T="str"
 |.int _=>T="int"
 |.ref p=>(T="list"/\∃xs,SqL K H p xs)\/(T="tuple"/\∃o,K.lookup p=some o/\o.cls=.type "tuple"/\o.dict=none) \/
  (T="dict"/\((∃kvs,H p=some (.dK kvs))\/∃kvs,H p=some (.dT kvs)))\/(T="set"/\∃S n,H p=some (.set S n))
 |_=>False
theorem Vs {pins:List (Addr×Obj)}{σ:St}{H:Hp}{s:Shared}{T:String}{x:V}{v:Value}(I:Inv X pins σ H s) (r:Cz x v) (ty:tyV X.K T x H) :
 s.TypeIs v T/\∀a,v=.ref a->∃ob,s.heap.get? a=some ob/\ob.dict=none:=by
 cases x with
 |str z =>
  obtain⟨t,rfl⟩:=r
  cases (show T="str" from ty)
  exact#[typeIs_str s z t,fun _ e=>nomatch e]
 |int i =>
  obtain⟨t,rfl⟩:=r
  cases (show T="int" from ty)
  exact#[typeIs_int s i t,fun _ e=>nomatch e]
 |ref p =>
  cases r
  rcases ty with⟨rfl,xs,hq⟩|⟨rfl,o,hk,hc,hd⟩|⟨rfl,hk⟩|⟨rfl,S,n,hk⟩
  .obtain⟨its,_,pl,_⟩:=I.list hq
   refine#[pl.isList.typeIs,fun a e=>?_]
   cases e
   obtain⟨o,n,e,c,hd,_⟩:=pl
   exact#[o,e,hd]
  .refine#[#[o,I.kIn p o hk,hc],fun a e=>?_]
   cases e
   exact#[o,I.kIn _ o hk,hd]
  .have z:∃o,s.heap.get? p=some o/\o.ExactDict:=by
    rcases hk with⟨kvs,hk⟩|⟨kvs,hk⟩
    .obtain⟨_,_,_,_,o,_,_,e,ex,_⟩:=I.hok p _ hk
     exact#[o,e,ex]
    .obtain⟨_,_,_,_,o,_,_,e,ex,_⟩:=I.hok p _ hk
     exact#[o,e,ex]
   obtain⟨o,e,ex⟩:=z
   refine#[#[o,e,ex.1],fun a e2=>?_]
   cases e2
   exact#[o,e,ex.2.1]
  .obtain⟨o,_,_,_,e,ex,_⟩:=I.hok p _ hk
   refine#[#[o,e,ex.1],fun a e2=>?_]
   cases e2
   exact#[o,e,ex.2.1]
 |_=>exact False.elim ty
def tBM (K:W.Frag)(T:String)(r:V->List V->Hp->VK->Prop)(to:TE)(t:TA):TE:=fun σ H Q=>to σ H fun x H1=>tyV K T x H1/\t σ H1 fun xs H2=>r x xs H2 Q
variable {o e:Expr}{es:List Expr}{to:TE}{t:TA}{name:Str}{apos cpos:Pos}{T id:String}{r:V->List V->Hp->VK->Prop}
theorem Fo (pa:PlainAttrs T)(slot:Slot T name id)(hty:typeOf (.builtin id)=pure (.type "method_descriptor"))(hm:MtR X id r)(ho:PE X o to)(ha:PA X (e::es) t)
 (hbase:attributeBase o name X.env (eval o X.env)=eval o X.env:=by rfl)
 (hfew:((backTo cpos (starEach (e::es) X.env)).all (fun x=>!x.1)&&(backToKw cpos (keywordEach [] X.env)).all (fun x=>x.1.isSome)
  && decide ((e::es).length+([]:List Keyword).length+(if ([]:List Keyword).isEmpty then 0 else 1)<30))=true:=by rfl)
 (hline:(apos.endLine==cpos.line)=true:=by rfl) (hs:starEach (e::es) X.env=(false,eval e X.env)::starEach es X.env:=by rfl) (hplain:(backTo cpos (starEach es X.env)).any (·.1)=false:=by rfl) :
 PE X (.Call (.Attribute o name apos) (e::es) [] cpos) (tBM X.K T r to t):=by
 intro pins s σ H Q I h
 refine wpAny_Call_method_late hbase hfew hline rfl (thn (ho pins s σ H _ I h) fun v s1 hh=>?_)
 obtain⟨x,H1,I1,r1,ty,q1⟩:=hh
 obtain⟨h1,h2⟩:=Vs I1 r1 ty
 refine#[T,id,pa,slot,hty,h1,h2,?_]
 have hA:=ha cpos pins s1 σ H1 _ I1 q1
 rw[hs] at hA ⊢
 refine Calls.callWith_builtin (by show(false||(backTo cpos (starEach es X.env)).any (·.1))=false;rw[hplain]<;>rfl) (Calls.evalArgs_plain ?_)
 exact thn hA fun us s2 #[vs,H2,I2,r2,q2]=>hm pins s2 σ H2 x vs v us Q I2 r1 r2 q2
end
def MtM (X:Cx)(id:String)(r:V->List V->Hp->VK->Prop):Prop :=
 ∀(pins:List (Addr×Obj))(s:Shared)(σ:St)(H:Hp)(x:V)(xs:List V)(v:Value)(us:List Value)(Q:VK),Inv X pins σ H s->Cz x v->B4 xs us->r x xs H Q ->
  wpAny (model X.prog X.w) X.A (call (.builtin id) (v::us)) (EP X pins σ Q) X.xe s
theorem B4.one:∀{x:V}{us:List Value},B4 [x] us->∃u,us=[u]/\Cz x u
 |_,_,.cons r .nil=>#[_,rfl,r]
theorem B4.reverse {xs:List V}{us:List Value}(h:B4 xs us):B4 xs.reverse us.reverse:=by
 induction h with
 |nil=>exact .nil
 |cons r t ih=>rw[List.reverse_cons,List.reverse_cons];exact B4.append ih (.cons r .nil)
section
variable {X:Cx}{pins:List (Addr×Obj)}{σ:St}{H:Hp}{s:Shared}{l b:Addr}{xs ys zs:List V}
theorem Inv.lset {its its':List Value}{n:Nat}{f:Array Value->Array Value}{t':Nat}(I:Inv X pins σ H s) (hH:H l=some (.lst xs))
 (e:s.heap.get? l=some { cls:=.type "list",data:=.seq its.toArray n }) (hf:f its.toArray=its'.toArray) (hv:B4 ys its') (hz:ys.length<=sizeLine) :
 Inv X pins σ (upd H l (.lst ys)) { s with heap:=s.heap.update l (Obj.mapSeq f),toks:=t' }:=by
 have q:=PySem.IsL.update e f
 rw[hf] at q
 refine I.write (x:=l) (e:=l) (by rw[hH];exact trivial) (.inl rfl) (fun b' u hb hu=>(Heap.get?_update_other s.heap (Obj.mapSeq f) (Ne.symm hb)).trans hu) #[_,q] ?_
 exact#[hz,its',_,hv,q]
theorem Inv.lnew {its:List Value}{t':Nat}(I:Inv X pins σ H s) (hv:B4 ys its) (hz:ys.length<=sizeLine) :
 Inv X pins σ (upd H s.heap.objs.size (.lst ys)) { s with heap:=s.heap.push { cls:=.type "list",data:=.seq its.toArray },toks:=t' } :=
 I.laid (fun _ _ q=>qAh _ q) (qAe _) #[hz,its,0,hv,qAu _ rfl]
theorem Inv.fresh (I:Inv X pins σ H s):H s.heap.objs.size=none:=I.hok.fresh (qAe _)
theorem Inv.lstM (I:Inv X pins σ H s)(hH:H l=some (.lst xs)):xs.length<=sizeLine/\∃(its:List Value)(n:Nat),B4 xs its/\xs.length=its.length/\s.heap.get? l=some { cls:=.type "list",data:=.seq its.toArray n }:=by
 obtain⟨z,its,n,r,e⟩:=I.hok l _ hH
 exact#[z,its,n,r,r.length,e]
end
section
variable {X:Cx}
def OP:V->List V->Hp->VK->Prop:=fun x vs H Q=>∃l xs y,x=.ref l/\vs=[y]/\H l=some (.lst xs)/\xs.length<sizeLine/\Q .non (upd H l (.lst (xs++[y])))
theorem AU:MtM X "list.append" OP:=by
 intro pins s σ H x vs v us Q I rx rv h
 obtain⟨l,xs,y,rfl,rfl,hH,hz,q⟩:=h
 cases rx
 obtain⟨u,rfl,ru⟩:=rv.one
 obtain⟨z,its,n,r,hl,e⟩:=I.lstM hH
 refine call_meets F.slot_list_append #[_,e,rfl] F.entry_list_append (F.args_list_append_2 _ _) (PySem.list_append l its.toArray n u (by rw[qAv];omega)) #[e,?_]
 refine#[.non,_,I.lset (its':=its++[u]) hH e (by simp) (r.append (.cons ru .nil)) ?_,rfl,q]
 rw[qAx,List.length_singleton]
 omega
def Xu:R2:=fun x y H Q=>∃l b xs zs,x=.ref l/\y=.ref b/\H l=some (.lst xs)/\H b=some (.lst zs)/\xs.length+zs.length<=sizeLine/\∀p,H p=none->Q (.ref p) (upd H p (.lst (xs++zs)))
theorem Vo:OpR X (binaryOp .Add) Xu:=by
 intro pins s σ H x y v u Q I rx ry h
 obtain⟨l,b,xs,zs,rfl,rfl,hH,hB,hz,q⟩:=h
 cases rx
 cases ry
 obtain⟨z,its,n,r,hl,e⟩:=I.lstM hH
 obtain⟨z2,its2,n2,r2,hl2,e2⟩:=I.lstM hB
 refine PySem.P.add_list e e2 ?_ (by rw[qAv,qAv];omega)
 have ea:its.toArray++its2.toArray=(its++its2).toArray:=by simp
 rw[ea]
 exact#[.ref _,_,I.lnew (t':=s.toks) (r.append r2) (by rw[qAx];omega),rfl,q _ I.fresh]
end
section
variable {prog:Program}{w:World}{A:Around}{E:Value->Shared->Prop}{s:Shared}
end
section
variable {X:Cx}
end
end L2
namespace Att
open PySem PySem.W PySem.Calls PyProof.Rows
theorem HP {P:Params}{h:Heap}:∀(ns:List Int)(vs:List Value),WellAll P h vs (ns.map WData.int)->IntsAre vs ns:=by
 intro ns
 induction ns with
 |nil =>
  intro vs w
  rw[List.map_nil] at w
  cases w
  exact .nil
 |cons n ns ih =>
  intro vs w
  rw[qCj] at w
  cases w with
  |cons a b =>
   cases a
   exact .cons _ _ (ih _ b)
theorem Oe {l:OpenLaw}{n:Nat}(hn:l.most=some n){P:Params}{h:Heap}{args:List WData}{vals:List Value}
 (hpre:l.row.toRowW.claim.pre args=true) (hwl:WellAll P h vals args) :
 ∃a vs ns,vals=[Value.ref a]/\args=[WData.list (ns.map WData.int)]/\h.get? a=some { cls:=.type "list",data:=.seq vs.toArray }/\IntsAre vs ns/\ns.length<=n:=by
 have hsh:WShape.hasAll [] args [.list .int]=true:=(pre_splitW hpre).1
 have hc:l.pre.holds [] { args:=args }=true:=(pre_splitW hpre).2
 obtain⟨d,r,rfl,h1,h2⟩:=hasAllW_cons hsh
 obtain rfl:=hasAllW_nil h2
 obtain⟨xs,rfl,h3⟩:=hasW_list h1
 obtain⟨ns,rfl⟩:=items_int h3
 have hlen:ns.length<=n:=by
  unfold OpenLaw.pre at hc
  have h4:(WTm.not (.lt (.lit (.int (n:Int))) (.len (.arg 0)))).holds [] { args:=[.list (ns.map .int)] }=true:=by
   have h4:=(holds_andW hc).1
   rw[hn] at h4
   exact h4
  have h5:=condW_of h4 (w_not (w_lt w_lit (w_len_list (w_arg rfl))))
  rw[qAa] at h5
  refine Nat.le_of_not_lt fun q=>?_
  have q':(n:Int)<((ns.length:Nat):Int):=()
  first
   |(rw[decide_eq_true q'] at h5;exact absurd h5 ∅)
   |(simp at h5;omega)
 cases hwl with
 |cons w1 w2 =>
  cases w2
  cases w1 with
  |list ho hall=>exact#[_,_,ns,rfl,rfl,ho,HP ns _ hall,hlen]
theorem Od (l:OpenLaw)(args:List WData):l.row.toRowW.claim.post args (.bool true) args=true :=
 postW_of (r:=l.row.toRowW) (X:=(true==true))
  (show WShape.has [] (.bool true) .bool=true by first|rfl|decide|simp[WShape.has,WShape.arms,WShape.armsAll])
  (show(WTm.eq .res (.lit (.bool true))).value [] { args:=args,res:=some (.bool true),after:=args }=some (.bool (true==true)) from w_eq_bool (w_res rfl) w_lit) rfl
theorem attach_call {l:OpenLaw}{n:Nat}{q:Program}{loose:List Str}{XP:(Str->Option Value)->Heap->Prop}{YP:World->Heap->Prop}{d:DefRec}
 (hn:l.most=some n) (hdf:d.params.defaults=[])
 (call:∀(w:World)(s₀ s₁:Shared)(mg mb:Str->Option Value)(fa:Addr)(o:Obj)(pm cd doc:Value)(a:Addr)(vs:List Value)(ns:List Int),
  Ground q loose [] XP w s₀ mg mb s₁.heap->YP w s₁.heap ->
  s₁.heap.get? fa=some o->o.data=.func (docDef d.name d.params d.body d.scope pm cd doc)->s₁.heap.CodeRec cd d.name->mg d.name=some (.ref fa) ->
  s₁.heap.get? a=some { cls:=.type "list",data:=.seq vs.toArray }->IntsAre vs ns->ns.length<=n->s₁.gens=(List.toArray []) ->
  codeAny (model l.prog w) callerA (.call (.ref fa) #[[.ref a],[]]) (fun r s'=>r=.ok (.ret (.bool true))/\OldK s₁.heap s'.heap/\s'.os=s₁.os/\AllBare s'.gens) s₁) :
 WalkO q loose XP YP l.row.toRowW d [] (fun f vs=>PySem.call f vs):=by
 intro w s₀ s₁ mg mb G Y fa o pm cd doc dV kV ho hd hcd hD hmg hg args vals as hpre hlay hrd hwl hlo
 obtain rfl:dV=.none:=Dflts.none hD hdf
 obtain rfl:kV=.none:=Dflts.noKw hD
 obtain⟨a,vs,ns,rfl,rfl,hobj,hints,hlen⟩:=Oe hn hpre hwl
 refine enter_call (codeAny_mono (call w s₀ s₁ mg mb fa o pm cd doc a vs ns G Y ho (fd_plain hd) hcd hmg hobj hints hlen hg) fun r s' hq=>?_)
 obtain⟨rfl,h2,h3,h4⟩:=hq
 exact#[.inl #[.bool true,.bool true,[],rfl,fun _=>rfl,.bool true,Od l _,fun _=>#[List.Pairwise.nil,fun _ hm=>(nomatch hm)]],h2,h3,h4]
section
variable {prog:Program}{w:World}{A:Around}{E:Value->Shared->Prop}{s:Shared}{K:Frag}
end
end Att
namespace L2
open PySem PySem.Spec PyProof.Rows
theorem FX:∀{vs:List Value}{ns:List Int},IntsAre vs ns->B4 (ns.map V.int) vs
 |_,_,.nil=>.nil
 |_,_,.cons n t h=>.cons #[t,rfl] (FX h)
abbrev CX0:CXT:=fun _ _ _ _ _ _=>False
abbrev E0:XK:=fun _ _ _=>False
theorem WZ {X:Cx}:N5 CX0 X E0:=fun _ _ _ _ _ _ _ h=>h.elim
structure Fun (K:W.Frag)(x qual:Str)(st:Stmt)(f:Addr)(fd:FuncData):Prop where
 ex:∃(oc:Value)(od:Option Addr)(kV doc pm:Value)(an:Option Addr)(cdv ct:Value)(osl:Array (Option Value)),
  fd=W.fnOf x qual (Fp st) (B7 st) (Aa st) .none kV doc pm an cdv ct/\K.lookup f=some #[oc,od,.func fd,osl]/\W.codeIn K cdv qual=true
 kp:W.keepIn K (.ref f)=true
section
variable {P:Program}{w:World}{K:W.Frag}{mg:Str->Option Value}{base:Heap}
theorem Fun.ok {x qual:Str}{st:Stmt}{f:Addr}{fd:FuncData}{N ps:List Str}{k:Nat}{sp:Sp}(F:Fun K x qual st f fd) (S:Ad N ps (Aa st)) (len:∀vs H Q E,sp vs H Q E->vs.length=ps.length)
 (hbody:∀(cdv:Value)(A:Around)(outer:List Env)(s:Shared)(H:Hp)(vs:List V)(Q:VK)(E:XK),E9 k (A.deeper (envOfC qual (Aa st) s.heap.objs.size f cdv))->sp vs H Q E ->
  ∃t,PSs (KR CX0 P w K mg base N qual (Aa st) f cdv A outer s H E).nox (B7 st) t/\t { nx:=fun _ H'=>Q .non H',rt:=Q } (start N vs) H):Ap P w K mg base CX0 (k+1) f fd ps sp:=by
 obtain⟨oc,od,kV,doc,pm,an,cdv,ct,osl,rfl,lk,hcd⟩:=F.ex
 refine QS lk hcd S len fun A outer s H vs Q E hr hsp=>?_
 obtain⟨t,h,q⟩:=hbody cdv A outer s H vs Q E hr hsp
 exact#[t,h.nox,q]
theorem Fun.binds {x qual:Str}{st:Stmt}{f:Addr}{fd:FuncData}{ps:List Str}(F:Fun K x qual st f fd)
 (h:∀(kV doc pm:Value)(an:Option Addr)(cdv ct:Value)(us:List Value),us.length=ps.length->bindArgs (W.fnOf x qual (Fp st) (B7 st) (Aa st) .none kV doc pm an cdv ct) #[us,[]]=pure (ps.zip us)):Binds K fd ps []:=by
 obtain⟨oc,od,kV,doc,pm,an,cdv,ct,osl,rfl,lk,hcd⟩:=F.ex
 exact .all (h kV doc pm an cdv ct)
theorem Mv {x qual:Str}{st:Stmt}{f:Addr}{oc:Value}{od an:Option Addr}{osl:Array (Option Value)}{kV doc pm cdv ct:Value}(l:K.lookup f=some #[oc,od,.func (W.fnOf x qual (Fp st) (B7 st) (Aa st) .none kV doc pm an cdv ct),osl])
 (c:W.codeIn K cdv qual=true) (k:W.keepIn K (.ref f)=true):Fun K x qual st f (W.fnOf x qual (Fp st) (B7 st) (Aa st) .none kV doc pm an cdv ct):=#[#[oc,od,kV,doc,pm,an,cdv,ct,osl,rfl,l,c],k]
end
theorem PF {n:Nat}(h:n<=1000):n<sizeLine:=Nat.lt_of_le_of_lt h ∅
section
variable {X:Cx}
theorem pv (i:Nat){x:Str}{pos:Pos}(hN:X.N[i]? = some x:=by rfl) (hv:Vis X.env.scope x:=by first|exact Or.inl rfl|exact Or.inr (Or.inl rfl)|exact Or.inr (Or.inr rfl)) (hd:(x==("__debug__":Str))=false:=by decide)
 (hcd:(x==("__classdict__":Str))=false:=by decide):PE X (.Name x pos) (Pd i):=T7 hN hv hd hcd
end
def Bk (H H':Hp):Prop:=∀b o,H b=some o->H' b=some o
theorem Bk.refl (H:Hp):Bk H H:=fun _ _ h=>h
theorem Bk.trans {H H1 H2:Hp}(a:Bk H H1) (b:Bk H1 H2):Bk H H2:=fun c o h=>b c o (a c o h)
theorem Bk.free {H H':Hp}(e:Bk H H'){l:Addr}(h:H' l=Option.none):H l=Option.none:=by
 cases q:H l with
 |none=>rfl
 |some o =>
  rw[e l o q] at h
  cases h
theorem Bk.seq {K:W.Frag}{H H':Hp}{a:Addr}{xs:List V}(e:Bk H H') (h:SqL K H a xs):SqL K H' a xs:=by
 rcases h with (h|⟨o,h⟩)|h
 .exact .inl (.inl (e _ _ h))
 .exact .inl (.inr #[o,e _ _ h])
 .exact .inr h
end L2
set_option maxHeartbeats 4000000
namespace CH
def g (a b:Int):Int:=(Int.gcd a b:Int)
theorem UN {a b:Int}(h:b≠0):0<g a b:=by
 have:=Int.gcd_pos_of_ne_zero_right a h
 unfold g;omega
theorem RH {x y:Int}(hy:0<y):g y (x%y)=g x y:=by
 unfold g
 have e:x%y=x-y*(x/y):=Int.emod_def x y
 rw[e,Int.gcd_sub_mul_left_right,Int.gcd_comm]
theorem Vw {x:Int}(hx:0<=x):g x 0=x:=by
 unfold g;rw[Int.gcd_zero];omega
theorem UB (a b:Int):g (if a<0 then -a else a) (if b<0 then -b else b)=g a b:=by
 unfold g
 split<;>split<;>simp
theorem OJ (a b:Int):g a b ∣ a:=Int.gcd_dvd_left a b
theorem O0 (a b:Int):g a b ∣ b:=Int.gcd_dvd_right a b
def cm (a b:Int):Int:=if b<0 then -(g a b) else g a b
theorem Jq {a c:Int}(h:c ∣ a) (hc:c≠0):Int.fdiv a c*c=a:=by
 obtain⟨k,rfl⟩:=h
 rw[Int.mul_comm c k,qCc _ hc]
theorem Iw {a b:Int}(hb:b≠0):Int.fdiv a (cm a b)=(Rat.divInt a b).num/\Int.fdiv b (cm a b)=((Rat.divInt a b).den:Int):=by
 have hg:=UN (a:=a) hb
 have d1:=OJ a b
 have d2:=O0 a b
 rw[Rat.num_divInt,Rat.den_divInt,if_neg hb]
 have eg:((b.gcd a:Nat):Int)=g a b:=by unfold g;rw[Int.gcd_comm]
 rw[Int.natCast_ediv,eg]
 unfold cm
 split
 .rename_i h
  rw[qBO h]
  have e1:(-1*a)/g a b=Int.fdiv a (-(g a b)):=by
   obtain⟨k,hk⟩:=d1
   have:-1*a=(-k)*g a b:=⋯
   rw[this,Int.mul_ediv_cancel _ ()]
   have:a=(-k)*(-(g a b)):=⋯
   have q:=qCc (-k) (show -(g a b)≠0 from ())
   rw[<-this] at q
   exact q.symm
  have e2:((b.natAbs:Nat):Int)/g a b=Int.fdiv b (-(g a b)):=by
   obtain⟨k,hk⟩:=d2
   have hn:((b.natAbs:Nat):Int)=-b:=()
   rw[hn]
   have:-b=(-k)*g a b:=⋯
   rw[this,Int.mul_ediv_cancel _ ()]
   have:b=(-k)*(-(g a b)):=⋯
   have q:=qCc (-k) (show -(g a b)≠0 from ())
   rw[<-this] at q
   exact q.symm
  exact#[e1.symm,e2.symm]
 .rename_i h
  have hp:0<b:=()
  rw[qBY hp,Int.one_mul]
  have hn:((b.natAbs:Nat):Int)=b:=()
  rw[hn,qBd _ (),qBd _ ()]
  exact#[rfl,rfl]
theorem Nj {a b:Int}(hb:b≠0):cm a b≠0:=by
 have:=UN (a:=a) hb
 unfold cm;split<;>omega
theorem den_pos (q:Rat):1<=(q.den:Int):=by have:=q.den_pos;omega
theorem Gh (q:Rat):(q.num:Rat)=q*q.den:=by
 have h:=qCh q
 rw[qAC] at h
 have hd:((q.den:Int):Rat)≠0:=by
  have:=q.den_nz
  simp[this]
 have e:((q.den:Int):Rat)=(q.den:Rat):=rfl
 rw[e] at h hd
 grind
theorem den_ne (q:Rat):(q.den:Rat)≠0:=by have:=q.den_nz;simp[this]
theorem lt_iff (p q:Rat):p.num*(q.den:Int)<q.num*(p.den:Int) ↔ p<q:=(Rat.lt_iff p q).symm
theorem OI (p q:Rat):Rat.divInt (p.num*q.den+q.num*p.den) ((p.den:Int)*q.den)=p+q:=by
 rw[qAC,qBn,qAj,qAj,qAj,Gh p,Gh q]
 have h1:=den_ne p
 have h2:=den_ne q
 have e1:((p.den:Int):Rat)=(p.den:Rat):=rfl
 have e2:((q.den:Int):Rat)=(q.den:Rat):=rfl
 rw[e1,e2]
 grind
theorem MC (p q:Rat):Rat.divInt (p.num*q.den-q.num*p.den) ((p.den:Int)*q.den)=p-q:=by
 rw[qAC,qBo,qAj,qAj,qAj,Gh p,Gh q]
 have h1:=den_ne p
 have h2:=den_ne q
 have e1:((p.den:Int):Rat)=(p.den:Rat):=rfl
 have e2:((q.den:Int):Rat)=(q.den:Rat):=rfl
 rw[e1,e2]
 grind
theorem Ms (p q:Rat):Rat.divInt (p.num*q.num) ((p.den:Int)*q.den)=p*q:=by
 rw[qAC,qAj,qAj,Gh p,Gh q]
 have h1:=den_ne p
 have h2:=den_ne q
 have e1:((p.den:Int):Rat)=(p.den:Rat):=rfl
 have e2:((q.den:Int):Rat)=(q.den:Rat):=rfl
 rw[e1,e2]
 grind
theorem NP (p q:Rat)(hq:q≠0):Rat.divInt (p.num*q.den) ((p.den:Int)*q.num)=p/q:=by
 rw[qAC,qAj,qAj,Gh p,Gh q]
 have h1:=den_ne p
 have h2:=den_ne q
 have e1:((p.den:Int):Rat)=(p.den:Rat):=rfl
 have e2:((q.den:Int):Rat)=(q.den:Rat):=rfl
 rw[e1,e2]
 grind
def Sz (k:Nat)(q:Rat):Prop:=q.num.natAbs<2^k/\q.den<2^k
theorem Px {k m:Nat}(h:k<=m):2^k<=2^m:=qB5 ∅ h
theorem Sz.mono {k m:Nat}{q:Rat}(h:Sz k q) (hk:k<=m):Sz m q:=#[qAm h.1 (Px hk),qAm h.2 (Px hk)]
theorem FU {a c x:Int}(h:x*c=a) (hc:c≠0):x.natAbs<=a.natAbs:=by
 rw[<-h,Int.natAbs_mul]
 exact Nat.le_mul_of_pos_right _ ()
theorem DM {a b:Int}{k:Nat}(hb:b≠0) (h1:a.natAbs<2^k) (h2:b.natAbs<2^k):Sz k (Rat.divInt a b):=by
 have p:=Iw (a:=a) hb
 have d1:cm a b ∣ a:=by
  unfold cm;split
  .exact Int.neg_dvd.mpr (OJ a b)
  .exact OJ a b
 have d2:cm a b ∣ b:=by
  unfold cm;split
  .exact Int.neg_dvd.mpr (O0 a b)
  .exact O0 a b
 have e1:=FU (Jq d1 (Nj hb)) (Nj hb)
 have e2:=FU (Jq d2 (Nj hb)) (Nj hb)
 rw[p.1] at e1
 rw[p.2] at e2
 have e3:(((Rat.divInt a b).den:Int)).natAbs=(Rat.divInt a b).den:=Int.natAbs_natCast _
 rw[e3] at e2
 exact#[(),()]
theorem Aj {a b:Int}{k m:Nat}(h1:a.natAbs<2^k) (h2:b.natAbs<2^m):(a*b).natAbs<2^(k+m):=by
 rw[Int.natAbs_mul,Nat.pow_add]
 exact Nat.mul_lt_mul'' h1 h2
theorem GO {a b:Int}{k:Nat}(h1:a.natAbs<2^k) (h2:b.natAbs<2^k):(a+b).natAbs<2^(k+1):=by
 rw[Nat.pow_succ]
 generalize 2^k=p at *
 omega
theorem FV {a b:Int}{k:Nat}(h1:a.natAbs<2^k) (h2:b.natAbs<2^k):(a-b).natAbs<2^(k+1):=by
 rw[Nat.pow_succ]
 generalize 2^k=p at *
 omega
theorem Ax {k:Nat}{q:Rat}(h:Sz k q):((q.den:Int)).natAbs<2^k:=by rw[Int.natAbs_natCast];exact h.2
theorem MV (p q:Rat):(p.den:Int)*(q.den:Int)≠0:=by
 have h1:=den_pos p
 have h2:=den_pos q
 exact Int.mul_ne_zero () ()
theorem Ay {k m:Nat}{x:Nat}(h:x<2^k) (e:k<=m):x<2^m:=qAm h (Px e)
theorem Sz.add {k m:Nat}{p q:Rat}(hp:Sz k p) (hq:Sz m q):Sz (k+m+1) (p+q):=by
 rw[<-OI]
 have a1:=Aj hp.1 (Ax hq)
 have a2:=Aj hq.1 (Ax hp)
 have a3:=Aj (Ax hp) (Ax hq)
 rw[qB6 m k] at a2
 exact DM (MV p q) (GO a1 a2) (Ay a3 (qBP _))
theorem Sz.sub {k m:Nat}{p q:Rat}(hp:Sz k p) (hq:Sz m q):Sz (k+m+1) (p-q):=by
 rw[<-MC]
 have a1:=Aj hp.1 (Ax hq)
 have a2:=Aj hq.1 (Ax hp)
 have a3:=Aj (Ax hp) (Ax hq)
 rw[qB6 m k] at a2
 exact DM (MV p q) (FV a1 a2) (Ay a3 (qBP _))
theorem Sz.mul {k m:Nat}{p q:Rat}(hp:Sz k p) (hq:Sz m q):Sz (k+m) (p*q):=by
 rw[<-Ms]
 exact DM (MV p q) (Aj hp.1 hq.1) (Aj (Ax hp) (Ax hq))
theorem Sz.neg {k:Nat}{p:Rat}(hp:Sz k p):Sz k (-p):=#[by rw[Rat.neg_num,qCC];exact hp.1,hp.2]
theorem Sz.zero:Sz 1 0:=#[∅,∅]
theorem Sz.den_ne {k:Nat}{p q:Rat}(hq:q≠0):(p.den:Int)*q.num≠0:=by
 have h1:=den_pos p
 have h2:q.num≠0:=fun z=>hq (Rat.num_eq_zero.mp z)
 exact Int.mul_ne_zero () h2
theorem Sz.div {k m:Nat}{p q:Rat}(hp:Sz k p) (hq:Sz m q) (h0:q≠0):Sz (k+m) (p/q):=by
 rw[<-NP p q h0]
 exact DM (Sz.den_ne (k:=0) h0) (Aj hp.1 (Ax hq)) (Aj (Ax hp) hq.1)
end CH
namespace L3
open PySem PySem.Spec PyProof.Rows L2
abbrev St:=L2.St
def Md:Expr->Bool
 |.Starred .. => true
 |_=>false
theorem Dw {e:Expr}{es:List Expr}{env:Env}(h:Md e=false):starEach (e::es) env=(false,eval e env)::starEach es env:=by
 cases e<;>first|rfl|cases h
theorem F0 {pos:Pos}{env:Env}:∀{es:List Expr},es.all (fun e=>!Md e)=true->(backTo pos (starEach es env)).any (·.1)=false
 |[],_=>rfl
 |e::es,h=>by
  rw[List.all_cons,qAT] at h
  have h1:Md e=false:=by
   cases q:Md e with
   |false=>rfl
   |true=>rw[q] at h;exact absurd h.1 ∅
  rw[Dw h1]
  show(false||(backTo pos (starEach es env)).any (·.1))=false
  rw[F0 h.2]
  rfl
inductive D where
 |non|bl (b:Bool)|int (i:Int)|str (x:Str)|ty (n:String)|tup (xs:List D)|lst (xs:List D)|ref (a:Addr)
inductive S where
 |d (x:D)|l (xs:List D)|r (xs:List D)
def S.isL:S->Bool
 |.d _=>false
 |_=>true
def S.share:S->S
 |.l xs=>.r xs
 |s=>s
def S.own:S->Bool
 |.l _=>true
 |_=>false
inductive Is (K:W.Frag)(H:Hp):V->D->Prop where
 |non:Is K H .non .non
 |bl (b:Bool):Is K H (.bl b) (.bl b)
 |int (i:Int):Is K H (.int i) (.int i)
 |str (x:Str):Is K H (.str x) (.str x)
 |ty (n:String):Is K H (.ty n) (.ty n)
 |ref (a:Addr):Is K H (.ref a) (.ref a)
 |tup {a:Addr}{vs:List V}{xs:List D}(h:SqT K H a vs) (hl:vs.length=xs.length) (r:∀(i:Nat)(v:V)(x:D),vs[i]? = some v->xs[i]? = some x->Is K H v x):Is K H (.ref a) (.tup xs)
 |lst {a:Addr}{vs:List V}{xs:List D}(h:H a=some (.lst vs)) (hl:vs.length=xs.length) (r:∀(i:Nat)(v:V)(x:D),vs[i]? = some v->xs[i]? = some x->Is K H v x):Is K H (.ref a) (.lst xs)
def Iss (K:W.Frag)(H:Hp)(vs:List V)(xs:List D):Prop :=
 vs.length=xs.length/\∀(i:Nat)(v:V)(x:D),vs[i]? = some v->xs[i]? = some x->Is K H v x
structure HZ where
 h:Hp
 z:Hp
structure Ext (p q:HZ):Prop where
 hh:Bk p.h q.h
 zz:Bk p.z q.z
 sub:Bk q.z q.h
 new:∀a o,q.z a=some o->p.z a=some o\/p.h a=none
theorem Ext.refl {p:HZ}(h:Bk p.z p.h):Ext p p:=#[Bk.refl _,Bk.refl _,h,fun _ _ e=>.inl e]
theorem Ext.trans {p q r:HZ}(a:Ext p q) (b:Ext q r):Ext p r:=#[a.hh.trans b.hh,a.zz.trans b.zz,b.sub,fun c o e=>by
 rcases b.new c o e with e|e
 .exact a.new c o e
 .exact .inr (a.hh.free e)]
theorem Ext.grow {H H' z:Hp}(h:Bk z H) (e:Bk H H'):Ext #[H,z] #[H',z]:=#[e,Bk.refl _,h.trans e,fun _ _ e=>.inl e]
theorem BU {H:Hp}{p:Addr}(h:H p=none) (o:HO):Bk H (upd H p o):=fun b u q=>by rw[Al (AA q h)];exact q
theorem Ext.freeze {p q:HZ}{a:Addr}{o:HO}(e:Ext p q) (n:p.h a=none) (nz:q.z a=none) (h:q.h a=some o):Ext p #[q.h,upd q.z a o]:=by
 refine#[e.hh,e.zz.trans (BU nz o),fun b u hb=>?_,fun b u hb=>?_]
 .by_cases z:b=a
  .subst z
   have hb':upd q.z b o b=some u:=hb
   rw[Aq] at hb'
   cases hb'
   exact h
  .have hb':upd q.z a o b=some u:=hb
   rw[Al z] at hb'
   exact e.sub b u hb'
 .by_cases z:b=a
  .subst z;exact .inr n
  .have hb':upd q.z a o b=some u:=hb
   rw[Al z] at hb'
   exact e.new b u hb'
theorem Ext.own {H z:Hp}{a:Addr}(h:Bk z H) (n:H a=none) (o:HO):Ext #[H,z] #[upd H a o,z]:=Ext.grow h (BU n o)
theorem Ext.lay {H z:Hp}{a:Addr}(h:Bk z H) (n:H a=none) (o:HO):Ext #[H,z] #[upd H a o,upd z a o] :=
 (Ext.own h n o).freeze n (h.free n) Aq
def IsS (K:W.Frag)(p:HZ)(v:V):S->Prop
 |.d x=>Is K p.z v x
 |.l xs=>∃a vs,v=.ref a/\p.h a=some (.lst vs)/\Iss K p.z vs xs
 |.r xs=>∃a vs,v=.ref a/\SqL K p.h a vs/\Iss K p.z vs xs
section
variable {K:W.Frag}{H H':Hp}{p q:HZ}{a:Addr}{v:V}{x:D}{vs:List V}{xs:List D}
theorem SqT.same (e:Bk H H')(h:SqT K H a vs):SqT K H' a vs:=by
 rcases h with (h|⟨o,h⟩)|h
 .exact .inl (.inl (e _ _ h))
 .exact .inl (.inr #[o,e _ _ h])
 .exact .inr h
theorem Is.mono (e:Bk H H')(h:Is K H v x):Is K H' v x:=by
 induction h with
 |non=>exact .non
 |bl b=>exact .bl b
 |int i=>exact .int i
 |str y=>exact .str y
 |ty n=>exact .ty n
 |ref a=>exact .ref a
 |tup h hl r ih=>exact .tup (SqT.same e h) hl ih
 |lst h hl r ih=>exact .lst (e _ _ h) hl ih
theorem Iss.mono (e:Bk H H')(h:Iss K H vs xs):Iss K H' vs xs:=#[h.1,fun i v x h1 h2=>(h.2 i v x h1 h2).mono e]
theorem Iss.nil:Iss K H [] []:=#[rfl,fun i v x h=>by simp at h]
theorem Iss.snoc (t:Iss K H vs xs)(h:Is K H v x):Iss K H (vs++[v]) (xs++[x]):=by
 refine#[by simp[t.1],fun i w y h1 h2=>?_]
 by_cases hi:i<vs.length
 .rw[qAp hi] at h1
  rw[qAp (by have:=t.1;omega)] at h2
  exact t.2 i w y h1 h2
 .rw[qAs ()] at h1
  rw[qAs (by have:=t.1;omega)] at h2
  have e:i-vs.length=0:=by
   have:=(qAd.mp h1).1
   simp at this
   omega
  have e2:i-xs.length=0:=by have:=t.1;omega
  rw[e] at h1
  rw[e2] at h2
  simp at h1 h2
  subst h1;subst h2
  exact h
theorem IsS.mono {s:S}(e:Ext p q) (h:IsS K p v s):IsS K q v s:=by
 cases s with
 |d x=>exact Is.mono e.zz h
 |l xs =>
  obtain⟨a,vs,e1,h1,h2⟩:=h
  exact#[a,vs,e1,e.hh _ _ h1,h2.mono e.zz]
 |r xs =>
  obtain⟨a,vs,e1,h1,h2⟩:=h
  exact#[a,vs,e1,e.hh.seq h1,h2.mono e.zz]
theorem IsS.share {s:S}(h:IsS K p v s):IsS K p v s.share:=by
 cases s with
 |d x=>exact h
 |l xs =>
  obtain⟨a,vs,e1,h1,h2⟩:=h
  exact#[a,vs,e1,SqL.of h1,h2]
 |r xs=>exact h
theorem Is.tup_inv {xs:List D}(h:Is K H v (.tup xs)):∃a vs,v=.ref a/\SqT K H a vs/\Iss K H vs xs:=by
 cases h with
 |tup h hl r=>exact#[_,_,rfl,h,hl,r]
theorem Is.lst_inv {xs:List D}(h:Is K H v (.lst xs)):∃a vs,v=.ref a/\SqL K H a vs/\Iss K H vs xs:=by
 cases h with
 |lst h hl r=>exact#[_,_,rfl,SqL.of h,hl,r]
theorem Is.lst_own {xs:List D}(h:Is K H v (.lst xs)):∃a vs,v=.ref a/\H a=some (.lst vs)/\Iss K H vs xs:=by
 cases h with
 |lst h hl r=>exact#[_,_,rfl,h,hl,r]
theorem Is.int_inv {i:Int}(h:Is K H v (.int i)):v=.int i:=by cases h;rfl
theorem Is.bl_inv {i:Bool}(h:Is K H v (.bl i)):v=.bl i:=by cases h;rfl
theorem Is.non_inv (h:Is K H v .non):v=.non:=by cases h;rfl
theorem Is.str_inv {i:Str}(h:Is K H v (.str i)):v=.str i:=by cases h;rfl
end
abbrev Tau:=List (Option S)
def Fr3 (K:W.Frag)(p q:HZ)(v:V)(s:S):Prop:=∀xs a,s=.l xs->v=.ref a->p.h a=none/\K.lookup a=none/\q.z a=none
structure Rep (X:Cx)(b:HZ)(τ:Tau)(σ:St)(p:HZ):Prop where
 len:σ.length=τ.length
 ext:Ext b p
 val:∀(i:Nat)(s:S),τ[i]? = some (some s)->∃v,σ[i]? = some (some v)/\IsS X.K p v s
 own:∀(i:Nat)(xs:List D)(a:Addr),τ[i]? = some (some (.l xs))->σ[i]? = some (some (.ref a))->b.h a=none/\X.K.lookup a=none/\p.z a=none
 sep:∀(i j:Nat)(xs:List D)(s:S)(a:Addr),i≠j->τ[i]? = some (some (.l xs))->τ[j]? = some (some s)->s.isL=true->σ[i]? = some (some (.ref a))->σ[j]?≠some (some (.ref a))
 top:X.lent=none->Bk X.H₀ b.h
 pin:∀i a,X.lent=some (i,a)->σ[i]? = some (some (.ref a))
def Eg (X:Cx)(i:Nat):Prop:=∀k a,X.lent=some (k,a)->k≠i
theorem Ec {X:Cx}{i:Nat}(h:X.lent=none):Eg X i:=fun k a e=>by rw[h] at e;cases e
theorem Eu {X:Cx}{i k:Nat}{a:Addr}(h:X.lent=some (k,a)) (n:k≠i):Eg X i:=fun k' a' e=>by rw[h] at e;cases e;exact n
section
variable {X:Cx}{b b' p q:HZ}{τ τ':Tau}{σ:St}{v:V}{s:S}
theorem Rep.all (r:Rep X b τ σ p)(hl:X.lent=none):Bk X.H₀ p.h:=(r.top hl).trans r.ext.hh
theorem Rep.own_list {i:Nat}{xs:List D}{a:Addr}(r:Rep X b τ σ p) (h1:τ[i]? = some (some (.l xs))) (h2:σ[i]? = some (some (.ref a))):∃vs,p.h a=some (.lst vs)/\Iss X.K p.z vs xs:=by
 obtain⟨v,e,c,vs,e1,h3,h4⟩:=r.val i _ h1
 rw[h2] at e
 cases e
 cases e1
 exact#[vs,h3,h4]
theorem Rep.mono (r:Rep X b τ σ p)(e:Ext p q):Rep X b τ σ q :=
 #[r.len,r.ext.trans e,fun i s h=>let #[v,h1,h2]:=r.val i s h;#[v,h1,h2.mono e],(fun i xs a h1 h2=>by
  obtain⟨o1,o2,o3⟩:=r.own i xs a h1 h2
  obtain⟨vs,hv,_⟩:=r.own_list h1 h2
  refine#[o1,o2,?_]
  cases z:q.z a with
  |none=>rfl
  |some o =>
   rcases e.new a o z with x|x
   .rw[o3] at x;cases x
   .rw[hv] at x;cases x),r.sep,r.top,r.pin]
theorem Nt {K:W.Frag}(e:Ext b p) (f:Fr3 K p q v s):Fr3 K b q v s:=fun xs a h1 h2=>#[e.hh.free (f xs a h1 h2).1,(f xs a h1 h2).2]
theorem AF {α:Type}{l:List (Option α)}{i j:Nat}{x y:α}(h:(l.set i (some x))[j]? = some (some y)):(j=i/\y=x)\/(j≠i/\l[j]? = some (some y)):=by
 rw[List.getElem?_set] at h
 by_cases hij:i=j
 .rw[if_pos hij] at h
  split at h
  .cases h
   exact .inl #[hij.symm,rfl]
  .cases h
 .rw[if_neg hij] at h
  exact .inr #[fun z=>hij z.symm,h]
theorem Rep.set {i:Nat}(r:Rep X b τ σ p) (e:Ext p q) (h:IsS X.K q v s) (f:Fr3 X.K p q v s) (hr:s.isL=s.own) (hp:Eg X i):Rep X b (τ.set i (some s)) (σ.set i (some v)) q:=by
 have r':=r.mono e
 refine#[by simp[r.len],r'.ext,fun j s' hj=>?_,fun j xs a hj ha=>?_,fun j k xs s' a hjk hj hk hs ha=>?_,r.top,fun k a hk=>by rw[qBL (fun z=>hp k a hk z.symm)];exact r.pin k a hk]
 .rcases AF hj with⟨rfl,rfl⟩|⟨hn,hj⟩
  .have hl:j<σ.length:=by
    rw[r.len]
    have:=(qAd.mp hj).1
    simpa using this
   exact#[v,by rw[qBs hl],h]
  .obtain⟨w,h1,h2⟩:=r'.val j s' hj
   exact#[w,by rw[qBL (fun z=>hn z.symm)];exact h1,h2]
 .rcases AF hj with⟨rfl,e1⟩|⟨hn,hj⟩
  .rcases AF ha with⟨_,e2⟩|⟨hn,_⟩
   .exact(Nt r.ext f) xs a e1.symm e2.symm
   .exact absurd rfl hn
  .rcases AF ha with⟨e2,_⟩|⟨_,ha⟩
   .exact absurd e2 hn
   .exact r'.own j xs a hj ha
 .
  have fresh:∀(m:Nat)(t:S),τ[m]? = some (some t)->t.isL=true->s.own=true->v=.ref a->σ[m]?≠some (some (.ref a)):=by
   intro m t hm ht ho hv hσ
   obtain⟨w,h1,h2⟩:=r.val m t hm
   rw[hσ] at h1
   cases h1
   cases s with
   |d _=>cases ho
   |r _=>cases ho
   |l ys =>
    obtain⟨f1,f2,_⟩:=f ys a rfl hv
    cases t with
    |d _=>cases ht
    |l zs =>
     obtain⟨c,vs,e1,h3,_⟩:=h2
     cases e1
     rw[f1] at h3
     cases h3
    |r zs =>
     obtain⟨c,vs,e1,h3,_⟩:=h2
     cases e1
     rcases h3 with (h3|⟨o,h3⟩)|⟨o,its,n,h3,_⟩
     .rw[f1] at h3;cases h3
     .rw[f1] at h3;cases h3
     .rw[f2] at h3;cases h3
  intro hσk
  rcases AF hj with⟨rfl,e1⟩|⟨hn,hj'⟩
  .rcases AF ha with⟨_,e2⟩|⟨hn,_⟩
   .rcases AF hk with⟨e3,_⟩|⟨_,hk⟩
    .exact hjk e3.symm
    .rcases AF hσk with⟨e4,_⟩|⟨_,hσk⟩
     .exact hjk e4.symm
     .exact fresh k s' hk hs (by rw[<-e1];rfl) e2.symm hσk
   .exact absurd rfl hn
  .rcases AF ha with⟨e2,_⟩|⟨_,ha'⟩
   .exact absurd e2 hn
   .rcases AF hk with⟨e3,e4⟩|⟨hkn,hk'⟩
    .rcases AF hσk with⟨_,e5⟩|⟨hx,_⟩
     .subst e4
      exact fresh j (.l xs) hj' rfl (by rw[<-hr];exact hs) e5.symm ha'
     .exact absurd e3 hx
    .rcases AF hσk with⟨e5,_⟩|⟨_,hσk'⟩
     .exact absurd e5 hkn
     .exact r.sep j k xs s' a hjk hj' hk' hs ha' hσk'
theorem Rep.freeze {i:Nat}{xs:List D}(r:Rep X b τ σ p) (h:τ[i]? = some (some s)) (e:s.share=.r xs):Rep X b (τ.set i (some (.r xs))) σ p:=by
 have hs:s.isL=true:=by
  cases s with
  |d _=>cases e
  |l _=>rfl
  |r _=>rfl
 refine#[by simp[r.len],r.ext,fun j s' hj=>?_,fun j ys a hj ha=>?_,fun j k ys s' a hjk hj hk hs' ha=>?_,r.top,r.pin]
 .rcases AF hj with⟨rfl,rfl⟩|⟨hn,hj⟩
  .obtain⟨v,h1,h2⟩:=r.val j s h
   exact#[v,h1,by rw[<-e];exact h2.share]
  .exact r.val j s' hj
 .rcases AF hj with⟨rfl,e1⟩|⟨hn,hj⟩
  .cases e1
  .exact r.own j ys a hj ha
 .rcases AF hj with⟨rfl,e1⟩|⟨hn,hj'⟩
  .cases e1
  .rcases AF hk with⟨rfl,e4⟩|⟨hkn,hk'⟩
   .exact r.sep j k ys s a hjk hj' h hs ha
   .exact r.sep j k ys s' a hjk hj' hk' hs' ha
theorem Rep.data {i:Nat}{xs:List D}{h z:Hp}(r:Rep X b τ σ #[h,z]) (hi:τ[i]? = some (some (.l xs))):∃z',Rep X b (τ.set i (some (.d (.lst xs)))) σ #[h,z']:=by
 obtain⟨v,h1,a,vs,rfl,h2,h3⟩:=r.val i _ hi
 obtain⟨o1,o2,o3⟩:=r.own i xs a hi h1
 have zz:Bk z (upd z a (.lst vs)):=BU o3 _
 refine#[upd z a (.lst vs),by simp[r.len],r.ext.freeze o1 o3 h2,fun j s' hj=>?_,fun j ys c hj hc=>?_,fun j k ys s' c hjk hj hk hs' hc=>?_,r.top,r.pin]
 .rcases AF hj with⟨rfl,rfl⟩|⟨hn,hj⟩
  .have h3':=h3.mono zz
   exact#[.ref a,h1,Is.lst Aq h3'.1 h3'.2]
  .obtain⟨w,w1,w2⟩:=r.val j s' hj
   refine#[w,w1,?_]
   cases s' with
   |d x=>exact Is.mono zz w2
   |l zs=>obtain⟨c,us,e1,q1,q2⟩:=w2;exact#[c,us,e1,q1,q2.mono zz]
   |r zs=>obtain⟨c,us,e1,q1,q2⟩:=w2;exact#[c,us,e1,q1,q2.mono zz]
 .rcases AF hj with⟨rfl,e1⟩|⟨hn,hj'⟩
  .cases e1
  .obtain⟨q1,q2,q3⟩:=r.own j ys c hj' hc
   refine#[q1,q2,?_]
   show upd z a (.lst vs) c=none
   have hca:c≠a:=by
    rintro rfl
    exact r.sep j i ys (.l xs) c hn hj' hi rfl hc h1
   rw[Al hca]
   exact q3
 .rcases AF hj with⟨rfl,e1⟩|⟨hn,hj'⟩
  .cases e1
  .rcases AF hk with⟨rfl,e4⟩|⟨hkn,hk'⟩
   .subst e4;cases hs'
   .exact r.sep j k ys s' c hjk hj' hk' hs' hc
open Classical in
noncomputable def Lo (τ:Tau)(σ:St)(H:Hp):Hp:=fun b=>if ∃(i:Nat)(xs:List D),τ[i]? = some (some (S.l xs))/\σ[i]? = some (some (V.ref b)) then none else H b
theorem Tx {H:Hp}:Bk (Lo τ σ H) H:=fun b o h=>by
 unfold Lo at h
 split at h
 .cases h
 .exact h
theorem Hw {H:Hp}{c:Addr}(h:∀(i:Nat)(xs:List D),τ[i]? = some (some (S.l xs))->σ[i]?≠some (some (V.ref c))):Lo τ σ H c=H c:=by
 unfold Lo
 rw[if_neg]
 rintro⟨i,xs,h1,h2⟩
 exact h i xs h1 h2
theorem Rep.baseB (r:Rep X b τ σ p):Bk b.h (Lo τ σ p.h):=fun c o h=>by
 rw[Hw]
 .exact r.ext.hh c o h
 .intro i xs h1 h2
  have:=(r.own i xs c h1 h2).1
  rw[h] at this
  cases this
theorem Rep.inB (r:Rep X b τ σ p):Rep X #[Lo τ σ p.h,p.z] τ σ p :=
 #[r.len,#[Tx,Bk.refl _,r.ext.sub,fun _ _ e=>.inl e],r.val,fun i xs a h1 h2=>#[by show Lo τ σ p.h a=none;unfold Lo;rw[if_pos #[i,xs,h1,h2]],(r.own i xs a h1 h2).2],r.sep,fun h=>(r.top h).trans r.baseB,r.pin]
structure LeB (X:Cx)(b b':HZ):Prop where
 hh:Bk b.h b'.h
 zz:Bk b.z b'.z
 new:∀a o,b'.z a=some o->b.z a=some o\/b.h a=none
 top:X.lent=none->Bk X.H₀ b.h
theorem LeB.ext (e:LeB X b b')(f:Ext b' p):Ext b p:=#[e.hh.trans f.hh,e.zz.trans f.zz,f.sub,fun a o h=>by
 rcases f.new a o h with x|x
 .exact e.new a o x
 .exact .inr (e.hh.free x)]
theorem Rep.outB (e:LeB X b b')(r:Rep X b' τ σ p):Rep X b τ σ p :=
 #[r.len,e.ext r.ext,r.val,fun i xs a h1 h2=>#[e.hh.free (r.own i xs a h1 h2).1,(r.own i xs a h1 h2).2],r.sep,e.top,r.pin]
theorem Rep.leB (r:Rep X b τ σ p):LeB X b #[Lo τ σ p.h,p.z]:=#[r.baseB,r.ext.zz,r.ext.new,r.top]
theorem Rep.leR (r:Rep X b τ σ p):LeB X b b:=#[Bk.refl _,Bk.refl _,fun _ _ e=>.inl e,r.top]
end
abbrev TE3:=Tau->(S->Prop)->Prop
abbrev TT3:=Tau->(Bool->Prop)->Prop
abbrev TA3:=Tau->(List S->Prop)->Prop
structure Ks where
 nx:Tau->Prop
 rt:S->Prop
 bk:Tau->Prop:=fun _=>False
 ct:Tau->Prop:=fun _=>False
abbrev TS3:=Ks->Tau->Prop
def Args (K:W.Frag)(p:HZ)(vs:List V)(ss:List S):Prop :=
 vs.length=ss.length/\∀(i:Nat)(v:V)(s:S),vs[i]? = some v->ss[i]? = some s->IsS K p v s/\s.own=false
def FE (X:Cx)(t:TE3):TE:=fun σ H Q=>∃B z τ R,Rep X B τ σ #[H,z]/\t τ R/\∀s v q,Ext #[H,z] q->IsS X.K q v s->Fr3 X.K #[H,z] q v s->R s->Q v q.h
def FT (X:Cx)(t:TT3):TT:=fun σ H Q=>∃B z τ R,Rep X B τ σ #[H,z]/\t τ R/\∀c q,Ext #[H,z] q->R c->Q c q.h
def FA (X:Cx)(t:TA3):TA:=fun σ H Q=>∃B z τ R,Rep X B τ σ #[H,z]/\t τ R/\∀ss vs q,Ext #[H,z] q->Args X.K q vs ss->R ss->Q vs q.h
structure T1 (X:Cx)(B:HZ)(D3:Ks)(D2:M7):Prop where
 nx:∀τ σ p,Rep X B τ σ p->D3.nx τ->D2.nx σ p.h
 bk:∀τ σ p,Rep X B τ σ p->D3.bk τ->D2.bk σ p.h
 ct:∀τ σ p,Rep X B τ σ p->D3.ct τ->D2.ct σ p.h
 rt:∀s v q,Ext B q->IsS X.K q v s->Fr3 X.K B q v s->D3.rt s->D2.rt v q.h
def FS (X:Cx)(t:TS3):TS:=fun D2 σ H=>∃B z τ D3,Rep X B τ σ #[H,z]/\t D3 τ/\T1 X B D3 D2
structure PE3 (X:Cx)(e:Expr)(t:TE3):Prop where
 out:PE X e (FE X t)
structure PT3 (X:Cx)(e:Expr)(t:TT3):Prop where
 out:PT X e (FT X t)
structure PW3 (X:Cx)(e:Expr)(t:TT3):Prop where
 out:PW X e (FT X t)
structure PA3 (X:Cx)(es:List Expr)(t:TA3):Prop where
 out:PA X es (FA X t)
structure PS3 (X:Cx)(st:Stmt)(t:TS3):Prop where
 out:PS X st (FS X t)
structure D5 (X:Cx)(st:List Stmt)(t:TS3):Prop where
 out:PSs X st (FS X t)
theorem PW3.pt {X:Cx}{e:Expr}{t:TT3}(h:PW3 X e t):PT3 X e t:=#[h.out _]
section
variable {X:Cx}{e a b:Expr}{ta tb:TE3}{pos:Pos}
theorem Bs {t t':TE}(h:PE X e t) (f:∀σ H Q,t' σ H Q->t σ H Q):PE X e t':=fun pins s σ H Q I q=>h pins s σ H Q I (f σ H Q q)
theorem Mq {t t':TT}(h:PT X e t) (f:∀σ H Q,t' σ H Q->t σ H Q):PT X e t':=fun pins s σ H Q I q=>h pins s σ H Q I (f σ H Q q)
theorem Ry {t t':TT}(h:PW X e t) (f:∀σ H Q,t' σ H Q->t σ H Q):PW X e t':=fun wh pins s σ H Q I q=>h wh pins s σ H Q I (f σ H Q q)
theorem Rk {es:List Expr}{t t':TA}(h:PA X es t) (f:∀σ H Q,t' σ H Q->t σ H Q):PA X es t':=fun pos pins s σ H Q I q=>h pos pins s σ H Q I (f σ H Q q)
theorem CF {st:Stmt}{t t':TS}(h:PS X st t) (f:∀D σ H,t' D σ H->t D σ H):PS X st t':=fun pins s σ H D I q=>h pins s σ H D I (f D σ H q)
theorem Iq {st:List Stmt}{t t':TS}(h:PSs X st t) (f:∀D σ H,t' D σ H->t D σ H):PSs X st t':=fun pins s σ H D I q=>h pins s σ H D I (f D σ H q)
def VM (i:Nat):TE3:=fun τ R=>match τ[i]? with
 |some (some s)=>R s.share
 |_=>False
def vC (d:D):TE3:=fun _ R=>R (.d d)
theorem Qf {K:W.Frag}{p q:HZ}{v:V}{s:S}:Fr3 K p q v s.share:=by
 intro xs a h
 cases s<;>cases h
theorem Gi {K:W.Frag}{p q:HZ}{v:V}{d:D}:Fr3 K p q v (.d d):=by
 intro xs a h
 cases h
theorem V8 {i:Nat}{x:Str}(h:PE X (.Name x pos) (Pd i)):PE3 X (.Name x pos) (VM i):=by
 refine#[?_]
 refine Bs h fun σ H Q hh9=>?_
 obtain⟨B,z,τ,R,r,ht,q⟩:=hh9
 unfold VM at ht
 split at ht
 .rename_i s hs
  obtain⟨v,h1,h2⟩:=r.val i s hs
  exact#[v,h1,q _ v #[H,z] (Ext.refl r.ext.sub) h2.share Qf ht]
 .exact ht.elim
theorem Ke {v:V}{d:D}(h:PE X e (tC v)) (hd:∀K H,Is K H v d):PE3 X e (vC d):=#[Bs h fun σ H Q hh=>by obtain⟨B,z,τ,R,r,ht,q⟩:=hh;exact q (.d d) v #[H,z] (Ext.refl r.ext.sub) (hd _ _) Gi ht]
theorem Ac {i j}:PE3 X (.Constant (.int i) j pos) (vC (.int i)):=Ke Ui fun _ _=>.int i
theorem RI {i j}:PE3 X (.Constant (.bool i) j pos) (vC (.bl i)):=Ke UZ fun _ _=>.bl i
theorem Ng {j}:PE3 X (.Constant .none j pos) (vC .non):=Ke T5 fun _ _=>.non
theorem Ld {x j}:PE3 X (.Constant (.str x) j pos) (vC (.str x)):=Ke Vv fun _ _=>.str x
abbrev R3:=D->D->(D->Prop)->Prop
def lft (K:W.Frag)(r3:R3):R2:=fun x y H Q=>∃z dx dy R,Bk z H/\Is K z x dx/\Is K z y dy/\r3 dx dy R/\∀d v q,Ext #[H,z] q->Is K q.z v d->R d->Q v q.h
def Hs (X:Cx)(f:Value->Value->Sem Value)(r3:R3):Prop:=OpR X f (lft X.K r3)
theorem Fm {f:Value->Value->Sem Value}{r r':R2}(h:OpR X f r) (i:∀x y H Q,r' x y H Q->r x y H Q):OpR X f r':=fun pins s σ H x y v u Q I rx ry q=>h pins s σ H x y v u Q I rx ry (i x y H Q q)
def oI (C:Int->Int->Prop)(g:Int->Int->Int):R3:=fun dx dy R=>match dx,dy with
 |.int i,.int j=>C i j/\R (.int (g i j))
 |_,_=>False
def oI0 (g:Int->Int->Int):R3:=fun dx dy R=>match dx,dy with
 |.int i,.int j=>R (.int (g i j))
 |_,_=>False
def oB0 (g:Int->Int->Bool):R3:=fun dx dy R=>match dx,dy with
 |.int i,.int j=>R (.bl (g i j))
 |_,_=>False
theorem P8 {f:Value->Value->Sem Value}{C:Int->Int->Prop}{g:Int->Int->Int}(h:OpR X f (rI C fun i j=>.int (g i j))):Hs X f (oI C g) :=
 Fm h fun x y H Q hh=>by
  obtain⟨z,dx,dy,R,hz,hx,hy,h3,q⟩:=hh
  unfold oI at h3
  split at h3
  .rename_i i j
   exact#[i,j,hx.int_inv,hy.int_inv,h3.1,q _ _ #[H,z] (Ext.refl hz) (.int _) h3.2]
  .exact h3.elim
theorem Rz {f:Value->Value->Sem Value}{g:Int->Int->Int}(h:OpR X f (rI0 fun i j=>.int (g i j))):Hs X f (oI0 g) :=
 Fm h fun x y H Q hh=>by
  obtain⟨z,dx,dy,R,hz,hx,hy,h3,q⟩:=hh
  unfold oI0 at h3
  split at h3
  .rename_i i j
   exact#[i,j,hx.int_inv,hy.int_inv,q _ _ #[H,z] (Ext.refl hz) (.int _) h3]
  .exact h3.elim
theorem Qb {f:Value->Value->Sem Value}{g:Int->Int->Bool}(h:OpR X f (rI0 fun i j=>.bl (g i j))):Hs X f (oB0 g) :=
 Fm h fun x y H Q hh=>by
  obtain⟨z,dx,dy,R,hz,hx,hy,h3,q⟩:=hh
  unfold oB0 at h3
  split at h3
  .rename_i i j
   exact#[i,j,hx.int_inv,hy.int_inv,q _ _ #[H,z] (Ext.refl hz) (.bl _) h3]
  .exact h3.elim
theorem TC:OpR X (binaryOp .Mult) (rI IntMulOk fun i j=>.int (i*j)):=opI fun _ _ _ _ _ _ _ hc q=>mul_int q hc
def CDv (i j:Int):Prop:=j≠0/\Builtin.divisionGoesByPylong i j=false
theorem QJ:OpR X (binaryOp .FloorDiv) (rI CDv fun i j=>.int (i.fdiv j)):=opI fun _ _ _ _ _ _ _ hc q=>floordiv_int hc.1 q (.inl hc.2)
def Xs:R3:=fun dx dy R=>match dx,dy with
 |.int i,.int j=>R (.int (i+j))
 |_,_=>False
theorem AZ:Hs X (binaryOp .Add) Xs:=Rz RK
def X3:R3:=fun dx dy R=>match dx,dy with
 |.int i,.int j=>R (.int (i-j))
 |_,_=>False
theorem Dx:Hs X (binaryOp .Sub) X3:=Rz UR
def Ye:R3:=fun dx dy R=>match dx,dy with
 |.int i,.int j=>IntMulOk i j/\R (.int (i*j))
 |_,_=>False
theorem AB:Hs X (binaryOp .Mult) Ye:=P8 TC
def WG:R3:=fun dx dy R=>match dx,dy with
 |.int i,.int j=>CDv i j/\R (.int (i.fdiv j))
 |_,_=>False
theorem Bf:Hs X (binaryOp .FloorDiv) WG:=P8 QJ
def Xr:R3:=fun dx dy R=>match dx,dy with
 |.int i,.int j=>j≠0/\R (.int (i.fmod j))
 |_,_=>False
theorem BZ:Hs X (binaryOp .Mod) Xr:=P8 Tc
def Yk:R3:=fun dx dy R=>match dx,dy with
 |.int i,.int j=>W8 i j/\R (.int (i^j.toNat))
 |_,_=>False
theorem Np:Hs X (binaryOp .Pow) Yk:=P8 U4
def oLt:R3:=fun dx dy R=>match dx,dy with
 |.int i,.int j=>R (.bl (decide (i<j)))
 |_,_=>False
theorem Kj:Hs X (compareOp .Lt) oLt:=Qb W5
def oLe:R3:=fun dx dy R=>match dx,dy with
 |.int i,.int j=>R (.bl (decide (i<=j)))
 |_,_=>False
theorem Xv:Hs X (compareOp .LtE) oLe:=Qb Wk
def oGt:R3:=fun dx dy R=>match dx,dy with
 |.int i,.int j=>R (.bl (decide (j<i)))
 |_,_=>False
theorem Rn:Hs X (compareOp .Gt) oGt:=Qb V2
def oGe:R3:=fun dx dy R=>match dx,dy with
 |.int i,.int j=>R (.bl (decide (j<=i)))
 |_,_=>False
theorem X9:Hs X (compareOp .GtE) oGe:=Qb Wb
def oEq:R3:=fun dx dy R=>match dx,dy with
 |.int i,.int j=>R (.bl (decide (i=j)))
 |.bl i,.bl j=>R (.bl (decide (i=j)))
 |.str i,.str j=>R (.bl (decide (i=j)))
 |_,_=>False
def oNe:R3:=fun dx dy R=>match dx,dy with
 |.int i,.int j=>R (.bl (!decide (i=j)))
 |.bl i,.bl j=>R (.bl (!decide (i=j)))
 |.str i,.str j=>R (.bl (!decide (i=j)))
 |_,_=>False
theorem MX {α β:Type}{i j:α}{f:α->β} [DecidableEq α] [DecidableEq β] (h:∀a b,f a=f b->a=b):decide (f i=f j)=decide (i=j):=by
 by_cases e:i=j
 .rw[decide_eq_true e,decide_eq_true (by rw[e])]
 .rw[decide_eq_false e,decide_eq_false fun z=>e (h _ _ z)]
theorem IM:Hs X (compareOp .Eq) oEq :=
 Fm WI fun x y H Q hh=>by
  obtain⟨z,dx,dy,R,hz,hx,hy,h3,q⟩:=hh
  unfold oEq at h3
  split at h3
  .rename_i i j
   cases hx.int_inv
   cases hy.int_inv
   exact#[rfl,by rw[MX (f:=V.int) (fun _ _ z=>by cases z;rfl)];exact q _ _ #[H,z] (Ext.refl hz) (.bl _) h3]
  .rename_i i j
   cases hx.bl_inv
   cases hy.bl_inv
   exact#[rfl,by rw[MX (f:=V.bl) (fun _ _ z=>by cases z;rfl)];exact q _ _ #[H,z] (Ext.refl hz) (.bl _) h3]
  .rename_i i j
   cases hx.str_inv
   cases hy.str_inv
   exact#[rfl,by rw[MX (f:=V.str) (fun _ _ z=>by cases z;rfl)];exact q _ _ #[H,z] (Ext.refl hz) (.bl _) h3]
  .exact h3.elim
theorem VW:Hs X (compareOp .NotEq) oNe :=
 Fm Wo fun x y H Q hh=>by
  obtain⟨z,dx,dy,R,hz,hx,hy,h3,q⟩:=hh
  unfold oNe at h3
  split at h3
  .rename_i i j
   cases hx.int_inv
   cases hy.int_inv
   exact#[rfl,by rw[MX (f:=V.int) (fun _ _ z=>by cases z;rfl)];exact q _ _ #[H,z] (Ext.refl hz) (.bl _) h3]
  .rename_i i j
   cases hx.bl_inv
   cases hy.bl_inv
   exact#[rfl,by rw[MX (f:=V.bl) (fun _ _ z=>by cases z;rfl)];exact q _ _ #[H,z] (Ext.refl hz) (.bl _) h3]
  .rename_i i j
   cases hx.str_inv
   cases hy.str_inv
   exact#[rfl,by rw[MX (f:=V.str) (fun _ _ z=>by cases z;rfl)];exact q _ _ #[H,z] (Ext.refl hz) (.bl _) h3]
  .exact h3.elim
def dd (x:S)(k:D->Prop):Prop:=match x with
 |.d d=>k d
 |_=>False
def vOp (r3:R3)(ta tb:TE3):TE3:=fun τ R=>ta τ fun x=>tb τ fun y=>dd x fun dx=>dd y fun dy=>r3 dx dy fun d=>R (.d d)
theorem FZ {x:S}{k:D->Prop}(h:dd x k):∃d,x=.d d/\k d:=by
 cases x with
 |d d=>exact#[d,rfl,h]
 |l _=>exact h.elim
 |r _=>exact h.elim
theorem two {r3:R3}{σ:St}{H:Hp}{Q:VK}(h:FE X (vOp r3 ta tb) σ H Q):tOp (lft X.K r3) (FE X ta) (FE X tb) σ H Q:=by
 obtain⟨B,z,τ,R,r,ht,q⟩:=h
 refine#[B,_,τ,_,r,ht,fun x v H1 e1 i1 f1 h1=>?_]
 refine#[B,_,τ,_,r.mono e1,h1,fun y u H2 e2 i2 f2 h2=>?_]
 obtain⟨dx,rfl,h4⟩:=FZ h2
 obtain⟨dy,rfl,h5⟩:=FZ h4
 exact#[H2.z,dx,dy,_,e2.sub,Is.mono e2.zz i1,i2,h5,fun d w H3 e3 i3 h3=>q (.d d) w H3 (e1.trans (e2.trans e3)) i3 Gi h3]
theorem Ak {op:Operator}{r3:R3}(ho:Hs X (binaryOp op) r3) (ha:PE3 X a ta) (hb:PE3 X b tb):PE3 X (.BinOp a op b pos) (vOp r3 ta tb):=#[Bs (Uq ho ha.out hb.out) fun _ _ _ h=>two h]
theorem N3 {op:CmpOp}{r3:R3}(ho:Hs X (compareOp op) r3) (ha:PE3 X a ta) (hb:PE3 X b tb) (hm:behindInMarks op b=false):PE3 X (.Compare a [op] [b] pos) (vOp r3 ta tb):=#[Bs (R7 ho ha.out hb.out hm) fun _ _ _ h=>two h]
def bb (x:S)(k:Bool->Prop):Prop:=match x with
 |.d (.bl c)=>k c
 |_=>False
theorem MF {x:S}{k:Bool->Prop}(h:bb x k):∃c,x=.d (.bl c)/\k c:=by
 unfold bb at h
 split at h
 .exact#[_,rfl,h]
 .exact h.elim
def SA (t:TE3):TT3:=fun τ R=>t τ fun x=>bb x R
theorem WU {op:CmpOp}{r3:R3}(ho:Hs X (compareOp op) r3) (ha:PE3 X a ta) (hb:PE3 X b tb) (hm:behindInMarks op b=false):PT3 X (.Compare a [op] [b] pos) (SA (vOp r3 ta tb)):=#[Mq (Sy ho ha.out hb.out hm) fun σ H Q hh=>by obtain⟨B,z,τ,R,r,ht,q⟩:=hh;exact two #[B,_,τ,_,r,ht,fun s v H' e i f h=>by
 obtain⟨c,rfl,h⟩:=MF h
 cases Is.bl_inv i
 exact#[c,rfl,q c H' e h]]]
theorem Bu {t:TE3}(h:PE3 X e t) (he:∀whole,isTrue e X.env whole=(do let v <-whole;standAt e.pos;holding [v] (truthy v)):=by intro _;rfl):PT3 X e (SA t):=#[Mq (U7 h.out he) fun σ H Q hh=>by obtain⟨B,z,τ,R,r,ht,q⟩:=hh;exact#[B,_,τ,_,r,ht,fun s v H' e i f hz=>by
 obtain⟨c,rfl,hz⟩:=MF hz
 cases Is.bl_inv i
 exact#[c,rfl,q c H' e hz]]]
def Yn (ta:TE3):TE3:=fun τ R=>ta τ fun x=>match x with
 |.d (.int i)=>R (.d (.int (-i)))
 |_=>False
theorem Ft (ha:PE3 X a ta):PE3 X (.UnaryOp .USub a pos) (Yn ta):=#[Bs (WR T3 ha.out) fun σ H Q hh=>by obtain⟨B,z,τ,R,r,ht,q⟩:=hh;exact#[B,_,τ,_,r,ht,fun s v H' e i f h=>by
 split at h
 .rename_i i'
  exact#[i',Is.int_inv i,q (.d _) _ H' e (Is.int _) Gi h]
 .exact h.elim]]
variable {tA tB':TT3}{rest:List Expr}
def Xq (t u:TT3):TT3:=fun τ R=>t τ fun c=>if c=true then u τ R else R false
def wOr (t u:TT3):TT3:=fun τ R=>t τ fun c=>if c=true then R true else u τ R
def Yg (t:TT3):TT3:=fun τ R=>t τ fun c=>R (!c)
theorem E4 (ha:PT3 X a tA):PW3 X (.BoolOp .And [a] pos) tA:=#[SK ha.out]
theorem JQ (ha:PT3 X a tA):PW3 X (.BoolOp .Or [a] pos) tA:=#[VI ha.out]
theorem IL (ha:PT3 X a tA)(hb:PW3 X (.BoolOp .And (b::rest) pos) tB'):PW3 X (.BoolOp .And (a::b::rest) pos) (Xq tA tB'):=#[Ry (Vr ha.out hb.out) fun σ H Q hh=>by obtain⟨B,z,τ,R,r,ht,q⟩:=hh;exact#[B,_,τ,_,r,ht,fun c H1 e h=>by
 cases c with
 |true=>rw[if_pos rfl] at h ⊢;exact#[B,_,τ,R,r.mono e,h,fun d H2 e2 h2=>q d H2 (e.trans e2) h2]
 |false=>rw[if_neg qAn] at h ⊢;exact q _ _ e h]]
theorem PV (ha:PT3 X a tA)(hb:PW3 X (.BoolOp .Or (b::rest) pos) tB'):PW3 X (.BoolOp .Or (a::b::rest) pos) (wOr tA tB'):=#[Ry (WM ha.out hb.out) fun σ H Q hh=>by obtain⟨B,z,τ,R,r,ht,q⟩:=hh;exact#[B,_,τ,_,r,ht,fun c H1 e h=>by
 cases c with
 |false=>rw[if_neg qAn] at h ⊢;exact#[B,_,τ,R,r.mono e,h,fun d H2 e2 h2=>q d H2 (e.trans e2) h2]
 |true=>rw[if_pos rfl] at h ⊢;exact q _ _ e h]]
theorem w_not (ha:PT3 X a tA):PT3 X (.UnaryOp .Not a pos) (Yg tA):=#[Mq (Vp ha.out) fun σ H Q hh=>by obtain⟨B,z,τ,R,r,ht,q⟩:=hh;exact#[B,_,τ,_,r,ht,fun c H1 e h=>q _ _ e h]]
def XY (ta tb:TE3):TE3:=fun τ R=>ta τ fun x=>bb x fun c=>if c=true then tb τ R else R (.d (.bl false))
def XR (ta:TE3):TE3:=fun τ R=>ta τ fun x=>bb x fun c=>R (.d (.bl (!c)))
theorem VH {op}{t:TE3}(h:PE3 X a t):PE3 X (.BoolOp op [a] pos) t:=#[Vd h.out]
theorem UL (ha:PE3 X a ta)(hb:PE3 X (.BoolOp .And (b::rest) pos) tb):PE3 X (.BoolOp .And (a::b::rest) pos) (XY ta tb):=#[Bs (Va ha.out hb.out) fun σ H Q hh=>by obtain⟨B,z,τ,R,r,ht,q⟩:=hh;exact#[B,_,τ,_,r,ht,fun s v H1 e i f h=>by
 obtain⟨c,rfl,h'⟩:=MF h
 cases Is.bl_inv i
 refine#[c,rfl,?_]
 cases c with
 |true=>rw[if_pos rfl] at h' ⊢;exact#[B,_,τ,R,r.mono e,h',fun s2 v2 H2 e2 i2 f2 h2=>q _ _ _ (e.trans e2) i2 (Nt e f2) h2]
 |false=>rw[if_neg qAn] at h' ⊢;exact q (.d _) _ _ e (Is.bl _) Gi h']]
theorem Pr (ha:PE3 X a ta):PE3 X (.UnaryOp .Not a pos) (XR ta):=#[Bs (U9 ha.out) fun σ H Q hh=>by obtain⟨B,z,τ,R,r,ht,q⟩:=hh;exact#[B,_,τ,_,r,ht,fun s v H1 e i f h=>by
 obtain⟨c,rfl,h'⟩:=MF h
 cases Is.bl_inv i
 exact#[c,rfl,q (.d _) _ _ e (Is.bl _) Gi h']]]
def items:S->Option (List D)
 |.d (.tup xs)=>some xs
 |.d (.lst xs)=>some xs
 |.l xs=>some xs
 |.r xs=>some xs
 |_=>none
def vIx (ta tb:TE3):TE3:=fun τ R=>ta τ fun x=>tb τ fun y=>match items x,y with
 |some xs,.d (.int i)=>match atI xs i with
  |some d=>R (.d d)
  |none=>False
 |_,_=>False
theorem JM {K:W.Frag}{H:Hp}{vs:List V}{xs:List D}{i:Int}{d:D}(h:Iss K H vs xs) (e:atI xs i=some d):∃v,atI vs i=some v/\Is K H v d:=by
 unfold atI at e ⊢
 rw[h.1]
 cases q:ixN xs.length i with
 |none=>rw[q] at e;cases e
 |some j =>
  rw[q] at e
  have e':xs[j]? = some d:=e
  have hj:=(qAd.mp e').1
  have hl:j<vs.length:=by rw[h.1];exact hj
  have hv:vs[j]? = some vs[j]:=qAb hl
  exact#[vs[j],hv,h.2 j _ _ hv e']
theorem A3 (ha:PE3 X a ta)(hb:PE3 X b tb)(hs:OU b:=by exact fun _ _=>rfl):PE3 X (.Subscript a b pos) (vIx ta tb):=#[Bs (Wc (TN.or UJ) ha.out hb.out hs) fun σ H Q hh=>by
 obtain⟨B,z,τ,R,r,ht,q⟩:=hh
 refine#[B,_,τ,_,r,ht,fun x v H1 e1 i1 f1 h1=>?_]
 refine#[B,_,τ,_,r.mono e1,h1,fun y u H2 e2 i2 f2 h2=>?_]
 split at h2
 .rename_i xs i hx
  split at h2
  .rename_i d hd
   cases Is.int_inv i2
   have i1':=IsS.mono e2 i1
   cases x with
   |d z =>
    cases z with
    |tup zs =>
     cases hx
     obtain⟨p,vs,rfl,h3,h4⟩:=Is.tup_inv i1'
     obtain⟨w,hw,iw⟩:=JM h4 hd
     exact .inr #[p,vs,i,w,rfl,rfl,SqT.same e2.sub h3,hw,q (.d _) _ _ (e1.trans e2) iw Gi h2]
    |lst zs =>
     cases hx
     obtain⟨p,vs,rfl,h3,h4⟩:=Is.lst_inv i1'
     obtain⟨w,hw,iw⟩:=JM h4 hd
     exact .inl #[p,vs,i,w,rfl,rfl,e2.sub.seq h3,hw,q (.d _) _ _ (e1.trans e2) iw Gi h2]
    |_=>cases hx
   |l zs =>
    cases hx
    obtain⟨p,vs,rfl,h3,h4⟩:=i1'
    obtain⟨w,hw,iw⟩:=JM h4 hd
    exact .inl #[p,vs,i,w,rfl,rfl,SqL.of h3,hw,q (.d _) _ _ (e1.trans e2) iw Gi h2]
   |r zs =>
    cases hx
    obtain⟨p,vs,rfl,h3,h4⟩:=i1'
    obtain⟨w,hw,iw⟩:=JM h4 hd
    exact .inl #[p,vs,i,w,rfl,rfl,h3,hw,q (.d _) _ _ (e1.trans e2) iw Gi h2]
  .exact h2.elim
 .exact h2.elim]
variable {es:List Expr}{tr:TA3}{te:TE3}
def VT:TA3:=fun _ R=>R []
def S.arg:S->S
 |.l xs=>.d (.lst xs)
 |s=>s
def PB (ta:TE3)(tr:TA3):TA3:=fun τ R=>ta τ fun x=>tr τ fun xs=>R (x.arg::xs)
theorem LG:PA3 X [] VT:=#[Rk Bt fun σ H Q hh=>by obtain⟨B,z,τ,R,r,ht,q⟩:=hh;exact q [] [] #[H,z] (Ext.refl r.ext.sub) #[rfl,fun i v s h=>by simp at h] ht]
theorem N4 (s:S):s.arg.own=false:=by cases s<;>rfl
theorem Fs {K:W.Frag}{p q:HZ}{v:V}{s:S}(e:Ext p q) (i:IsS K q v s) (f:Fr3 K p q v s):∃z',Ext p #[q.h,z']/\IsS K #[q.h,z'] v s.arg:=by
 cases s with
 |d x=>exact#[q.z,e,i]
 |r xs=>exact#[q.z,e,i]
 |l xs =>
  obtain⟨a,vs,rfl,h1,h2⟩:=i
  obtain⟨f1,f2,f3⟩:=f xs a rfl rfl
  have h3:=h2.mono (BU f3 (.lst vs))
  exact#[upd q.z a (.lst vs),e.freeze f1 f3 h1,Is.lst Aq h3.1 h3.2]
theorem AN (ha:PE3 X e te)(hr:PA3 X es tr)(hs:starEach (e::es) X.env=(false,eval e X.env)::starEach es X.env:=by exact Dw rfl):PA3 X (e::es) (PB te tr) :=
 #[Rk (AX ha.out hr.out hs) fun σ H Q hh=>by
  obtain⟨B,z,τ,R,r,ht,q⟩:=hh
  refine#[B,_,τ,_,r,ht,fun x v H1 e1 i1 f1 h1=>?_]
  obtain⟨z1,e1',i1'⟩:=Fs e1 i1 f1
  refine#[B,z1,τ,_,r.mono e1',h1,fun ss vs H2 e2 i2 h2=>?_]
  refine q _ _ _ (e1'.trans e2) #[by simp[i2.1],fun i w s hw hs=>?_] h2
  cases i with
  |zero =>
   simp at hw hs
   subst hw;subst hs
   exact#[IsS.mono e2 i1',N4 x]
  |succ i=>exact i2.2 i w s (by simpa using hw) (by simpa using hs)]
def Tg:List S->Option (List D)
 |[]=>some []
 |.d x::r=>(Tg r).map (x :: ·)
 |_::_=>none
theorem Hr:∀{ss:List S}{ds:List D},Tg ss=some ds->ss=ds.map S.d
 |[],ds,h=>by cases h;rfl
 |.d x::r,ds,h=>by
  unfold Tg at h
  cases q:Tg r with
  |none=>rw[q] at h;cases h
  |some ys =>
   rw[q] at h
   cases h
   rw[Hr q]
   rfl
 |.l _::_,_,h=>by cases h
 |.r _::_,_,h=>by cases h
theorem JZ {K:W.Frag}{p:HZ}{vs:List V}{ds:List D}(h:Args K p vs (ds.map S.d)):Iss K p.z vs ds:=by
 refine#[by simpa using h.1,fun i v x h1 h2=>?_]
 exact(h.2 i v (.d x) h1 (by rw[qAc,h2];rfl)).1
def XX (t:TA3):TE3:=fun τ R=>t τ fun ss=>match Tg ss with
 |some ds=>ds.length<=1000/\R (.d (.tup ds))
 |none=>False
theorem RD {n:Nat}(h:n<=1000):n<=sizeLine:=qBk (PF h)
theorem AH {x1}(h:PA3 X es tr):PE3 X (.Tuple es x1 pos) (XX tr) :=
 #[Bs (Vi h.out) fun σ H Q hh=>by obtain⟨B,z,τ,R,r,ht,q⟩:=hh;exact#[B,_,τ,_,r,ht,fun ss vs H1 e1 i1 h1=>by
  try dsimp only at h1
  split at h1
  .rename_i ds hd
   rw[Hr hd] at i1
   have j:=JZ i1
   refine#[by rw[j.1];exact RD h1.1,fun p hp=>?_]
   have el:=Ext.lay (o:=.tup vs) e1.sub hp
   have j':=j.mono (BU (e1.sub.free hp) (.tup vs))
   exact q (.d _) _ _ (e1.trans el) (Is.tup (SqT.of Aq) j'.1 j'.2) Gi h1.2
  .exact h1.elim]]
theorem SS {t:TA}(h:PA X es t):PE X (.List es pos) (fun σ H Q=>t σ H fun xs H1=>xs.length<=sizeLine/\∀p,H1 p=none->X.K.lookup p=none->Q (.ref p) (upd H1 p (.lst xs))):=by
 intro pins s σ H Q I hq
 refine wpAny_List_spliced (thn (h pos pins s σ H _ I hq) fun us s1 #[xs,H1,I1,r,z,q]=>#[by rw[<-r.length];exact z,?_])
 have hf:H1 s1.heap.objs.size=none:=I1.hok.fresh (qAe _)
 have hk:X.K.lookup s1.heap.objs.size=none:=by
  cases e:X.K.lookup s1.heap.objs.size with
  |none=>rfl
  |some o=>exact absurd (qAi (I1.kIn _ _ e)) (qAY _)
 refine#[.ref s1.heap.objs.size,upd H1 s1.heap.objs.size (.lst xs),I1.laid (t':=s1.toks) (fun b u e=>qAh _ e) (qAe _) ?_,rfl,q _ hf hk]
 exact#[z,us,0,r,qAu _ rfl]
def XW (t:TA3):TE3:=fun τ R=>t τ fun ss=>match Tg ss with
 |some ds=>ds.length<=1000/\R (.l ds)
 |none=>False
theorem GG (h:PA3 X es tr):PE3 X (.List es pos) (XW tr) :=
 #[Bs (SS h.out) fun σ H Q hh=>by obtain⟨B,z,τ,R,r,ht,q⟩:=hh;exact#[B,_,τ,_,r,ht,fun ss vs H1 e1 i1 h1=>by
  try dsimp only at h1
  split at h1
  .rename_i ds hd
   rw[Hr hd] at i1
   have j:=JZ i1
   refine#[by rw[j.1];exact RD h1.1,fun p hp hk=>q (.l ds) _ #[_,H1.z] (e1.trans (Ext.own e1.sub hp _)) #[p,vs,rfl,Aq,j] (fun xs a _ h2=>?_) h1.2]
   cases h2
   exact#[e1.hh.free hp,hk,e1.sub.free hp]
  .exact h1.elim]]
def vCB (r:List S->(S->Prop)->Prop)(t:TA3):TE3:=fun τ R=>t τ fun ss=>r ss R
def NF (X:Cx)(f:Value)(r3:List S->(S->Prop)->Prop):Prop :=
 HK X f (fun xs H Q=>∃z ss R,Bk z H/\Args X.K #[H,z] xs ss/\r3 ss R/\∀s v q,Ext #[H,z] q->IsS X.K q v s->Fr3 X.K #[H,z] q v s->R s->Q v q.h)
theorem Kt {f:Value}{r r':List V->Hp->VK->Prop}(h:HK X f r) (i:∀xs H Q,r' xs H Q->r xs H Q):HK X f r':=fun pins s σ H xs us Q I rs q=>h pins s σ H xs us Q I rs (i xs H Q q)
theorem Ir {x:Str}{p:Pos}{id:String}{r:List S->(S->Prop)->Prop}(hc:NF X (.builtin id) r) (hg:Gl X x) (hm:X.mg x=none) (hv:bootBuiltins x=some (.builtin id)) (ha:PA3 X (e::es) tr) (hn:x≠"__name__":=by decide)
 (hdb:(x==("__debug__":Str))=false:=by decide) (he:starEach (e::es) X.env=(false,eval e X.env)::starEach es X.env:=by exact Dw rfl) (hpl:(backTo pos (starEach es X.env)).any (·.1)=false:=by exact F0 rfl) :
 PE3 X (.Call (.Name x p) (e::es) [] pos) (vCB r tr):=#[Bs (Hu hc hg hm hv ha.out hn hdb he hpl) fun σ H Q hh=>by obtain⟨B,z,τ,R,r,ht,q⟩:=hh;exact#[B,_,τ,_,r,ht,fun ss vs H1 e1 i1 h1=>#[H1.z,ss,R,e1.sub,i1,h1,fun s v H2 e2 i2 f2 h2=>q s v H2 (e1.trans e2) i2 (Nt e1 f2) h2]]]
theorem Xa {α:Type}{l:List α}(h:l.length=1):∃a,l=[a]:=by
 cases l with
 |nil=>cases h
 |cons a t=>exact#[a,by rw[List.length_eq_zero_iff.mp (Nat.succ.inj h)]]
theorem XA {α:Type}{l:List α}(h:l.length=2):∃a b,l=[a,b]:=by
 cases l with
 |nil=>cases h
 |cons a t =>
  obtain⟨b,e⟩:=Xa (Nat.succ.inj h)
  exact#[a,b,by rw[e]]
theorem Tw {K:W.Frag}{H:HZ}{vs:List V}{s:S}(h:Args K H vs [s]):∃v,vs=[v]/\IsS K H v s:=by
 obtain⟨hl,hv⟩:=h
 obtain⟨v,rfl⟩:=Xa hl
 exact#[v,rfl,(hv 0 v s rfl rfl).1]
theorem Vm {K:W.Frag}{H:HZ}{vs:List V}{s t:S}(h:Args K H vs [s,t]):∃v u,vs=[v,u]/\IsS K H v s/\IsS K H u t:=by
 obtain⟨hl,hv⟩:=h
 obtain⟨v,u,rfl⟩:=XA hl
 exact#[v,u,rfl,(hv 0 v s rfl rfl).1,(hv 1 u t rfl rfl).1]
def Xk:List S->(S->Prop)->Prop:=fun ss R=>match ss with
 |[.d (.int i)]=>R (.d (.int (if i<0 then -i else i)))
 |_=>False
theorem P1:NF X (.builtin "abs") Xk :=
 Kt P7 fun xs H Q hh=>by
  obtain⟨z,ss,R,hz,ha,h3,q⟩:=hh
  unfold Xk at h3
  split at h3
  .rename_i i
   obtain⟨v,rfl,h⟩:=Tw ha
   cases Is.int_inv h
   exact#[i,rfl,q (.d _) _ #[H,z] (Ext.refl hz) (Is.int _) Gi h3]
  .exact h3.elim
def Wu:List S->(S->Prop)->Prop:=fun ss R=>match ss with
 |[s]=>match items s with
  |some xs=>R (.d (.int xs.length))
  |none=>False
 |_=>False
theorem Wf:NF X (.builtin "len") Wu :=
 Kt KS fun xs H Q hh=>by
  obtain⟨z,ss,R,hz,ha,h3,q⟩:=hh
  unfold Wu at h3
  split at h3
  .rename_i s
   split at h3
   .rename_i ys hy
    obtain⟨v,rfl,h⟩:=Tw ha
    cases s with
    |d z =>
     cases z with
     |tup zs =>
      cases hy
      obtain⟨p,vs,rfl,h1,h2⟩:=Is.tup_inv h
      exact#[p,vs,rfl,.inr (SqT.same hz h1),by rw[h2.1];exact q (.d _) _ #[H,z] (Ext.refl hz) (Is.int _) Gi h3]
     |lst zs =>
      cases hy
      obtain⟨p,vs,rfl,h1,h2⟩:=Is.lst_inv h
      exact#[p,vs,rfl,.inl (hz.seq h1),by rw[h2.1];exact q (.d _) _ #[H,z] (Ext.refl hz) (Is.int _) Gi h3]
     |_=>cases hy
    |l zs =>
     cases hy
     obtain⟨p,vs,rfl,h1,h2⟩:=h
     exact#[p,vs,rfl,.inl (SqL.of h1),by rw[h2.1];exact q (.d _) _ #[H,z] (Ext.refl hz) (Is.int _) Gi h3]
    |r zs =>
     cases hy
     obtain⟨p,vs,rfl,h1,h2⟩:=h
     exact#[p,vs,rfl,.inl h1,by rw[h2.1];exact q (.d _) _ #[H,z] (Ext.refl hz) (Is.int _) Gi h3]
   .exact h3.elim
  .exact h3.elim
inductive Ty where
 |int|bool|tuple|str|list
def Td:Ty->String
 |.int=>"int"
 |.bool=>"bool"
 |.tuple=>"tuple"
 |.str=>"str"
 |.list=>"list"
def Wn:Ty->S->Bool
 |.int,.d (.int _)=>true
 |.int,.d (.bl _)=>true
 |.bool,.d (.bl _)=>true
 |.tuple,.d (.tup _)=>true
 |.str,.d (.str _)=>true
 |.list,.l _=>true
 |.list,.r _=>true
 |.list,.d (.lst _)=>true
 |_,_=>false
def Xc:S->Prop
 |.d (.ty _)=>False
 |.d (.ref _)=>False
 |_=>True
theorem Ql (k:Ty):HK X (.builtin "isinstance") (fun xs H Q=>∃z x s,Bk z H/\xs=[x,.ty (Td k)]/\IsS X.K #[H,z] x s/\Xc s/\Q (.bl (Wn k s)) H):=by
 intro pins s σ H xs us Q I rs h
 obtain⟨zz,x,z,hz,rfl,h1,h2,q⟩:=h
 obtain⟨v',u',rfl,r1,r2⟩:=WV rs
 cases r2
 have fin:∀tk,EP X pins σ Q (.bool (Wn k z)) { s with toks:=tk }:=fun tk=>#[.bl _,H,I.tok tk,rfl,q]
 cases z with
 |d z =>
  cases z with
  |non=>cases Is.non_inv h1;exact Ga I r1 .non (by cases k<;>kernel_rfl) fin
  |bl y=>cases Is.bl_inv h1;exact Ga I r1 (.bl y) (by cases k<;>kernel_rfl) fin
  |int y=>cases Is.int_inv h1;exact Ga I r1 (.int y) (by cases k<;>kernel_rfl) fin
  |str y=>cases Is.str_inv h1;exact Ga I r1 (.str y) (by cases k<;>kernel_rfl) fin
  |ty y=>exact h2.elim
  |ref y=>exact h2.elim
  |lst y =>
   obtain⟨p,vs,rfl,g1,g2⟩:=Is.lst_inv h1
   cases r1
   obtain⟨its,_,pl,_⟩:=I.list (hz.seq g1)
   obtain⟨o,n',e1,e2,_⟩:=pl
   exact qAQ qBH I.kIn #[o,e1,e2] (by cases k<;>kernel_rfl) (fun z=>nomatch z) fin
  |tup y =>
   obtain⟨p,vs,rfl,g1,g2⟩:=Is.tup_inv h1
   cases r1
   obtain⟨its,_,pl,_⟩:=I.tuple (SqT.same hz g1)
   obtain⟨o,e1,e2,_⟩:=pl
   exact qAQ W.kitx_tuple I.kIn #[o,e1,e2] (by cases k<;>kernel_rfl) (fun z=>nomatch z) fin
 |l y =>
  obtain⟨p,vs,rfl,g1,g2⟩:=h1
  cases r1
  obtain⟨its,_,pl,_⟩:=I.list (SqL.of g1)
  obtain⟨o,n',e1,e2,_⟩:=pl
  exact qAQ qBH I.kIn #[o,e1,e2] (by cases k<;>kernel_rfl) (fun z=>nomatch z) fin
 |r y =>
  obtain⟨p,vs,rfl,g1,g2⟩:=h1
  cases r1
  obtain⟨its,_,pl,_⟩:=I.list g1
  obtain⟨o,n',e1,e2,_⟩:=pl
  exact qAQ qBH I.kIn #[o,e1,e2] (by cases k<;>kernel_rfl) (fun z=>nomatch z) fin
def Yj (k:Ty)(te:TE3):TE3:=fun τ R=>te τ fun x=>Xc x/\R (.d (.bl (Wn k x)))
theorem Nm (k:Ty){y:Str}{p p2:Pos}(ha:PE3 X e te) (hg:Gl X "isinstance") (hm:X.mg "isinstance"=none) (hg2:Gl X y) (hm2:X.mg y=none) (hv:bootBuiltins y=some (.type (Td k)))
 (hn:y≠"__name__":=by decide) (hd:(y==("__debug__":Str))=false:=by decide)
 (he:starEach [e,.Name y p2] X.env=(false,eval e X.env)::starEach [.Name y p2] X.env:=by exact Dw rfl) (he2:starEach [.Name y p2] X.env=(false,eval (.Name y p2) X.env)::starEach [] X.env:=by exact Dw rfl) (hpl:(backTo pos (starEach [.Name y p2] X.env)).any (·.1)=false:=by exact F0 rfl) :
 PE3 X (.Call (.Name "isinstance" p) [e,.Name y p2] [] pos) (Yj k te):=#[Bs (Hu (Ql k) hg hm PyProof.Rows.boot_isinstance (AX ha.out (AX (Su (v:=.ty (Td k)) hg2 hm2 hv rfl hn hd) Bt he2) he) (he:=he) (hpl:=hpl)) fun σ H Q #[B,z,τ,R,r,ht,q] =>
 #[B,_,τ,_,r,ht,fun s v H1 e1 i1 f1 h1=>#[H1.z,v,s,e1.sub,rfl,i1,h1.1,q (.d _) _ H1 e1 (Is.bl _) Gi h1.2]]]
abbrev Sp3:=List S->(S->Prop)->(Str->Prop)->Prop
def Ae (K:W.Frag)(mg:Str->Option Value)(sp:Sp3):Sp:=fun vs H Q E=>∃z ss R U,Bk z H/\Args K #[H,z] vs ss/\sp ss R U/\(∀s v q,Ext #[H,z] q->IsS K q v s->Fr3 K #[H,z] q v s->R s->Q v q.h) /\
 ∀x C H',Bk H H'->mg x=some (.ref C)->U x->E (.ref C) none H'
structure Cal (P:Program)(w:World)(K:W.Frag)(mg:Str->Option Value)(base:Heap)(CX:CXT)(k:Nat)(x:Str)(ps:List Str)(sp:Sp3):Prop where
 ex:∃f fd,Ap P w K mg base CX k f fd ps (Ae K mg sp)/\mg x=some (.ref f)/\W.keepIn K (.ref f)=true/\Binds K fd ps []
def NoU:Str->Prop:=fun _=>False
variable {st:Stmt}{rest':List Stmt}{t u:TS3}
def Wl:TS3:=fun D3 τ=>D3.nx τ
def XH (t u:TS3):TS3:=fun D3 τ=>t { D3 with nx:=u D3 } τ
def XO (t u:TS3):TS3:=fun D3 τ=>∃mid:Tau->Prop,t { D3 with nx:=mid } τ/\∀τ',mid τ'->u D3 τ'
theorem An:D5 X [] Wl:=#[Iq SO fun _ _ _ #[_,_,_,_,r,ht,c]=>c.nx _ _ _ r ht]
theorem Af (h:PS3 X st t):D5 X [st] t:=#[Sm h.out]
theorem Ab (h1:PS3 X st t)(h2:D5 X rest' u):D5 X (st::rest') (XH t u):=#[Iq (L8 h1.out h2.out) fun D2 σ H hh=>by obtain⟨B,z,τ,D3,r,ht,c⟩:=hh;exact#[B,_,τ,{ D3 with nx:=u D3 },r,ht,#[fun τ' σ' p' r' h'=>#[B,_,τ',D3,r',h',c],c.bk,c.ct,c.rt]]]
theorem B3 (h1:PS3 X st t)(h2:D5 X rest' u):D5 X (st::rest') (XO t u):=#[Iq (L8 h1.out h2.out) fun D2 σ H #[B,z,τ,D3,r,#[mid,ht,hm],c]=>#[B,_,τ,{ D3 with nx:=mid },r,ht,#[fun τ' σ' p' r' h'=>#[B,_,τ',D3,r',hm τ' h',c],c.bk,c.ct,c.rt]]]
def sGd (t u:TS3):TS3:=fun D3 τ=>t { D3 with nx:=fun τ'=>τ'=τ } τ/\u D3 τ
theorem O1 (h1:PS3 X st t)(h2:D5 X rest' u):D5 X (st::rest') (sGd t u):=#[Iq (B3 h1 h2).out fun D2 σ H #[B,z,τ,D3,r,#[ht,hu],c]=>#[B,_,τ,D3,r,#[fun τ'=>τ'=τ,ht,fun τ' e=>by subst e;exact hu],c]]
def Ur:TS3:=fun _ _=>False
theorem Pc:PS3 X st Ur:=#[CF QA fun _ _ _ #[_,_,_,_,_,h,_]=>h.elim]
def WN (te:TE3):TS3:=fun D3 τ=>te τ fun _=>D3.nx τ
theorem Ml (he:PE3 X e te)(hs:swapsWith e none pos.line X.env=pure false:=by rfl):PS3 X (.Expr e pos) (WN te):=#[CF (Bq he.out hs) fun D2 σ H hh=>by obtain⟨B,z,τ,D3,r,ht,c⟩:=hh;exact#[B,_,τ,_,r,ht,fun s v H' e i f h=>c.nx _ _ _ (r.mono e) h]]
def Xe (te:TE3):TS3:=fun D3 τ=>te τ D3.rt
theorem Wr (he:PE3 X e te):PS3 X (.Return (some e) pos) (Xe te):=#[CF (Rg he.out) fun D2 σ H hh=>by obtain⟨B,z,τ,D3,r,ht,c⟩:=hh;exact#[B,_,τ,_,r,ht,fun s v H' e i f h=>c.rt s v H' (r.ext.trans e) i (Nt r.ext f) h]]
def Vy (i:Nat):TS3:=fun D3 τ=>match τ[i]? with
 |some (some s)=>D3.rt s
 |_=>False
theorem DC {i:Nat}{x:Str}{pos':Pos}(h:PE X (.Name x pos') (Pd i)):PS3 X (.Return (some (.Name x pos')) pos) (Vy i):=#[CF (Rg h) fun D2 σ H hh=>by
 obtain⟨B,z,τ,D3,r,ht,c⟩:=hh
 unfold Vy at ht
 split at ht
 .rename_i s hs
  obtain⟨v,h1,h2⟩:=r.val i s hs
  exact#[v,h1,c.rt s v #[H,z] r.ext h2 (fun xs a e1 e2=>r.own i xs a (by rw[<-e1];exact hs) (by rw[<-e2];exact h1)) ht]
 .exact ht.elim]
def sIf (c:TT3)(t u:TS3):TS3:=fun D3 τ=>c τ fun b=>if b=true then t D3 τ else u D3 τ
theorem BQ {c:Expr}{as bs:List Stmt}{tc:TT3}(hc:PT3 X c tc) (ha:D5 X as t) (hb:D5 X bs u):PS3 X (.If c as bs pos) (sIf tc t u):=#[CF (WD hc.out ha.out hb.out) fun D2 σ H hh=>by obtain⟨B,z,τ,D3,r,ht,c⟩:=hh;exact#[B,_,τ,_,r,ht,fun b H1 e h=>by
 cases b with
 |true=>rw[if_pos rfl] at h ⊢;exact#[B,_,τ,D3,r.mono e,h,c]
 |false=>rw[if_neg qAn] at h ⊢;exact#[B,_,τ,D3,r.mono e,h,c]]]
def VR (i:Nat)(te:TE3):TS3:=fun D3 τ=>te τ fun s=>match s with
 |.r _=>False
 |.d x=>D3.nx (τ.set i (some (.d x)))
 |.l xs=>D3.nx (τ.set i (some (.l xs)))
theorem WO {i:Nat}{x:Str}{pos':Pos}(hN:X.N.Nodup) (hi:X.N[i]? = some x) (hx:Loc X.env.scope x) (he:PE3 X e te) (hs:swapsWith e (some (.Name x pos')) pos.line X.env=pure false:=by rfl) (hf:X.fn x=true\/X.env.scope.names.lookup x=some .local:=by first|exact .inl rfl|exact .inr rfl|assumption) (hp:Eg X i:=by first|exact Ec rfl|exact Eu rfl ∅|assumption) :
 PS3 X (.Assign [.Name x pos'] e pos) (VR i te):=#[CF (T6 hN hi hx he.out hs hf) fun D2 σ H hh=>by obtain⟨B,z,τ,D3,r,ht,c⟩:=hh;exact#[B,_,τ,_,r,ht,fun s v H' e i f h=>by
 cases s with
 |r _=>exact h.elim
 |d y=>exact c.nx _ _ _ (r.set e i f rfl hp) h
 |l ys=>exact c.nx _ _ _ (r.set e i f rfl hp) h]]
theorem Rep.push {B:HZ}{H z:Hp}{τ:Tau}{σ:St}{i:Nat}{xs:List D}{l:Addr}{vs:List V}{w:V}{d:D}(r:Rep X B τ σ #[H,z]) (hi:τ[i]? = some (some (.l xs))) (hσ:σ[i]? = some (some (.ref l)))
 (hl:H l=some (.lst vs)) (hv:Iss X.K z vs xs) (iw:Is X.K z w d):Rep X B (τ.set i (some (.l (xs++[d])))) σ #[upd H l (.lst (vs++[w])),z]:=by
 obtain⟨o1,o2,o3⟩:=r.own i xs l hi hσ
 refine#[by simp[r.len],#[fun b o h=>?_,r.ext.zz,fun b o h=>?_,r.ext.new],fun j s hj=>?_,fun j ys a hj ha=>?_,fun j k ys s a hjk hj hk hs ha=>?_,r.top,r.pin]
 .have hb:b≠l:=by
   rintro rfl
   rw[h] at o1
   cases o1
  show upd H l _ b=some o
  rw[Al hb]
  exact r.ext.hh b o h
 .have hb:b≠l:=by
   rintro rfl
   have h':z b=some o:=h
   rw[show z b=none from o3] at h'
   cases h'
  show upd H l _ b=some o
  rw[Al hb]
  exact r.ext.sub b o h
 .rcases AF hj with⟨rfl,rfl⟩|⟨hn,hj⟩
  .exact#[.ref l,hσ,l,_,rfl,Aq,hv.snoc iw]
  .obtain⟨v,h1,h2⟩:=r.val j s hj
   refine#[v,h1,?_]
   cases s with
   |d x=>exact h2
   |l ys =>
    obtain⟨b,ws,rfl,h3,h4⟩:=h2
    have hb:b≠l:=by
     rintro rfl
     exact r.sep i j xs (.l ys) b (fun z=>hn z.symm) hi hj rfl hσ h1
    exact#[b,ws,rfl,by show upd H l _ b=_;rw[Al hb];exact h3,h4]
   |r ys =>
    obtain⟨b,ws,rfl,h3,h4⟩:=h2
    have hb:b≠l:=by
     rintro rfl
     exact r.sep i j xs (.r ys) b (fun z=>hn z.symm) hi hj rfl hσ h1
    refine#[b,ws,rfl,?_,h4]
    rcases h3 with (h3|⟨o,h3⟩)|h3
    .exact .inl (.inl (by show upd H l _ b=_;rw[Al hb];exact h3))
    .exact .inl (.inr #[o,by show upd H l _ b=_;rw[Al hb];exact h3])
    .exact .inr h3
 .rcases AF hj with⟨rfl,_⟩|⟨hn,hj⟩
  .exact r.own j xs a hi ha
  .exact r.own j ys a hj ha
 .rcases AF hj with⟨rfl,_⟩|⟨hn,hj'⟩
  .rcases AF hk with⟨e3,_⟩|⟨hkn,hk'⟩
   .exact absurd e3.symm hjk
   .exact r.sep j k xs s a hjk hi hk' hs ha
  .rcases AF hk with⟨rfl,rfl⟩|⟨hkn,hk'⟩
   .exact r.sep j k ys (.l xs) a hjk hj' hi rfl ha
   .exact r.sep j k ys s a hjk hj' hk' hs ha
def Xm (i:Nat)(te:TE3):TS3:=fun D3 τ=>match τ[i]? with
 |some (some (.l xs))=>te τ fun s=>dd s.arg fun d=>xs.length<1000000/\D3.nx (τ.set i (some (.l (xs++[d]))))
 |_=>False
theorem Fu {i:Nat}{o:Expr}{apos cpos:Pos}(h:PS X (.Expr (.Call (.Attribute o "append" apos) [e] [] cpos) pos) (Um (tBM X.K "list" OP (Pd i) (RR (FE X te) WB)))) :
 PS3 X (.Expr (.Call (.Attribute o "append" apos) [e] [] cpos) pos) (Xm i te):=#[CF h fun D2 σ H hh=>by
 obtain⟨B,z,τ,D3,r,ht,c⟩:=hh
 unfold Xm at ht
 split at ht
 .rename_i xs hs
  obtain⟨v,h1,a,vs,rfl,h2,h3⟩:=r.val i _ hs
  refine#[.ref a,h1,.inl #[rfl,vs,SqL.of h2],B,_,τ,_,r,ht,fun s v H' e i' f h=>?_]
  obtain⟨d,hd,h4,h5⟩:=FZ h
  obtain⟨z',e',i''⟩:=Fs e i' f
  rw[hd] at i''
  have sz:(1000000:Nat)<sizeLine:=∅
  exact#[a,vs,v,rfl,rfl,e.hh _ _ h2,by rw[h3.1];omega,c.nx _ _ _ ((r.mono e').push hs h1 (e.hh _ _ h2) (h3.mono e'.zz) i'') h5]
 .exact ht.elim]
def UY (c:TT3)(tb:TS3):TS3:=fun D3 τ=>∃W:Nat->Tau->Prop,(∃m,W m τ)/\∀m τ,W m τ ->
 c τ fun b=>if b=true then tb { D3 with nx:=fun τ'=>∃m',m'<m/\W m' τ',ct:=fun τ'=>∃m',m'<m/\W m' τ',bk:=D3.nx } τ else D3.nx τ
theorem Gs {c:Expr}{body:List Stmt}{tc:TT3}{tb:TS3}(hp:PassesOwn (model X.prog X.w) X.A X.env X.xe) (hc:PT3 X c tc) (hb:D5 X body tb):PS3 X (.While c body [] pos) (UY tc tb):=#[CF (Qd hp hc.out hb.out) fun D2 σ H hh=>by
 obtain⟨B,z,τ,D3,r,⟨W,⟨m0,w0⟩,turn⟩,c⟩:=hh
 refine#[fun m σ H=>∃z τ,Rep X B τ σ #[H,z]/\W m τ,#[m0,z,τ,r,w0],?_]
 rintro m σ1 H1 ⟨z1,τ1,r1,w1⟩
 refine#[B,_,τ1,_,r1,turn m τ1 w1,fun b H2 e h=>?_]
 cases b with
 |true =>
  rw[if_pos rfl] at h ⊢
  refine#[fun σ' H'=>∃m',m'<m/\∃z τ,Rep X B τ σ' #[H',z]/\W m' τ,fun σ' H' #[m',h1,h2]=>#[m',h1,h2],B,_,τ1,_,r1.mono e,h,#[?_,c.nx,?_,c.rt]]
  .rintro τ' σ' p' r' ⟨m',h1,h2⟩
   exact#[m',h1,p'.z,τ',r',h2]
  .rintro τ' σ' p' r' ⟨m',h1,h2⟩
   exact#[m',h1,p'.z,τ',r',h2]
 |false =>
  rw[if_neg qAn] at h ⊢
  exact c.nx _ _ _ (r1.mono e) h]
def IY (i:Nat)(xs:List D)(tb:TS3)(D3:Ks)(τ0:Tau):Prop:=∃I:Nat->Tau->Prop,I 0 τ0 /\
 (∀n τ x,xs[n]? = some x->I n τ->tb { D3 with nx:=I (n+1),ct:=I (n+1),bk:=D3.nx } (τ.set i (some (.d x))))/\∀τ,I xs.length τ->D3.nx τ
theorem Rep.setd {B p:HZ}{τ:Tau}{σ:St}{i:Nat}{v:V}{x:D}(r:Rep X B τ σ p) (h:Is X.K p.z v x) (hp:Eg X i):Rep X B (τ.set i (some (.d x))) (σ.set i (some v)) p :=
 r.set (s:=.d x) (Ext.refl r.ext.sub) h Gi rfl hp
theorem T1.inB {B B':HZ}{D3:Ks}{D2:M7}{I:Tau->Prop}{N:St->Hp->Prop}(e:LeB X B B') (c:T1 X B D3 D2) (hN:∀τ σ p,Rep X B' τ σ p->I τ->N σ p.h) :
 T1 X B' { D3 with nx:=I,ct:=I,bk:=D3.nx } { D2 with nx:=N,ct:=N,bk:=D2.nx } :=
 #[hN,fun τ σ H r h=>c.nx τ σ H (r.outB e) h,hN,fun s v q h1 h2 h3 h4=>c.rt s v q (e.ext h1) h2 (fun xs a x1 x2=>#[e.hh.free (h3 xs a x1 x2).1,(h3 xs a x1 x2).2]) h4]
theorem DS {K:W.Frag}{H:Hp}{vs:List V}{xs:List D}{n:Nat}{v:V}(h:Iss K H vs xs) (e:vs[n]? = some v):∃x,xs[n]? = some x/\Is K H v x:=by
 have hn:=(qAd.mp e).1
 have hx:xs[n]? = some (xs[n]'(by rw[<-h.1];exact hn)):=qAb (by rw[<-h.1];exact hn)
 exact#[_,hx,h.2 n v _ e hx]
theorem J8 {B:HZ}{τ:Tau}{σ:St}{H z:Hp}{D2:M7}{D3:Ks}{a:Addr}{vs:List V}{xs:List D}{i:Nat}{tb:TS3}(r:Rep X B τ σ #[H,z]) (c:T1 X B D3 D2) (hs:SqL X.K H a vs) (hv:Iss X.K z vs xs)
 (hno:∀(j:Nat)(ys:List D),τ[j]? = some (some (S.l ys))->σ[j]?≠some (some (V.ref a))) (h:IY i xs tb D3 τ) (hp:Eg X i) :
 ∃W:Nat->Nat->St->Hp->Prop,(∃m,W 0 m σ H)/\∀n m σ H,W n m σ H ->
  ((Itl X.K a).stop n H/\D2.nx σ H)\/((Itl X.K a).go n H/\∃N:St->Hp->Prop,(∀σ' H',N σ' H'->∃m',m'<m/\W (n+1) m' σ' H')/\∀x H',(Itl X.K a).yld n H x H'->El i x σ H' fun σ2 H2=>FS X tb { D2 with nx:=N,ct:=N,bk:=D2.nx } σ2 H2):=by
 obtain⟨I,i0,turn,out⟩:=h
 have hB:SqL X.K (Lo τ σ H) a vs:=by
  rcases hs with (hs|⟨o,hs⟩)|hs
  .exact .inl (.inl (by rw[Hw hno];exact hs))
  .exact .inl (.inr #[o,by rw[Hw hno];exact hs])
  .exact .inr hs
 refine P2 (K:=X.K) (a:=a) (xs:=vs) (g:=El i) (tb:=FS X tb) (D:=D2) (fun n σ1 H1=>∃z1 τ1,Rep X #[Lo τ σ H,z] τ1 σ1 #[H1,z1]/\I n τ1) #[z,τ,r.inB,i0] (fun n σ1 H1 _ #[z1,τ1,r1,_]=>r1.ext.hh.seq hB) ?_ ?_
 .rintro n v σ1 H1 hn ⟨z1,τ1,r1,i1⟩
  obtain⟨x,hx,ix⟩:=DS hv hn
  exact#[_,_,_,_,r1.setd (ix.mono r1.ext.zz) hp,turn n τ1 x hx i1,c.inB r.leB fun τ' σ' p' r' h'=>#[p'.z,τ',r',h']]
 .rintro σ1 H1 ⟨z1,τ1,r1,i1⟩
  exact c.nx _ _ _ (r1.outB r.leB) (out τ1 (by rw[<-hv.1];exact i1))
theorem Rq {B:HZ}{τ:Tau}{σ:St}{H z:Hp}{D2:M7}{D3:Ks}{a:Addr}{vs:List V}{xs:List D}{i:Nat}{tb:TS3}(r:Rep X B τ σ #[H,z]) (c:T1 X B D3 D2) (hs:SqT X.K z a vs) (hv:Iss X.K z vs xs)
 (h:IY i xs tb D3 τ) (hp:Eg X i) :
 ∃W:Nat->Nat->St->Hp->Prop,(∃m,W 0 m σ H)/\∀n m σ H,W n m σ H ->
  ((Itt X.K a).stop n H/\D2.nx σ H)\/((Itt X.K a).go n H/\∃N:St->Hp->Prop,(∀σ' H',N σ' H'->∃m',m'<m/\W (n+1) m' σ' H')/\∀x H',(Itt X.K a).yld n H x H'->El i x σ H' fun σ2 H2=>FS X tb { D2 with nx:=N,ct:=N,bk:=D2.nx } σ2 H2):=by
 obtain⟨I,i0,turn,out⟩:=h
 refine Sg (K:=X.K) (a:=a) (xs:=vs) (g:=El i) (tb:=FS X tb) (D:=D2) (fun n σ1 H1=>∃z1 τ1,Rep X #[Lo τ σ H,z] τ1 σ1 #[H1,z1]/\I n τ1) #[z,τ,r.inB,i0] (fun n σ1 H1 _ #[z1,τ1,r1,_]=>SqT.same (r1.ext.zz.trans r1.ext.sub) hs) ?_ ?_
 .rintro n v σ1 H1 hn ⟨z1,τ1,r1,i1⟩
  obtain⟨x,hx,ix⟩:=DS hv hn
  exact#[_,_,_,_,r1.setd (ix.mono r1.ext.zz) hp,turn n τ1 x hx i1,c.inB r.leB fun τ' σ' p' r' h'=>#[p'.z,τ',r',h']]
 .rintro σ1 H1 ⟨z1,τ1,r1,i1⟩
  exact c.nx _ _ _ (r1.outB r.leB) (out τ1 (by rw[<-hv.1];exact i1))
def UU (K:W.Frag)(tl:TE):TI:=fun σ H R=>tl σ H fun x H1=>∃a,x=.ref a/\(((∃xs,SqL K H1 a xs)/\R (Itl K a) H1)\/((∃xs,SqT K H1 a xs)/\R (Itt K a) H1))
theorem Bp {tg l:Expr}{tl:TE}(hl:PE X l tl):PI X tg l (UU X.K tl):=by
 intro pins s σ H R I h
 refine thn (hl pins s σ H _ I h) fun v s1 hh9=>?_
 obtain⟨x,H1,I1,r1,q1⟩:=hh9
 obtain⟨a,e,⟨⟨xs,hq⟩,q⟩|⟨⟨xs,hq⟩,q⟩⟩:=q1
 .subst e
  cases r1
  obtain⟨its,rv,p,hz⟩:=I1.list hq
  refine wpAny_pyIter_list p.isList ?_
  refine#[s1.heap.objs.size,[s1.heap.objs.size],_,_,H1,rfl,I1.kept (t':=s1.toks) fun b o e=>qAh _ e,N9 a _,#[_,qAu _ rfl,rfl,rfl],fun b hb=>?_,q]
  have e:b=s1.heap.objs.size:=by simpa using hb
  subst e
  exact I1.fpOk (qAe _) (I1.hok.fresh (qAe _))
 .subst e
  cases r1
  obtain⟨its,rv,p,hz⟩:=I1.tuple hq
  refine wpAny_pyIter_tuple (show s1.heap.IsTuple a its.toArray from p) ?_
  refine#[s1.heap.objs.size,[s1.heap.objs.size],_,_,H1,rfl,I1.kept (t':=s1.toks) fun b o e=>qAh _ e,Nw a _,#[_,qAu _ rfl,rfl,rfl],fun b hb=>?_,q]
  have e:b=s1.heap.objs.size:=by simpa using hb
  subst e
  exact I1.fpOk (qAe _) (I1.hok.fresh (qAe _))
theorem Rep.notown {B:HZ}{τ:Tau}{σ:St}{p:HZ}{a:Addr}{o:HO}(r:Rep X B τ σ p) (h:p.z a=some o):∀(j:Nat)(ys:List D),τ[j]? = some (some (S.l ys))->σ[j]?≠some (some (V.ref a)):=fun j ys h1 h2=>by
 have:=(r.own j ys a h1 h2).2.2
 rw[h] at this
 cases this
theorem Jt {B:HZ}{τ:Tau}{σ:St}{p:HZ}{a:Addr}{vs:List V}(r:Rep X B τ σ p) (h:SqL X.K p.z a vs):∀(j:Nat)(ys:List D),τ[j]? = some (some (S.l ys))->σ[j]?≠some (some (V.ref a)):=by
 rcases h with (h|⟨o,h⟩)|⟨o,its,n,h,_⟩
 .exact r.notown h
 .exact r.notown h
 .intro j ys h1 h2
  have:=(r.own j ys a h1 h2).2.1
  rw[h] at this
  cases this
def U0 (j i:Nat)(tb:TS3):TS3:=fun D3 τ=>match τ[j]? with
 |some (some (.d (.tup xs)))=>IY i xs tb D3 τ
 |some (some (.d (.lst xs)))=>IY i xs tb D3 τ
 |some (some (.l xs))=>IY i xs tb D3 (τ.set j (some (.r xs)))
 |some (some (.r xs))=>IY i xs tb D3 (τ.set j (some (.r xs)))
 |_=>False
theorem OK {j i:Nat}{x y:Str}{px py:Pos}{body:List Stmt}{tb:TS3}(h:PS X (.For (.Name x px) (.Name y py) body [] pos) (Sw (UU X.K (Pd j)) (El i) (FS X tb))) (hp:Eg X i:=by first|exact Ec rfl|exact Eu rfl ∅|assumption):PS3 X (.For (.Name x px) (.Name y py) body [] pos) (U0 j i tb):=#[CF h fun D2 σ H hh=>by
 obtain⟨B,z,τ,D3,r,ht,c⟩:=hh
 have lists:∀(s:S)(xs:List D),τ[j]? = some (some s)->s.share=.r xs->IY i xs tb D3 (τ.set j (some (.r xs)))->Sw (UU X.K (Pd j)) (El i) (FS X tb) D2 σ H:=fun s xs hs hx ht=>by
  obtain⟨v,h1,h2⟩:=r.val j s hs
  have h2':=h2.share
  rw[hx] at h2'
  obtain⟨a,vs,rfl,h3,h4⟩:=h2'
  have r':=r.freeze hs hx
  refine#[.ref a,h1,a,rfl,.inl #[#[vs,h3],J8 r' c h3 h4 (fun m ys hm hσ=>?_) ht hp]]
  rcases AF hm with⟨rfl,z⟩|⟨hn,hm'⟩
  .cases z
  .have hl:j<τ.length:=(qAd.mp hs).1
   exact r'.sep m j ys (.r xs) a hn hm (by rw[qBs hl]) rfl hσ h1
 unfold U0 at ht
 split at ht
 .rename_i xs hs
  obtain⟨v,h1,h2⟩:=r.val j _ hs
  obtain⟨a,vs,rfl,h3,h4⟩:=Is.tup_inv h2
  exact#[.ref a,h1,a,rfl,.inr #[#[vs,SqT.same r.ext.sub h3],Rq r c h3 h4 ht hp]]
 .rename_i xs hs
  obtain⟨v,h1,h2⟩:=r.val j _ hs
  obtain⟨a,vs,rfl,h3,h4⟩:=Is.lst_inv h2
  exact#[.ref a,h1,a,rfl,.inl #[#[vs,r.ext.sub.seq h3],J8 r c (r.ext.sub.seq h3) h4 (Jt r h3) ht hp]]
 .rename_i xs hs
  exact lists _ xs hs rfl ht
 .rename_i xs hs
  exact lists _ xs hs rfl ht
 .exact ht.elim]
def V0 (i:Nat)(te:TE3)(tb:TS3):TS3:=fun D3 τ=>te τ fun s=>match s with
 |.l xs=>IY i xs tb D3 τ
 |.d (.tup xs)=>IY i xs tb D3 τ
 |.d (.lst xs)=>IY i xs tb D3 τ
 |_=>False
theorem Er {i:Nat}{x:Str}{px:Pos}{body:List Stmt}{tb:TS3}(h:PS X (.For (.Name x px) e body [] pos) (Sw (UU X.K (FE X te)) (El i) (FS X tb))) (hp:Eg X i:=by first|exact Ec rfl|exact Eu rfl ∅|assumption):PS3 X (.For (.Name x px) e body [] pos) (V0 i te tb):=#[CF h fun D2 σ H hh=>by
 obtain⟨B,z,τ,D3,r,ht,c⟩:=hh
 refine#[B,_,τ,_,r,ht,fun s v H1 e1 i1 f1 h1=>?_]
 split at h1
 .rename_i xs
  obtain⟨a,vs,rfl,h3,h4⟩:=i1
  refine#[a,rfl,.inl #[#[vs,SqL.of h3],J8 (r.mono e1) c (SqL.of h3) h4 (fun m ys hm hσ=>?_) h1 hp]]
  obtain⟨ws,hw,_⟩:=r.own_list hm hσ
  have:=(f1 xs a rfl rfl).1
  rw[hw] at this
  cases this
 .rename_i xs
  obtain⟨a,vs,rfl,h3,h4⟩:=Is.tup_inv i1
  exact#[a,rfl,.inr #[#[vs,SqT.same e1.sub h3],Rq (r.mono e1) c h3 h4 h1 hp]]
 .rename_i xs
  obtain⟨a,vs,rfl,h3,h4⟩:=Is.lst_inv i1
  exact#[a,rfl,.inl #[#[vs,e1.sub.seq h3],J8 (r.mono e1) c (e1.sub.seq h3) h4 (Jt (r.mono e1) h3) h1 hp]]
 .exact h1.elim]
def Xj (i:Nat)(t:TS3):TS3:=fun D3 τ=>match τ[i]? with
 |some (some (.l xs))=>t D3 (τ.set i (some (.d (.lst xs))))
 |_=>False
theorem UC {sts:List Stmt}(i:Nat) (h:D5 X sts t):D5 X sts (Xj i t):=#[Iq h.out fun D2 σ H hh=>by
 obtain⟨B,z,τ,D3,r,ht,c⟩:=hh
 unfold Xj at ht
 split at ht
 .rename_i xs hs
  obtain⟨z',r'⟩:=r.data hs
  exact#[B,z',_,D3,r',ht,c]
 .exact ht.elim]
def Xh (i:Nat)(lo st:Int)(cnt:Nat)(tb:TS3)(D3:Ks)(τ0:Tau):Prop:=∃I:Nat->Tau->Prop,I 0 τ0 /\
 (∀(n:Nat) τ,n<cnt->I n τ->tb { D3 with nx:=I (n+1),ct:=I (n+1),bk:=D3.nx } (τ.set i (some (.d (.int (lo+n*st))))))/\∀τ,I cnt τ->D3.nx τ
def Wz (i:Nat)(ta:TA3)(tb:TS3):TS3:=fun D3 τ=>ta τ fun ss=>match ss with
 |[.d (.int j)]=>(-(2^62)<=j/\j<2^62)/\Xh i 0 1 j.toNat tb D3 τ
 |_=>False
theorem U2 {i:Nat}{x:Str}{px:Pos}{body:List Stmt}{tb:TS3}{ta:TA3}(h:PS X (.For (.Name x px) e body [] pos) (Sw (Ud (FA X ta)) (El i) (FS X tb))) (hp:Eg X i:=by first|exact Ec rfl|exact Eu rfl ∅|assumption):PS3 X (.For (.Name x px) e body [] pos) (Wz i ta tb):=#[CF h fun D2 σ H hh=>by
 obtain⟨B,z,τ,D3,r,ht,c⟩:=hh
 refine#[B,_,τ,_,r,ht,fun ss vs H1 e1 i1 h1=>?_]
 split at h1
 .rename_i j
  obtain⟨v,rfl,hv⟩:=Tw i1
  cases Is.int_inv hv
  obtain⟨⟨q1,q2⟩,I,i0,turn,out⟩:=h1
  refine#[j,rfl,q1,q2,Kn (lo:=0) (n:=j.toNat) (g:=El i) (tb:=FS X tb) (D:=D2) (fun n σ1 H1=>∃z1 τ1,Rep X B τ1 σ1 #[H1,z1]/\I n τ1) #[_,τ,r.mono e1,i0] ?_ ?_]
  .rintro n σ1 H1 hn ⟨z1,τ1,r1,i1⟩
   have tt:=turn n τ1 hn i1
   rw[qCw] at tt
   exact#[B,_,_,_,r1.setd (.int _) hp,tt,c.inB r.leR fun τ' σ' p' r' h'=>#[p'.z,τ',r',h']]
  .rintro σ1 H1 ⟨z1,τ1,r1,i1⟩
   exact c.nx _ _ _ r1 (out τ1 i1)
 .exact h1.elim]
def Wx (i:Nat)(ta:TA3)(tb:TS3):TS3:=fun D3 τ=>ta τ fun ss=>match ss with
 |[.d (.int a),.d (.int j)]=>(-(2^62)<=a/\a<2^62/\-(2^62)<=j/\j<2^62)/\Xh i a 1 (j-a).toNat tb D3 τ
 |_=>False
theorem Ox {i:Nat}{x:Str}{px:Pos}{body:List Stmt}{tb:TS3}{ta:TA3}(h:PS X (.For (.Name x px) e body [] pos) (Sw (TK (FA X ta)) (El i) (FS X tb))) (hp:Eg X i:=by first|exact Ec rfl|exact Eu rfl ∅|assumption):PS3 X (.For (.Name x px) e body [] pos) (Wx i ta tb):=#[CF h fun D2 σ H hh=>by
 obtain⟨B,z,τ,D3,r,ht,c⟩:=hh
 refine#[B,_,τ,_,r,ht,fun ss vs H1 e1 i1 h1=>?_]
 split at h1
 .rename_i a j
  obtain⟨v,u,rfl,hv,hu⟩:=Vm i1
  cases Is.int_inv hv
  cases Is.int_inv hu
  obtain⟨q1,I,i0,turn,out⟩:=h1
  refine#[a,j,rfl,q1,Kn (lo:=a) (n:=(j-a).toNat) (g:=El i) (tb:=FS X tb) (D:=D2) (fun n σ1 H1=>∃z1 τ1,Rep X B τ1 σ1 #[H1,z1]/\I n τ1) #[_,τ,r.mono e1,i0] ?_ ?_]
  .rintro n σ1 H1 hn ⟨z1,τ1,r1,i1⟩
   have tt:=turn n τ1 hn i1
   rw[qCw] at tt
   exact#[B,_,_,_,r1.setd (.int _) hp,tt,c.inB r.leR fun τ' σ' p' r' h'=>#[p'.z,τ',r',h']]
  .rintro σ1 H1 ⟨z1,τ1,r1,i1⟩
   exact c.nx _ _ _ r1 (out τ1 i1)
 .exact h1.elim]
end
def Cf (N:List Str)(ss:List S):Tau:=ss.map some++List.replicate (N.length-ss.length) none
theorem H4 {α:Type}{ss:List α}{m i:Nat}{s:α}(h:(ss.map some++List.replicate m (none:Option α))[i]? = some (some s)):ss[i]? = some s:=by
 by_cases hi:i<ss.length
 .rw[qAp (by simpa using hi),qAc] at h
  cases e:ss[i]? with
  |none=>rw[e] at h;cases h
  |some a=>rw[e] at h;cases h;rfl
 .rw[qAs (by simpa using hi),qCs] at h
  split at h<;>cases h
theorem EJ {X:Cx}{p:HZ}{N:List Str}{vs:List V}{ss:List S}(h:Args X.K p vs ss) (hz:Bk p.z p.h) (ht:Bk X.H₀ p.h) (hl:X.lent=none:=by rfl):Rep X p (Cf N ss) (L2.start N vs) p:=by
 have no:∀(i:Nat)(xs:List D),¬(Cf N ss)[i]? = some (some (.l xs)):=fun i xs z=>by
  have z':=H4 z
  have hi:=(qAd.mp z').1
  have hv:vs[i]? = some (vs[i]'(by rw[h.1];exact hi)):=qAb (by rw[h.1];exact hi)
  have:=(h.2 i _ _ hv z').2
  cases this
 refine#[by unfold L2.start Cf;simp[h.1],Ext.refl hz,fun i s hs=>?_,fun i xs a z _=>absurd z (no i xs),fun i j xs s a _ z _ _ _=>absurd z (no i xs),fun _=>ht,fun k a hk=>by rw[hl] at hk;cases hk]
 have z':=H4 hs
 have hi:=(qAd.mp z').1
 have hl:i<vs.length:=by rw[h.1];exact hi
 have hv:vs[i]? = some vs[i]:=qAb hl
 refine#[vs[i],?_,(h.2 i _ _ hv z').1]
 unfold L2.start
 rw[qAp (by simpa using hl),qAc,hv]
 rfl
section
variable {P:Program}{w:World}{K:W.Frag}{mg:Str->Option Value}{base:Heap}
theorem fn3 {x qual:Str}{st:Stmt}{f:Addr}{fd:FuncData}{N ps:List Str}{k:Nat}{sp:Sp3}(F:Fun K x qual st f fd) (Sc:Ad N ps (Aa st)) (len:∀ss R U,sp ss R U->ss.length=ps.length)
 (hbody:∀(cdv:Value)(A:Around)(outer:List Env)(s:Shared)(H:Hp)(E:XK)(ss:List S)(R:S->Prop)(U:Str->Prop),E9 k (A.deeper (envOfC qual (Aa st) s.heap.objs.size f cdv))->sp ss R U ->
  ∃t,D5 (KR CX0 P w K mg base N qual (Aa st) f cdv A outer s H E).nox (B7 st) t/\t { nx:=fun _=>R (.d .non),rt:=R } (Cf N ss)):Ap P w K mg base CX0 (k+1) f fd ps (Ae K mg sp):=by
 refine F.ok Sc (fun vs H Q E hh=>by obtain⟨z,ss,R,U,hz,ha,h3,_⟩:=hh;exact ha.1.trans (len ss R U h3)) fun cdv A outer s H vs Q E hr hh9=>?_
 obtain⟨z,ss,R,U,hz,ha,h3,q,qe⟩:=hh9
 obtain⟨t,ht,hq⟩:=hbody cdv A outer s H E ss R U hr h3
 exact#[_,ht.out,#[H,z],z,Cf N ss,_,EJ ha hz (Bk.refl H),hq,#[fun τ σ p r h=>q (.d .non) _ p r.ext Is.non Gi h,fun _ _ _ _ z=>z.elim,fun _ _ _ _ z=>z.elim,fun s v p e i f h=>q s v p e i f h]]
end
def MD:Sp3:=fun ss R _=>∃ns:List Int,ss=[.r (ns.map D.int)]/\ns.length<=63/\R (.d (.bl true))
theorem JJ {K:W.Frag}{H:Hp}(ns:List Int):Iss K H (ns.map V.int) (ns.map D.int):=by
 refine#[by simp,fun i v x h1 h2=>?_]
 rw[qAc] at h1 h2
 cases e:ns[i]? with
 |none=>rw[e] at h1;cases h1
 |some n =>
  rw[e] at h1 h2
  cases h1
  cases h2
  exact .int n
section
variable {X:Cx}{tg:Expr}
variable {e:Expr}{pos:Pos}
end
def LK:D->Bool
 |.non=>true
 |.bl _=>true
 |.int _=>true
 |.str _=>true
 |_=>false
def DZ:Nat->D->Bool
 |0,x=>LK x
 |n+1,.tup xs=>xs.all (DZ n)
 |_+1,x=>LK x
def eqF:D->D->Bool
 |.non,.non=>true
 |.bl a,.bl b=>a==b
 |.bl a,.int b=>(if a then 1 else 0)==b
 |.int a,.bl b=>a==(if b then 1 else 0)
 |.int a,.int b=>a==b
 |.str a,.str b=>a==b
 |_,_=>false
def eqN:Nat->D->D->Bool
 |0,x,y=>eqF x y
 |n+1,.tup xs,.tup ys=>(xs.zip ys).all (fun p=>eqN n p.1 p.2)&&xs.length==ys.length
 |_+1,.tup _,_=>false
 |_+1,_,.tup _=>false
 |_+1,x,y=>eqF x y
theorem Hc:∀(n:Nat)(x:D),DZ n x=true->eqN n x x=true
 |0,x,h=>by cases x<;>first|rfl|(exact beq_self_eq_true _)|cases h
 |n+1,x,h=>by
  cases x with
  |tup xs =>
   have h':xs.all (DZ n)=true:=h
   show((xs.zip xs).all (fun p=>eqN n p.1 p.2)&&xs.length==xs.length)=true
   rw[beq_self_eq_true,qCk,qAG]
   rintro⟨a,b⟩ hp
   obtain⟨i,hi⟩:=qB7 hp
   rw[qBi] at hi
   obtain⟨h1,h2⟩:=hi
   have e:a=b:=qAl (h1.symm.trans h2)
   subst e
   exact Hc n a (qAG.mp h' a (qAF h1))
  |_=>first|rfl|(exact beq_self_eq_true _)|cases h
theorem Is.flatV {K:W.Frag}{H:Hp}{v:V}{x:D}(h:Is K H v x) (f:LK x=true):flatV v=true:=by
 cases h<;>first|rfl|cases f
theorem VC {K:W.Frag}{H:Hp}{v u:V}{x y:D}(h:Is K H v x) (h':Is K H u y) (f:LK x=true) (f':LK y=true):eqV v u=eqF x y:=by
 cases h<;>first|(cases f;done)|(cases h'<;>first|(cases f';done)|rfl)
theorem EN {its:List Value}{j:Nat}(h:j<its.toArray.size){u:Value}(e:its[j]? = some u):its.toArray[j]=u:=by
 have hj:j<its.length:=by simpa using h
 rw[qAb hj] at e
 have e':=qAl e
 rw[<-e']
 simp
section
variable {X:Cx}{pins:List (Addr×Obj)}{σ:St}{H:Hp}{s:Shared}
theorem Rf (I:Inv X pins σ H s):∀(n:Nat){v:V}{x y:D},DZ n x=true->DZ n y=true->Is X.K H v x->Is X.K H v y->x=y
 |0,v,x,y,fx,fy,hx,hy=>by
  cases hx<;>first|(cases fx;done)|(cases hy<;>first|rfl|(cases fy;done))
 |n+1,v,x,y,fx,fy,hx,hy=>by
  cases hx with
  |@tup a vs xs h hl r =>
   cases hy with
   |@tup _ ws ys h2 hl2 r2 =>
    have e:=I.tuple_inj h h2
    subst e
    congr 1
    apply qCn
    intro i
    cases hv:vs[i]? with
    |none =>
     have hi:=qAN.mp hv
     rw[qAN.mpr (),qAN.mpr ()]
    |some v =>
     have hi:=(qAd.mp hv).1
     have hx:xs[i]? = some (xs[i]' ()):=qAb ()
     have hy:ys[i]? = some (ys[i]' ()):=qAb ()
     rw[hx,hy]
     congr 1
     exact Rf I n (qAG.mp (show xs.all (DZ n)=true from fx) _ (qAF hx)) (qAG.mp (show ys.all (DZ n)=true from fy) _ (qAF hy)) (r i v _ hv hx) (r2 i v _ hv hy)
   |lst=>cases fy
   |ref=>cases fy
  |lst=>cases fx
  |ref=>cases fx
  |ty=>cases fx
  |_=>cases hy<;>first|rfl|(cases fy;done)
theorem KA (I:Inv X pins σ H s){n:Nat}{A:Around}{a b:Addr}{vs ws:List V}{xs ys:List D}(ha:SqT X.K H a vs) (hb:SqT X.K H b ws) (hx:Iss X.K H vs xs) (hy:Iss X.K H ws ys) (hu:A.units<cLine)
 (ih:∀(x y:D)(v u:V)(v' u':Value),x∈xs->y∈ys->Is X.K H v x->Is X.K H u y->Cz v v'->Cz u u'->SeqAt.EqAt A.in1 s v' u' (eqN n x y)):SeqAt.RcAt A s (.ref a) (.ref b) (eqN (n+1) (.tup xs) (.tup ys)):=by
 obtain⟨its,r1,p1,_⟩:=I.tuple ha
 obtain⟨its2,r2,p2,_⟩:=I.tuple hb
 have l1:=r1.length
 have l2:=r2.length
 have k1:=hx.1
 have k2:=hy.1
 have key:=SeqAt.RcAt.tuples (A:=A) (s:=s) (l:=a) (b:=b) (items:=its.toArray) (items2:=its2.toArray) (e:=fun j=>match xs[j]?,ys[j]? with|some x,some y=>eqN n x y|_,_=>true) p1 p2 hu (fun j h1 h2=>by
  have h1':j<its.length:=by simpa using h1
  have h2':j<its2.length:=by simpa using h2
  have gx:xs[j]? = some (xs[j]' ()):=qAb ()
  have gy:ys[j]? = some (ys[j]' ()):=qAb ()
  have gv:vs[j]? = some (vs[j]' ()):=qAb ()
  have gw:ws[j]? = some (ws[j]' ()):=qAb ()
  obtain⟨u1,e1,q1⟩:=r1.get gv
  obtain⟨u2,e2,q2⟩:=r2.get gw
  rw[EN h1 e1,EN h2 e2]
  rw[gx,gy]
  exact ih _ _ _ _ _ _ (qAF gx) (qAF gy) (hx.2 j _ _ gv gx) (hy.2 j _ _ gw gy) q1 q2)
 have e:eqN (n+1) (.tup xs) (.tup ys)=((List.range (min its.toArray.size its2.toArray.size)).all (fun j=>match xs[j]?,ys[j]? with|some x,some y=>eqN n x y|_,_=>true)&&its.toArray.size==its2.toArray.size):=by
  show((xs.zip ys).all (fun p=>eqN n p.1 p.2)&&xs.length==ys.length)=_
  have s1:its.toArray.size=xs.length:=by simp;omega
  have s2:its2.toArray.size=ys.length:=by simp;omega
  rw[s1,s2]
  congr 1
  rw[qBF,qAG,qAG]
  constructor
  .intro h j hj
   rw[qAI] at hj
   have gx:xs[j]? = some (xs[j]' ()):=qAb ()
   have gy:ys[j]? = some (ys[j]' ()):=qAb ()
   rw[gx,gy]
   exact h (_,_) (qAF (qBi.mpr #[gx,gy]))
  .rintro h ⟨x,y⟩ hp
   obtain⟨j,hj⟩:=qB7 hp
   obtain⟨gx,gy⟩:=qBi.mp hj
   have h1:=(qAd.mp gx).1
   have h2:=(qAd.mp gy).1
   have:=h j (by rw[qAI];omega)
   simp only[] at gx gy
   rw[gx,gy] at this
   exact this
 rw[e]
 exact key
theorem NY (I:Inv X pins σ H s):∀(n:Nat)(A:Around)(x y:D)(v u:V)(v' u':Value),A.units+n<cLine->DZ n x=true->DZ n y=true->Is X.K H v x->Is X.K H u y->Cz v v'->Cz u u'->SeqAt.EqAt A s v' u' (eqN n x y)
 |0,A,x,y,v,u,v',u',_,fx,fy,hx,hy,rv,ru=>by
  show SeqAt.EqAt A s v' u' (eqF x y)
  rw[<-VC hx hy fx fy]
  exact Rc rv ru (hx.flatV fx) (hy.flatV fy)
 |n+1,A,x,y,v,u,v',u',hu,fx,fy,hx,hy,rv,ru=>by
  have flat:LK x=true->LK y=true->eqN (n+1) x y=eqF x y->SeqAt.EqAt A s v' u' (eqN (n+1) x y):=fun f1 f2 e=>by
   rw[e,<-VC hx hy f1 f2]
   exact Rc rv ru (hx.flatV f1) (hy.flatV f2)
  have hu0:A.units<cLine:=()
  cases hx with
  |@tup a vs xs ha hl r =>
   cases rv
   obtain⟨its,r1,p1,_⟩:=I.tuple ha
   have t1:s.heap.IsTuple a its.toArray:=p1
   cases hy with
   |@tup b ws ys hb hl2 r2 =>
    cases ru
    by_cases hab:a=b
    .subst hab
     have e:=Rf I (n+1) fx fy (.tup ha hl r) (.tup hb hl2 r2)
     rw[e,Hc (n+1) _ fy]
     exact SeqAt.EqAt.same _
    .refine SeqAt.EqAt.of_refs hab (KA I ha hb #[hl,r] #[hl2,r2] hu0 fun x y v u v' u' mx my ix iy rv ru=>?_)
     exact NY I n A.in1 x y v u v' u' (by show A.units+1+n<cLine;omega) (qAG.mp (show xs.all (DZ n)=true from fx) x mx) (qAG.mp (show ys.all (DZ n)=true from fy) y my) ix iy rv ru
   |non=>cases ru;exact SeqAt.EqAt.tuple_none t1 hu0
   |bl c=>cases ru;exact SeqAt.EqAt.tuple_bool c t1 hu0
   |int c=>obtain⟨t,rfl⟩:=ru;exact SeqAt.EqAt.tuple_int c t t1 hu0
   |str c=>obtain⟨t,rfl⟩:=ru;exact SeqAt.EqAt.tuple_str c t t1 hu0
   |ty c=>cases fy
   |lst=>cases fy
   |ref=>cases fy
  |non =>
   cases hy with
   |@tup b ws ys hb hl2 r2 =>
    cases ru;cases rv
    obtain⟨its,r1,p1,_⟩:=I.tuple hb
    exact SeqAt.EqAt.none_tuple (show s.heap.IsTuple b its.toArray from p1) hu0
   |ty c=>cases fy
   |lst=>cases fy
   |ref=>cases fy
   |_=>exact flat rfl rfl rfl
  |bl c =>
   cases hy with
   |@tup b ws ys hb hl2 r2 =>
    cases ru;cases rv
    obtain⟨its,r1,p1,_⟩:=I.tuple hb
    exact SeqAt.EqAt.bool_tuple c (show s.heap.IsTuple b its.toArray from p1) hu0
   |ty c=>cases fy
   |lst=>cases fy
   |ref=>cases fy
   |_=>exact flat rfl rfl rfl
  |int c =>
   cases hy with
   |@tup b ws ys hb hl2 r2 =>
    obtain⟨t,rfl⟩:=rv;cases ru
    obtain⟨its,r1,p1,_⟩:=I.tuple hb
    exact SeqAt.EqAt.int_tuple c t (show s.heap.IsTuple b its.toArray from p1) hu0
   |ty c=>cases fy
   |lst=>cases fy
   |ref=>cases fy
   |_=>exact flat rfl rfl rfl
  |str c =>
   cases hy with
   |@tup b ws ys hb hl2 r2 =>
    obtain⟨t,rfl⟩:=rv;cases ru
    obtain⟨its,r1,p1,_⟩:=I.tuple hb
    exact SeqAt.EqAt.str_tuple c t (show s.heap.IsTuple b its.toArray from p1) hu0
   |ty c=>cases fy
   |lst=>cases fy
   |ref=>cases fy
   |_=>exact flat rfl rfl rfl
  |ty c=>cases fx
  |lst=>cases fx
  |ref=>cases fx
def Xd (n:Nat):R3:=fun dx dy R=>match dx,dy with
 |.tup xs,.tup ys=>DZ n (.tup xs)=true/\DZ n (.tup ys)=true/\R (.bl (eqN n (.tup xs) (.tup ys)))
 |_,_=>False
theorem Sn (n:Nat)(hu:X.A.units+n<cLine):Hs X (compareOp .Eq) (Xd n):=by
 intro pins s σ H x y v u Q I rx ry h
 obtain⟨z,dx,dy,R,hz,hx,hy,h3,q⟩:=h
 replace hx:=hx.mono hz
 replace hy:=hy.mono hz
 unfold Xd at h3
 split at h3
 .rename_i xs ys
  obtain⟨fx,fy,h3⟩:=h3
  cases n with
  |zero=>cases fx
  |succ n =>
   obtain⟨a,vs,rfl,ha,ia⟩:=Is.tup_inv hx
   obtain⟨b,ws,rfl,hb,ib⟩:=Is.tup_inv hy
   cases rx
   cases ry
   refine KA (A:=X.A) (n:=n) I ha hb ia ib () (fun x y v u v' u' mx my ix iy rv ru=>?_) X.prog X.w X.xe _ #[.bl _,H,I,rfl,q _ _ #[H,z] (Ext.refl hz) (.bl _) h3]
   exact NY I n X.A.in1 x y v u v' u' (by show X.A.units+1+n<cLine;omega) (qAG.mp (show xs.all (DZ n)=true from fx) x mx) (qAG.mp (show ys.all (DZ n)=true from fy) y my) ix iy rv ru
 .exact h3.elim
end
theorem C1.there {P:Program}{w:World}{H:Hp}{h:Heap}{a:Addr}{o:HO}(x:C1 P w H h a o):∃u,h.get? a=some u:=by
 cases o with
 |lst xs=>obtain⟨_,_,_,_,e⟩:=x;exact#[_,e]
 |tup xs=>obtain⟨_,_,_,_,e,_⟩:=x;exact#[_,e]
 |dK kvs=>obtain⟨_,_,_,_,o,_,_,e,_⟩:=x;exact#[_,e]
 |dT kvs=>obtain⟨_,_,_,_,o,_,_,e,_⟩:=x;exact#[_,e]
 |set S n=>obtain⟨o,_,_,_,e,_⟩:=x;exact#[_,e]
 |ins C dx fs=>obtain⟨_,_,_,e,_⟩:=x;exact#[_,e]
 |own y=>obtain⟨_,e⟩:=x;exact#[_,e]
 |xd fs=>obtain⟨_,⟨_,_,_,e,_⟩,_⟩:=x;exact#[_,e]
 |rng lo hi=>obtain⟨_,_,_,e⟩:=x;exact#[_,e]
 |frz ob u=>obtain⟨e,_⟩:=x;exact#[_,e]
 |tbl ps=>obtain⟨_,e,_⟩:=x;exact#[_,e]
 |met f y=>exact#[_,show h.get? a=some _ from x]
 |ext φ=>obtain⟨_,⟨_,e⟩,_⟩:=x;exact#[_,e]
structure Fly (P:Program)(w:World)(l:List Env)(H H':Hp)(h h':Heap)(ea C:Addr)(a0:Value)(B:Heap):Prop where
 fl:Heap.FlyingW B l ea (.ref C) a0 h'
 un:Un (frs l) [] H H' h h'
 hok:HOk P w H' h'
 kb:∀b o,h.get? b=some o->H b=none->b∉frs l->B.get? b=some o
 tr:∀b o,H' b=some o->∃ob,B.get? b=some ob
 old:∀b o,h.get? b=some o->b∉frs l->∃ob,B.get? b=some ob
section
variable {P:Program}{w:World}{l:List Env}{H H':Hp}{h h' h'':Heap}{ea C:Addr}{a0:Value}{B:Heap}
theorem MQ {l:List Env}{b:Addr}{B h:Heap}(F:h.FunFrames B l) (hb:b∈frs l):∃o,h.get? b=some o/\∀vs,o.data≠.fields vs:=(F.mem hb).2
theorem Vt {H':Hp}{h' h'':Heap}{B:Heap}(ok:HOk P w H' h') (tr:∀b o,H' b=some o->∃ob,B.get? b=some ob) (s1:B.StaysIn h') (s2:B.StaysIn h''):HOk P w H' h'':=fun a o e=>by
 refine(ok a o e).stay (fun b u hb q=>?_) (fun _ q=>q) fun _ _ q=>q
 have hB:∃ob,B.get? b=some ob:=by
  rcases hb with rfl|hb
  .exact tr _ _ e
  .exact tr _ _ hb
 obtain⟨ob,eb⟩:=hB
 have:=s1 b ob eb
 rw[q] at this
 cases this
 exact s2 b _ eb
end
def CXU (P:Program)(w:World):CXT:=fun outer H s E e s'=>∃(ea C:Addr)(a0:Value)(B:Heap)(H':Hp),e=.ref ea/\s'.os=s.os/\AllBare s'.gens/\Fly P w outer H H' s.heap s'.heap ea C a0 B/\E (.ref C) none H'
theorem Ge {env:Env}{l:List Env}{L:Addr}(h:env.frame=some L):frs (env::l)=L::frs l:=by
 unfold frs
 rw[qA7,h]
section
variable {X:Cx}{pins:List (Addr×Obj)}{σ:St}{H H':Hp}{s s':Shared}{ea C:Addr}{a0:Value}{B:Heap}{h1:Heap}{vs:List Value}
theorem RV (I:Inv X pins σ H s)(hst:X.stack=X.env::X.outer)(hf:X.env.frame=some X.env.locals)(hex:X.ex=[])(hx:Heap.MadeExcOf s.heap h1 ea (.ref C) vs){Q:Unit->Shared->Prop}{E:Value->Shared->Prop}
 (hQ:∀(h':Heap)(t:Addr)(B:Heap),Fly X.prog X.w X.outer X.H₀ H X.s₀.heap h' ea C (.ref t) B->Q Unit.unit { s with heap:=h' }) :
 wpAny (model X.prog X.w) X.A (leaving X.env (.ref ea)) Q E { s with heap:=h1 }:=by
 have hfr:X.A.frames=some (X.env::X.outer):=by rw[<-hst];exact I.ok.frames
 have hstk:=I.stack
 rw[hst] at hstk
 have hin:∀env∈(X.env::X.outer),∀b,env.frame=some b->b∈frs (X.env::X.outer):=fun env he b hb=>qBR.mpr #[env,he,hb]
 have hB:∀b o,s.heap.get? b=some o->b∉frs (X.env::X.outer)->(W.hideAll s.heap (frs (X.env::X.outer))).get? b=some o:=fun b o e hb=>W.hideAll_get _ e hb
 have ho:∀b o,(W.hideAll s.heap (frs (X.env::X.outer))).get? b=some o->s.heap.get? b=some o:=fun b o e=>W.of_hideAll _ e
 refine wpAny_leaves_madeW (base:=W.hideAll s.heap (frs (X.env::X.outer))) (h:=s.heap) (s:={ s with heap:=h1 }) hfr hf ho (W.funFrames_hide hstk hin) hx fun h' t fl _ _ up=>?_
 refine hQ h' t (W.hideAll s.heap (frs (X.env::X.outer))) ?_
 have up0:s.heap.UpToSlots h':=(Heap.UpToSlots.of_keeps hx.keeps).trans up
 have old:∀b o,X.s₀.heap.get? b=some o->b∉frs X.outer->b∉frs (X.env::X.outer):=fun b o e hb hm=>by
  rw[Ge hf] at hm
  rcases qAk.mp hm with rfl|hm
  .exact absurd (qAm (qAi e) I.ok.above) (qAY _)
  .exact hb hm
 have nex:∀b:Addr,b∉X.ex:=fun b z=>by rw[hex] at z;cases z
 have tfr:∀b o,H b=some o->b∉frs (X.env::X.outer):=fun b o e hm=>by
  have:=I.stkFree b (by rw[hst];exact hm)
  rw[e] at this
  cases this
 have tr:∀b o,H b=some o->∃ob,(W.hideAll s.heap (frs (X.env::X.outer))).get? b=some ob:=fun b o e=>by
  obtain⟨u,eu⟩:=C1.there (I.hok b o e)
  exact#[u,hB b u eu (tfr b o e)]
 refine#[fl,#[fun b o e n hb _=>?_,fun b o e n hb _=>?_,fun b o e n _=>I.base.free b o e n (nex b),fun b o e _=>?_,I.base.tups,I.base.frzs,I.base.tbls],Vt I.hok tr ho fl.1,fun b o e n hb=>?_,tr,fun b o e hb=>?_]
 .exact fl.1 b o (hB b o (I.base.keep b o e n hb (nex b)) (old b o e hb))
 .obtain⟨sl,e1⟩:=I.base.slot b o e n hb (nex b)
  obtain⟨o2,e2,d⟩:=MQ hstk (by rw[Ge hf];exact qAK _ hb)
  rw[e1] at e2
  cases e2
  obtain⟨sl2,e3⟩:=up0 b _ e1 d
  exact#[sl2,e3]
 .obtain⟨o1,e1⟩:=I.base.there b o e (nex b)
  by_cases hb:b∈frs X.outer
  .obtain⟨o2,e2,d⟩:=MQ hstk (by rw[Ge hf];exact qAK _ hb)
   obtain⟨sl2,e3⟩:=up0 b _ e2 d
   exact#[_,e3]
  .exact#[o1,fl.1 b o1 (hB b o1 e1 (old b o e hb))]
 .exact hB b o (I.base.keep b o e n hb (nex b)) (old b o e hb)
 .obtain⟨o1,e1⟩:=I.base.there b o e (nex b)
  exact#[o1,hB b o1 e1 (old b o e hb)]
theorem UE (I:Inv X pins σ H s)(hst:X.stack=X.env::X.outer)(hf:X.env.frame=some X.env.locals)(hex:X.ex=[])(f:Fly X.prog X.w X.stack H H' s.heap s'.heap ea C a0 B){Q:Unit->Shared->Prop}{E:Value->Shared->Prop}
 (hQ:∀h':Heap,Fly X.prog X.w X.outer X.H₀ H' X.s₀.heap h' ea C a0 B->Q Unit.unit { s' with heap:=h' }):wpAny (model X.prog X.w) X.A (leaving X.env (.ref ea)) Q E s':=by
 have hfr:X.A.frames=some (X.env::X.outer):=by rw[<-hst];exact I.ok.frames
 rw[hst] at f
 refine wpAny_leaves_onW hfr hf f.fl fun h' fl up=>hQ h' ?_
 have old:∀b o,X.s₀.heap.get? b=some o->b∉frs X.outer->b∉frs (X.env::X.outer):=fun b o e hb hm=>by
  rw[Ge hf] at hm
  rcases qAk.mp hm with rfl|hm
  .exact absurd (qAm (qAi e) I.ok.above) (qAY _)
  .exact hb hm
 have nex:∀b:Addr,b∉X.ex:=fun b z=>by rw[hex] at z;cases z
 have up_:∀b,b∈frs X.outer->b∈frs (X.env::X.outer):=fun b hb=>by rw[Ge hf];exact qAK _ hb
 have kb:∀b o,X.s₀.heap.get? b=some o->X.H₀ b=none->b∉frs X.outer->B.get? b=some o:=fun b o e n hb =>
  f.kb b o (I.base.keep b o e n hb (nex b)) (I.base.free b o e n (nex b)) (old b o e hb)
 have ol:∀b o,X.s₀.heap.get? b=some o->b∉frs X.outer->∃ob,B.get? b=some ob:=fun b o e hb=>by
  obtain⟨o1,e1⟩:=I.base.there b o e (nex b)
  exact f.old b o1 e1 (old b o e hb)
 refine#[fl,#[fun b o e n hb _=>fl.1 b o (kb b o e n hb),fun b o e n hb _=>?_,fun b o e n _=>?_,fun b o e _=>?_,fun b xs e=>f.un.tups b xs (I.base.tups b xs e),fun b o u e=>f.un.frzs b o u (I.base.frzs b o u e),fun b ps e=>?_],Vt f.hok f.tr f.fl.1 fl.1,kb,f.tr,ol]
 .obtain⟨sl,e1⟩:=I.base.slot b o e n hb (nex b)
  obtain⟨sl1,e2⟩:=f.un.slot b _ e1 (I.base.free b o e n (nex b)) (up_ b hb) (by simp)
  obtain⟨o3,e3,d⟩:=MQ f.fl.2.2.1 (up_ b hb)
  rw[e2] at e3
  cases e3
  obtain⟨sl2,e4⟩:=up b _ e2 d
  exact#[sl2,e4]
 .obtain⟨o1,e1⟩:=I.base.there b o e (nex b)
  exact f.un.free b o1 e1 (I.base.free b o e n (nex b)) (by simp)
 .by_cases hb:b∈frs X.outer
  .obtain⟨o3,e3,d⟩:=MQ f.fl.2.2.1 (up_ b hb)
   obtain⟨sl2,e4⟩:=up b _ e3 d
   exact#[_,e4]
  .obtain⟨ob,eb⟩:=ol b o e hb
   exact#[ob,fl.1 b ob eb]
 .obtain⟨m1,e1⟩:=I.base.tbls b ps e
  obtain⟨m2,e2⟩:=f.un.tbls b _ e1
  exact#[m1++m2,by rw[e2,Array.append_assoc]]
end
structure ExC (K:W.Frag)(x:Str)(C:Addr):Prop where
 ns:W.nsIn K mainGlobals x=some (some (.ref C))
 ex:W.excIn K C [.type "ValueError",.type "Exception",.type "BaseException",.type "object"] "ValueError.__new__"=true
theorem QE {K:W.Frag}{mg:Str->Option Value}{base:Heap}(M:Mod K mg base) (p:Program):∃loose mb,W.TopRead p loose mg mb base:=by
 obtain⟨o,es,ep,ho,hd,hk,hm⟩:=M.glob
 obtain⟨mb,h1,h2⟩:=M.blt
 refine#[es.toList.filterMap fun e=>match e.key with|.str x _=>some x|_=>none,mb,M.glob,h1,M.nolimit,h2,fun x _ hx _ _ _=>?_]
 rw[<-hm x]
 unfold nsFind findBy
 cases q:es.find? (fun e=>e.key.isStr x) with
 |none=>rfl
 |some e =>
  exfalso
  have h3:=Array.find?_some q
  have h4:=Array.mem_of_find?_eq_some q
  apply hx
  rw[qBR]
  refine#[e,by simpa using h4,?_]
  obtain⟨kh,key,val⟩:=e
  cases key with
  |str y t =>
   have h5:(Value.str y t).isStr x=true:=h3
   have h6:y=x:=by simpa [Value.isStr] using h5
   show some y=some x
   rw[h6]
  |_=>cases h3
structure Sf (X:Cx)(U:Str->Prop):Prop where
 raise:∀(pins:List (Addr×Obj))(σ:St)(H:Hp)(s:Shared)(h1:Heap)(ea C:Addr)(x:Str)(vs:List Value),Inv X pins σ H s->Bk X.H₀ H->X.mg x=some (.ref C)->U x->Heap.MadeExcOf s.heap h1 ea (.ref C) vs->X.xe (.ref ea) { s with heap:=h1 }
 pass:∀(pins:List (Addr×Obj))(σ:St)(H:Hp)(s:Shared)(e:Value)(s':Shared),Inv X pins σ H s->CXU X.prog X.w X.stack H s (fun cls _ H'=>∃x,X.mg x=some cls/\U x/\Bk X.H₀ H') e s'->X.xe e s'
theorem NQ {P:Program}{w:World}{K:W.Frag}{mg:Str->Option Value}{base:Heap}{N:List Str}{qual:Str}{scope:Scope}{f:Addr}{cd:Value}{A:Around}{outer:List Env}{s:Shared}{H:Hp}{E:XK}{U:Str->Prop}
 (hE:∀x C H',Bk H H'->mg x=some (.ref C)->U x->E (.ref C) none H'):Sf (KR (CXU P w) P w K mg base N qual scope f cd A outer s H E) U where
 raise:=fun pins σ H1 s1 h1 ea C x vs I hs hm hu hx=>RV I rfl rfl rfl hx fun h' t B fl=>#[ea,C,.ref t,B,H1,rfl,I.os,I.bare,fl,hE x C H1 hs hm hu]
 pass:=fun pins σ H1 s1 e s' I h=>by
  obtain⟨ea,C,a0,B,H',rfl,ho,hg,fl,x,hm,hu,hs⟩:=h
  exact UE I rfl rfl rfl fl fun h' fl'=>#[ea,C,a0,B,H',rfl,ho.trans I.os,hg,fl',hE x C H' hs hm hu]
section
variable {X:Cx}{U:Str->Prop}{e:Expr}{es:List Expr}{te:TE3}{tr:TA3}{pos:Pos}
def Ue (U:Str->Prop)(x:Str)(te:TE3):TS3:=fun _ τ=>te τ fun _=>U x
theorem Fx {x:Str}{C:Addr}{np cpos:Pos}(xo:Sf X U) (hc:X.calm=true) (he:PE3 X e te) (hg:Gl X x) (ec:ExC X.K x C) (hm:X.mg x=some (.ref C))
 (hs:starEach [e] X.env=(false,eval e X.env)::starEach [] X.env:=by exact Dw rfl) (hplain:(backTo cpos (starEach [e] X.env)).any (·.1)=false:=by exact F0 rfl) (hd:(x==("__debug__":Str))=false:=by decide) (hl:X.lent=none:=by rfl) :
 PS3 X (.Raise (some (.Call (.Name x np) [e] [] cpos)) none pos) (Ue U x te):=by
 refine#[?_]
 intro pins s σ H D2 I h
 obtain⟨B,z,τ,D3,r,ht,c⟩:=h
 obtain⟨loose,mb,T⟩:=QE I.mod X.prog
 obtain⟨tl,N,nm,q,bs,hdct,sn,sub,ab,col,dd,k0,k1,k2,k3,k5,mN,hC,hN,hni,TL⟩:=(W.own_of_in I.mod.kin T ec.ns ec.ex).obj
 refine wpAny_Raise_call_subT (C:=C) (nm:=nm) (q:=q) (N:=N) (bs:=bs) (bm:=tl) (hdct:=hdct) (sn:=sn) (sub:=sub) (ab:=ab) (col:=col) (dd:=dd) (k0:=k0) (k1:=k1) (k2:=k2) (k3:=k3) (k5:=k5)
  PySem.F.excBase_ValueError (mN:=mN) (TL.hasType PySem.F.excBase_ValueError.hasBase) (I.ok.hd hc) hplain hni (JH I hg hm #[rfl,?_] hd)
 have pa:=(AX he.out Bt hs) cpos pins s σ H (fun vs H1=>vs.length=1/\Bk X.H₀ H1/\U x) I #[B,_,τ,_,r,ht,fun s' v H' e' i' f' h'=>#[rfl,(r.all hl).trans e'.hh,h']]
 rw[hs] at pa ⊢
 refine Calls.evalArgs_plain (thn pa fun us s2 #[vs,H2,I2,rv,hl,hsame,hu]=>#[rfl,?_,I2.bk _ _ hC,hN.keeps I2.bk,TL.keeps I2.bk,fun h' ea hx=>?_])
 .have:=rv.length
  show us.length<=sizeLine
  have z:us.length=1:=()
  rw[z]
  decide
 .exact xo.raise pins σ H2 s2 h' ea C x us I2 hsame hm hu hx
def Og (U:Str->Prop)(sp:Sp3)(t:TA3):TE3:=fun τ R=>t τ fun ss=>sp ss R U
theorem Pz {k:Nat}{x:Str}{ps:List Str}{sp:Sp3}{p:Pos}(xo:Sf X U) (c:Cal X.prog X.w X.K X.mg X.base (CXU X.prog X.w) k x ps sp) (hr:E9 k X.A) (hg:Gl X x) (ha:PA3 X (e::es) tr)
 (hdb:(x==("__debug__":Str))=false:=by decide) (he:starEach (e::es) X.env=(false,eval e X.env)::starEach es X.env:=by exact Dw rfl) (hpl:(backTo pos (starEach es X.env)).any (·.1)=false:=by exact F0 rfl) (hl:X.lent=none\/∀y,¬U y:=by first|exact .inl rfl|exact .inr (fun _ z=>z)) :
 PE3 X (.Call (.Name x p) (e::es) [] pos) (Og U sp tr):=by
 refine#[?_]
 obtain⟨f,fd,F,hm,hk,hb⟩:=c.ex
 refine Bs (OF (E:=fun cls _ H'=>∃y,X.mg y=some cls/\U y/\Bk X.H₀ H') F hr hg hm hk hb .nil (fun pins σ H s e s' I h=>xo.pass pins σ H s e s' I h) ha.out hdb he hpl) fun σ H Q #[B,z,τ,R,r,ht,q]=>#[B,_,τ,_,r,ht,fun ss vs H1 e1 i1 h1=>?_]
 show Ae X.K X.mg sp (vs++[]) H1.h Q _
 rw[qBx]
 exact#[H1.z,ss,R,U,e1.sub,i1,h1,fun s v H2 e2 i2 f2 h2=>q s v H2 (e1.trans e2) i2 (Nt e1 f2) h2,fun y C H2 e2 hy hu=>#[y,hy,hu,hl.elim (fun hl=>(r.all hl).trans (e1.hh.trans e2)) (fun hn=>(hn y hu).elim)]]
end
section
variable {P:Program}{w:World}{K:W.Frag}{mg:Str->Option Value}{base:Heap}
theorem fnU {x qual:Str}{st:Stmt}{f:Addr}{fd:FuncData}{N ps:List Str}{k:Nat}{sp:Sp3}(F:Fun K x qual st f fd) (Sc:Ad N ps (Aa st)) (len:∀ss R U,sp ss R U->ss.length=ps.length)
 (hbody:∀(cdv:Value)(A:Around)(outer:List Env)(s:Shared)(H:Hp)(E:XK)(ss:List S)(R:S->Prop)(U:Str->Prop),E9 k (A.deeper (envOfC qual (Aa st) s.heap.objs.size f cdv))->sp ss R U ->
  Sf (KR (CXU P w) P w K mg base N qual (Aa st) f cdv A outer s H E) U ->
  ∃t,D5 (KR (CXU P w) P w K mg base N qual (Aa st) f cdv A outer s H E) (B7 st) t/\t { nx:=fun _=>R (.d .non),rt:=R } (Cf N ss)):Ap P w K mg base (CXU P w) (k+1) f fd ps (Ae K mg sp):=by
 obtain⟨oc,od,kV,doc,pm,an,cdv,ct,osl,rfl,lk,hcd⟩:=F.ex
 refine QS lk hcd Sc (fun vs H Q E hh=>by obtain⟨z,ss,R,U,hz,ha,h3,_⟩:=hh;exact ha.1.trans (len ss R U h3)) fun A outer s H vs Q E hr hh9=>?_
 obtain⟨z,ss,R,U,hz,ha,h3,q,qe⟩:=hh9
 obtain⟨t,ht,hq⟩:=hbody cdv A outer s H E ss R U hr h3 (NQ qe)
 exact#[_,ht.out,#[H,z],z,Cf N ss,_,EJ ha hz (Bk.refl H),hq,#[fun τ σ p r h=>q (.d .non) _ p r.ext Is.non Gi h,fun _ _ _ _ z=>z.elim,fun _ _ _ _ z=>z.elim,fun s v p e i f h=>q s v p e i f h]]
theorem Ap.anyCX {CX:CXT}{k:Nat}{f:Addr}{fd:FuncData}{ps:List Str}{sp:Sp}(F:Ap P w K mg base CX0 k f fd ps sp):Ap P w K mg base CX k f fd ps sp :=
 #[F.len,fun A outer s H args us vs Q E hr h0 hb hv hs=>codeAny_mono (F.run A outer s H args us vs Q E hr h0 hb hv hs) fun r s' h=>by
  cases r with
  |error e=>exact(show False from h).elim
  |ok fl=>cases fl<;>exact h]
end
section
variable {K:W.Frag}{M:Model}{A:Around}{E:Value->Shared->Prop}{s:Shared}
end
section
variable {X:Cx}{pins:List (Addr×Obj)}{σ:St}{H H':Hp}{s s':Shared}{ea C:Addr}{a0:Value}{B:Heap}
end
section
variable {X:Cx}{e:Expr}{es:List Expr}{tr:TA3}{th:TS3}
end
theorem Ss {X:Cx}:Sf X NoU where
 raise:=fun _ _ _ _ _ _ _ _ _ _ _ _ hu=>hu.elim
 pass:=fun _ _ _ _ _ _ _ h=>by
  obtain⟨_,_,_,_,_,_,_,_,_,_,_,hu,_⟩:=h
  exact hu.elim
section
variable {prog:Program}{w:World}{A:Around}{E:Value->Shared->Prop}{s:Shared}{K:W.Frag}{x D:Addr}
open PySem.W Builtin Builtin.ObjectAttr Builtin.Getset_descriptor in
open PySem.W in
end
section
variable {X:Cx}{pins:List (Addr×Obj)}{σ:St}{H H':Hp}{s s':Shared}{ea C:Addr}{oe:Obj}{a0:Value}{B:Heap}
end
section
variable {X:Cx}{ea C:Addr}{oe:Obj}
variable {e:Expr}{es:List Expr}{tr:TA3}
end
section
variable {X:Cx}
variable {e:Expr}{es:List Expr}{tr:TA3}
end
section
variable {X:Cx}{st:Stmt}{rest':List Stmt}{t u:TS3}
end
theorem hu_ {A:Around}{k n:Nat}(hr:E9 k A) (hn:n<=200):A.units+n<cLine:=by have:=hr.un;omega
section
variable {X:Cx}{pins:List (Addr×Obj)}{σ:St}{H:Hp}{s:Shared}
theorem Nb (I:Inv X pins σ H s){n:Nat}{A:Around}{a b:Addr}{vs ws:List V}{xs ys:List D}(ha:SqT X.K H a vs) (hb:SqT X.K H b ws) (hx:Iss X.K H vs xs) (hy:Iss X.K H ws ys) (hu:A.units<cLine)
 (ih:∀(x y:D)(v u:V)(v' u':Value),x∈xs->y∈ys->Is X.K H v x->Is X.K H u y->Cz v v'->Cz u u'->SeqAt.EqAt A.in1 s v' u' (eqN n x y)):SeqAt.RcNeAt A s (.ref a) (.ref b) (!eqN (n+1) (.tup xs) (.tup ys)):=by
 obtain⟨its,r1,p1,_⟩:=I.tuple ha
 obtain⟨its2,r2,p2,_⟩:=I.tuple hb
 have l1:=r1.length
 have l2:=r2.length
 have k1:=hx.1
 have k2:=hy.1
 have key:=SeqAt.RcNeAt.tuples (A:=A) (s:=s) (l:=a) (b:=b) (items:=its.toArray) (items2:=its2.toArray) (e:=fun j=>match xs[j]?,ys[j]? with|some x,some y=>eqN n x y|_,_=>true) p1 p2 hu (fun j h1 h2=>by
  have h1':j<its.length:=by simpa using h1
  have h2':j<its2.length:=by simpa using h2
  have gx:xs[j]? = some (xs[j]' ()):=qAb ()
  have gy:ys[j]? = some (ys[j]' ()):=qAb ()
  have gv:vs[j]? = some (vs[j]' ()):=qAb ()
  have gw:ws[j]? = some (ws[j]' ()):=qAb ()
  obtain⟨u1,e1,q1⟩:=r1.get gv
  obtain⟨u2,e2,q2⟩:=r2.get gw
  rw[EN h1 e1,EN h2 e2]
  rw[gx,gy]
  exact ih _ _ _ _ _ _ (qAF gx) (qAF gy) (hx.2 j _ _ gv gx) (hy.2 j _ _ gw gy) q1 q2)
 have e:eqN (n+1) (.tup xs) (.tup ys)=((List.range (min its.toArray.size its2.toArray.size)).all (fun j=>match xs[j]?,ys[j]? with|some x,some y=>eqN n x y|_,_=>true)&&its.toArray.size==its2.toArray.size):=by
  show((xs.zip ys).all (fun p=>eqN n p.1 p.2)&&xs.length==ys.length)=_
  have s1:its.toArray.size=xs.length:=by simp;omega
  have s2:its2.toArray.size=ys.length:=by simp;omega
  rw[s1,s2]
  congr 1
  rw[qBF,qAG,qAG]
  constructor
  .intro h j hj
   rw[qAI] at hj
   have gx:xs[j]? = some (xs[j]' ()):=qAb ()
   have gy:ys[j]? = some (ys[j]' ()):=qAb ()
   rw[gx,gy]
   exact h (_,_) (qAF (qBi.mpr #[gx,gy]))
  .rintro h ⟨x,y⟩ hp
   obtain⟨j,hj⟩:=qB7 hp
   obtain⟨gx,gy⟩:=qBi.mp hj
   have h1:=(qAd.mp gx).1
   have h2:=(qAd.mp gy).1
   have:=h j (by rw[qAI];omega)
   simp only[] at gx gy
   rw[gx,gy] at this
   exact this
 rw[e]
 exact key
def W9 (n:Nat):R3:=fun dx dy R=>match dx,dy with
 |.tup xs,.tup ys=>DZ n (.tup xs)=true/\DZ n (.tup ys)=true/\R (.bl (!eqN n (.tup xs) (.tup ys)))
 |_,_=>False
theorem Tq (n:Nat)(hu:X.A.units+n<cLine):Hs X (compareOp .NotEq) (W9 n):=by
 intro pins s σ H x y v u Q I rx ry h
 obtain⟨z,dx,dy,R,hz,hx,hy,h3,q⟩:=h
 replace hx:=hx.mono hz
 replace hy:=hy.mono hz
 unfold W9 at h3
 split at h3
 .rename_i xs ys
  obtain⟨fx,fy,h3⟩:=h3
  cases n with
  |zero=>cases fx
  |succ n =>
   obtain⟨a,vs,rfl,ha,ia⟩:=Is.tup_inv hx
   obtain⟨b,ws,rfl,hb,ib⟩:=Is.tup_inv hy
   cases rx
   cases ry
   refine Nb (A:=X.A) (n:=n) I ha hb ia ib () (fun x y v u v' u' mx my ix iy rv ru=>?_) X.prog X.w X.xe _ #[.bl _,H,I,rfl,q _ _ #[H,z] (Ext.refl hz) (.bl _) h3]
   exact NY I n X.A.in1 x y v u v' u' (by show X.A.units+1+n<cLine;omega) (qAG.mp (show xs.all (DZ n)=true from fx) x mx) (qAG.mp (show ys.all (DZ n)=true from fy) y my) ix iy rv ru
 .exact h3.elim
end
theorem Gr {env:Env}:∀(names:List (Str×NameKind))(acc:List (Str×Addr)),(∀y∈names,y.2=.free->∃c,env.cells.lookup y.1=some c) ->
 ∃cl,(forIn names acc fun(x:Str×NameKind)(r:List (Str×Addr))=>if (x.2 == .free)=true then (do let c <-cellOf env x.1;pure (ForInStep.yield ((x.1,c)::r)):Sem _) else pure (ForInStep.yield r))=pure cl /\
  (∀y c,(y,c)∈cl->(y,c)∈acc\/env.cells.lookup y=some c)/\(∀y,(y,NameKind.free)∈names->∃c,(y,c)∈cl)/\∀p∈acc,p∈cl
 |[],acc,_=>#[acc,rfl,fun y c h=>.inl h,(fun y h=>by cases h),fun p h=>h]
 |(n,k)::r,acc,h=>by
  rw[qB8]
  by_cases hk:(k==NameKind.free)=true
  .have hk':k=.free:=by simpa using hk
   obtain⟨c,hc⟩:=h (n,k) qAV hk'
   obtain⟨cl,e,h1,h2,h3⟩:=Gr r ((n,c)::acc) fun y hy=>h y (qAK _ hy)
   refine#[cl,?_,fun y d hd=>?_,fun y hy=>?_,fun p hp=>h3 p (qAK _ hp)]
   .have hco:cellOf env n=pure c:=by unfold cellOf;rw[hc]
    simp only[hk,if_true,hco,pure_bind]
    exact e
   .rcases h1 y d hd with z|z
    .rcases qAk.mp z with z|z
     .cases z;exact .inr hc
     .exact .inl z
    .exact .inr z
   .rcases qAk.mp hy with z|z
    .cases z;exact#[c,h3 _ qAV]
    .exact h2 y z
  .obtain⟨cl,e,h1,h2,h3⟩:=Gr r acc fun y hy=>h y (qAK _ hy)
   refine#[cl,?_,h1,fun y hy=>?_,h3]
   .simp only[hk,Bool.false_eq_true,if_false,pure_bind]
    exact e
   .rcases qAk.mp hy with z|z
    .cases z;exact absurd rfl hk
    .exact h2 y z
theorem Bl {α:Type}{y:Str}{c:α}:∀{l:List (Str×α)},l.lookup y=some c->(y,c)∈l
 |[],h=>by cases h
 |(n,d)::r,h=>by
  rw[qBf] at h
  cases q:y==n with
  |true => rw[q] at h;cases h;have:y=n:=by simpa using q
           subst this;exact qAV
  |false=>rw[q] at h;exact qAK _ (Bl h)
theorem Jk {α:Type}{y:Str}{c:α}:∀{l:List (Str×α)},(y,c)∈l->∃d,l.lookup y=some d
 |(n,d)::r,h=>by
  rw[qBf]
  cases q:y==n with
  |true=>exact#[d,rfl]
  |false =>
   rcases qAk.mp h with z|z
   .cases z;simp at q
   .exact Jk z
theorem GL {scope:Scope}{env:Env}(h:∀y∈scope.names,y.2=.free->∃c,env.cells.lookup y.1=some c) :
 ∃cl,closureFor scope env=pure cl/\(∀y c,cl.lookup y=some c->env.cells.lookup y=some c)/\∀y,(y,NameKind.free)∈scope.names->∃c,cl.lookup y=some c:=by
 obtain⟨cl,e,h1,h2,_⟩:=Gr scope.names [] h
 refine#[cl,?_,fun y c hc=>?_,fun y hy=>?_]
 .unfold closureFor
  first|(simp only[bind_pure];exact e)|exact e
 .rcases h1 y c (Bl hc) with z|z
  .cases z
  .exact z
 .obtain⟨c,hc⟩:=h2 y hy
  exact Jk hc
def Aw (X:Cx)(N:List Str)(scope:Scope)(cl:List (Str×Addr))(C:Addr)(s₀:Shared)(H₀:Hp)(fp:List Addr):Cx :=
 { X with N:=N,s₀:=s₀,H₀:=H₀,env:=compEnvC scope cl C X.env,outer:=X.stack,ex:=fp,fn:=fun _=>false,pn:=[],xe:=fun _ _=>False,lent:=none }
theorem Cp {env:Env}:∀{names:List (Str×NameKind)}{x:Str}{k:NameKind},(names.map fun(n,k)=>if (k==NameKind.free&&env.scope.kind == .function&&env.kindOf n==some .cell) then (n,NameKind.cell) else (n,k)).lookup x=some k ->
 ∃k0,(x,k0)∈names/\(k=k0\/k0=.free)
 |[],_,_,h=>by cases h
 |(n,k1)::r,x,k,h=>by
  have h':List.lookup x ((if (k1==NameKind.free&&env.scope.kind == .function&&env.kindOf n==some .cell)=true then (n,NameKind.cell) else (n,k1))::(r.map fun(n,k)=>if (k==NameKind.free&&env.scope.kind == .function&&env.kindOf n==some .cell) then (n,NameKind.cell) else (n,k)))=some k:=h
  by_cases hc:(k1==NameKind.free&&env.scope.kind == .function&&env.kindOf n==some .cell)=true
  .rw[if_pos hc,qBf] at h'
   have hk1:k1=.free:=by
    rw[qAT,qAT] at hc
    simpa using hc.1.1
   cases q:x==n with
   |true =>
    have:x=n:=by simpa using q
    subst this
    exact#[k1,qAV,.inr hk1]
   |false =>
    rw[q] at h'
    obtain⟨k0,h1,h2⟩:=Cp h'
    exact#[k0,qAK _ h1,h2]
  .rw[if_neg hc,qBf] at h'
   cases q:x==n with
   |true =>
    rw[q] at h'
    have:x=n:=by simpa using q
    subst this
    exact#[k1,qAV,.inl (qAl h').symm]
   |false =>
    rw[q] at h'
    obtain⟨k0,h1,h2⟩:=Cp h'
    exact#[k0,qAK _ h1,h2]
theorem BY {env:Env}{y:Str}(hk:env.scope.kind=.function) (hy:env.kindOf y=some .cell):∀{names:List (Str×NameKind)},names.lookup y=some .free ->
 (names.map fun(n,k)=>if (k==NameKind.free&&env.scope.kind == .function&&env.kindOf n==some .cell) then (n,NameKind.cell) else (n,k)).lookup y=some .cell
 |[],h=>by cases h
 |(n,k1)::r,h=>by
  show List.lookup y ((if (k1==NameKind.free&&env.scope.kind == .function&&env.kindOf n==some .cell)=true then (n,NameKind.cell) else (n,k1))::(r.map fun(n,k)=>if (k==NameKind.free&&env.scope.kind == .function&&env.kindOf n==some .cell) then (n,NameKind.cell) else (n,k)))=some .cell
  rw[qBf] at h
  cases q:y==n with
  |true =>
   rw[q] at h
   have:y=n:=by simpa using q
   subst this
   have hk1:k1=.free:=qAl h
   subst hk1
   rw[if_pos (by rw[hk,hy];rfl),qBf,q]
  |false =>
   rw[q] at h
   have ih:=BY hk hy h
   by_cases hc:(k1==NameKind.free&&env.scope.kind == .function&&env.kindOf n==some .cell)=true
   .rw[if_pos hc,qBf,q];exact ih
   .rw[if_neg hc,qBf,q];exact ih
structure A8 (X:Cx)(x:Str)(scope:Scope)(N:List Str)(idx:List Nat):Prop where
 kind:scope.kind=.function
 cell:∀y∈scope.names,y.2≠.cell
 names:∀y∈scope.names,y.2=.local->scope.names.lookup y.1=some .local
 own:scope.names.lookup x=some .local
 free:∀y∈scope.names,y.2=.free->X.env.kindOf y.1=some .cell
 nd:N.Nodup
 fst:N[0]? = some x
 len:N.length=idx.length+1
 cap:∀(k j:Nat),idx[k]? = some j->∃y,N[k+1]? = some y/\X.N[j]? = some y/\scope.names.lookup y=some .free
def Dm {α:Type}(σ:List (Option α)) (idx:List Nat):List (Option α):=idx.map fun j=>(σ[j]?).getD none
theorem Hd {α:Type}{σ:List (Option α)}{idx:List Nat}{k:Nat}{v:α}(h:(Dm σ idx)[k]? = some (some v)):∃j,idx[k]? = some j/\σ[j]? = some (some v):=by
 unfold Dm at h
 rw[qAc] at h
 cases e:idx[k]? with
 |none=>rw[e] at h;cases h
 |some j =>
  rw[e] at h
  refine#[j,rfl,?_]
  have h':(σ[j]?).getD none=some v:=qAl h
  cases q:σ[j]? with
  |none=>rw[q] at h';cases h'
  |some o=>rw[q] at h';rw[show o=some v from h']
section
variable {X:Cx}{pins:List (Addr×Obj)}{σ:St}{H2:Hp}{s2:Shared}{x:Str}{px:Pos}{scope:Scope}{N:List Str}{idx:List Nat}{J:It}{fp:List Addr}{it:Addr}{tn:Nat->Heap->Prop}{cl:List (Str×Addr)}
theorem MT (O:A8 X x scope N idx)(I2:Inv X pins σ H2 s2)(T:Q9 X.prog X.w X.K (.Name x px) J fp it tn)(st2:tn 0 s2.heap)(f2:∀b∈fp,MR X pins H2 b)
 (hcl:∀y c,cl.lookup y=some c->X.env.cells.lookup y=some c)(hcl2:∀y,(y,NameKind.free)∈scope.names->∃c,cl.lookup y=some c)
 {h1:Heap}{C:Addr}{m:Str->Option Value}{tk:Nat}(hC:s2.heap.objs.size<C) (hns:h1.Ns C m) (old:∀b o,s2.heap.get? b=some o->h1.get? b=some o)
 (hD:h1.get? s2.heap.objs.size=some { cls:=.type "list",data:=.seq ([]:List Value).toArray }) :
 Inv (Aw X N scope cl C s2 H2 fp) [] (none::Dm σ idx) (upd H2 s2.heap.objs.size (.lst [])) { s2 with heap:=h1,toks:=tk }:=by
 have inHeap:∀b∈fp,b<s2.heap.objs.size:=fun b hb=>by
  obtain⟨o,e,_⟩:=T.obj 0 _ st2 b hb
  exact qAi e
 have hDn:H2 s2.heap.objs.size=none:=I2.hok.fresh (qAe _)
 refine#[#[I2.ok.mod,O.kind,I2.ok.glob,I2.ok.blt,?_,?_,?_,(fun _ _ z=>by cases z),I2.ok.hd,I2.ok.frames,.inl rfl,?_,fun b o e=>I2.bs b o e,qAJ I2.ok.bsz I2.sz,?_,?_,I2.stack,I2.stkFree,I2.tb],rfl,I2.bare,?_,#[m,hns,?_],?_,?_,?_,?_,?_,?_]
 .exact qBk hC
 .intro y z c h1 h2
  exact I2.ok.inj y z c (hcl y c h1) (hcl z c h2)
 .intro y hy
  have key:∀k,(relabel scope X.env).names.lookup y=some k->(k=.cell\/k=.free)->∃c,cl.lookup y=some c:=fun k e hk=>by
   obtain⟨k0,h1,h2⟩:=Cp e
   have hf:k0=.free:=by
    rcases h2 with rfl|h2
    .rcases hk with rfl|rfl
     .exact absurd rfl (O.cell _ h1)
     .rfl
    .exact h2
   subst hf
   exact hcl2 y h1
  rcases hy with e|e
  .exact key _ e (.inl rfl)
  .exact key _ e (.inr rfl)
 .intro b hb
  have:=inHeap b hb
  exact#[qAq (qA9 this hC),fun y c e=>(f2 b hb).2.2.2.2.1 y c (hcl y c e)]
 .intro b o e hb
  rcases(f2 b hb).2.2.2.1 with z|z
  .exact I2.ok.noex b o e z
  .exact absurd (qAm (qAi e) (qAJ I2.ok.bsz z)) (qAY _)
 .intro b hb hf
  rcases qAk.mp (I2.stkSub b hf) with e|e
  .exact(f2 b hb).2.1 e
  .exact(f2 b hb).2.2.1 e
 .exact Un.laid old (qAe _) hDn
 .intro i y v e1 e2 e3
  cases i with
  |zero=>cases e2
  |succ k =>
   obtain⟨j,ej,es⟩:=Hd (k:=k) e2
   obtain⟨y',n1,n2,n3⟩:=O.cap k j ej
   have ey:y'=y:=qAl (n1.symm.trans e1)
   subst ey
   have kc:=O.free _ (Bl n3) rfl
   obtain⟨m0,hn0,hl0⟩:=I2.loc
   obtain⟨u,ru,lk⟩:=hl0 j y' v n2 es (.inr (.inl kc))
   refine#[u,ru,?_]
   rcases lk with⟨k1,_⟩|⟨_,c,hc,ic⟩
   .rw[kc] at k1;cases k1
   .obtain⟨c',hc'⟩:=hcl2 y' (Bl n3)
    have:c'=c:=qAl ((hcl y' c' hc').symm.trans hc)
    subst this
    exact .inr #[.inl (BY I2.ok.kind kc n3),c',hc',ic.keeps old]
 .intro y c e
  obtain⟨v,ic⟩:=I2.cell y c (hcl y c e)
  exact#[v,ic.keeps old]
 .show upd H2 _ _ C=none
  rw[Al (qBl hC)]
  exact I2.hok.fresh (qBk hC)
 .intro y c e
  obtain⟨v,ic⟩:=I2.cell y c (hcl y c e)
  rw[Al (qAq ic.lt)]
  exact I2.freeC y c (hcl y c e)
 .intro p hp;cases hp
 .exact I2.hok.laid old (qAe _) #[qA8 _,[],_,.nil,hD]
 .show(none::Dm σ idx).length=N.length
  rw[O.len,qAU]
  unfold Dm
  rw[qAa]
theorem FO {σ':St}{H':Hp}{s':Shared}{pl:List (Addr×Obj)}{C:Addr}{h':Heap}(I2:Inv X pins σ H2 s2) (f2:∀b∈fp,MR X pins H2 b) (hC:s2.heap.objs.size<C) (I':Inv (Aw X N scope cl C s2 H2 fp) pl σ' H' s') (hs:Heap.SameBut C s'.heap h') :
 Inv X pins σ H' { s' with heap:=h' }:=by
 have ne:∀b o,s2.heap.get? b=some o->b≠C:=fun b o e=>qAq (qA9 (qAi e) hC)
 have u:=I'.base
 refine Inv.call' (s':={ s' with heap:=h' }) (ch:=fp) I2 I'.os #[fun b o e n hb hx=>(hs.2 b (ne b o e)).trans (u.keep b o e n hb hx),fun b o e n hb hx=>?_,u.free,fun b o e hx=>?_,u.tups,u.frzs,u.tbls] (fun b ob e=>?_) I'.bare (fun b hb=>#[(f2 b hb).2.2.2.1,(f2 b hb).2.1,(f2 b hb).2.2.2.2.1,(f2 b hb).2.2.2.2.2])
 .obtain⟨sl,e1⟩:=u.slot b o e n hb hx
  exact#[sl,(hs.2 b (ne b o e)).trans e1]
 .obtain⟨o',e1⟩:=u.there b o e hx
  exact#[o',(hs.2 b (ne b o e)).trans e1]
 .refine(I'.hok b ob e).stay (fun c w' hc q=>(hs.2 c ?_).trans q) (fun _ q=>q) fun _ _ q=>q
  have hf:H' C=none:=I'.free
  rintro rfl
  rcases hc with rfl|hc
  .rw[hf] at e;cases e
  .rw[hf] at hc;cases hc
def Sq (X:Cx)(ifs:List Expr)(t:TT):Prop:=∀(pins:List (Addr×Obj))(s:Shared)(σ:St)(H:Hp)(Q:Bool->Hp->Prop),Inv X pins σ H s->t σ H Q ->
 wpAny (model X.prog X.w) X.A (forIn ifs true fun c r=>if r=true then do let ok <-isTrue c X.env (eval c X.env);pure (ForInStep.yield ok) else pure (ForInStep.yield r)) (TP X pins σ Q) X.xe s
theorem QT:Sq X [] (fun _ H Q=>Q true H):=fun pins s σ H Q I h=>wpAny_pure #[H,I,h]
theorem Qe {c:Expr}{t:TT}(h:PT X c t):Sq X [c] t:=fun pins s σ H Q I hq=>by
 rw[qB8]
 simp only[if_true,bind_assoc,pure_bind]
 exact wpAny_bind (thn (h pins s σ H Q I hq) fun b s1 h1=>wpAny_pure h1)
def Qt (K:W.Frag)(idx:List Nat)(wi:TI)(tt:Hp->TT)(te:Hp->TE):TE:=fun σ H Q=>wi σ H fun J H1=>∀D,H1 D=none->K.lookup D=none->∃W:Nat->Nat->List V->Hp->Prop,(∃m,W 0 m [] (upd H1 D (.lst []))) /\
 ∀i m ys H,H D=some (.lst ys)->W i m ys H->(J.stop i H/\Q (.ref D) H)\/(J.go i H/\∀x H',J.yld i H x H'->tt H1 (some x::Dm σ idx) H' fun b H2 =>
  if b=true then te H1 (some x::Dm σ idx) H2 (fun v H3=>H3 D=some (.lst ys)/\ys.length<sizeLine/\∃m',m'<m/\W (i+1) m' (ys++[v]) (upd H3 D (.lst (ys++[v])))) else H2 D=some (.lst ys)/\∃m',m'<m/\W (i+1) m' ys H2)
theorem Mx {elt iter:Expr}{ifs:List Expr}{wi:TI}{tt:Hp->TT}{te:Hp->TE}{pos:Pos}{s:Shared}{H:Hp}{Q:VK}{use:Option (Value->Sem Unit)}{QQ:Value->Shared->Prop}(O:A8 X x scope N idx) (hc:X.calm=true) (hi:PI X (.Name x px) iter wi)
 (hifs:∀cl C s₀ H₀ fp,Sq (Aw X N scope cl C s₀ H₀ fp) ifs (tt H₀)) (helt:∀cl C s₀ H₀ fp,PE (Aw X N scope cl C s₀ H₀ fp) elt (te H₀))
 (hs:∀x,foldedSetIterable iter X.env x=pure x) (I:Inv X pins σ H s) (h:Qt X.K idx wi tt te σ H Q)
 (fin:∀(s2:Shared)(H2:Hp)(fp:List Addr)(cl:List (Str×Addr))(C D:Addr)(σ':St)(H':Hp)(s':Shared),Inv X pins σ H2 s2->(∀b∈fp,MR X pins H2 b)->s2.heap.objs.size<C->Inv (Aw X N scope cl C s2 H2 fp) [] σ' H' s'->Q (.ref D) H' ->
  compPost (model X.prog X.w) X.A X.xe use QQ (.ref D) C (.ok .next) s') :
 wpAny (model X.prog X.w) X.A (comprehension (.ListComp elt [#[.Name x px,iter,ifs,0]] scope pos) scope X.env (firstIterPos [#[.Name x px,iter,ifs,0]] pos) (newList []) false (eval iter X.env) use) QQ X.xe s:=by
 obtain⟨cl,ecl,hcl,hcl2⟩:=GL (scope:=scope) (env:=X.env) fun y hy hf=>I.ok.has y.1 (.inl (O.free y hy hf))
 refine wpAny_comprehension_free (use:=use) (cl:=cl) rfl hs ecl O.kind O.names ?_
 refine thn (hi pins s σ H _ I h) fun v s1 h1=>thn h1 fun itv s2 h2=>?_
 obtain⟨it,fp,tn,J,H2,rfl,I2,T,st2,f2,hD⟩:=h2
 refine wpAny_newObj_type (wpAny_newFunctionEnv O.cell (by intro y hy;simp at hy) (fun h1 hns hsb=>?_) O.kind)
 dsimp only at hns hsb ⊢
 generalize hG:s2.heap.push { cls:=.type "list",dict:=none,data:=.seq ([]:List Value).toArray }=G at hns hsb ⊢
 have hCs:s2.heap.objs.size<G.objs.size:=by rw[<-hG,qBJ];exact qB0 _
 have old:∀b o,s2.heap.get? b=some o->h1.get? b=some o:=fun b o e=>hsb.extBut b o (qAq (qA9 (qAi e) hCs)) (qAh _ (hG ▸ qAh _ e))
 have hDl:h1.get? s2.heap.objs.size=some { cls:=.type "list",data:=.seq ([]:List Value).toArray }:=hsb.extBut _ _ (qAq hCs) (qAh _ (hG ▸ qAu _ rfl))
 have hDn:H2 s2.heap.objs.size=none:=I2.hok.fresh (qAe _)
 have hDk:X.K.lookup s2.heap.objs.size=none:=by
  cases e:X.K.lookup s2.heap.objs.size with
  |none=>rfl
  |some o=>exact absurd (qAi (I2.kIn _ _ e)) (qAY _)
 obtain⟨W,⟨m0,w0⟩,step⟩:=hD _ hDn hDk
 have I4:Inv (Aw X N scope cl G.objs.size s2 H2 fp) [] (none::Dm σ idx) (upd H2 s2.heap.objs.size (.lst [])) { s2 with heap:=h1,toks:=s2.toks+([]:List (Str×Value)).length } :=
  MT O I2 T st2 f2 hcl hcl2 hCs hns old hDl
 generalize hCC:G.objs.size=C at I4 hCs ⊢
 clear hsb hns hG hCC
 generalize hDD:s2.heap.objs.size=D at hDn hDk step w0 I4 hDl ⊢
 have st4:tn 0 h1:=T.keep 0 _ _ st2 fun b _ o e=>old b o e
 have frD:∀b∈fp,(upd H2 D (.lst [])) b=none:=fun b hb=>by
  obtain⟨o,e,_⟩:=T.obj 0 _ st2 b hb
  rw[Al (by rw[<-hDD];exact qAq (qAi e))]
  exact(f2 b hb).1
 have stat:∀{H':Hp},(∀b∈fp,H' b=none)->∀b∈fp,MR (Aw X N scope cl C s2 H2 fp) [] H' b:=fun hn b hb =>
  #[hn b hb,(I4.ok.exf b hb).1,I4.ok.exfs b hb,.inl hb,(I4.ok.exf b hb).2,fun p hp=>by cases hp]
 have hloc:(Aw X N scope cl C s2 H2 fp).env.scope.names.lookup x=some .local:=lookup_relabel_local O.own
 have loop:∀s3:Shared,s3={ s2 with heap:=h1,toks:=s2.toks+([]:List (Str×Value)).length } ->
  codeAny (model X.prog X.w) X.A (.compLoop (.ListComp elt [#[.Name x px,iter,ifs,0]] scope pos) 0 (.ref it) (.ref D) (compEnvC scope cl C X.env)) (compPost (model X.prog X.w) X.A X.xe use QQ (.ref D) C) s3:=by
  rintro s3 rfl
  refine codeAny_compLoop_tests (fun n s'=>∃i z H' ys,Inv (Aw X N scope cl C s2 H2 fp) [] (z::Dm σ idx) H' s'/\tn i s'.heap/\(∀b∈fp,H' b=none)/\H' D=some (.lst ys)/\W i n ys H') ?_ m0 #[0,none,_,[],I4,st4,frD,Aq,w0]
  rintro n s5 ⟨i,z,H5,ys,I5,st5,fr5,hD5,w5⟩
  rcases step i n ys H5 hD5 w5 with⟨stop,q⟩|⟨go,next⟩
  .refine wpAny_mono (T.done (Aw X N scope cl C s2 H2 fp) rfl rfl rfl hc i [] s5 _ H5 (fun _ _=>False) I5 (stat fr5) st5 stop) (fun r s6 hh=>?_) fun _ _ z=>z.elim
   obtain⟨hr,I6⟩:=hh
   subst hr
   exact fin s2 H2 fp cl C D _ H5 s6 I2 f2 hCs I6 q
  .refine wpAny_mono (T.item (Aw X N scope cl C s2 H2 fp) rfl rfl rfl hc i [] s5 _ H5 (fun _ _=>False) I5 (stat fr5) st5 go) (fun r s6 hh=>?_) fun _ _ z=>z.elim
   obtain⟨u,hr,h6⟩:=hh
   subst hr
   dsimp only
   refine(show wpAny _ _ ((pure Unit.unit:Sem Unit) >>= fun _=>assign (.Name x px) (compEnvC scope cl C X.env) u) _ _ _ from wpAny_bind (wpAny_mono (show wpAny _ _ (pure Unit.unit:Sem Unit) _ _ _ from h6) (fun _ s7 h7=>?_) fun _ _ z=>z.elim))
   obtain⟨xv,H7,I7,r7,y7,st7,fr7⟩:=h7
   have I7':=I7.pinned (stat fr7) (T.obj _ _ st7)
   refine wpAny_assign_Name (Hl (X:=Aw X N scope cl C s2 H2 fp) I7' O.nd O.fst (.inl hloc) r7 (fun s8 I8=>?_) (.inr hloc))
   have again:∀{H9:Hp}{s9:Shared}{ys':List V}{m':Nat},Inv (Aw X N scope cl C s2 H2 fp) ([]++Js fp s7.heap) (some xv::Dm σ idx) H9 s9->H9 D=some (.lst ys')->m'<n->W (i+1) m' ys' H9 ->
    ∃m,m<n/\∃i z H' ys,Inv (Aw X N scope cl C s2 H2 fp) [] (z::Dm σ idx) H' s9/\tn i s9.heap/\(∀b∈fp,H' b=none)/\H' D=some (.lst ys)/\W i m ys H':=fun {H9 s9 ys' m'} I9 hD9 hm w9=>by
    refine#[m',hm,i+1,some xv,H9,ys',I9.unpinned,T.keep _ _ _ st7 fun b hb o e=>(I9.pin (b,o) (qAw _ (qAw _ (C0 hb e)))).1,fun b hb=>?_,hD9,w9]
    obtain⟨o,e,d⟩:=T.obj _ _ st7 b hb
    exact(I9.pin (b,o) (qAw _ (qAw _ (C0 hb e)))).2.1
   refine wpAny_mono (hifs cl C s2 H2 fp _ s8 _ H7 _ I8 (next xv H7 y7)) (fun b s9 hh=>?_) fun _ _ z=>z.elim
   obtain⟨H9,I9,q9⟩:=hh
   cases b with
   |true =>
    rw[if_pos rfl] at q9 ⊢
    refine wpAny_mono (helt cl C s2 H2 fp _ s9 _ H9 _ I9 q9) (fun y s10 hh=>?_) fun _ _ z=>z.elim
    obtain⟨v,H10,I10,r10,hD10,hl,m',hm,w'⟩:=hh
    refine wpAny_mono (AU (X:=Aw X N scope cl C s2 H2 fp) _ s10 _ H10 (.ref D) [v] (.ref D) [y] (fun _ H'=>H'=upd H10 D (.lst (ys++[v]))) I10 rfl (.cons r10 .nil) #[D,ys,v,rfl,rfl,hD10,hl,rfl]) (fun _ s11 hh=>?_) fun _ _ z=>z.elim
    obtain⟨_,H11,I11,_,e11⟩:=hh
    subst e11
    exact again I11 Aq hm w'
   |false =>
    rw[if_neg qAn] at q9 ⊢
    obtain⟨hD9,m',hm,w'⟩:=q9
    exact again I9 hD9 hm w'
 exact codeAny_compStart_list (loop _ rfl) (T.self X.A 0 _ _ _ st4 (loop _ rfl))
theorem R9 {elt iter:Expr}{ifs:List Expr}{wi:TI}{tt:Hp->TT}{te:Hp->TE}{pos:Pos}(O:A8 X x scope N idx) (hc:X.calm=true) (hi:PI X (.Name x px) iter wi)
 (hifs:∀cl C s₀ H₀ fp,Sq (Aw X N scope cl C s₀ H₀ fp) ifs (tt H₀)) (helt:∀cl C s₀ H₀ fp,PE (Aw X N scope cl C s₀ H₀ fp) elt (te H₀))
 (hs:∀x,foldedSetIterable iter X.env x=pure x:=by intro _;rfl):PE X (.ListComp elt [#[.Name x px,iter,ifs,0]] scope pos) (Qt X.K idx wi tt te):=by
 intro pins s σ H Q I h
 rw[eval_ListComp]
 refine Mx (use:=none) O hc hi hifs helt hs I h fun s2 H2 fp cl C D σ' H' s' I2 f2 hC I' q=>?_
 obtain⟨m,hn,_⟩:=I'.loc
 exact#[m,hn,fun h' hs'=>#[.ref D,H',FO I2 f2 hC I' hs',rfl,q]]
theorem N7 {C:Addr}{h':Heap}{H:Hp}{s:Shared}(I:Inv X pins σ H s) (hs:Heap.SameBut C s.heap h') (h0:X.s₀.heap.objs.size<=C) (hH:H C=none) (hL:C≠X.env.locals) (hc:∀y c,X.env.cells.lookup y=some c->c≠C) (hp:∀p∈X.pn++pins,p.1≠C) :
 Inv X pins σ H { s with heap:=h' }:=by
 obtain⟨m,hn,hl⟩:=I.loc
 have ne:∀b o,X.s₀.heap.get? b=some o->b≠C:=fun b o e=>qAq (qAm (qAi e) h0)
 refine#[I.ok,I.os,I.bare,#[fun b o e n hb hx=>(hs.2 b (ne b o e)).trans (I.base.keep b o e n hb hx),fun b o e n hb hx=>?_,I.base.free,fun b o e hx=>?_,I.base.tups,I.base.frzs,I.base.tbls],#[m,hn.sameBut hs (Ne.symm hL),fun i y v e1 e2 e3=>?_],fun y c e=>?_,I.free,I.freeC,fun p hq=>?_,fun b ob e=>?_,I.len]
 .obtain⟨sl,e1⟩:=I.base.slot b o e n hb hx
  exact#[sl,(hs.2 b (ne b o e)).trans e1]
 .obtain⟨o',e1⟩:=I.base.there b o e hx
  exact#[o',(hs.2 b (ne b o e)).trans e1]
 .obtain⟨u,ru,lk⟩:=hl i y v e1 e2 e3
  refine#[u,ru,?_]
  rcases lk with lk|⟨k,c,e,ic⟩
  .exact .inl lk
  .exact .inr #[k,c,e,ic.sameBut hs (hc y c e)]
 .obtain⟨v,ic⟩:=I.cell y c e
  exact#[v,ic.sameBut hs (hc y c e)]
 .obtain⟨e,n,ne',nf,d⟩:=I.pin p hq
  exact#[(hs.2 p.1 (hp p hq)).trans e,n,ne',nf,d]
 .refine(I.hok b ob e).stay (fun c w' hc' q=>(hs.2 c ?_).trans q) (fun _ q=>q) fun _ _ q=>q
  rintro rfl
  rcases hc' with rfl|hc'
  .rw[hH] at e;cases e
  .rw[hH] at hc';cases hc'
def UT (i:Nat)(te:TE):TS:=fun D σ H=>te σ H fun v H1=>D.nx (σ.set i (some v)) H1
theorem Ny {i:Nat}{y:Str}{py spos:Pos}{elt iter:Expr}{ifs:List Expr}{wi:TI}{tt:Hp->TT}{te:Hp->TE}{pos:Pos}(O:A8 X x scope N idx) (hc:X.calm=true) (hi:PI X (.Name x px) iter wi)
 (hifs:∀cl C s₀ H₀ fp,Sq (Aw X N scope cl C s₀ H₀ fp) ifs (tt H₀)) (helt:∀cl C s₀ H₀ fp,PE (Aw X N scope cl C s₀ H₀ fp) elt (te H₀)) (hN:X.N.Nodup) (hy:X.N[i]? = some y) (hly:Loc X.env.scope y)
 (hsw:swapsWith (.ListComp elt [#[.Name x px,iter,ifs,0]] scope pos) (some (.Name y py)) spos.line X.env=pure true:=by rfl) (hs:∀x,foldedSetIterable iter X.env x=pure x:=by intro _;rfl)
 (hfn:X.fn y=true\/X.env.scope.names.lookup y=some .local:=by first|exact .inl rfl|exact .inr rfl|assumption) :
 PS X (.Assign [.Name y py] (.ListComp elt [#[.Name x px,iter,ifs,0]] scope pos) spos) (UT i (Qt X.K idx wi tt te)):=by
 intro pins s σ H D I h
 rw[exec_Assign_Name_used _ _ _ _ hsw]
 refine wpAny_bind (wpAny_standAt (wpAny_bind ?_))
 show wpAny _ X.A (do let _ <-comprehension (.ListComp elt [#[.Name x px,iter,ifs,0]] scope pos) scope X.env _ (newList []) false (eval iter X.env) (some (assign (.Name y py) X.env))) _ _ s
 refine wpAny_bind (wpAny_mono (Mx (use:=some (assign (.Name y py) X.env)) (QQ:=fun _ s'=>SP X pins D .next s') O hc hi hifs helt hs I h fun s2 H2 fp cl C E σ' H' s' I2 f2 hC I' q=>?_) (fun _ s' hq=>wpAny_pure (wpAny_pure hq)) fun _ _ e=>e)
 have I3:Inv X pins σ H' s':=FO (h':=s'.heap) I2 f2 hC I' #[rfl,fun _ _=>rfl]
 obtain⟨mC,hnC,_⟩:=I'.loc
 have h0:X.s₀.heap.objs.size<=C:=qAJ I2.sz (qBk hC)
 have hCL:C≠X.env.locals:=qBl (qA9 I2.lt hC)
 have hCc:∀y c,X.env.cells.lookup y=some c->c≠C:=fun y c e=>by
  obtain⟨v,ic⟩:=I2.cell y c e
  exact qAq (qA9 ic.lt hC)
 have hCp:∀p∈X.pn++pins,p.1≠C:=fun p hp=>qAq (qA9 (qAi (I2.pin p hp).1) hC)
 show wpAny _ X.A (assign (.Name y py) X.env (.ref E)) _ _ _
 refine wpAny_assign_Name (IE (v:=.ref E) I3 hN hy hly rfl (fun s4 I4 hb=>?_) hfn)
 obtain⟨a,hsa,ha⟩:=hb
 have hCa:C≠a:=by
  rcases ha with rfl|ha
  .exact hCL
  .exact fun z=>hCc y a ha z.symm
 exact#[mC,hnC.sameBut hsa hCa,fun h' hs'=>#[_,H',N7 I4 hs' h0 I'.free hCL hCc hCp,q]]
end
abbrev TX3:=Tau->(List D->Prop)->Prop
def Src (X:Cx)(wi:TI)(ws:TX3):Prop:=∀(B:HZ)(τ:Tau)(σ:St)(H z:Hp)(P:List D->Prop)(R:It->Hp->Prop),Rep X B τ σ #[H,z]->ws τ P ->
 (∀(J:It)(q:HZ)(xs:List D),Ext #[H,z] q->P xs->(∀H',Bk q.h H'->(∀i,i<xs.length->J.go i H'/\∀x H'',J.yld i H' x H''->H''=H'/\∃d,xs[i]? = some d/\Is X.K q.z x d)/\∀i,xs.length<=i->J.stop i H')->R J q.h)->wi σ H R
def XT (te:TE3):TX3:=fun τ P=>te τ fun s=>match items s with
 |some xs=>P xs
 |none=>False
theorem J3 {X:Cx}{q:HZ}{a:Addr}{vs:List V}{xs:List D}(h:SqL X.K q.h a vs) (hi:Iss X.K q.z vs xs):∀H',Bk q.h H'->(∀i,i<xs.length->(Itl X.K a).go i H'/\∀x H'',(Itl X.K a).yld i H' x H''->H''=H'/\∃d,xs[i]? = some d/\Is X.K q.z x d)/\∀i,xs.length<=i->(Itl X.K a).stop i H':=by
 intro H' e
 have h':SqL X.K H' a vs:=e.seq h
 refine#[fun i hlt=>#[#[vs,vs[i]'(by rw[hi.1];exact hlt),h',qAb (by rw[hi.1];exact hlt)],fun x H'' hy=>#[hy.1,?_]],fun i hle=>#[vs,h',by rw[hi.1];exact hle]]
 obtain⟨d,h1,h2⟩:=DS hi (hy.2 vs h')
 exact#[d,h1,h2]
theorem SH {X:Cx}{q:HZ}{a:Addr}{vs:List V}{xs:List D}(h:SqT X.K q.h a vs) (hi:Iss X.K q.z vs xs):∀H',Bk q.h H'->(∀i,i<xs.length->(Itt X.K a).go i H'/\∀x H'',(Itt X.K a).yld i H' x H''->H''=H'/\∃d,xs[i]? = some d/\Is X.K q.z x d)/\∀i,xs.length<=i->(Itt X.K a).stop i H':=by
 intro H' e
 have h':SqT X.K H' a vs:=SqT.same e h
 refine#[fun i hlt=>#[#[vs,vs[i]'(by rw[hi.1];exact hlt),h',qAb (by rw[hi.1];exact hlt)],fun x H'' hy=>#[hy.1,?_]],fun i hle=>#[vs,h',by rw[hi.1];exact hle]]
 obtain⟨d,h1,h2⟩:=DS hi (hy.2 vs h')
 exact#[d,h1,h2]
section
variable {X:Cx}{e:Expr}{te:TE3}{ta:TA3}
theorem Du:Src X (UU X.K (FE X te)) (XT te):=by
 intro B τ σ H z P R r ht k
 refine#[B,z,τ,_,r,ht,fun s v H1 e1 i1 f1 h1=>?_]
 try dsimp only at h1
 split at h1
 .rename_i xs hx
  cases s with
  |d z =>
   cases z with
   |tup zs =>
    cases hx
    obtain⟨p,vs,rfl,h3,h4⟩:=Is.tup_inv i1
    exact#[p,rfl,.inr #[#[vs,SqT.same e1.sub h3],k _ H1 _ e1 h1 (SH (SqT.same e1.sub h3) h4)]]
   |lst zs =>
    cases hx
    obtain⟨p,vs,rfl,h3,h4⟩:=Is.lst_inv i1
    exact#[p,rfl,.inl #[#[vs,e1.sub.seq h3],k _ H1 _ e1 h1 (J3 (e1.sub.seq h3) h4)]]
   |_=>cases hx
  |l zs =>
   cases hx
   obtain⟨p,vs,rfl,h3,h4⟩:=i1
   exact#[p,rfl,.inl #[#[vs,SqL.of h3],k _ H1 _ e1 h1 (J3 (SqL.of h3) h4)]]
  |r zs =>
   cases hx
   obtain⟨p,vs,rfl,h3,h4⟩:=i1
   exact#[p,rfl,.inl #[#[vs,h3],k _ H1 _ e1 h1 (J3 h3 h4)]]
 .exact h1.elim
def TY (lo st:Int)(n:Nat):List D:=(List.range n).map fun(i:Nat)=>D.int (lo+i*st)
theorem BF (lo st:Int)(n:Nat):(TY lo st n).length=n:=by unfold TY;rw[qAa,qAr]
theorem MH {lo st:Int}{n i:Nat}(h:i<n):(TY lo st n)[i]? = some (.int (lo+i*st)):=by
 unfold TY
 rw[qAc,qAE h]
 rfl
def W0 (ta:TA3):TX3:=fun τ P=>ta τ fun ss=>match ss with
 |[.d (.int i),.d (.int j)]=>(-(2^62)<=i/\i<2^62/\-(2^62)<=j/\j<2^62)/\P (TY i 1 (j-i).toNat)
 |_=>False
theorem Gf:Src X (TK (FA X ta)) (W0 ta):=by
 intro B τ σ H z P R r ht k
 refine#[B,z,τ,_,r,ht,fun ss vs H1 e1 i1 h1=>?_]
 try dsimp only at h1
 split at h1
 .rename_i i0 j
  obtain⟨v,u,rfl,hv,hu⟩:=Vm i1
  cases Is.int_inv hv
  cases Is.int_inv hu
  obtain⟨q,hP⟩:=h1
  refine#[i0,j,rfl,q,k _ H1 _ e1 hP fun H' e=>#[fun i hlt=>?_,fun i hle=>?_]]
  .rw[BF] at hlt
   refine#[hlt,fun x H'' hy=>#[hy.1,_,MH hlt,?_]]
   rw[hy.2,qCw]
   exact .int _
  .rw[BF] at hle;exact hle
 .exact h1.elim
end
def RJ (τ:Tau)(idx:List Nat)(x:D):Tau:=some (.d x)::(Dm τ idx).map (Option.map S.share)
structure NS (X:Cx)(ifs:List Expr)(t:TT3):Prop where
 out:Sq X ifs (FT X t)
def XC:TT3:=fun _ R=>R true
theorem Cm {X:Cx}:NS X [] XC:=#[fun pins s σ H Q I #[B,z,τ,R,r,ht,q]=>QT pins s σ H Q I (q true #[H,z] (Ext.refl r.ext.sub) ht)]
theorem NO {X:Cx}{c:Expr}{t:TT3}(h:PT3 X c t):NS X [c] t:=#[Qe h.out]
abbrev cxC (X:Cx)(N:List Str)(scope:Scope)(H₀:Hp):Cx:=Aw X N scope [] 0 X.s₀ H₀ []
section
variable {X:Cx}{x:Str}{px pos:Pos}{scope:Scope}{N:List Str}{idx:List Nat}{cl:List (Str×Addr)}{C:Addr}{s₀:Shared}{H₀ H H':Hp}{fp:List Addr}{σ:St}{τ:Tau}
theorem Ru {B p:HZ}(r:Rep (cxC X N scope H₀) B τ σ p):Rep (Aw X N scope cl C s₀ H₀ fp) B τ σ p:=#[r.len,r.ext,r.val,r.own,r.sep,r.top,r.pin]
theorem QY {α β:Type}(a:List (Option α)) (b:List (Option β)) (idx:List Nat):(Dm a idx).length=(Dm b idx).length:=by unfold Dm;rw[qAa,qAa]
theorem MJ {B p p0 q:HZ}{d:D}{v:V}(r:Rep X B τ σ p) (e:Ext p p0) (e':Ext p0 q) (iv:Is X.K q.z v d):Rep (cxC X N scope p0.h) p0 (RJ τ idx d) (some v::Dm σ idx) q:=by
 have no:∀(i:Nat)(xs:List D),¬(RJ τ idx d)[i]? = some (some (.l xs)):=fun i xs z=>by
  cases i with
  |zero=>cases z
  |succ k =>
   have z':((Dm τ idx).map (Option.map S.share))[k]? = some (some (.l xs)):=z
   rw[qAc] at z'
   cases q:(Dm τ idx)[k]? with
   |none=>rw[q] at z';cases z'
   |some o =>
    rw[q] at z'
    cases o with
    |none=>cases z'
    |some s0 =>
     have z2:s0.share=.l xs:=qAl (qAl z')
     cases s0<;>cases z2
 refine#[?_,e',fun i s hs=>?_,fun i xs a z _=>absurd z (no i xs),fun i j xs s a _ z _ _ _=>absurd z (no i xs),fun _=>Bk.refl _,fun k a h=>by cases h]
 .unfold RJ
  rw[qAU,qAU,qAa,QY]
 .cases i with
  |zero =>
   cases hs
   exact#[v,rfl,iv]
  |succ k =>
   have z':((Dm τ idx).map (Option.map S.share))[k]? = some (some s):=hs
   rw[qAc] at z'
   cases q:(Dm τ idx)[k]? with
   |none=>rw[q] at z';cases z'
   |some o =>
    rw[q] at z'
    cases o with
    |none=>cases z'
    |some s0 =>
     have z2:s0.share=s:=qAl (qAl z')
     obtain⟨j,hj,hτ⟩:=Hd q
     obtain⟨w,hw,iw⟩:=r.val j s0 hτ
     refine#[w,?_,?_]
     .show(Dm σ idx)[k]? = some (some w)
      unfold Dm
      rw[qAc,hj]
      show some ((σ[j]?).getD none)=_
      rw[hw]
      rfl
     .rw[<-z2]
      exact(iw.mono (e.trans e')).share
end
def SI (idx:List Nat)(ws:TX3)(tt:TT3)(te:TE3):TE3:=fun τ R=>ws τ fun xs=>∃os:List (Option D),os.length=xs.length /\
 (∀(n:Nat)(x:D),xs[n]? = some x->tt (RJ τ idx x) fun b=>if b=true then te (RJ τ idx x) (fun s=>dd s.arg fun y=>os[n]? = some (some y)) else os[n]? = some none)/\xs.length<=100000/\R (.l (os.filterMap id))
section
variable {X:Cx}{x:Str}{px pos:Pos}{scope:Scope}{N:List Str}{idx:List Nat}{elt iter:Expr}{ifs:List Expr}{wi:TI}{ws:TX3}{tt:TT3}{te:TE3}
theorem MI (hsrc:Src X wi ws){σ:St}{H:Hp}{Q:VK}(h:FE X (SI idx ws tt te) σ H Q):Qt X.K idx wi (fun H₀=>FT (cxC X N scope H₀) tt) (fun H₀=>FE (cxC X N scope H₀) te) σ H Q:=by
 obtain⟨B,z,τ,R,r,ht,q⟩:=h
 refine hsrc B τ σ H z _ _ r ht fun J p1 xs e1 hP hJ=>fun D' hD hK=>?_
 obtain⟨os,hlen,hel,hsz,hR⟩:=hP
 have sz:(100000:Nat)<sizeLine:=∅
 refine#[fun i m ys H'=>m=xs.length-i/\i<=xs.length/\∃z',Ext p1 #[H',z']/\z' D'=none/\Iss X.K z' ys ((os.take i).filterMap id),#[xs.length,rfl,qA8 _,p1.z,Ext.own e1.sub hD _,e1.sub.free hD,Iss.nil],?_]
 rintro i m ys H' hD' ⟨rfl,hi,z',hs,hzD,hiss⟩
 by_cases hlt:i<xs.length
 .obtain⟨go,yl⟩:=(hJ H' hs.hh).1 i hlt
  refine .inr #[go,fun v H'' hy=>?_]
  obtain⟨rfl,d,hx,iv⟩:=yl v H'' hy
  have rr:Rep (cxC X N scope p1.h) p1 (RJ τ idx d) (some v::Dm σ idx) #[H'',z']:=MJ r e1 hs (iv.mono hs.zz)
  have hys:ys.length<=i:=by
   rw[hiss.1]
   refine qAJ (qBT _ _) ?_
   rw[qAS];omega
  have keep:∀q:HZ,Ext #[H'',z'] q->q.z D'=none:=fun q e=>by
   cases y:q.z D' with
   |none=>rfl
   |some o =>
    rcases e.new D' o y with y|y
    .exact nomatch (hzD.symm.trans y)
    .exact nomatch (hD'.symm.trans y)
  refine#[_,_,_,_,rr,hel i d hx,fun b q3 e3 hb=>?_]
  cases b with
  |true =>
   rw[if_pos rfl] at hb ⊢
   refine#[_,_,_,_,rr.mono e3,hb,fun s v2 q4 e4 i4 f4 h4=>?_]
   obtain⟨y,hy',h4⟩:=FZ h4
   obtain⟨z5,e5,i5⟩:=Fs e4 i4 f4
   rw[hy'] at i5
   have e35:=e3.trans e5
   have hD4:q4.h D'=some (.lst ys):=e35.hh _ _ hD'
   have hz5:z5 D'=none:=keep _ e35
   refine#[hD4,(),xs.length-(i+1),(),rfl,hlt,z5,?_,hz5,?_]
   .have e15:=hs.trans e35
    refine#[fun b o hb'=>?_,e15.zz,fun b o hb'=>?_,e15.new]
    .have hne:b≠D':=by rintro rfl;rw[hD] at hb';cases hb'
     show upd q4.h D' _ b=some o
     rw[Al hne]
     exact e15.hh b o hb'
    .have hne:b≠D':=by
      rintro rfl
      have hb2:z5 b=some o:=hb'
      rw[hz5] at hb2;cases hb2
     show upd q4.h D' _ b=some o
     rw[Al hne]
     exact e15.sub b o hb'
   .rw[qBp,h4,qCD]
    exact(hiss.mono e35.zz).snoc i5
  |false =>
   rw[if_neg qAn] at hb ⊢
   refine#[e3.hh _ _ hD',xs.length-(i+1),(),rfl,hlt,q3.z,hs.trans e3,keep _ e3,?_]
   rw[qBp,hb,qCD]
   have:([none]:List (Option D)).filterMap id=[]:=rfl
   show Iss X.K q3.z ys ((os.take i).filterMap id++([none]:List (Option D)).filterMap id)
   rw[this,qBx]
   exact hiss.mono e3.zz
 .have ei:i=xs.length:=()
  subst ei
  refine .inl #[(hJ H' hs.hh).2 _ (qAe _),q (.l (os.filterMap id)) _ #[H',z'] (e1.trans hs) #[D',ys,rfl,hD',?_] (fun xs a _ h2=>?_) hR]
  .rw[<-hlen,qCq] at hiss
   exact hiss
  .cases h2
   exact#[e1.hh.free hD,hK,hzD]
theorem Oo (hifs:∀cl C s₀ H₀ fp,NS (Aw X N scope cl C s₀ H₀ fp) ifs tt):∀cl C s₀ H₀ fp,Sq (Aw X N scope cl C s₀ H₀ fp) ifs (FT (cxC X N scope H₀) tt):=fun cl C s₀ H₀ fp pins s σ H Q I #[B,z,τ,R,r,ht,q] =>
 (hifs cl C s₀ H₀ fp).out pins s σ H Q I #[B,z,τ,R,Ru r,ht,q]
theorem Kh (helt:∀cl C s₀ H₀ fp,PE3 (Aw X N scope cl C s₀ H₀ fp) elt te):∀cl C s₀ H₀ fp,PE (Aw X N scope cl C s₀ H₀ fp) elt (FE (cxC X N scope H₀) te):=fun cl C s₀ H₀ fp pins s σ H Q I #[B,z,τ,R,r,ht,q] =>
 (helt cl C s₀ H₀ fp).out pins s σ H Q I #[B,z,τ,R,Ru r,ht,q]
theorem Fd (O:A8 X x scope N idx)(hc:X.calm=true)(hi:PI X (.Name x px) iter wi)(hsrc:Src X wi ws)(hifs:∀cl C s₀ H₀ fp,NS (Aw X N scope cl C s₀ H₀ fp) ifs tt)(helt:∀cl C s₀ H₀ fp,PE3 (Aw X N scope cl C s₀ H₀ fp) elt te)
 (hs:∀x,foldedSetIterable iter X.env x=pure x:=by intro _;rfl):PE3 X (.ListComp elt [#[.Name x px,iter,ifs,0]] scope pos) (SI idx ws tt te) :=
 #[Bs (R9 O hc hi (Oo hifs) (Kh helt) hs) fun σ H Q h=>MI hsrc h]
theorem KC {i:Nat}{y:Str}{py spos:Pos}(O:A8 X x scope N idx) (hc:X.calm=true) (hi:PI X (.Name x px) iter wi) (hsrc:Src X wi ws) (hifs:∀cl C s₀ H₀ fp,NS (Aw X N scope cl C s₀ H₀ fp) ifs tt) (helt:∀cl C s₀ H₀ fp,PE3 (Aw X N scope cl C s₀ H₀ fp) elt te)
 (hN:X.N.Nodup) (hy:X.N[i]? = some y) (hly:Loc X.env.scope y)
 (hsw:swapsWith (.ListComp elt [#[.Name x px,iter,ifs,0]] scope pos) (some (.Name y py)) spos.line X.env=pure true:=by rfl) (hs:∀x,foldedSetIterable iter X.env x=pure x:=by intro _;rfl)
 (hfn:X.fn y=true\/X.env.scope.names.lookup y=some .local:=by first|exact .inl rfl|exact .inr rfl|assumption) (hp:Eg X i:=by first|exact Ec rfl|exact Eu rfl ∅|assumption) :
 PS3 X (.Assign [.Name y py] (.ListComp elt [#[.Name x px,iter,ifs,0]] scope pos) spos) (VR i (SI idx ws tt te)) :=
 #[CF (Ny O hc hi (Oo hifs) (Kh helt) hN hy hly hsw hs hfn) fun D2 σ H hh=>by obtain⟨B,z,τ,D3,r,ht,c⟩:=hh;exact MI hsrc #[B,z,τ,_,r,ht,fun s v H' e i f h=>by
  cases s with
  |r _=>exact h.elim
  |d y=>exact c.nx _ _ _ (r.set e i f rfl hp) h
  |l ys=>exact c.nx _ _ _ (r.set e i f rfl hp) h]]
end
def MP (fN:List Str)(scope:Scope)(N:List Str):Nat->List Nat->Bool
 |_,[]=>true
 |k,j::r=>(match N[k+1]?,fN[j]? with
  |some y,some y'=>y==y'&&(scope.names.lookup y==some NameKind.free)
  |_,_=>false)&&MP fN scope N (k+1) r
def Oa (fsc:Scope)(fN:List Str)(x:Str)(scope:Scope)(N:List Str)(idx:List Nat):Bool :=
 (scope.kind == .function)&&scope.names.all (fun y=>!(y.2 == .cell))&&scope.names.all (fun y=>!(y.2 == .local)||scope.names.lookup y.1==some .local)&&(scope.names.lookup x==some NameKind.local) &&
 scope.names.all (fun y=>!(y.2 == .free)||fsc.names.lookup y.1==some .cell)&&decide N.Nodup&&(N[0]? == some x)&&(N.length==idx.length+1)&&MP fN scope N 0 idx
theorem RG {fN:List Str}{scope:Scope}{N:List Str}:∀{idx:List Nat}{k0:Nat},MP fN scope N k0 idx=true->∀(k j:Nat),idx[k]? = some j->∃y,N[k0+k+1]? = some y/\fN[j]? = some y/\scope.names.lookup y=some .free
 |[],_,_,_,_,h=>by simp at h
 |i::r,k0,h,k,j,hk=>by
  unfold MP at h
  rw[qAT] at h
  cases k with
  |zero =>
   have e:i=j:=by simpa using hk
   subst e
   obtain⟨h1,_⟩:=h
   split at h1
   .rename_i y y' e1 e2
    rw[qAT] at h1
    have ey:y=y':=by simpa using h1.1
    subst ey
    exact#[y,e1,e2,by simpa using h1.2]
   .cases h1
  |succ k =>
   obtain⟨y,a,b,c⟩:=RG h.2 k j (by simpa using hk)
   exact#[y,by rw[<-a];congr 1;omega,b,c]
theorem A8.mk' {X:Cx}{x:Str}{scope:Scope}{N:List Str}{idx:List Nat}(fsc:Scope) (fN:List Str) (h1:X.env.scope=fsc) (h2:X.N=fN) (h:Oa fsc fN x scope N idx=true):A8 X x scope N idx:=by
 subst h1 h2
 unfold Oa at h
 simp only[qAT] at h
 obtain⟨⟨⟨⟨⟨⟨⟨⟨a1,a2⟩,a3⟩,a4⟩,a5⟩,a6⟩,a7⟩,a8⟩,a9⟩:=h
 refine#[by simpa using a1,fun y hy=>?_,fun y hy hl=>?_,by simpa using a4,fun y hy hf=>?_,by simpa using a6,by simpa using a7,by simpa using a8,fun k j hk=>?_]
 .have:=qAG.mp a2 y hy
  simpa using this
 .have:=qAG.mp a3 y hy
  rw[hl] at this
  simpa using this
 .have:=qAG.mp a5 y hy
  rw[hf] at this
  show X.env.scope.names.lookup y.1=some .cell
  simpa using this
 .have:=RG a9 k j hk
  simpa using this
section
variable {X:Cx}{e a b c:Expr}{te ta tb tc:TE3}{pos:Pos}
theorem VO {t:TE}(h:PE X e t):PE X e (fun σ H Q=>t σ H fun v H'=>(∀a o,H' a=some o->X.K.lookup a=none)->Q v H'):=fun pins s σ H Q I q =>
 thn (h pins s σ H _ I q) fun u s1 #[v,H1,I1,r1,q1]=>#[v,H1,I1,r1,q1 fun a o e=>by
  cases y:X.K.lookup a with
  |none=>rfl
  |some o' =>
   have:=(I1.bs a o' (I1.ok.mod.kin a o' y)).2
   rw[e] at this
   cases this]
def RA:D->Bool
 |.non=>true
 |_=>false
theorem OL {K:W.Frag}{z:Hp}{v:V}{x:D}(h:Is K z v x):decide (v=.non)=RA x:=by cases h<;>rfl
def Xb:R3:=fun dx dy R=>match dy with
 |.non=>R (.bl (RA dx))
 |_=>False
theorem Vj:Hs X (compareOp .Is) Xb:=Fm U8 fun x y H Q hh=>by
 obtain⟨z,dx,dy,R,hz,hx,hy,h3,q⟩:=hh
 unfold Xb at h3
 split at h3
 .exact#[hy.non_inv,q _ _ #[H,z] (Ext.refl hz) (.bl _) (by rw[OL hx];exact h3)]
 .exact h3.elim
def Ww:R3:=fun dx dy R=>match dx,dy with
 |.tup xs,.tup ys=>xs≠[]/\xs.length+ys.length<=100000/\R (.tup (xs++ys))
 |.lst xs,.lst ys=>xs.length+ys.length<=100000/\R (.lst (xs++ys))
 |.int i,.int j=>R (.int (i+j))
 |_,_=>False
theorem Iss.append {K:W.Frag}{H:Hp}{vs ws:List V}{xs ys:List D}(h:Iss K H vs xs) (h':Iss K H ws ys):Iss K H (vs++ws) (xs++ys):=by
 refine#[by simp[h.1,h'.1],fun i v x h1 h2=>?_]
 by_cases hi:i<vs.length
 .rw[qAp hi] at h1
  rw[qAp (by have:=h.1;omega)] at h2
  exact h.2 i v x h1 h2
 .rw[qAs ()] at h1
  rw[qAs (by have:=h.1;omega)] at h2
  have:=h.1
  exact h'.2 (i-vs.length) v x h1 (by rw[this];exact h2)
theorem Ij {K:W.Frag}{H:Hp}{vs:List V}{xs:List D}(h:Iss K H vs xs):vs=[] ↔ xs=[]:=by
 have:=h.1
 constructor
 .rintro rfl;exact qAP (by simpa using this.symm)
 .rintro rfl;exact qAP (by simpa using this)
theorem Nk:Hs X (binaryOp .Add) Ww:=Fm ((Tl.or Vo).or RK) fun x y H Q hh=>by
 obtain⟨z,dx,dy,R,hz,hx,hy,h3,q⟩:=hh
 have sz:(100000:Nat)<sizeLine:=∅
 unfold Ww at h3
 split at h3
 .rename_i xs ys
  obtain⟨h1,h2,h3⟩:=h3
  obtain⟨p,vs,rfl,g1,g2⟩:=Is.tup_inv hx
  obtain⟨p',ws,rfl,g1',g2'⟩:=Is.tup_inv hy
  refine .inl (.inl #[p,p',vs,ws,rfl,rfl,SqT.same hz g1,SqT.same hz g1',fun w=>h1 ((Ij g2).mp w),by rw[g2.1,g2'.1];omega,fun w=>?_,fun w l hl=>?_])
  .have:ys=[]:=(Ij g2').mp w
   subst this
   rw[qBx] at h3
   exact q _ _ #[H,z] (Ext.refl hz) hx h3
  .have j:=(g2.append g2').mono (BU (hz.free hl) (.tup (vs++ws)))
   exact q _ _ _ (Ext.lay hz hl (.tup (vs++ws))) (Is.tup (SqT.of Aq) j.1 j.2) h3
 .rename_i xs ys
  obtain⟨h2,h3⟩:=h3
  obtain⟨p,vs,rfl,g1,g2⟩:=Is.lst_own hx
  obtain⟨p',ws,rfl,g1',g2'⟩:=Is.lst_own hy
  refine .inl (.inr #[p,p',vs,ws,rfl,rfl,hz _ _ g1,hz _ _ g1',by rw[g2.1,g2'.1];omega,fun l hl=>?_])
  have j:=(g2.append g2').mono (BU (hz.free hl) (.lst (vs++ws)))
  exact q _ _ _ (Ext.lay hz hl (.lst (vs++ws))) (Is.lst Aq j.1 j.2) h3
 .rename_i i j
  exact .inr #[i,j,hx.int_inv,hy.int_inv,q _ _ #[H,z] (Ext.refl hz) (.int _) h3]
 .exact h3.elim
def Hh (xs:List D)(lo hi:Option Int):List D:=(xs.drop (HT.sIx xs.length 0 lo)).take (HT.sIx xs.length xs.length hi-HT.sIx xs.length 0 lo)
theorem Pl {K:W.Frag}{H:Hp}{vs:List V}{xs:List D}(h:Iss K H vs xs) (lo hi:Option Int):Iss K H (NB vs lo hi) (Hh xs lo hi):=by
 unfold NB Hh
 rw[h.1]
 refine#[by simp[h.1],fun i v x h1 h2=>?_]
 rw[List.getElem?_take] at h1 h2
 split at h1
 .rename_i hlt
  rw[if_pos hlt] at h2
  rw[qBv] at h1 h2
  exact h.2 _ v x h1 h2
 .cases h1
abbrev TO3:=Tau->(Option Int->Prop)->Prop
structure PO3 (X:Cx)(e:Option Expr)(t:TO3):Prop where
 out:PO X e (fun σ H Q=>∃B z τ R,Rep X B τ σ #[H,z]/\t τ R/\∀o q,Ext #[H,z] q->R o->Q o q.h)
def oNo:TO3:=fun _ R=>R none
def XZ (te:TE3):TO3:=fun τ R=>te τ fun s=>match s with
 |.d (.int i)=>R (some i)
 |_=>False
theorem VS:PO3 X none oNo:=#[fun pins s σ H Q I #[B,z,τ,R,r,ht,q]=>SE pins s σ H Q I (q none #[H,z] (Ext.refl r.ext.sub) ht)]
theorem Kl (h:PE3 X e te):PO3 X (some e) (XZ te):=#[fun pins s σ H Q I #[B,z,τ,R,r,ht,q]=>TX h.out pins s σ H Q I #[B,z,τ,_,r,ht,fun s v q1 e1 i1 f1 h1=>by
 split at h1
 .rename_i i
  exact#[i,Is.int_inv i1,q _ _ e1 h1]
 .exact h1.elim]]
def vSl (te:TE3)(lo hi:TO3):TE3:=fun τ R=>te τ fun x=>lo τ fun l=>hi τ fun u=>match x with
 |.d (.tup xs)=>¬(HT.sIx xs.length 0 l=0/\HT.sIx xs.length xs.length u=xs.length)/\R (.d (.tup (Hh xs l u)))
 |.d (.lst xs)=>R (.l (Hh xs l u))
 |.l xs=>R (.l (Hh xs l u))
 |.r xs=>R (.l (Hh xs l u))
 |_=>False
theorem TZ {lo hi:Option Expr}{tl th:TO3}{p2:Pos}(he:PE3 X e te) (hl:PO3 X lo tl) (hh:PO3 X hi th):PE3 X (.Subscript e (.Slice lo hi none p2) pos) (vSl te tl th) :=
 #[Bs (VO (Q3 (Vq.or Sh) he.out hl.out hh.out)) fun σ H Q hh=>by
  obtain⟨B,z,τ,R,r,ht,q⟩:=hh
  refine#[B,z,τ,_,r,ht,fun x v q1 e1 i1 f1 h1=>?_]
  refine#[B,_,τ,_,r.mono e1,h1,fun l q2 e2 h2=>?_]
  refine#[B,_,τ,_,(r.mono e1).mono e2,h2,fun u q3 e3 h3=>?_]
  have e23:=e2.trans e3
  have i1':=IsS.mono e23 i1
  have lists:∀(p:Addr)(vs:List V)(xs:List D),v=.ref p->SqL X.K q3.h p vs->Iss X.K q3.z vs xs->R (.l (Hh xs l u))->∃a xs,v=.ref a/\SqL X.K q3.h a xs/\∀p,q3.h p=none->((∀a o,upd q3.h p (.lst (NB xs l u)) a=some o->X.K.lookup a=none)->Q (.ref p) (upd q3.h p (.lst (NB xs l u)))):=fun p vs xs hv hs hi hR =>
   #[p,vs,hv,hs,fun d hd hk=>q (.l (Hh xs l u)) _ #[_,q3.z] ((e1.trans e23).trans (Ext.own e23.sub hd _)) #[d,_,rfl,Aq,Pl hi l u] (fun ys a _ h2=>by
    cases h2
    exact#[(e1.trans e23).hh.free hd,hk d _ Aq,e23.sub.free hd]) hR]
  split at h3
  .rename_i xs
   obtain⟨p,vs,rfl,g1,g2⟩:=Is.tup_inv i1'
   refine .inl #[p,vs,rfl,SqT.same e23.sub g1,by rw[g2.1];exact h3.1,fun d hd _=>?_]
   have j:=(Pl g2 l u).mono (BU (e23.sub.free hd) (.tup (NB vs l u)))
   exact q (.d _) _ _ ((e1.trans e23).trans (Ext.lay e23.sub hd (.tup (NB vs l u)))) (Is.tup (SqT.of Aq) j.1 j.2) Gi h3.2
  .rename_i xs
   obtain⟨p,vs,rfl,g1,g2⟩:=Is.lst_inv i1'
   exact .inr (lists p vs xs rfl (e23.sub.seq g1) g2 h3)
  .rename_i xs
   obtain⟨p,vs,rfl,g1,g2⟩:=i1'
   exact .inr (lists p vs xs rfl (SqL.of g1) g2 h3)
  .rename_i xs
   obtain⟨p,vs,rfl,g1,g2⟩:=i1'
   exact .inr (lists p vs xs rfl g1 g2 h3)
  .exact h3.elim]
def VG (te:TE3):TE3:=fun τ R=>te τ fun s=>match items s with
 |some xs=>R (.d (.tup xs))
 |none=>False
theorem VF {K:W.Frag}{p:HZ}{v:V}{s:S}{xs:List D}(i:IsS K p v s) (hz:Bk p.z p.h) (h:items s=some xs):∃a vs,v=.ref a/\Iss K p.z vs xs/\((SqL K p.h a vs)\/(SqT K p.z a vs/\s=.d (.tup xs))):=by
 cases s with
 |d z =>
  cases z with
  |tup zs=>cases h;obtain⟨a,vs,rfl,g1,g2⟩:=Is.tup_inv i;exact#[a,vs,rfl,g2,.inr #[g1,rfl]]
  |lst zs=>cases h;obtain⟨a,vs,rfl,g1,g2⟩:=Is.lst_inv i;exact#[a,vs,rfl,g2,.inl (hz.seq g1)]
  |_=>cases h
 |l zs=>cases h;obtain⟨a,vs,rfl,g1,g2⟩:=i;exact#[a,vs,rfl,g2,.inl (SqL.of g1)]
 |r zs=>cases h;obtain⟨a,vs,rfl,g1,g2⟩:=i;exact#[a,vs,rfl,g2,.inl g1]
theorem Lv {p:Pos}(he:PE3 X e te) (hg:Gl X "tuple") (hm:X.mg "tuple"=none) (hs:starEach [e] X.env=(false,eval e X.env)::starEach [] X.env:=by exact Dw rfl):PE3 X (.Call (.Name "tuple" p) [e] [] pos) (VG te) :=
 #[Bs (Oz JB hg hm qBW (AX he.out Bt hs) (he:=hs)) fun σ H Q hh=>by obtain⟨B,z,τ,R,r,ht,q⟩:=hh;exact#[B,z,τ,_,r,ht,fun s v q1 e1 i1 f1 h1=>by
  split at h1
  .rename_i xs hx
   obtain⟨a,vs,rfl,g2,g1⟩:=VF i1 e1.sub hx
   refine#[a,vs,rfl,?_]
   rcases g1 with g1|⟨g1,rfl⟩
   .refine .inl #[g1,fun d hd=>?_]
    have j:=g2.mono (BU (e1.sub.free hd) (.tup vs))
    exact q (.d _) _ _ (e1.trans (Ext.lay e1.sub hd (.tup vs))) (Is.tup (SqT.of Aq) j.1 j.2) Gi h1
   .exact .inr #[SqT.same e1.sub g1,q (.d _) _ q1 e1 i1 Gi h1]
  .exact h1.elim]]
end
section
variable {X:Cx}{e a b c:Expr}{te ta tb tc ti:TE3}{pos:Pos}
def W3:S->Option (List D)
 |.d (.lst xs)=>some xs
 |.l xs=>some xs
 |.r xs=>some xs
 |_=>none
theorem NT {K:W.Frag}{p:HZ}{v:V}{s:S}{xs:List D}(i:IsS K p v s) (hz:Bk p.z p.h) (h:W3 s=some xs):∃a vs,v=.ref a/\Iss K p.z vs xs/\SqL K p.h a vs:=by
 cases s with
 |d z =>
  cases z with
  |lst zs=>cases h;obtain⟨a,vs,rfl,g1,g2⟩:=Is.lst_inv i;exact#[a,vs,rfl,g2,hz.seq g1]
  |_=>cases h
 |l zs=>cases h;obtain⟨a,vs,rfl,g1,g2⟩:=i;exact#[a,vs,rfl,g2,SqL.of g1]
 |r zs=>cases h;obtain⟨a,vs,rfl,g1,g2⟩:=i;exact#[a,vs,rfl,g2,g1]
end
section
variable {X:Cx}{e:Expr}{es:List Expr}{tr:TA3}{th:TS3}
end
structure GC (K:W.Frag)(mg:Str->Option Value)(x:Str)(d:D):Prop where
 ex:∃u v,mg x=some u/\Cz v u/\∀H,Is K H v d
theorem Kk {X:Cx}{x:Str}{d:D}{pos:Pos}(hg:Gl X x) (c:GC X.K X.mg x d) (hd:(x==("__debug__":Str))=false:=by decide):PE3 X (.Name x pos) (vC d):=by
 obtain⟨u,v,hm,hr,hi⟩:=c.ex
 exact#[Bs (Se hg hm hr hd) fun σ H Q hh=>by obtain⟨B,z,τ,R,r,ht,q⟩:=hh;exact q (.d d) v #[H,z] (Ext.refl r.ext.sub) (hi _) Gi ht]
def KD (K:W.Frag)(u:Value)(d:D):Prop:=∃v,Cz v u/\∀H,Is K H v d
theorem KD.of {K:W.Frag}{mg:Str->Option Value}{x:Str}{u:Value}{d:D}(hm:mg x=some u) (h:KD K u d):GC K mg x d:=by
 obtain⟨v,r,i⟩:=h
 exact#[u,v,hm,r,i]
section
variable {K:W.Frag}
theorem KD.int {i:Int}{t}:KD K (Value.int i t) (.int i):=#[.int i,#[t,rfl],fun _=>.int i]
inductive KDs (K:W.Frag):List Value->List D->Prop where
 |nil:KDs K [] []
 |cons {u:Value}{us:List Value}{d:D}{ds:List D}:KD K u d->KDs K us ds->KDs K (u::us) (d::ds)
theorem KDs.out:∀{us:List Value}{ds:List D},KDs K us ds->∃vs,B4 vs us/\∀H,Iss K H vs ds
 |_,_,.nil=>#[[],.nil,fun _=>#[rfl,fun i v x h=>by simp at h]]
 |_,_,.cons #[v,r,i] t=>by
  obtain⟨vs,rs,is⟩:=t.out
  refine#[v::vs,.cons r rs,fun H=>#[by simp[(is H).1],fun j w x h1 h2=>?_]]
  cases j with
  |zero=>simp at h1 h2;subst h1;subst h2;exact i H
  |succ j=>exact(is H).2 j w x (by simpa using h1) (by simpa using h2)
theorem KD.tup {a:Addr}{od:Option Addr}{its:Array Value}{n:Nat}{sl:Array (Option Value)}{ds:List D}(h:K.lookup a=some #[.type "tuple",od,.seq its n,sl]) (hz:its.size<=sizeLine) (hs:KDs K its.toList ds):KD K (.ref a) (.tup ds):=by
 obtain⟨vs,rs,is⟩:=hs.out
 exact#[.ref a,rfl,fun H=>.tup (.inr #[_,its,n,h,rfl,rfl,hz,rs]) (is H).1 (is H).2]
end
section
variable {X:Cx}{e:Expr}{es:List Expr}{tr:TA3}
end
end L3
namespace CH
open PySem L2 L3
theorem AD {i j:Int}{m n:Nat}(hi:i.natAbs<2^m) (hj:j.natAbs<2^n) (h:m+n<=134217728):IntMulOk i j :=
 PyProof.Rows.mulOk_of_bits (qCu hi) (qCu hj) h
def dg (n:Int):Nat:=if n==0 then 0 else n.natAbs.log2/30+1
theorem OS {i:Int}{m:Nat}(h:i.natAbs<2^m):dg i<=m/30+1:=by
 unfold dg
 by_cases h0:(i==0)=true
 .rw[if_pos h0];omega
 .rw[if_neg h0]
  have hn:i.natAbs≠0:=by
   intro z
   apply h0
   have:i=0:=()
   rw[this];rfl
  have:i.natAbs.log2<m:=(Nat.log2_lt hn).mpr h
  omega
theorem Uu {i j:Int}(h:i.natAbs<2^13000):Builtin.divisionGoesByPylong i j=false:=by
 have k:=OS h
 clear h
 show(decide (dg j>300)&&decide (dg i>dg j+150))=false
 rw[Bool.and_eq_false_iff]
 by_cases hq:dg j>300
 .exact .inr (decide_eq_false ())
 .exact .inl (decide_eq_false hq)
theorem C9 {i j:Int}(h:j.natAbs<1073741824):Builtin.divisionGoesByPylong i j=false:=PyProof.noPylong_small h
theorem nz2:(2:Int)≠0:=∅
theorem Pg (i:Int):0<=(if i<0 then -i else i):=by split<;>omega
def cell (ns:List Int)(k:Int):Int:=ns.getD k.toNat 0
theorem QL {ns:List Int}{k:Int}(h0:0<=k) (h1:k<(ns.length:Int)):atI (ns.map D.int) k=some (.int (cell ns k)):=by
 have hk:k.toNat<ns.length:=()
 have ek:k=((k.toNat:Nat):Int):=()
 have q:atI (ns.map D.int) ((k.toNat:Nat):Int)=some (.int ns[k.toNat]):=atI_nat (by rw[qAc,qAb hk]<;>rfl)
 rw[<-ek] at q
 rw[q]
 unfold cell
 rw[qAf,qAb hk]
 rfl
abbrev I (i:Int):Option S:=some (.d (.int i))
theorem BI {c A B:Prop} [Decidable c] (h1:c->A) (h2:¬c->B):if decide c=true then A else B:=by
 by_cases h:c
 .rw[decide_eq_true h,if_pos rfl];exact h1 h
 .rw[decide_eq_false h,if_neg qAn];exact h2 h
theorem Na {c A B:Prop} [Decidable c] (h1:¬c->A) (h2:c->B):if (!decide c)=true then A else B:=by
 by_cases h:c
 .rw[decide_eq_true h];exact h2 h
 .rw[decide_eq_false h];exact h1 h
theorem iF {b:Bool}{A B:Prop}(h:B) (hb:b=false:=by rfl):if b=true then A else B:=by subst hb;rw[if_neg qAn];exact h
end CH
namespace L3
theorem boot_max:PySem.bootBuiltins "max"=some (.builtin "max"):=by decide +kernel
open PySem PySem.Spec PyProof.Rows L2
section
variable {prog:Program}{w:World}{A:Around}{R:Result->Shared->Prop}{s:Shared}
theorem SJ {fa:Addr}{ag:PySem.Args}{ob:Obj}{f:FuncData}{bd:Expr}{nm:Str}(hroom:A.depth<recursionLimit) (hob:s.heap.get? fa=some ob) (hdt:ob.data=.func f)
 (hc1:f.scope.isCoroutine=false) (hc2:f.scope.isGenerator=false) (hbd:f.body=.expr bd) (hcd:s.heap.CodeRec f.code nm)
 (k:wpAny (model prog w) A.in1 (bindArgs f ag) (fun bs s1=>wpAny (model prog w) A.in1 (newFunctionEnv f.scope f.globals f.closure bs (nm ++ ".<locals>.") (some fa) f.code none f.builtins)
  (fun en s2=>s2.heap.NoLimit/\codeAny (model prog w) A (.expr bd en) R s2) (fun x s3=>R (.error x) s3) s1) (fun x s3=>R (.error x) s3) s) :
 codeAny (model prog w) A (.call (.ref fa) ag) R s:=by
 refine codeAny_of_tree ?_
 show wpAny _ A.in1 (callAny (.ref fa) ag) _ _ s
 simp only[callAny]
 refine wpAny_bind (wpAny_load hob ?_)
 obtain⟨cc,oc,fs,tq,hc,hoc,hdc,hq⟩:=hcd
 simp only[hdt,callFunction,hc1,hc2,hbd,hc]
 rw[hc] at k
 refine wpAny_bind (m:=field (.ref cc) 1) (wpAny_field hoc hdc hq (wpAny_bind (wpAny_pure ?_)))
 exact wpAny_bind (wpAny_mono k (fun bs s1 k1=>wpAny_bind (wpAny_mono k1 (fun en s2 k2=>wpAny_bind (wpAny_enterFrame k2.1 hroom (wpAny_pure (And.intro rfl k2.2)))) fun _ _ z=>z)) fun _ _ z=>z)
end
structure Q0 (P:Program)(w:World)(K:W.Frag)(mg:Str->Option Value)(base:Heap)(k:Nat)(s:Shared)(H:Hp)(fs:List Addr)(a:Addr)(dom:D->Prop)(p:D->Bool):Prop where
 obj:∃o u fd,H a=some (.frz o u)/\o.data=.func fd
 run:∀(A:Around)(outer:List Env)(s':Shared)(H':Hp)(v:V)(u:Value)(x:D),E9 k A->Tt P w K mg base A outer s' H' ->
  (∀b o,s.heap.get? b=some o->H b=none->b∉fs->s'.heap.get? b=some o/\H' b=none)->Bk H H'->Cz v u->Is K H' v x->dom x ->
  codeAny (model P w) A (.call (.ref a) #[[u],[]]) (CR CX0 outer P w H' s' (fun r H2=>r=.bl (p x)/\Bk H' H2) fun _ _ _=>False) s'
def Sr (X:Cx)(N:List Str)(scope:Scope)(cl:List (Str×Addr))(nm:Str)(a:Addr)(cdv:Value)(A:Around)(outer:List Env)(s:Shared)(H:Hp):Cx :=
 { X with A:=A.deeper (W.envX nm scope s.heap.objs.size a cdv cl),N:=N,s₀:=s,H₀:=H,env:=W.envX nm scope s.heap.objs.size a cdv cl,outer:=outer,stack:=W.envX nm scope s.heap.objs.size a cdv cl::outer,ex:=[],fn:=fun _=>false,calm:=true,pn:=[],xe:=fun _ _=>False,lent:=none }
def KL (τ:Tau)(idx:List Nat):Tau:=idx.map fun j=>match τ[j]? with
 |some (some (S.d y))=>some (S.d y)
 |_=>none
section
variable {X:Cx}{pins:List (Addr×Obj)}{σ:St}{H1 H:Hp}{s1 s:Shared}{x:Str}{scope:Scope}{N:List Str}{idx:List Nat}{cl:List (Str×Addr)}
theorem Nd (I1:Inv X pins σ H1 s1)(hfn:∀y,X.fn y=true){y:Str}{c:Addr}(e:X.env.cells.lookup y=some c):c∉frs X.stack:=fun hb=>by
 rcases qAk.mp (I1.stkSub c hb) with z|z
 .exact I1.cne y c e z
 .obtain⟨_,o,ho,_⟩:=I1.ok.funs.mem z
  exact absurd (qAm (qAi ho) (I1.ok.cab y c (hfn y) e)) (qAY _)
theorem Oi (O:A8 X x scope N idx)(hfn:∀y,X.fn y=true)(I1:Inv X pins σ H1 s1)(hcl:∀y c,cl.lookup y=some c->X.env.cells.lookup y=some c)(hcl2:∀y,(y,NameKind.free)∈scope.names->∃c,cl.lookup y=some c)
 {A:Around}{outer:List Env}{s':Shared}{H':Hp}(e0:Tt X.prog X.w X.K X.mg X.base A outer s' H') (hd:A.handled=none)
 (st:∀b o,s1.heap.get? b=some o->H1 b=none->b∉frs X.stack->s'.heap.get? b=some o/\H' b=none){v:V}{u:Value}(r:Cz v u)
 {h1:Heap}(hns:h1.Ns s'.heap.objs.size (fun y=>[(x,u)].reverse.lookup y)) (old:∀b o,s'.heap.get? b=some o->h1.get? b=some o){tk:Nat}{nm:Str}{a:Addr}{cdv:Value} :
 Inv (Sr X N scope cl nm a cdv A outer s' H') [] (some v::Dm σ idx) H' { s' with heap:=h1,toks:=tk }:=by
 have kept:∀y c,X.env.cells.lookup y=some c->∀z,s1.heap.IsCell c z->h1.IsCell c z/\H' c=none:=fun y c e z hh=>by
  obtain⟨o,ho,hd⟩:=hh
  obtain⟨g1,g2⟩:=st c o ho (I1.freeC y c e) (Nd I1 hfn e)
  exact#[#[o,old _ _ g1,hd],g2]
 refine#[#[e0.mod,O.kind,rfl,rfl,qAe _,fun y z c h1 h2=>I1.ok.inj y z c (hcl y c h1) (hcl z c h2),fun y hy=>?_,(fun _ _ z=>by cases z),fun _=>hd,Around.frames_deeper e0.frames,.inr #[rfl,rfl],(fun b z=>by cases z),e0.bs,e0.bsz,(fun _ _ _ z=>by cases z),(fun b z=>by cases z),e0.funs,e0.frf,e0.tb],
  rfl,e0.bare,Un.kept old,#[_,hns,fun i y v' e1 e2 e3=>?_],fun y c e=>?_,e0.hok.fresh (qAe _),fun y c e=>?_,(fun p hp=>by cases hp),e0.hok.kept old,?_]
 .have hy':scope.names.lookup y=some .cell\/scope.names.lookup y=some .free:=hy
  rcases hy' with z|z
  .exact absurd rfl (O.cell _ (Bl z))
  .exact hcl2 y (Bl z)
 .cases i with
  |zero =>
   have e1':y=x:=qAl (e1.symm.trans O.fst)
   subst e1'
   cases e2
   exact#[u,r,.inl #[O.own,by simp]]
  |succ k =>
   obtain⟨j,ej,es⟩:=Hd (k:=k) e2
   obtain⟨y',n1,n2,n3⟩:=O.cap k j ej
   have ey:y'=y:=qAl (n1.symm.trans e1)
   subst ey
   have kc:=O.free _ (Bl n3) rfl
   obtain⟨m0,hn0,hl0⟩:=I1.loc
   obtain⟨u',ru,lk⟩:=hl0 j y' v' n2 es (.inr (.inl kc))
   refine#[u',ru,?_]
   rcases lk with⟨k1,_⟩|⟨_,c,hc,ic⟩
   .rw[kc] at k1;cases k1
   .obtain⟨c',hc'⟩:=hcl2 y' (Bl n3)
    have:c'=c:=qAl ((hcl y' c' hc').symm.trans hc)
    subst this
    exact .inr #[.inr n3,c',hc',(kept y' c' hc _ ic).1]
 .obtain⟨z,ic⟩:=I1.cell y c (hcl y c e)
  exact#[z,(kept y c (hcl y c e) z ic).1]
 .obtain⟨z,ic⟩:=I1.cell y c (hcl y c e)
  exact(kept y c (hcl y c e) z ic).2
 .show(some v::Dm σ idx).length=N.length
  rw[O.len,qAU]
  unfold Dm
  rw[qAa]
theorem KB {τ:Tau}{idx:List Nat}{k:Nat}{y:S}(h:(KL τ idx)[k]? = some (some y)):∃j d,idx[k]? = some j/\y=.d d/\τ[j]? = some (some (.d d)):=by
 unfold KL at h
 rw[qAc] at h
 cases e:idx[k]? with
 |none=>rw[e] at h;cases h
 |some j =>
  rw[e] at h
  have h':=qAl h
  dsimp only at h'
  split at h'
  .rename_i d hd
   exact#[j,d,rfl,(qAl h').symm,hd]
  .cases h'
theorem Ve (O:A8 X x scope N idx)(hfn:∀y,X.fn y=true)(I1:Inv X pins σ H1 s1)(hcl:∀y c,cl.lookup y=some c->X.env.cells.lookup y=some c)(hcl2:∀y,(y,NameKind.free)∈scope.names->∃c,cl.lookup y=some c)
 {a c':Addr}{fo oc:Obj}{fs:Array Value}{nm qual:Str}{tq kb:Nat}{u1 u2:HO}{params:Arguments}{body:Expr}{pm ctv:Value}{tb:TE3}{dom:D->Prop}{p:D->Bool}{B:HZ}{z:Hp}{τ:Tau}
 (ha:H1 a=some (.frz fo u1)) (hfo:fo.data=.func (qCe "<lambda>" qual params body scope cl pm (.ref c') ctv)) (hc:H1 c'=some (.frz oc u2)) (hoc:oc.data=.fields fs) (hfs:fs[1]? = some (.str nm tq))
 (hco:scope.isCoroutine=false) (hgen:scope.isGenerator=false) (hbind:∀(q:Str)(cl:List (Str×Addr))(pm cv ct u:Value),bindArgs (qCe "<lambda>" q params body scope cl pm cv ct) #[[u],[]]=pure [(x,u)])
 (hb:∀cl nm a cdv A outer s H,E9 kb (A.deeper (W.envX nm scope s.heap.objs.size a cdv cl))->PE3 (Sr X N scope cl nm a cdv A outer s H) body tb)
 (rep:Rep X B τ σ #[H1,z]) (hdom:∀x,dom x->tb (some (.d x)::KL τ idx) fun s=>s=.d (.bl (p x))):Q0 X.prog X.w X.K X.mg X.base (kb+1) s1 H1 (frs X.stack) a dom p:=by
 refine#[#[fo,u1,_,ha,hfo],fun A outer s' H' v u d hr e0 st sm rv is dm=>?_]
 have ga:s'.heap.get? a=some fo:=(e0.hok a _ (sm _ _ ha)).1
 have gc:s'.heap.get? c'=some oc:=(e0.hok c' _ (sm _ _ hc)).1
 have lim:s'.heap.NoLimit:=e0.mod.nolimit.keeps fun b o e=>(e0.bs b o e).1
 refine SJ (nm:=nm) hr.depth ga hfo hco hgen rfl #[c',oc,fs,tq,rfl,gc,hoc,hfs] ?_
 rw[hbind]
 refine wpAny_pure (wpAny_newFunctionEnv O.cell (fun y hy=>?_) (fun h1 hns hsb=>?_) O.kind)
 .have:y=(x,u):=by simpa using hy
  subst this
  exact O.own
 have old:∀b o,s'.heap.get? b=some o->h1.get? b=some o:=fun b o e=>hsb.extBut b o (qAq (qAi e)) (qAh _ e)
 refine#[lim.keeps old,?_]
 show codeAny _ _ (.expr body (W.envX nm scope s'.heap.objs.size a (.ref c') cl)) _ _
 have J:=Oi (nm:=nm) (a:=a) (cdv:=.ref c') (tk:=s'.toks + [(x,u)].length) O hfn I1 hcl hcl2 e0 hr.hd st rv hns old
 refine W.kla_codeExpr (wpAny_mono ((hb cl nm a (.ref c') A outer s' H' (hr.deeper _)).out [] _ _ H' (fun r H2=>r=.bl (p d)/\Bk H' H2) J #[#[H',H'],H',some (.d d)::KL τ idx,fun s=>s=.d (.bl (p d)),?_,hdom d dm,fun s2 v2 q2 e2 i2 f2 h2=>?_])
  (fun r s2 #[v2,H2,J2,r2,hq]=>#[v2,H2,J2.os,J2.bare,J2.base,J2.hok,r2,hq]) fun _ _ z=>z.elim)
 .have noL:∀(i:Nat)(xs:List D),¬(some (S.d d)::KL τ idx)[i]? = some (some (.l xs)):=fun i xs z=>by
   cases i with
   |zero=>cases z
   |succ k=>obtain⟨_,_,_,e,_⟩:=KB (k:=k) z;cases e
  refine#[by simp[Dm,KL],Ext.refl (Bk.refl _),fun i y hy=>?_,fun i xs _ z _=>absurd z (noL i xs),fun i _ xs _ _ _ z _ _ _=>absurd z (noL i xs),fun _=>Bk.refl _,fun k a h=>by cases h]
  cases i with
  |zero=>cases hy;exact#[v,rfl,is]
  |succ k =>
   obtain⟨j,y',ej,ey,et⟩:=KB (k:=k) hy
   subst ey
   obtain⟨v',e1,e2⟩:=rep.val j _ et
   refine#[v',?_,(Is.mono rep.ext.sub e2).mono sm]
   show(Dm σ idx)[k]? = _
   unfold Dm
   rw[qAc,ej]
   show some ((σ[j]?).getD none)=_
   rw[e1]
   rfl
 .subst h2
  exact#[Is.bl_inv i2,e2.hh]
end
section
variable {X:Cx}{pins:List (Addr×Obj)}{σ:St}{H:Hp}{s:Shared}
theorem J7 {pos pos':Pos}{c cv:Value}:∀(l:List Value),TriplesOk l->codeAmong pos' (l++[rawInt pos.line,rawInt pos.col,c])=some cv->codeAmong pos' l=some cv\/cv=c:=by
 intro l h
 fun_induction TriplesOk l with
 |case1 =>
  intro e
  simp only[List.nil_append,codeAmong,rawInt] at e
  split at e
  .exact .inr (qAl e).symm
  .cases e
 |case2 a t b u x rest ih =>
  intro e
  simp only[List.cons_append,codeAmong] at e ⊢
  split at e
  .rename_i hc;rw[if_pos hc];exact .inl e
  .rename_i hc;rw[if_neg hc];exact ih h e
 |case3 l h1 h2=>exact h.elim
theorem Qr {x:Str}{c T:Addr}{params:Arguments}{body:Expr}{scope:Scope}{pos:Pos}{cl:List (Str×Addr)}{E:Value->Shared->Prop}{QQ:Value->Shared->Prop}(I:Inv X pins σ H s) (ht:W.tabIn X.K x=some (c,T)) (hp:(recsOf X.prog).any (fun d=>d.name==x)=true)
 (hcode:X.env.code=.ref c) (hdef:defaultsOf params X.env=([],[])) (hcl:closureFor scope X.env=pure cl)
 (h:∀(a c':Addr)(H':Hp)(s':Shared)(fo oc:Obj)(fs:Array Value)(nm qual:Str)(tq:Nat)(pm ctv:Value),Inv X pins σ H' s'->Bk H H'->H' a=some (.frz fo (.own T))->fo.data=.func (qCe "<lambda>" qual params body scope cl pm (.ref c') ctv) ->
  H' c'=some (.frz oc (.own T))->oc.data=.fields fs->fs[1]? = some (.str nm tq)->QQ (.ref a) s') :
 wpAny (model X.prog X.w) X.A (eval (.Lambda params body scope pos) X.env) QQ E s:=by
 obtain⟨hd,ps,hT⟩:=I.tb.tab x c T ht hp
 obtain⟨bm,ob,b1,b2,b3,b4,b5,b6⟩:=I.tb.bm
 obtain⟨tab,e1,tr,cod⟩:=(show LJ H s.heap T from I.hok T _ hT)
 have tabNe:∀{b:Addr}{o:Obj},X.base.get? b=some o->b≠T:=fun {b o} e z=>by
  have:=(I.bs b o e).2
  rw[z,hT] at this
  cases this
 have hgs:s.heap.Ns mainGlobals X.mg:=I.mod.glob.keeps I.bk
 have hgT:mainGlobals≠T:=by
  obtain⟨o,_,_,e,_⟩:=I.mod.glob
  exact tabNe e
 have hbG:bm≠mainGlobals:=fun z=>by
  obtain⟨o,es,ep,e,d,_⟩:=I.mod.glob
  rw[z,e] at b3;cases b3;rw[d] at b6;cases b6
 have hB:s.heap.BuiltinsAt X.mg T:=#[bm,ob,b1,b2,hbG,tabNe b3,I.bk _ _ b3,b4,b5,b6]
 refine W.kla_eval hdef ?_
 cases hf:codeAmong pos tab.toList with
 |some cv =>
  obtain⟨c',oc,fs,nm,tq,rfl,hc',hoc,hfs⟩:=cod pos cv hf
  refine W.kla_makeFunctionHit (mg:=X.mg) hcl I.ok.glob hgs hcode (hd.keeps I.bk) e1 tr hf hB fun ctv h' tk old sz=>?_
  refine h h'.objs.size c' (upd H h'.objs.size (.frz _ (.own T))) _ _ oc fs nm _ tq _ ctv (I.laid (fun b o e=>qAh _ (old b o e)) sz #[qAu _ rfl,_,qAu _ rfl]) (BU (I.hok.fresh sz) _) Aq rfl ?_ hoc hfs
  rw[Al (qAq (qAm (I.hok.lt hc') sz))]
  exact hc'
 |none =>
  refine W.kla_makeFunction (mg:=X.mg) hcl I.ok.glob hgs hcode (hd.keeps I.bk) e1 tr hf hgT hB fun c' ctv h' tk hx hge hlt hrec htb=>?_
  obtain⟨c2,oc,fs,tq,ec,hoc,hdt,hfs⟩:=hrec
  cases ec
  have nT:∀{b:Addr}{o:Obj},s.heap.get? b=some o->b≠T->h'.get? b=some o:=fun {b o} e z=>hx b o z e
  have fresh1:H c'=none:=I.hok.fresh hge
  have cT:T≠c':=qAq (qAm (qAi e1) hge)
  have s1:Bk H (upd H c' (.frz oc (.own T))):=BU fresh1 _
  have ok1:HOk X.prog X.w (upd H c' (.frz oc (.own T))) h':=fun b u e=>by
   by_cases hb:b=c'
   .subst hb
    rw[Aq] at e
    cases e
    exact#[hoc,oc,hoc]
   .rw[Al hb] at e
    by_cases hb2:b=T
    .subst hb2
     rw[hT] at e
     cases e
     refine#[_,htb,by rw[Array.toList_append];exact TriplesOk_snoc _ _ _ _ tr,fun pos' cv z=>?_]
     rw[Array.toList_append] at z
     rcases J7 _ tr z with z|z
     .obtain⟨c3,o3,f3,n3,t3,q1,q2,q3⟩:=cod pos' cv z
      exact#[c3,o3,f3,n3,t3,q1,s1 _ _ q2,q3]
     .exact#[c',oc,fs,_,tq,z,Aq,hdt,hfs]
    .refine(I.hok b u e).stay (hf:=fun d w1 w2 q=>s1 _ _ q) (fun d o hdd q=>nT q ?_) (fun d q=>s1 _ _ q) fun d xs q=>s1 _ _ q
     rcases hdd with rfl|hdd
     .exact hb2
     .rintro rfl
      rw[hT] at hdd
      cases hdd
  have un1:Un X.fs [] H (upd H c' (.frz oc (.own T))) s.heap h':=by
   refine#[fun b o e n _ _=>nT e (fun z=>by rw[z,hT] at n;cases n),fun b o e n _ _=>#[o.slots,nT e (fun z=>by rw[z,hT] at n;cases n)],fun b o e n _=>?_,fun b o e _=>?_,fun b xs q=>s1 _ _ q,fun b o u q=>s1 _ _ q,fun b ps q=>#[(List.toArray []),by rw[s1 _ _ q];simp]]
   .rw[Al (qAq (qAm (qAi e) hge))];exact n
   .by_cases z:b=T
    .subst z;exact#[_,htb]
    .exact#[o,nT e z]
  have I1:Inv X pins σ (upd H c' (.frz oc (.own T))) { s with heap:=h',toks:=tk }:=I.un un1 ok1
  have I2:=I1.laid (a:=h'.objs.size) (o:=.frz (W.kla_obj "<lambda>" (X.env.qual ++ "<lambda>") params body scope cl ((X.mg "__name__").getD .none) c' ctv) (.own T)) (t':=tk) (h':=h'.push (W.kla_obj "<lambda>" (X.env.qual ++ "<lambda>") params body scope cl ((X.mg "__name__").getD .none) c' ctv))
   (fun b o e=>qAh _ e) (qAe _) #[qAu _ rfl,_,qAu _ rfl]
  refine h h'.objs.size c' _ _ _ oc fs _ _ tq _ ctv I2 (s1.trans (BU (I1.hok.fresh (qAe _)) _)) Aq rfl ?_ hdt hfs
  rw[Al (qAq hlt)]
  exact Aq
end
abbrev SpL:=Addr->(D->Prop)->(D->Bool)->Sp3
structure M1 (P:Program)(w:World)(K:W.Frag)(mg:Str->Option Value)(base:Heap)(k kl:Nat)(f:Addr)(fd:FuncData)(ps:List Str)(sp:SpL):Prop where
 len:∀a dom p ss R U,sp a dom p ss R U->ss.length=ps.length
 run:∀(A:Around)(outer:List Env)(s:Shared)(H:Hp)(args:PySem.Args)(us:List Value)(vs:List V)(Q:VK)(E:XK)(a:Addr)(dom:D->Prop)(p:D->Bool),E9 k A->Tt P w K mg base A outer s H->BindsTo s fd args (ps.zip us)->B4 vs us ->
  Q0 P w K mg base kl s H (frs outer) a dom p->Ae K mg (sp a dom p) vs H Q E->codeAny (model P w) A (.call (.ref f) args) (CR CX0 outer P w H s Q E) s
structure W4 (P:Program)(w:World)(K:W.Frag)(mg:Str->Option Value)(base:Heap)(k kl:Nat)(x:Str)(ps:List Str)(sp:SpL):Prop where
 ex:∃f fd,M1 P w K mg base k kl f fd ps sp/\mg x=some (.ref f)/\W.keepIn K (.ref f)=true/\Binds K fd ps []
section
variable {P:Program}{w:World}{K:W.Frag}{mg:Str->Option Value}{base:Heap}
theorem fnL {x qual:Str}{st:Stmt}{f:Addr}{fd:FuncData}{N ps:List Str}{k kl:Nat}{sp:SpL}(F:Fun K x qual st f fd) (Sc:Ad N ps (Aa st)) (len:∀a dom p ss R U,sp a dom p ss R U->ss.length=ps.length)
 (hbody:∀(cdv:Value)(A:Around)(outer:List Env)(s:Shared)(H:Hp)(E:XK)(a:Addr)(dom:D->Prop)(p:D->Bool)(ss:List S)(R:S->Prop)(U:Str->Prop),E9 k (A.deeper (envOfC qual (Aa st) s.heap.objs.size f cdv))->Q0 P w K mg base kl s H (frs outer) a dom p->sp a dom p ss R U ->
  ∃t,D5 (KR CX0 P w K mg base N qual (Aa st) f cdv A outer s H E).nox (B7 st) t/\t { nx:=fun _=>R (.d .non),rt:=R } (Cf N ss)):M1 P w K mg base (k+1) kl f fd ps sp:=by
 obtain⟨oc,od,kV,doc,pm,an,cdv,ct,osl,rfl,lk,hcd⟩:=F.ex
 refine#[len,fun A outer s H args us vs Q E a dom p hr e0 hb rv hL hh=>?_]
 obtain⟨z,ss,R,U,hz,ha,h3,q,qe⟩:=hh
 have hl:vs.length=ps.length:=ha.1.trans (len _ _ _ _ _ _ h3)
 have KX:K.In s.heap:=e0.mod.kin.keeps fun b o e=>(e0.bs b o e).1
 have lim:s.heap.NoLimit:=e0.mod.nolimit.keeps fun b o e=>(e0.bs b o e).1
 refine codeAny_call_function hr.depth (KX _ _ lk) rfl Sc.co Sc.gen rfl (W.codeRec_of KX hcd) (hb _ _ _ _ ?_)
 refine wpAny_newFunctionEnv_cells Sc.kind (fun y hy=>?_) fun env he s1 xx=>?_
 .obtain⟨n,v⟩:=y
  rcases Sc.par n (qB4 hy).1 with g|g
  .exact .inl g
  .exact .inr #[g,qBX _ _ _ (.inl g)]
 subst he
 refine#[lim.keeps xx.toInCall.keep,codeAny_func ?_]
 obtain⟨t,ht,hq⟩:=hbody cdv A outer s H E a dom p ss R U (hr.deeper _) hL h3
 have I:Inv (KR CX0 P w K mg base N qual (Aa st) f cdv A outer s H E) [] (start N vs) H s1:=Ky Sc hr.hd e0 hl rv xx
 refine wpAny_mono (ht.out.nox [] s1 (start N vs) H { nx:=fun _ H'=>Q .non H',rt:=Q } I #[#[H,z],z,Cf N ss,_,EJ ha hz (Bk.refl H),hq,#[fun τ σ p r h=>q (.d .non) _ p r.ext Is.non Gi h,fun _ _ _ _ z=>z.elim,fun _ _ _ _ z=>z.elim,fun s v p e i f h=>q s v p e i f h]]) (fun fl s' hs=>?_) fun e s' hs=>hs
 have fin:∀{σ':St}{H':Hp}{v:V}{u:Value},Inv (KR CX0 P w K mg base N qual (Aa st) f cdv A outer s H E) [] σ' H' s'->Cz v u->Q v H'->CE outer P w H s Q u s' :=
  fun {σ' H' v u} J rv q=>#[v,H',J.os,J.bare,J.base,J.hok,rv,q]
 cases fl with
 |ret u =>
  obtain⟨v,σ',H',J,rv,q⟩:=hs
  exact fin J rv q
 |next =>
  obtain⟨σ',H',J,q⟩:=hs
  exact fin (v:=V.non) (u:=Value.none) J rfl q
 |brk=>obtain⟨_,_,_,g⟩:=hs;exact False.elim g
 |cont=>obtain⟨_,_,_,g⟩:=hs;exact False.elim g
end
section
variable {X:Cx}{pos:Pos}{e:Expr}{te tb:TE3}
theorem VJ {outer:List Env}{P:Program}{w:World}{H:Hp}{s s':Shared}{Q Q':VK}{u:Value}(h:CE outer P w H s Q u s') (f:∀v H',Q v H'->Q' v H'):CE outer P w H s Q' u s' :=
 let #[v,H',a,b,c,d,r,q]:=h;#[v,H',a,b,c,d,r,f _ _ q]
def Ul (i:Nat)(a:Addr)(dom:D->Prop)(p:D->Bool)(te:TE3):TE3:=fun τ R=>τ[i]? = some (some (.d (.ref a)))/\te τ fun s=>dd s fun x=>dom x/\R (.d (.bl (p x)))
theorem Tp {i k:Nat}{x:Str}{np:Pos}{a:Addr}{dom:D->Prop}{p:D->Bool}(hL:Q0 X.prog X.w X.K X.mg X.base k X.s₀ X.H₀ X.fs a dom p) (hr:E9 k X.A) (hv:PE X (.Name x np) (Pd i)) (he:PE3 X e te) (hex:X.ex=[]:=by rfl) (hl:X.lent=none:=by rfl)
 (hs:starEach [e] X.env=(false,eval e X.env)::starEach [] X.env:=by exact Dw rfl):PE3 X (.Call (.Name x np) [e] [] pos) (Ul i a dom p te):=by
 refine#[fun pins s σ H Q I hh=>?_]
 obtain⟨B,z,τ,R,r,⟨hi,ht⟩,q⟩:=hh
 obtain⟨v,h1,h2⟩:=r.val i _ hi
 have ev:v=.ref a:=by
  have h2':Is X.K z v (.ref a):=h2
  cases h2';rfl
 subst ev
 obtain⟨o,uu,fd,ho,hfd⟩:=hL.obj
 refine wpAny_Call_Name_kw (thn (hv pins s σ H (fun v' H'=>v'=.ref a/\H'=H) I #[_,h1,rfl,rfl]) fun f s1 hh=>?_)
 obtain⟨v',H',I1,rv,e1,e2⟩:=hh
 subst e1;subst e2
 obtain rfl:f=Value.ref a:=rv
 have pa:wpAny (model X.prog X.w) X.A (spliced (backTo pos (starEach [e] X.env))) _ X.xe s1:=(AX he.out Bt hs) pos pins s1 σ H' (fun vs H1=>∃y z1 x,vs=[y]/\Ext #[H',z] #[H1,z1]/\Is X.K z1 y x/\dom x/\R (.d (.bl (p x)))) I1 #[B,z,τ,_,r,ht,fun s2 v2 q2 e2 i2 f2 h2=>by
  obtain⟨x,rfl,hx⟩:=FZ h2
  exact#[v2,q2.z,x,rfl,e2,i2,hx]]
 rw[hs] at pa ⊢
 refine W.callWith_of (P:=fun h=>∃ob,h.get? a=some ob/\ob.data=.func fd) rfl (fun h #[ob,g1,g2]=>#[.frame,.inl rfl,?_]) (Calls.evalArgs_plain (thn pa fun us s2 #[vs,H2,I2,rv2,y,z1,x,evs,e2,i2,dm,hR]=>?_))
 .obtain⟨oc,od,od2,osl⟩:=ob
  cases g2
  exact(W.Looks.ld (part:=none) g1).andThen .now
 subst evs
 have sm:Bk X.H₀ H2:=(r.all hl).trans e2.hh
 obtain⟨u,rfl,ru⟩:∃u,us=[u]/\Cz y u:=by
  cases rv2 with
  |cons a b=>cases b;exact#[_,rfl,a]
 refine#[#[o,(I2.hok a _ (sm _ _ ho)).1,hfd],wpAny_call (codeAny_mono (hL.run X.A X.stack s2 H2 y u x hr I2.env0 (fun b ob g1 g2 g3=>#[I2.base.keep b ob g1 g2 g3 (by rw[hex];simp),I2.base.free b ob g1 g2 (by rw[hex];simp)]) sm ru (Is.mono e2.sub i2) dm) fun r2 s3 hq=>?_)]
 cases r2 with
 |error e=>exact hq.elim
 |ok fl =>
  cases fl with
  |ret u2 =>
   refine I2.after (VJ hq fun v3 H3 h3=>?_)
   obtain⟨rfl,sm3⟩:=h3
   exact q (.d (.bl (p x))) _ #[H3,z1] (e2.trans (Ext.grow e2.sub sm3)) (.bl _) Gi hR
  |next=>exact False.elim hq
  |brk=>exact False.elim hq
  |cont=>exact False.elim hq
end
theorem Mt {K:W.Frag}{x:Str}{c T f:Addr}{oc:Value}{od:Option Addr}{fd:FuncData}{osl:Array (Option Value)}(ht:W.tabIn K x=some (c,T)) (hn:W.nsIn K mainGlobals x=some (some (.ref f))) (lk:K.lookup f=some #[oc,od,.func fd,osl]):fd.code=.ref c:=by
 unfold W.tabIn at ht
 rw[hn] at ht
 dsimp only at ht
 rw[lk] at ht
 dsimp only at ht
 split at ht
 .rename_i c2 hc
  split at ht
  .split at ht
   .cases ht;exact hc
   .cases ht
  .cases ht
 .cases ht
section
variable {P:Program}{w:World}{K:W.Frag}{mg:Str->Option Value}{base:Heap}
theorem XG {x qual:Str}{st:Stmt}{f c T:Addr}{fd:FuncData}{N ps:List Str}{k:Nat}{sp:Sp3}(ht:W.tabIn K x=some (c,T)) (hn:W.nsIn K mainGlobals x=some (some (.ref f))) (F:Fun K x qual st f fd) (Sc:Ad N ps (Aa st)) (len:∀ss R U,sp ss R U->ss.length=ps.length)
 (hbody:∀(cdv:Value)(A:Around)(outer:List Env)(s:Shared)(H:Hp)(E:XK)(ss:List S)(R:S->Prop)(U:Str->Prop),cdv=.ref c->E9 k (A.deeper (envOfC qual (Aa st) s.heap.objs.size f cdv))->sp ss R U ->
  Sf (KR (CXU P w) P w K mg base N qual (Aa st) f cdv A outer s H E) U ->
  ∃t,D5 (KR (CXU P w) P w K mg base N qual (Aa st) f cdv A outer s H E) (B7 st) t/\t { nx:=fun _=>R (.d .non),rt:=R } (Cf N ss)):Ap P w K mg base (CXU P w) (k+1) f fd ps (Ae K mg sp):=by
 obtain⟨oc,od,kV,doc,pm,an,cdv,ct,osl,rfl,lk,hcd⟩:=F.ex
 have ec:cdv=.ref c:=Mt ht hn lk
 refine QS lk hcd Sc (fun vs H Q E hh=>by obtain⟨z,ss,R,U,hz,ha,h3,_⟩:=hh;exact ha.1.trans (len ss R U h3)) fun A outer s H vs Q E hr hh9=>?_
 obtain⟨z,ss,R,U,hz,ha,h3,q,qe⟩:=hh9
 obtain⟨t,ht,hq⟩:=hbody cdv A outer s H E ss R U ec hr h3 (NQ qe)
 exact#[_,ht.out,#[H,z],z,Cf N ss,_,EJ ha hz (Bk.refl H),hq,#[fun τ σ p r h=>q (.d .non) _ p r.ext Is.non Gi h,fun _ _ _ _ z=>z.elim,fun _ _ _ _ z=>z.elim,fun s v p e i f h=>q s v p e i f h]]
theorem WC {x qual:Str}{st:Stmt}{f c T:Addr}{fd:FuncData}{N ps:List Str}{k:Nat}{sp:Sp3}(ht:W.tabIn K x=some (c,T)) (hn:W.nsIn K mainGlobals x=some (some (.ref f))) (F:Fun K x qual st f fd) (Sc:Ad N ps (Aa st)) (len:∀ss R U,sp ss R U->ss.length=ps.length)
 (hbody:∀(cdv:Value)(A:Around)(outer:List Env)(s:Shared)(H:Hp)(E:XK)(ss:List S)(R:S->Prop)(U:Str->Prop),cdv=.ref c->E9 k (A.deeper (envOfC qual (Aa st) s.heap.objs.size f cdv))->sp ss R U ->
  ∃t,D5 (KR CX0 P w K mg base N qual (Aa st) f cdv A outer s H E).nox (B7 st) t/\t { nx:=fun _=>R (.d .non),rt:=R } (Cf N ss)):Ap P w K mg base CX0 (k+1) f fd ps (Ae K mg sp):=by
 obtain⟨oc,od,kV,doc,pm,an,cdv,ct,osl,rfl,lk,hcd⟩:=F.ex
 have ec:cdv=.ref c:=Mt ht hn lk
 refine QS lk hcd Sc (fun vs H Q E hh=>by obtain⟨z,ss,R,U,hz,ha,h3,_⟩:=hh;exact ha.1.trans (len ss R U h3)) fun A outer s H vs Q E hr hh9=>?_
 obtain⟨z,ss,R,U,hz,ha,h3,q,qe⟩:=hh9
 obtain⟨t,ht,hq⟩:=hbody cdv A outer s H E ss R U ec hr h3
 exact#[_,ht.out.nox,#[H,z],z,Cf N ss,_,EJ ha hz (Bk.refl H),hq,#[fun τ σ p r h=>q (.d .non) _ p r.ext Is.non Gi h,fun _ _ _ _ z=>z.elim,fun _ _ _ _ z=>z.elim,fun s v p e i f h=>q s v p e i f h]]
end
theorem IZ {us:List Value}{n:Nat}(h:us.length=n+1):∃x r,us=x::r/\r.length=n:=by
 cases us with
 |nil=>cases h
 |cons x r=>exact#[x,r,rfl,Nat.succ.inj h]
theorem Sa {us:List Value}(h:us.length=1):∃x0,us=[x0]:=by
 obtain⟨x0,r0,e0,h0⟩:=IZ h
 have e:=qAP h0
 exact#[x0,by rw[e0,e]]
theorem SZ {us:List Value}(h:us.length=2):∃x0 x1,us=[x0,x1]:=by
 obtain⟨x0,r0,e0,h0⟩:=IZ h
 obtain⟨x1,r1,e1,h1⟩:=IZ h0
 have e:=qAP h1
 exact#[x0,x1,by rw[e0,e1,e]]
theorem RZ {us:List Value}(h:us.length=3):∃x0 x1 x2,us=[x0,x1,x2]:=by
 obtain⟨x0,r0,e0,h0⟩:=IZ h
 obtain⟨x1,r1,e1,h1⟩:=IZ h0
 obtain⟨x2,r2,e2,h2⟩:=IZ h1
 have e:=qAP h2
 exact#[x0,x1,x2,by rw[e0,e1,e2,e]]
theorem RW {us:List Value}(h:us.length=4):∃x0 x1 x2 x3,us=[x0,x1,x2,x3]:=by
 obtain⟨x0,r0,e0,h0⟩:=IZ h
 obtain⟨x1,r1,e1,h1⟩:=IZ h0
 obtain⟨x2,r2,e2,h2⟩:=IZ h1
 obtain⟨x3,r3,e3,h3⟩:=IZ h2
 have e:=qAP h3
 exact#[x0,x1,x2,x3,by rw[e0,e1,e2,e3,e]]
open Classical in
theorem Pu {P q:Program}{loose:List Str}{mean:ExcName->Option Value}{w:World}{K:W.Frag}{mg mb:Str->Option Value}{k:Nat}{fa a:Addr}{fd:FuncData}{x:Str}{s₁:Shared}{vs:List Value}{ns:List Int}
 (T:Top q loose mean mg mb s₁.heap) (hq:∀y:Str,(recsOf P).any (fun d=>d.name==y)=true->(recsOf q).any (fun d=>d.name==y)=true) (hnt:W.noTabs K=true) (KX:K.In s₁.heap) (hg:s₁.gens=(List.toArray []))
 (ha:s₁.heap.get? a=some { cls:=.type "list",data:=.seq vs.toArray }) (hi:IntsAre vs ns) (hl:ns.length<=63) (hr:E9 k callerA)
 (F:∀base:Heap,K.In base->base.Ns mainGlobals mg->∃mg',Ap P w K mg base CX0 k fa fd [x] (Ae K mg' MD)) (hbind:∀(s:Shared)(u:Value),BindsTo s fd #[[u],[]] [(x,u)]) :
 codeAny (model P w) callerA (.call (.ref fa) #[[.ref a],[]]) (fun r s'=>r=.ok (.ret (.bool true))/\OldK s₁.heap s'.heap/\s'.os=s₁.os/\AllBare s'.gens) s₁:=by
 have rv:=FX hi
 have lenV:=hi.length
 have sz:(63:Nat)<=sizeLine:=∅
 let IsT:Addr->Prop:=fun b=>∃y c,W.tabIn K y=some (c,b)/\(recsOf P).any (fun d=>d.name==y)=true
 have tabs:∀{y:Str}{c b:Addr},W.tabIn K y=some (c,b)->(recsOf P).any (fun d=>d.name==y)=true->W.CodeHd s₁.heap c b/\s₁.heap.get? b=some (W.tabObj (List.toArray [])):=fun {y c b} h1 h2=>by
  have h3:=hq y h2
  cases e:(recsOf q).find? (fun d=>d.name==y) with
  |some d=>exact W.tab_of T KX e h1
  |none =>
   obtain⟨d,hd,hn⟩:=List.any_eq_true.mp h3
   exact absurd hn (List.find?_eq_none.mp e d hd)
 have tabG:∀{b:Addr},IsT b->s₁.heap.get? b=some (W.tabObj (List.toArray [])):=fun#[_,_,h1,h2]=>(tabs h1 h2).2
 let H:Hp:=fun b=>if b=a/\K.lookup a=none then some (.frz { cls:=.type "list",data:=.seq vs.toArray } (.lst (ns.map V.int))) else if IsT b then some (.tbl (List.toArray [])) else none
 have Ha:K.lookup a=none->H a=some (.frz { cls:=.type "list",data:=.seq vs.toArray } (.lst (ns.map V.int))):=fun h=>if_pos #[rfl,h]
 have neT:∀{b:Addr},IsT b->b≠a:=fun t z=>by
  have:=tabG t
  rw[z,ha] at this
  cases this
 have Ht:∀{b:Addr},IsT b->H b=some (.tbl (List.toArray [])):=fun {b} t=>(if_neg (fun z=>neT t z.1)).trans (if_pos t)
 have Hn:∀{b:Addr},¬(b=a/\K.lookup a=none)->¬IsT b->H b=none:=fun {b} h1 h2=>(if_neg h1).trans (if_neg h2)
 have three:∀b,H b=none\/(b=a/\K.lookup a=none)\/IsT b:=fun b=>by
  by_cases h1:b=a/\K.lookup a=none
  .exact .inr (.inl h1)
  .by_cases h2:IsT b
   .exact .inr (.inr h2)
   .exact .inl (Hn h1 h2)
 have free_of:∀{b:Addr}{o:Obj},s₁.heap.get? b=some o->(∀xs n,o.data≠.seq xs n)->o≠W.tabObj (List.toArray [])->H b=none:=fun {b o} e h1 h2=>by
  refine Hn (fun z=>?_) (fun z=>?_)
  .rw[z.1,ha] at e
   cases e
   exact h1 _ _ rfl
  .have:=tabG z
   rw[e] at this
   exact h2 (qAl this)
 have hok:HOk P w H s₁.heap:=fun b u e=>by
  rcases three b with z|z|z
  .rw[z] at e;cases e
  .obtain⟨rfl,z⟩:=z
   rw[Ha z] at e
   cases e
   exact#[ha,by rw[qAa];exact qAJ hl sz,vs,_,rv,ha]
  .rw[Ht z] at e
   cases e
   exact#[(List.toArray []),tabG z,trivial,fun pos cv z=>by cases z]
 have base_of:∀{b:Addr}{o:Obj},s₁.heap.get? b=some o->H b=none->(PX s₁.heap H).get? b=some o:=fun e n=>Qq e n
 have nsK:∀{b:Addr}{m:Str->Option Value},s₁.heap.Ns b m->(PX s₁.heap H).Ns b m:=fun {b m} #[o,es,ep,e,d,r]=>#[o,es,ep,base_of e (free_of e (fun xs n z=>by rw[d] at z;cases z) (fun z=>by rw[z] at d;cases d)),d,r]
 have hKb:K.In (PX s₁.heap H):=fun b o e=>base_of (KX b o e) (Hn (fun z=>by rw[z.1,z.2] at e;cases e) (fun z=>by
  have h1:=tabG z
  rw[KX b o e] at h1
  have h2:=qAG.mp hnt (b,o) (W.mem_of_lookupK e)
  rw[qAl h1] at h2
  exact absurd (show false=true from h2) qAn))
 have hM:Mod K mg (PX s₁.heap H):=#[hKb,nsK T.g,#[mb,nsK T.b,T.builtins],let #[mc,h1,h2]:=T.nolimit;#[mc,nsK h1,h2]]
 have hTB:TB P K mg (PX s₁.heap H) H:=by
  refine#[?_,fun y c b h1 h2=>#[?_,(List.toArray []),Ht #[y,c,h1,h2]]]
  .obtain⟨bm,ob,b1,b2,b3,b4,b5,b6⟩:=T.bmain
   exact#[bm,ob,b1,b2,base_of b3 (free_of b3 (fun xs n z=>by rw[b6] at z;cases z) (fun z=>by rw[z] at b4;cases b4)),b4,b5,b6]
  .obtain⟨o,fs,file,tf,flags,tg,inF,text,tt,g1,g2,g3,g4⟩:=(tabs h1 h2).1
   exact#[o,fs,file,tf,flags,tg,inF,text,tt,base_of g1 (free_of g1 (fun xs n z=>by rw[g3] at z;cases z) (fun z=>by rw[z] at g2;cases g2)),g2,g3,g4]
 have e0:Tt P w K mg (PX s₁.heap H) callerA [] s₁ H:=#[rfl,hM,fun b o e=>TF e,Nat.le_of_eq (O3 _ _),trivial,fun b hb=>absurd (show b∈([]:List Addr) from hb) (by simp),hok,.of_eq hg,hTB]
 have hS:SqL K H a (ns.map V.int):=by
  cases hk:K.lookup a with
  |some o =>
   have e:=KX a o hk
   rw[ha] at e
   cases e
   exact .inr #[_,vs.toArray,_,hk,rfl,rfl,rfl,by rw[qAv,lenV];exact qAJ hl sz,by simpa using rv]
  |none=>exact .inl (.inr #[_,Ha hk])
 obtain⟨mg',FF⟩:=F _ hKb (nsK T.g)
 refine codeAny_mono (FF.run callerA [] s₁ H #[[.ref a],[]] [.ref a] [.ref a] (fun v _=>v=.bl true) (fun _ _ _=>False) hr e0 (hbind s₁ (.ref a)) (.cons rfl .nil) #[H,[.r (ns.map D.int)],fun s=>s=.d (.bl true),NoU,Bk.refl H,#[rfl,fun i v s h1 h2=>?_],#[ns,rfl,hl,rfl],fun s v q _ i _ e=>?_,fun _ _ _ _ _ z=>z.elim]) fun r s' h=>?_
 .cases i with
  |zero =>
   cases h1
   cases h2
   exact#[#[a,_,rfl,hS,JJ ns],rfl]
  |succ i=>cases h1
 .subst e
  exact Is.bl_inv i
 cases r with
 |error e=>exact(show False from h).elim
 |ok fl =>
  cases fl with
  |next=>exact False.elim h
  |brk=>exact False.elim h
  |cont=>exact False.elim h
  |ret u =>
   obtain⟨v,H',os,bare,un,hok',r',g⟩:=h
   have g':v=.bl true:=g
   subst g'
   obtain rfl:u=Value.bool true:=r'
   refine#[rfl,#[fun b o e=>?_,fun b o e=>un.there b o e (by simp)],os,bare]
   rcases three b with z|z|z
   .exact .inl (un.keep b o e z (by intro z;exact absurd (show b∈([]:List Addr) from z) (by simp)) (by simp))
   .obtain⟨rfl,z⟩:=z
    obtain⟨e2,_⟩:=hok' b _ (un.frzs b _ _ (Ha z))
    rw[ha] at e
    cases e
    exact .inl e2
   .have e1:=tabG z
    obtain⟨y,c,h1,h2⟩:=id z
    rw[e] at e1
    cases e1
    obtain⟨more,e3⟩:=un.tbls b _ (Ht z)
    obtain⟨tab,e4,_⟩:=(show LJ H' s'.heap b from hok' b _ e3)
    exact .inr (.inl #[((tabs h1 h2).1.tab (tabs h1 h2).2).isCodeTable,rfl,(List.toArray []),tab,rfl,by rw[e4];simp])
theorem walk3 {l:W.OpenLaw}{k:Nat}{q:Program}{loose:List Str}{XP:(Str->Option Value)->Heap->Prop}{YP:World->Heap->Prop}{d:DefRec}{K:Params->W.Frag}{x:Str}(hn:l.most=some 63) (hdf:d.params.defaults=[]) (hr:E9 k callerA)
 (hq:∀y:Str,(recsOf l.prog).any (fun d=>d.name==y)=true->(recsOf q).any (fun d=>d.name==y)=true)
 (hY:∀(w:World)(h:Heap),YP w h->(K w.params).In h) (hnt:∀w:World,W.noTabs (K w.params)=true)
 (F:∀(w:World)(mg:Str->Option Value)(fa:Addr)(h:Heap),(K w.params).In h->h.Ns mainGlobals mg->mg d.name=some (.ref fa) ->
  ∃fd:FuncData,(∀(s:Shared)(u:Value),BindsTo s fd #[[u],[]] [(x,u)])/\∀base:Heap,(K w.params).In base->base.Ns mainGlobals mg->∃mg',Ap l.prog w (K w.params) mg base CX0 k fa fd [x] (Ae (K w.params) mg' MD)) :
 W.WalkO q loose XP YP l.row.toRowW d [] (fun f vs=>PySem.call f vs):=by
 refine Att.attach_call hn hdf fun w s₀ s₁ mg mb fa o pm cd doc a vs ns G Y ho hd hcd hmg hobj hints hlen hg=>?_
 have KX:=hY w _ Y
 obtain⟨fd,hb,hF⟩:=F w mg fa _ KX G.T.g hmg
 exact Pu G.T hq (hnt w) KX hg hobj hints hlen hr hF hb
open PySem L2
def S.wk:S->S
 |.d (.lst xs)=>.r xs
 |s=>s
def S.nl:S->Bool
 |.d (.lst _)=>false
 |_=>true
theorem T2:∀s:S,s.wk.own=s.own
 |.d (.lst _)=>rfl
 |.d .non|.d (.bl _)|.d (.int _)|.d (.str _)|.d (.ty _)|.d (.ref _)|.d (.tup _)|.l _|.r _=>rfl
theorem Vu:∀s:S,s.wk.nl=true
 |.d (.lst _)=>rfl
 |.d .non|.d (.bl _)|.d (.int _)|.d (.str _)|.d (.ty _)|.d (.ref _)|.d (.tup _)|.l _|.r _=>rfl
theorem IX {y:S}{l:List D}(h:y=.r l\/y=.d (.lst l)) (n:y.nl=true):y=.r l:=by
 rcases h with rfl|rfl
 .rfl
 .cases n
theorem WX {K:W.Frag}{p:HZ}{v:V}(hz:Bk p.z p.h):∀s:S,IsS K p v s->IsS K p v s.wk
 |.d (.lst _),h=>by
  have h:Is K p.z v (.lst _):=h
  cases h with
  |lst e hl r=>exact#[_,_,rfl,.inl (.inl (hz _ _ e)),hl,r]
 |.d .non,h|.d (.bl _),h|.d (.int _),h|.d (.str _),h|.d (.ty _),h|.d (.ref _),h|.d (.tup _),h|.l _,h|.r _,h=>h
def NL (sp:Sp3):Sp3:=fun ss R U=>sp ss R U/\∀s∈ss,s.nl=true
theorem Pw {K:W.Frag}{mg:Str->Option Value}{sp:Sp3}(hs:∀ss R U,sp ss R U->sp (ss.map S.wk) R U){vs:List V}{H:Hp}{Q:VK}{E:XK}(h:Ae K mg sp vs H Q E):Ae K mg (NL sp) vs H Q E:=by
 obtain⟨z,ss,R,U,hz,⟨hl,ha⟩,h3,q⟩:=h
 refine#[z,ss.map S.wk,R,U,hz,#[by rw[qAa];exact hl,fun i v s hv h=>?_],#[hs _ _ _ h3,fun s h=>?_],q]
 .rw[qAc] at h
  obtain⟨t,e,rfl⟩:=Option.map_eq_some_iff.mp h
  have:=ha i v t hv e
  exact#[WX hz _ this.1,(T2 t).trans this.2]
 .obtain⟨t,_,rfl⟩:=qAH.mp h
  exact Vu t
section
variable {P:Program}{w:World}{K:W.Frag}{mg:Str->Option Value}{base:Heap}{f:Addr}{fd:FuncData}{ps:List Str}{k:Nat}
theorem fnW {CX:CXT}{sp:Sp3}(hs:∀ss R U,sp ss R U->sp (ss.map S.wk) R U) (F:Ap P w K mg base CX k f fd ps (Ae K mg (NL sp))):Ap P w K mg base CX k f fd ps (Ae K mg sp):=F.imp fun _ _ _ _=>Pw hs
theorem XE {kl:Nat}{sp:SpL}(hs:∀a d p ss R U,sp a d p ss R U->sp a d p (ss.map S.wk) R U) (F:M1 P w K mg base k kl f fd ps (fun a d p=>NL (sp a d p))):M1 P w K mg base k kl f fd ps sp :=
 #[fun a d p ss R U h=>by have:=F.len a d p _ R U #[hs _ _ _ _ _ _ h,fun s h=>by obtain⟨t,_,rfl⟩:=qAH.mp h;exact Vu t];rw[qAa] at this;exact this,
  fun A outer s H args us vs Q E a d p hr e0 hb rv hL hh=>F.run A outer s H args us vs Q E a d p hr e0 hb rv hL (Pw (hs a d p) hh)]
end
section
variable {X:Cx}{e a b:Expr}{es:List Expr}{te ta tb:TE3}{tr:TA3}{pos:Pos}
theorem vN (i:Nat){x:Str}(hN:X.N[i]? = some x:=by rfl) (hv:Vis X.env.scope x:=by first|exact Or.inl rfl|exact Or.inr (Or.inl rfl)|exact Or.inr (Or.inr rfl)) (hd:(x==("__debug__":Str))=false:=by decide) (hcd:(x==("__classdict__":Str))=false:=by decide):PE3 X (.Name x pos) (VM i):=V8 (pv i hN hv hd hcd)
theorem vK (i:Nat){x:Str}{n:Int}{j:Nat}{p q:Pos}(hN:X.N[i]? = some x:=by rfl) (hv:Vis X.env.scope x:=by first|exact Or.inl rfl|exact Or.inr (Or.inl rfl)|exact Or.inr (Or.inr rfl)) (hd:(x==("__debug__":Str))=false:=by decide) (hcd:(x==("__classdict__":Str))=false:=by decide):PE3 X (.Subscript (.Name x p) (.Constant (.int n) j q) pos) (vIx (VM i) (vC (.int n))):=A3 (vN i hN hv hd hcd) Ac
theorem a1 (ha:PE3 X e te)(hs:starEach [e] X.env=(false,eval e X.env)::starEach [] X.env:=by exact Dw rfl):PA3 X [e] (PB te VT):=AN ha LG hs
theorem a2 (ha:PE3 X a ta)(hb:PE3 X b tb)(h1:starEach [a,b] X.env=(false,eval a X.env)::starEach [b] X.env:=by exact Dw rfl)(h2:starEach [b] X.env=(false,eval b X.env)::starEach [] X.env:=by exact Dw rfl):PA3 X [a,b] (PB ta (PB tb VT)):=AN ha (AN hb LG h2) h1
theorem Ja {k k':Nat}{x:Str}{ps:List Str}{sp:Sp3}{p:Pos}{U:Str->Prop}(xo:Sf X U) (hr:E9 k' X.A) (c:Cal X.prog X.w X.K X.mg X.base (CXU X.prog X.w) k x ps sp) (ha:PA3 X (e::es) tr) (hk:k<=k':=by decide) (hg:Gl X x:=by exact rfl)
 (hdb:(x==("__debug__":Str))=false:=by decide) (he:starEach (e::es) X.env=(false,eval e X.env)::starEach es X.env:=by exact Dw rfl) (hpl:(backTo pos (starEach es X.env)).any (·.1)=false:=by exact F0 rfl) (hl:X.lent=none\/∀y,¬U y:=by first|exact .inl rfl|exact .inr (fun _ z=>z)) :
 PE3 X (.Call (.Name x p) (e::es) [] pos) (Og U sp tr):=Pz xo c (hr.mono hk) hg ha hdb he hpl hl
theorem Ao {k k':Nat}{x:Str}{ps:List Str}{sp:Sp3}{p:Pos}(hr:E9 k' X.A) (c:Cal X.prog X.w X.K X.mg X.base (CXU X.prog X.w) k x ps sp) (ha:PA3 X (e::es) tr) (hk:k<=k':=by decide) (hg:Gl X x:=by exact rfl)
 (hdb:(x==("__debug__":Str))=false:=by decide) (he:starEach (e::es) X.env=(false,eval e X.env)::starEach es X.env:=by exact Dw rfl) (hpl:(backTo pos (starEach es X.env)).any (·.1)=false:=by exact F0 rfl) :
 PE3 X (.Call (.Name x p) (e::es) [] pos) (Og NoU sp tr):=Pz Ss c (hr.mono hk) hg ha hdb he hpl (.inr fun _ z=>z)
theorem CU {p:Pos}(hm:X.mg "len"=none) (ha:PE3 X e te) (hg:Gl X "len":=by exact rfl) (he:starEach [e] X.env=(false,eval e X.env)::starEach [] X.env:=by exact Dw rfl) (hpl:(backTo pos (starEach [] X.env)).any (·.1)=false:=by exact F0 rfl) :
 PE3 X (.Call (.Name "len" p) [e] [] pos) (vCB Wu (PB te VT)):=Ir Wf hg hm PySem.boot_len (AN ha LG he) ∅ ∅ he hpl
theorem AK (i:Nat){x:Str}{pos':Pos}{ps:List Str}{sc:Scope}(O:Ad X.N ps sc) (he:PE3 X e te) (hi:X.N[i]? = some x:=by rfl) (hx:Loc X.env.scope x:=by first|exact Or.inl rfl|exact Or.inr rfl) (hs:swapsWith e (some (.Name x pos')) pos.line X.env=pure false:=by rfl) (hf:X.fn x=true\/X.env.scope.names.lookup x=some .local:=by first|exact .inl rfl|exact .inr rfl|assumption) (hp:Eg X i:=by first|exact Ec rfl|exact Eu rfl ∅|assumption) :
 PS3 X (.Assign [.Name x pos'] e pos) (VR i te):=WO O.nd hi hx he hs hf hp
theorem Bc (he:PE3 X e te):D5 X [.Return (some e) pos] (Xe te):=Af (Wr he)
theorem Ce {op:CmpOp}{r3:R3}(ho:Hs X (compareOp op) r3) (ha:PE3 X a ta) (hb:PE3 X b tb) (hm:behindInMarks op b=false:=by exact Jj _):PT3 X (.Compare a [op] [b] pos) (SA (vOp r3 ta tb)):=WU ho ha hb hm
end
theorem scN {N P:List Str}{sc:Scope}(h1:(sc.kind=.function/\sc.isCoroutine=false/\sc.isGenerator=false):=by exact#[rfl,rfl,rfl]) (h2:N.take P.length=P:=by rfl) (h3:N.Nodup/\(∀x∈P,sc.names.lookup x=some .local\/sc.names.lookup x=some .cell)/\∀y∈sc.names,y.2≠.free:=by decide +kernel):Ad N P sc:=#[h1.1,h1.2.1,h1.2.2,h3.1,h2,h3.2.1,h3.2.2]
def Bnd (st:Stmt)(n:Str)(ps:List Str):Prop:=∀(kV doc pm:Value)(an:Option Addr)(cdv ct:Value)(us:List Value),us.length=ps.length->bindArgs (W.fnOf n n (Fp st) (B7 st) (Aa st) .none kV doc pm an cdv ct) #[us,[]]=pure (ps.zip us)
section
variable {P:Program}{w:World}{K:W.Frag}{mg:Str->Option Value}{base h:Heap}
theorem mkC (X:K.In h)(G:h.Ns mainGlobals mg){n:Str}{st:Stmt}(r:Rw K n st){k:Nat}{ps:List Str}{sp:Sp3}(ok:∀{f:Addr}{fd:FuncData},Fun K n n st f fd->rA K n f->Ap P w K mg base (CXU P w) k f fd ps (Ae K mg sp))
 (hb:Bnd st n ps:=by(intro _ _ _ _ _ _ us hl;first|(obtain⟨x0,rfl⟩:=Sa hl;rfl)|(obtain⟨x0,x1,rfl⟩:=SZ hl;rfl)|(obtain⟨x0,x1,x2,rfl⟩:=RZ hl;rfl)|(obtain⟨x0,x1,x2,x3,rfl⟩:=RW hl;rfl))):Cal P w K mg base (CXU P w) k n ps sp:=by
 obtain⟨a,l,c,k⟩:=r
 have F:=Mv (st:=st) l c k
 exact#[#[_,_,ok F a,qBE X G a,k,F.binds hb]]
theorem mkL (X:K.In h)(G:h.Ns mainGlobals mg){n:Str}{st:Stmt}(r:Rw K n st){k kl:Nat}{ps:List Str}{sp:SpL}(ok:∀{f:Addr}{fd:FuncData},Fun K n n st f fd->rA K n f->M1 P w K mg base k kl f fd ps sp)
 (hb:Bnd st n ps:=by(intro _ _ _ _ _ _ us hl;first|(obtain⟨x0,rfl⟩:=Sa hl;rfl)|(obtain⟨x0,x1,rfl⟩:=SZ hl;rfl)|(obtain⟨x0,x1,x2,rfl⟩:=RZ hl;rfl)|(obtain⟨x0,x1,x2,x3,rfl⟩:=RW hl;rfl))):W4 P w K mg base k kl n ps sp:=by
 obtain⟨a,l,c,k⟩:=r
 have F:=Mv (st:=st) l c k
 exact#[#[_,_,ok F a,qBE X G a,k,F.binds hb]]
end
section
variable {X:Cx}{e a b:Expr}{te ta tb:TE3}{pos:Pos}
def Xl (i:Nat)(te:TE3):TS3:=fun D3 τ=>match τ[i]? with
 |some (some (S.d (D.int n)))=>te τ fun s=>dd s fun d=>match d with
  |.int j=>D3.nx (τ.set i (some (.d (.int (n+j)))))
  |_=>False
 |_=>False
theorem Mh {i:Nat}{x:Str}{px:Pos}(hN:X.N.Nodup) (hi:X.N[i]? = some x) (hx:Loc X.env.scope x) (he:PE3 X e te) (hf:X.fn x=true\/X.env.scope.names.lookup x=some .local:=by first|exact .inl rfl|exact .inr rfl|assumption) (hp:Eg X i:=by first|exact Ec rfl|exact Eu rfl ∅|assumption) :
 PS3 X (.AugAssign (.Name x px) .Add e pos) (Xl i te):=#[CF (U5 hN hi hx he.out Uc hf) fun D2 σ H hh=>by
 obtain⟨B,z,τ,D3,r,ht,c⟩:=hh
 unfold Xl at ht
 split at ht
 .rename_i n hs
  obtain⟨v,h1,h2⟩:=r.val i _ hs
  have ev:v=.int n:=Is.int_inv h2
  subst ev
  refine#[.int n,h1,B,_,τ,_,r,ht,fun s v q1 e1 i1 f1 h3=>?_]
  obtain⟨d,rfl,h4⟩:=FZ h3
  split at h4
  .rename_i j
   have ev:v=.int j:=Is.int_inv i1
   subst ev
   refine#[n,j,rfl,rfl,?_]
   exact c.nx _ _ _ ((r.mono e1).setd (.int (n+j)) hp) h4
  .exact h4.elim
 .exact ht.elim]
def XS (r3:R3)(ta tb:TE3):TE3:=fun τ R=>ta τ fun x=>tb τ fun y=>dd x.arg fun dx=>dd y.arg fun dy=>r3 dx dy fun d=>R (.d d)
theorem Nx {op:Operator}{r3:R3}(ho:Hs X (binaryOp op) r3) (ha:PE3 X a ta) (hb:PE3 X b tb):PE3 X (.BinOp a op b pos) (XS r3 ta tb):=#[Bs (Uq ho ha.out hb.out) fun σ H Q hh=>by
 obtain⟨B,z,τ,R,r,ht,q⟩:=hh
 refine#[B,z,τ,_,r,ht,fun s v q1 e1 i1 f1 h1=>?_]
 obtain⟨z1,e1',i1'⟩:=Fs e1 i1 f1
 refine#[B,z1,τ,_,r.mono e1',h1,fun s2 v2 q2 e2 i2 f2 h2=>?_]
 obtain⟨z2,e2',i2'⟩:=Fs e2 i2 f2
 obtain⟨dx,ex,h2⟩:=FZ h2
 obtain⟨dy,ey,h2⟩:=FZ h2
 rw[ex] at i1'
 rw[ey] at i2'
 refine#[z2,dx,dy,_,e2'.sub,(show Is X.K z1 v dx from i1').mono e2'.zz,i2',h2,fun d w q3 e3 i3 h3=>?_]
 exact q (.d d) w q3 (e1'.trans (e2'.trans e3)) i3 Gi h3]
end
def Ite (K:W.Frag)(a:Addr):It :=
 #[fun i H=>∃xs x,SqL K H a xs/\xs[i]? = some x,fun i H x H'=>∃p y,H p=none/\x=.ref p/\(∀xs,SqL K H a xs->xs[i]? = some y)/\H'=upd H p (.tup [.int i,y]),fun i H=>∃xs,SqL K H a xs/\xs.length<=i]
theorem PH {P:Program}{w:World}{K:W.Frag}{elts:List Expr}{x1:Nat}{tpos:Pos}(a e it:Addr) (hne:e≠it):Q9 P w K (.Tuple elts x1 tpos) (Ite K a) [e,it] e (fun i h=>(∃old,IsEnum h e it ((i:Nat):Int) old)/\h.IsListIter it a i) where
 mem:=by simp
 obj:=fun i h st b hb=>by
  obtain⟨⟨old,he⟩,hi⟩:=st
  rcases qAk.mp hb with rfl|hb
  .exact#[_,he,fun v z=>by cases z]
  .have:b=it:=by simpa using hb
   subst this
   obtain⟨o,e1,c,d⟩:=hi
   exact#[o,e1,fun v z=>by rw[d] at z;cases z]
 keep:=fun i h h' st k=>#[let #[old,he]:=st.1;#[old,k e (by simp) _ he],st.2.at fun o e1=>k it (by simp) o e1]
 item:=by
  intro X hP hw hK hc i pins s σ H E I hf st hg
  subst hP hw hK
  obtain⟨xs,x,hq,hx⟩:=hg
  obtain⟨its,rv,p,hz⟩:=I.list hq
  obtain⟨u,hu,ru⟩:=rv.get hx
  obtain⟨⟨old,he⟩,hi⟩:=st
  obtain⟨f0,f1,f2,f3,f4,f5⟩:=hf e (by simp)
  obtain⟨g0,g1,g2,g3,g4,g5⟩:=hf it (by simp)
  refine wpAny_pyNext_enum_item he hi p.isList (x:=u) (by simpa using hu) hne fun h1 heo hit1 ht1 hz1 hk1=>#[_,rfl,wpAny_letOwnedTupleGo_enum (s:={ s with heap:=h1,toks:=s.toks+1 }) heo fun h2 he2 hs2=>?_]
  have hs2':Heap.SameBut e h1 h2:=hs2
  have el:e<s.heap.objs.size:=qAi he
  have sz:s.heap.objs.size≠e:=qBl el
  have hn:H s.heap.objs.size=none:=I.hok.fresh (qAe _)
  have old2:∀b o,b≠e->b≠it->s.heap.get? b=some o->h2.get? b=some o:=fun b o n1 n2 z=>(hs2'.2 b n1).trans (hk1 b o n1 n2 z)
  have tup2:h2.get? s.heap.objs.size=some { cls:=.type "tuple",data:=.seq (List.toArray [.int i s.toks,u]) }:=(hs2'.2 _ sz).trans ht1
  have trk:∀{b:Addr}{o:HO},H b=some o->b≠e/\b≠it:=fun {b o} z=>#[(fun y=>by rw[y,f0] at z;cases z),(fun y=>by rw[y,g0] at z;cases z)]
  have hok2:HOk X.prog X.w (upd H s.heap.objs.size (.tup [.int i,x])) h2:=fun b o z=>by
   by_cases hb:b=s.heap.objs.size
   .subst hb
    rw[Aq] at z
    cases z
    exact#[by show 2<=sizeLine;decide,[.int i s.toks,u],.cons #[_,rfl] (.cons ru .nil),#[_,tup2,rfl,_,rfl]]
   .rw[Al hb] at z
    refine(I.hok b o z).stay (hf:=fun c w1 w2 y=>by rw[Al (AA y hn)];exact y) (fun c v hc' y=>?_) (fun c y=>by rw[Al (AA y hn)];exact y) fun c ys y=>by rw[Al (AA y hn)];exact y
    have t:c≠e/\c≠it:=by
     rcases hc' with rfl|hc'
     .exact trk z
     .exact trk hc'
    exact old2 c v t.1 t.2 y
  have I2:Inv X pins σ (upd H s.heap.objs.size (.tup [.int i,x])) { s with heap:=h2,toks:=s.toks+1 }:=by
   refine I.step (g':=s.gens) (d':=s.drawn) (ch:=[e,it]) (fun b hb=>?_) (fun b o _ _ hb z _=>old2 b o (fun y=>hb (by simp[y])) (fun y=>hb (by simp[y])) z) (fun b o _ _ hb z _=>#[o.slots,old2 b o (fun y=>hb (by simp[y])) (fun y=>hb (by simp[y])) z])
    (fun b o _ z n=>by rw[Al (qAq (qAi z))];exact n) (fun b o hb z=>#[o,old2 b o (fun y=>hb (by simp[y])) (fun y=>hb (by simp[y])) z])
    (fun b ys y=>by rw[Al (AA y hn)];exact y) (fun b o ys y=>by rw[Al (AA y hn)];exact y) (fun b ps y=>#[(List.toArray []),by rw[Al (AA y hn),y];simp]) (fun m hm=>?_) hok2 I.bare
   .rcases qAk.mp hb with rfl|hb
    .exact#[f3,f1,f4,f5]
    .have:b=it:=by simpa using hb
     subst this
     exact#[g3,g1,g4,g5]
   .obtain⟨o,es,ep,ho,r⟩:=hm
    exact#[o,es,ep,old2 _ o (Ne.symm f1) (Ne.symm g1) ho,r]
  refine#[.ref s.heap.objs.size,_,I2,rfl,#[_,x,hn,rfl,fun ys hy=>by rw[I.list_inj hy hq];exact hx,rfl],#[#[u,?_],hit1.extBut hs2'.extBut (Ne.symm hne)],fun b hb=>?_]
  .have:((i+1:Nat):Int)=(i:Int)+1:=()
   rw[this]
   exact he2
  .rcases qAk.mp hb with rfl|hb
   .rw[Al (Ne.symm sz)];exact f0
   .have:b=it:=by simpa using hb
    subst this
    obtain⟨o,e1,_⟩:=hi
    rw[Al (qAq (qAi e1))]
    exact g0
 done:=by
  intro X hP hw hK hc i pins s σ H E I hf st hg
  subst hP hw hK
  obtain⟨xs,hq,hx⟩:=hg
  obtain⟨its,rv,p,hz⟩:=I.list hq
  obtain⟨⟨old,he⟩,hi⟩:=st
  obtain⟨g0,g1,g2,g3,g4,g5⟩:=hf it (by simp)
  refine wpAny_pyNext_enum_end (I.ok.hd hc) he hi p.isList (by rw[qBy];rw[qAN,<-rv.length];exact hx) fun h' hx'=>#[rfl,?_]
  exact I.turned (t':=s.toks) (fun b o hb z=>hx' b o hb z) g0 g1 g3 g4 g5
 self:=fun A i s Q E st h=>by
  obtain⟨⟨old,he⟩,_⟩:=st
  exact wpAny_pyIter_enum he h
section
variable {X:Cx}{pos:Pos}
def UA (K:W.Frag)(tl:TE):TI:=fun σ H R=>tl σ H fun x H1=>∃a,x=.ref a/\(∃xs,Rd H1 a (.lst xs))/\R (Ite K a) H1
theorem TR {elts:List Expr}{x1:Nat}{tpos p:Pos}{l:Expr}{tl:TE}(hg:Gl X "enumerate") (hm:X.mg "enumerate"=none) (hl:PE X l tl) (hs:starEach [l] X.env=[(false,eval l X.env)]:=by rfl):PI X (.Tuple elts x1 tpos) (.Call (.Name "enumerate" p) [l] [] pos) (UA X.K tl):=by
 intro pins s σ H R I h
 refine Call_ (GS I hg hm PyProof.Rows.boot_enumerate (qA5 ?_ hs rfl))
 rw[hs]
 refine Calls.spliced_cons (thn (hl pins s σ H _ I h) fun v s1 #[x,H1,I1,r1,q1]=>Calls.spliced_nil ?_)
 obtain⟨a,e,⟨xs,hq⟩,q⟩:=q1
 subst e
 cases r1
 obtain⟨_,its,n,rv,ho⟩:=hq.ok I1.hok
 refine call_enumerate_1 (items:=its.toArray) (n:=n) ho fun h' he hit hz old=>?_
 have I2:Inv X pins σ H1 { s1 with heap:=h' }:=I1.kept (t':=s1.toks) old
 refine wpAny_pyIter_enum (s:={ s1 with heap:=h' }) he ?_
 refine#[s1.heap.objs.size+1,[s1.heap.objs.size+1,s1.heap.objs.size],_,_,H1,rfl,I2,PH a (s1.heap.objs.size+1) s1.heap.objs.size (Nat.succ_ne_self _),#[#[_,he],hit],fun b hb=>?_,q]
 rcases qAk.mp hb with rfl|hb
 .exact I1.fpOk (qBP _) (I1.hok.fresh (qBP _))
 .have:b=s1.heap.objs.size:=by simpa using hb
  subst this
  exact I1.fpOk (qAe _) (I1.hok.fresh (qAe _))
def VE (i1 i2:Nat)(xs:List D)(tb:TS3)(D3:Ks)(τ0:Tau):Prop:=∃I:Nat->Tau->Prop,I 0 τ0 /\
 (∀n τ x,xs[n]? = some x->I n τ->tb { D3 with nx:=I (n+1),ct:=I (n+1),bk:=D3.nx } ((τ.set i1 (some (.d (.int n)))).set i2 (some (.d x))))/\∀τ,I xs.length τ->D3.nx τ
def U3 (j i1 i2:Nat)(tb:TS3):TS3:=fun D3 τ=>match τ[j]? with
 |some (some (.l xs))=>VE i1 i2 xs tb D3 (τ.set j (some (.r xs)))
 |_=>False
theorem Vl {j i1 i2:Nat}{x1 x2 y:Str}{p1 p2 pt py pn pc:Pos}{kt:Nat}{body:List Stmt}{tb:TS3}
 (h:PS X (.For (.Tuple [.Name x1 p1,.Name x2 p2] kt pt) (.Call (.Name "enumerate" pn) [.Name y py] [] pc) body [] pos) (Sw (UA X.K (Pd j)) (VZ X.K 2 (N2 (El i1) (N2 (El i2) VX))) (FS X tb))) (hp1:Eg X i1:=by first|exact Ec rfl|exact Eu rfl ∅|assumption) (hp2:Eg X i2:=by first|exact Ec rfl|exact Eu rfl ∅|assumption) :
 PS3 X (.For (.Tuple [.Name x1 p1,.Name x2 p2] kt pt) (.Call (.Name "enumerate" pn) [.Name y py] [] pc) body [] pos) (U3 j i1 i2 tb):=#[CF h fun D2 σ H hh=>by
 obtain⟨B,z,τ,D3,r,ht,c⟩:=hh
 unfold U3 at ht
 split at ht
 .rename_i xs hs
  obtain⟨v,h1,a,vs,rfl,h3,h4⟩:=r.val j _ hs
  have r':=r.freeze hs rfl
  obtain⟨I,i0,turn,out⟩:=ht
  have hno:∀(m:Nat)(ys:List D),(τ.set j (some (.r xs)))[m]? = some (some (S.l ys))->σ[m]?≠some (some (V.ref a)):=fun m ys hm hσ=>by
   rcases AF hm with⟨rfl,z⟩|⟨hn,hm'⟩
   .cases z
   .have hl:j<τ.length:=(qAd.mp hs).1
    exact r'.sep m j ys (.r xs) a hn hm (by rw[qBs hl]) rfl hσ h1
  have hB:SqL X.K (Lo (τ.set j (some (.r xs))) σ H) a vs:=.inl (.inl (by rw[Hw hno];exact h3))
  refine#[.ref a,h1,a,rfl,#[vs,.inl h3],fun n m σ1 H1=>m=vs.length-n/\n<=vs.length/\∃z1 τ1,Rep X #[Lo (τ.set j (some (.r xs))) σ H,z] τ1 σ1 #[H1,z1]/\I n τ1,#[vs.length,by simp,qA8 _,z,_,r'.inB,i0],?_]
  rintro n m σ1 H1 ⟨rfl,hn,z1,τ1,r1,ih1⟩
  have q:=r1.ext.hh.seq hB
  by_cases hlt:n<vs.length
  .refine .inr #[#[vs,vs[n],q,by simp[hlt]],fun σ' H'=>∃z' τ',Rep X #[Lo (τ.set j (some (.r xs))) σ H,z] τ' σ' #[H',z']/\I (n+1) τ',fun σ' H' p'=>#[vs.length-(n+1),(),rfl,hlt,p'],fun x H' y=>?_]
   obtain⟨p,w,hp,rfl,hy,rfl⟩:=y
   have hw:=hy vs q
   obtain⟨d,hd,id⟩:=DS h4 hw
   have e1:Ext #[H1,z1] #[upd H1 p (.tup [.int n,w]),z1]:=Ext.own r1.ext.sub hp _
   have r2:=r1.mono e1
   refine#[p,[.int n,w],rfl,.inl (.inl Aq),rfl,.int n,[w],rfl,w,[],rfl,rfl,?_]
   exact#[_,_,_,_,(r2.setd (i:=i1) (.int (n:Int)) hp1).setd (i:=i2) (id.mono r1.ext.zz) hp2,turn n τ1 d hd ih1,c.inB r'.leB fun τ' σ' p' r' h'=>#[p'.z,τ',r',h']]
  .have e:n=vs.length:=()
   subst e
   exact .inl #[#[vs,q,qAe _],c.nx _ _ _ (r1.outB r'.leB) (out τ1 (by rw[<-h4.1];exact ih1))]
 .exact ht.elim]
end
section
variable {X:Cx}
theorem Kc {ns:List Int}:∀{its:List Value},B4 (ns.map V.int) its->PyProof.Rows.IntsAre its ns:=by
 induction ns with
 |nil=>intro its h;cases h;exact .nil
 |cons n ns ih =>
  intro its h
  cases h with
  |cons r t =>
   obtain⟨k,rfl⟩:=r
   exact .cons n k (ih t)
theorem FX {vs:List Value}{ns:List Int}(h:PyProof.Rows.IntsAre vs ns):B4 (ns.map V.int) vs:=by
 induction h with
 |nil=>exact .nil
 |cons n t _ ih=>exact .cons #[t,rfl] ih
theorem Pt {vs:List Value}{ns:List Int}(h:PyProof.Rows.IntsAre vs ns):vs.length=ns.length:=by
 induction h with
 |nil=>rfl
 |cons n t _ ih=>rw[qAU,qAU,ih]
theorem Jg {pins:List (Addr×Obj)}{σ:St}{H:Hp}{s:Shared}{Q:VK}{its:List Value}{out:Array Value}{ns:List Int}(I:Inv X pins σ H s) (a1:PyProof.Rows.IntsAre out.toList ns) (hl:ns.length<=sizeLine)
 (q:∀l,H l=none->Q (.ref l) (upd H l (.lst (ns.map V.int)))):EP X pins σ Q (.ref (s.heap.objs.size+1)) { s with heap:=PyProof.Rows.sortedAll s.heap its out }:=by
 obtain⟨e,he⟩:=PyProof.Rows.sortedAll_at s.heap its out
 refine#[.ref (s.heap.objs.size+1),_,I.laid (t':=s.toks) (fun b o=>PyProof.Rows.sortedAll_old) (qBP _) (show C1 X.prog X.w _ _ _ (.lst (ns.map V.int)) from #[by rw[qAa];exact hl,out.toList,e,FX a1,he]),rfl,q _ (I.hok.fresh (qBP _))]
def K6 (X:Cx):List V->Hp->VK->Prop:=fun xs H Q=>∃p ns,xs=[.ref p]/\SqL X.K H p (ns.map V.int)/\ns.length<64/\∀ns':List Int,ns'.Perm ns->∀l,H l=none->Q (.ref l) (upd H l (.lst (ns'.map V.int)))
theorem Lz:HK X (.builtin "sorted") (K6 X):=by
 intro pins s σ H xs us Q I r h
 obtain⟨p,ns,rfl,hq,h64,q⟩:=h
 obtain⟨u,rfl,rx⟩:=K7 r
 cases rx
 obtain⟨its,r',pl,hz⟩:=I.list hq
 have hI:=Kc r'
 refine PyProof.Rows.sorted_ints pl.isList hI (by rw[Pt hI];exact h64) fun out ns' a1 a2 a3=>?_
 exact Jg I a1 (by rw[a2.length_eq];rw[qAa] at hz;exact hz) (q ns' a2)
theorem QO {p pos kpos:Pos}{e:Expr}{t:TA}{b:Bool}{kj:Nat}{kp:Pos}(hg:Gl X "sorted") (hm:X.mg "sorted"=none) (ha:PA X [e] t)
 (he:starEach [e] X.env=(false,eval e X.env)::starEach [] X.env:=by rfl) :
 PE X (.Call (.Name "sorted" p) [e] [#[some "reverse",.Constant (.bool b) kj kp,kpos]] pos) (tCB (K6 X) t):=by
 intro pins s σ H Q I h
 refine wpAny_Call_Name_kw (GS I hg hm qCr ?_ ∅ ∅)
 refine PyProof.Rows.callWith_kw (thn (ha pos pins s σ H _ I h) fun us s1 #[vs,H1,I1,r1,q1]=>?_) (by rw[he];rfl) (by rw[he];rfl)
 refine thn ((Tf UZ Vf:PK X [#[some "reverse",.Constant (.bool b) kj kp,kpos]] _) pos pins s1 σ H1 (fun ws H2=>ws=[V.bl b]/\K6 X vs H2 Q) I1 #[rfl,q1]) fun ws s2 #[zs,H2,I2,rz,ez,q1]=>?_
 subst ez
 obtain⟨w,rfl,rw⟩:=K7 rz
 cases rw
 obtain⟨pp,ns,rfl,hq,h64,q⟩:=q1
 obtain⟨u,rfl,rx⟩:=K7 r1
 cases rx
 obtain⟨its,r',pl,hz⟩:=I2.list hq
 have hI:=Kc r'
 refine PyProof.Rows.sorted_ints_rev pl.isList hI (by rw[Pt hI];exact h64) fun out ns' a1 a2 a3=>?_
 exact Jg I2 a1 (by rw[a2.length_eq];rw[qAa] at hz;exact hz) (q ns' a2)
theorem JY {K:W.Frag}{H:Hp}{vs:List V}{ns:List Int}(h:Iss K H vs (ns.map D.int)):vs=ns.map V.int:=by
 refine qCn fun i=>?_
 have hl:=h.1
 rw[qAa] at hl
 rw[qAc]
 by_cases c:i<vs.length
 .have e:=qAb c
  have e2:ns[i]? = some ns[i]:=qAb ()
  have:=h.2 i vs[i] (.int ns[i]) e (by rw[qAc,e2];rfl)
  rw[e,e2,Is.int_inv this]
  rfl
 .rw[qAN.mpr (),qAN.mpr ()]
  rfl
def PM (te:TE3):TE3:=fun τ R=>te τ fun s=>match W3 s with
 |some xs=>∃ns:List Int,xs=ns.map D.int/\ns.length<64/\∀ns':List Int,ns'.Perm ns->R (.l (ns'.map D.int))
 |none=>False
theorem Qk {e:Expr}{te:TE3}{p pos:Pos}(he:PE3 X e te) (hg:Gl X "sorted") (hm:X.mg "sorted"=none) (hs:starEach [e] X.env=(false,eval e X.env)::starEach [] X.env:=by exact Dw rfl):PE3 X (.Call (.Name "sorted" p) [e] [] pos) (PM te) :=
 #[Bs (VO (Hu Lz hg hm qCr (AX he.out Bt hs) (he:=hs))) fun σ H Q hh=>by
  obtain⟨B,z,τ,R,r,ht,q⟩:=hh
  exact#[B,z,τ,_,r,ht,fun s v q1 e1 i1 f1 h1=>by
   split at h1
   .rename_i xs hx
    obtain⟨ns,rfl,h64,h1⟩:=h1
    obtain⟨a,vs,rfl,g2,g1⟩:=NT i1 e1.sub hx
    have ev:=JY g2
    subst ev
    refine#[a,ns,rfl,g1,h64,fun ns' pm d hd hk=>?_]
    exact q (.l (ns'.map D.int)) _ #[_,q1.z] (e1.trans (Ext.own e1.sub hd _)) #[d,ns'.map V.int,rfl,Aq,JJ ns'] (fun ys a _ h2=>by
     cases h2
     exact#[e1.hh.free hd,hk d _ Aq,e1.sub.free hd]) (h1 ns' pm)
   .exact h1.elim]]
theorem ND {e:Expr}{te:TE3}{p pos kpos kp:Pos}{b:Bool}{kj:Nat}(he:PE3 X e te) (hg:Gl X "sorted") (hm:X.mg "sorted"=none) (hs:starEach [e] X.env=(false,eval e X.env)::starEach [] X.env:=by exact Dw rfl):PE3 X (.Call (.Name "sorted" p) [e] [#[some "reverse",.Constant (.bool b) kj kp,kpos]] pos) (PM te) :=
 #[Bs (VO (QO hg hm (AX he.out Bt hs) hs)) fun σ H Q hh=>by
  obtain⟨B,z,τ,R,r,ht,q⟩:=hh
  exact#[B,z,τ,_,r,ht,fun s v q1 e1 i1 f1 h1=>by
   split at h1
   .rename_i xs hx
    obtain⟨ns,rfl,h64,h1⟩:=h1
    obtain⟨a,vs,rfl,g2,g1⟩:=NT i1 e1.sub hx
    have ev:=JY g2
    subst ev
    refine#[a,ns,rfl,g1,h64,fun ns' pm d hd hk=>?_]
    exact q (.l (ns'.map D.int)) _ #[_,q1.z] (e1.trans (Ext.own e1.sub hd _)) #[d,ns'.map V.int,rfl,Aq,JJ ns'] (fun ys a _ h2=>by
     cases h2
     exact#[e1.hh.free hd,hk d _ Aq,e1.sub.free hd]) (h1 ns' pm)
   .exact h1.elim]]
end
end L3
namespace CH
open PySem L2 L3
def qd (q:Rat):D:=.tup [.int q.num,.int (q.den:Int)]
abbrev tp (a b:Int):D:=.tup [.int a,.int b]
abbrev Cs:=List (Rat×Rat)
def cd (c:Rat×Rat):D:=.tup [qd c.1,qd c.2]
def tt (cs:Cs)(k:Nat):Rat:=(cs.getD k (0,0)).1
def vv (cs:Cs)(k:Nat):Rat:=(cs.getD k (0,0)).2
def slp (cs:Cs)(m:Rat)(k:Nat):Rat:=if k+1<cs.length then (vv cs (k+1)-vv cs k)/(tt cs (k+1)-tt cs k) else m
def Up (cs:Cs):Prop:=∀k,k+1<cs.length->tt cs k<tt cs (k+1)
def SzC (n:Nat)(cs:Cs):Prop:=∀k,k<cs.length->Sz n (tt cs k)/\Sz n (vv cs k)
theorem OG {cs:Cs}{k:Nat}(h:k<cs.length):atI (cs.map cd) (k:Int)=some (.tup [qd (tt cs k),qd (vv cs k)]):=by
 refine atI_nat ?_
 rw[qAc,qAb h]
 unfold tt vv
 rw[qAf,qAb h]
 rfl
theorem atR {o:Option D}{d:D}{F:D->Prop}(e:o=some d) (h:F d):(match (generalizing:=false) o with|some d=>F d|none=>False):=by subst e;exact h
theorem BL {cs:Cs}{i:Int}(k:Nat) (hi:i=(k:Int)) (h:k<cs.length):atI (cs.map cd) i=some (.tup [qd (tt cs k),qd (vv cs k)]):=by subst hi;exact OG h
def L4 (k:Nat)(a b c d:Int):Prop:=a.natAbs<2^k/\b.natAbs<2^k/\c.natAbs<2^k/\d.natAbs<2^k
theorem l4 {k m:Nat}{p q:Rat}(hp:Sz m p) (hq:Sz m q) (h:m<=k):L4 k p.num p.den q.num q.den:=#[Ay hp.1 h,Ay (Ax hp) h,Ay hq.1 h,Ay (Ax hq) h]
def Lb (k:Nat)(a:Int):Prop:=a.natAbs<2^k
theorem BN {cs:Cs}{m:Rat}{k:Nat}(h:k+1<cs.length):slp cs m k=(vv cs (k+1)-vv cs k)/(tt cs (k+1)-tt cs k):=if_pos h
theorem AW {cs:Cs}{m:Rat}{k:Nat}(h:¬k+1<cs.length):slp cs m k=m:=if_neg h
theorem Py (q:Rat):((q.num:Int):Rat)=q*(((q.den:Nat):Int):Rat):=by rw[Rat.intCast_natCast];exact Gh q
theorem FP {a b:Rat}(h:a<b):b-a≠0:=⋯
def crv (cs:Cs)(m:Rat):D:=.tup [.tup (cs.map cd),qd m]
structure Crv (cs:Cs)(m:Rat):Prop where
 ne:0<cs.length
 t0:tt cs 0=0
 v0:0<=vv cs 0
 m0:0<=m
 up:Up cs
 vu:∀k,k+1<cs.length->vv cs k<=vv cs (k+1)
 bend:∀k,k+1<cs.length->slp cs m k≠slp cs m (k+1)
structure SzK (n:Nat)(cs:Cs)(m:Rat):Prop where
 len:cs.length<=100000
 cs:SzC n cs
 m:Sz n m
theorem Uv {q:Rat}(h:0<=q):¬q.num<0:=by have:=Rat.num_nonneg.mpr h;omega
theorem D0 {cs:Cs}{n:Nat}{x:D}(h:(cs.map cd)[n]? = some x):n<cs.length/\x=.tup [qd (tt cs n),qd (vv cs n)]:=by
 have hl:n<cs.length:=by
  have:=(qAd.mp h).1
  rwa [qAa] at this
 have a:=OG hl
 rw[show atI (cs.map cd) (n:Int)=(cs.map cd)[n]? from ?_,h] at a
 .exact#[hl,qAl a]
 .rw[h]
  exact atI_nat h
def kp (cs:Cs)(m:Rat):Nat->Cs
 |0=>[(tt cs 0,vv cs 0)]
 |n+1=>if slp cs m n=slp cs m (n+1) then kp cs m n else kp cs m n++[(tt cs (n+1),vv cs (n+1))]
theorem Pb {cs:Cs}{m:Rat}{n:Nat}(h:¬slp cs m n=slp cs m (n+1)):kp cs m (n+1)=kp cs m n++[(tt cs (n+1),vv cs (n+1))]:=if_neg h
theorem H0 {cs:Cs}{m:Rat}{n:Nat}(h:slp cs m n=slp cs m (n+1)):kp cs m (n+1)=kp cs m n:=if_pos h
theorem L6 (cs:Cs)(m:Rat):∀n,(kp cs m n).length<=n+1
 |0=>qAe _
 |n+1=>by
  have:=L6 cs m n
  by_cases h:slp cs m n=slp cs m (n+1)
  .rw[H0 h];omega
  .rw[Pb h,qAx];simp;omega
theorem M9 {L M:Cs}{k:Nat}(h:k<L.length):tt (L++M) k=tt L k:=by
 unfold tt;rw[qAf,qAf,qAp h]
theorem OR {L M:Cs}{k:Nat}(h:k<L.length):vv (L++M) k=vv L k:=by
 unfold vv;rw[qAf,qAf,qAp h]
theorem PQ {L:Cs}{c:Rat×Rat}:tt (L++[c]) L.length=c.1:=by
 unfold tt;rw[qAf,qAs (qAe _)];simp
theorem RE {L:Cs}{c:Rat×Rat}:vv (L++[c]) L.length=c.2:=by
 unfold vv;rw[qAf,qAs (qAe _)];simp
theorem BB {L:Cs}{c:Rat×Rat}:(L++[c]).length=L.length+1:=by simp
theorem ES {L:Cs}{c:Rat×Rat}{M M':Rat}{i:Nat}(hi:i<L.length) (h:(c.2-vv L (L.length-1))/(c.1-tt L (L.length-1))=M):slp (L++[c]) M' i=slp L M i:=by
 rw[BN (by rw[BB];omega)]
 by_cases e:i+1<L.length
 .rw[BN e,M9 e,M9 hi,OR e,OR hi]
 .rw[AW e,M9 hi,OR hi]
  have e':i+1=L.length:=()
  rw[e',PQ,RE,show i=L.length-1 from ()]
  exact h
theorem Hf {L:Cs}{c:Rat×Rat}{M':Rat}:slp (L++[c]) M' L.length=M':=AW (by rw[BB];omega)
structure Ord (cs:Cs):Prop where
 ne:0<cs.length
 t0:tt cs 0=0
 v0:0<=vv cs 0
 up:Up cs
 vu:∀k,k+1<cs.length->vv cs k<=vv cs (k+1)
theorem Ord.snoc {L:Cs}{c:Rat×Rat}(h:Ord L) (ht:tt L (L.length-1)<c.1) (hv:vv L (L.length-1)<=c.2):Ord (L++[c]):=by
 have n:=h.ne
 refine#[by rw[BB];omega,by rw[M9 n];exact h.t0,by rw[OR n];exact h.v0,fun k hk=>?_,fun k hk=>?_]
 all_goals
  rw[BB] at hk
  by_cases e:k+1<L.length
 .rw[M9 e,M9 ()];exact h.up k e
 .have e':k+1=L.length:=()
  rw[e',PQ,M9 (),show k=L.length-1 from ()];exact ht
 .rw[OR e,OR ()];exact h.vu k e
 .have e':k+1=L.length:=()
  rw[e',RE,OR (),show k=L.length-1 from ()];exact hv
theorem Ord.one {v:Rat}(h:0<=v):Ord [(0,v)]:=#[Nat.one_pos,rfl,h,fun k hk=>by simp at hk,fun k hk=>by simp at hk]
structure Yd (cs:Cs)(m:Rat)(n:Nat)(L:Cs):Prop where
 ord:Ord L
 bend:∀k,k+1<L.length->slp L (slp cs m n) k≠slp L (slp cs m n) (k+1)
 at_:∃j,j<=n/\tt L (L.length-1)=tt cs j/\vv L (L.length-1)=vv cs j/\vv cs n-vv cs j=slp cs m n*(tt cs n-tt cs j)/\tt cs j<=tt cs n/\vv cs j<=vv cs n
theorem seg {a b x y z v w s:Rat}(h1:w-v=s*(b-a)) (h2:(x-w)/(y-b)=s) (h3:b<y):x-v=s*(y-a):=by
 have h4:y-b≠0:=FP h3
 have h5:x-w=s*(y-b):=⋯
 grind
theorem LY {x y s:Rat}(h:x=s*y) (hy:y≠0):x/y=s:=⋯
theorem J6 {cs:Cs}{m:Rat}(o:Ord cs):∀n,n<cs.length->Yd cs m n (kp cs m n)
 |0,h=>#[by
  have e:kp cs m 0=[(0,vv cs 0)]:=by show [(tt cs 0,vv cs 0)]=_;rw[o.t0]
  rw[e];exact Ord.one o.v0,fun k hk=>by simp[kp] at hk,0,qAe _,rfl,rfl,⋯,qAg,qAg]
 |n+1,h=>by
  obtain⟨ko,kb,j,hj,ht,hv,hs,tn,vn⟩:=J6 o n ()
  have u:=o.up n h
  have w:=o.vu n h
  have sn:=BN (m:=m) h
  have g:vv cs (n+1)-vv cs j=slp cs m n*(tt cs (n+1)-tt cs j):=seg (z:=0) hs sn.symm u
  by_cases e:slp cs m n=slp cs m (n+1)
  .rw[H0 e]
   exact#[ko,e ▸ kb,j,(),ht,hv,e ▸ g,⋯,⋯]
  .rw[Pb e]
   have lt:tt cs j<tt cs (n+1):=⋯
   have sl:(vv cs (n+1)-vv (kp cs m n) ((kp cs m n).length-1))/(tt cs (n+1)-tt (kp cs m n) ((kp cs m n).length-1))=slp cs m n:=by
    rw[ht,hv];exact LY g (FP lt)
   have nl:=ko.ne
   refine#[ko.snoc (by rw[ht];exact lt) (by rw[hv];grind),fun k hk=>?_,n+1,qAe _,?_,?_,⋯,qAg,qAg]
   .rw[BB] at hk
    by_cases e1:k+1<(kp cs m n).length
    .rw[ES (c:=(tt cs (n+1),vv cs (n+1))) () sl,ES (c:=(tt cs (n+1),vv cs (n+1))) e1 sl]
     exact kb k e1
    .have e2:k+1=(kp cs m n).length:=()
     rw[ES (c:=(tt cs (n+1),vv cs (n+1))) () sl,AW e1,e2,Hf]
     exact e
   .rw[BB,qBw,PQ]
   .rw[BB,qBw,RE]
theorem Mf {cs:Cs}{m:Rat}(o:Ord cs) (hm:0<=m):Crv (kp cs m (cs.length-1)) m:=by
 have n:=o.ne
 have k:=J6 (m:=m) o (cs.length-1) ()
 have e:slp cs m (cs.length-1)=m:=AW ()
 exact#[k.ord.ne,k.ord.t0,k.ord.v0,hm,k.ord.up,k.ord.vu,by have b:=k.bend;rw[e] at b;exact b]
theorem Uy {lo hi:Int}(c:lo<hi):lo<=(lo+hi)/2/\(lo+hi)/2<hi:=()
theorem XD {a b c:Int}(h:b<c) (h2:a<=b):(b-a).toNat<(c-a).toNat:=()
theorem Xy {m lo:Int}{L:Nat}(h1:0<=lo) (h2:lo<=m){hi:Int}(h3:m<hi) (h4:hi<=L):m.toNat<L:=()
theorem Ek {lo st:Int}{n i:Nat}{x:D}(h:(TY lo st n)[i]? = some x):i<n/\x=.int (lo+i*st):=by
 have hl:i<n:=by
  have:=(qAd.mp h).1
  rwa [BF] at this
 rw[MH hl] at h
 exact#[hl,(qAl h).symm]
theorem fm {a m:Int}(h:0<m):0<=a.fmod m/\a.fmod m<m:=#[qBZ a h,qBU a h]
theorem Te (f:Nat->Int)(n:Nat):((List.range n).map fun i=>some (D.int (f i))).filterMap id=((List.range n).map f).map D.int:=by
 rw[qBu,qBa,<-qB1]
 rfl
theorem Km {a b c:Int}(hc:0<c) (h:a<b):Rat.divInt a c<Rat.divInt b c:=by
 have hc':(0:Rat)<(c:Rat):=qAX.mpr hc
 rw[qAC,qAC,Rat.div_lt_iff hc',qA3 (fun z=>absurd (z ▸ hc') qA0)]
 exact qBb.mpr h
theorem OC {a b c:Int}(hc:0<c) (h:a<=b):Rat.divInt a c<=Rat.divInt b c:=by
 by_cases e:a=b
 .rw[e];exact qAg
 .exact qAy (Km hc ())
theorem Gk {a c:Int}(hc:0<c) (h:0<=a):0<=Rat.divInt a c:=(Rat.divInt_nonneg_iff_of_pos_right hc).mpr h
theorem SzC.one {n:Nat}{v:Rat}(h0:1<=n) (h:Sz n v):SzC n [(0,v)]:=fun k hk=>by
 have:k=0:=by simp at hk;omega
 subst this
 exact#[Sz.zero.mono h0,h]
theorem SzC.mono {n m:Nat}{L:Cs}(h:SzC n L) (hk:n<=m):SzC m L:=fun k hl=>#[(h k hl).1.mono hk,(h k hl).2.mono hk]
theorem FD {ms:List Int}{i:Int}(k:Nat) (hi:i=(k:Int)) (h:k<ms.length):atI (ms.map D.int) i=some (.int (cell ms k)):=by
 subst hi
 exact QL () ()
theorem J1 {a b:Int}{k:Nat}(hb:0<b) (h1:a.natAbs<2^k) (h2:b.natAbs<2^k):Sz k (Rat.divInt a b):=DM () h1 h2
theorem OD {cs:Cs}(j:Nat) (h0:0<j) (h:j<=cs.length):atI (cs.map cd) (-(j:Int))=some (.tup [qd (tt cs (cs.length-j)),qd (vv cs (cs.length-j))]):=by
 have e:=OG (cs:=cs) (k:=cs.length-j) ()
 rw[<-e]
 unfold atI ixN
 rw[qAa,if_neg (),if_pos (),if_pos (),if_pos ()]
 rw[show(-(j:Int)+(cs.length:Int)).toNat=(((cs.length-j:Nat):Int)).toNat from ()]
def plc (cs:Cs)(t:Rat):Nat->Nat
 |0=>0
 |n+1=>if t<tt cs n then plc cs t n else n
theorem Ic {cs:Cs}{t:Rat}(h:0<cs.length):∀n,n<=cs.length->plc cs t n<cs.length
 |0,_=>h
 |n+1,hn=>by
  unfold plc
  split
  .exact Ic h n ()
  .omega
def val (cs:Cs)(m t:Rat):Rat:=vv cs (plc cs t cs.length)+slp cs m (plc cs t cs.length)*(t-tt cs (plc cs t cs.length))
structure Wq (k:Nat)(a b:Int)(q:Rat):Prop where
 pos:0<b
 eq:(a:Rat)=q*b
 la:Lb k a
 lb:Lb k b
theorem Wq.mono {k n:Nat}{a b:Int}{q:Rat}(h:Wq k a b q) (hk:k<=n):Wq n a b q:=#[h.pos,h.eq,Ay h.la hk,Ay h.lb hk]
theorem Wq.of {k:Nat}{q:Rat}(h:Sz k q):Wq k q.num q.den q:=#[by have:=den_pos q;omega,Py q,h.1,Ax h]
theorem Wq.minus {k:Nat}{a b c d:Int}{p q:Rat}(h:Wq k a b p) (g:Wq k c d q):Wq (k+k+1) (a*d-c*b) (b*d) (p-q):=by
 refine#[qA1 h.pos g.pos,?_,FV (Aj h.la g.lb) (Aj g.la h.lb),Ay (Aj h.lb g.lb) ()]
 rw[qBo,qAj,qAj,qAj,h.eq,g.eq]
 grind
theorem Wq.mul {k n:Nat}{a b c d:Int}{p q:Rat}(h:Wq k a b p) (g:Wq n c d q):Wq (k+n) (a*c) (b*d) (p*q):=by
 refine#[qA1 h.pos g.pos,?_,Aj h.la g.la,Aj h.lb g.lb]
 rw[qAj,qAj,h.eq,g.eq]
 grind
theorem Wq.inv {k:Nat}{a b:Int}{q:Rat}(h:Wq k a b q) (hq:0<q):0<a/\Wq k b a (1/q):=by
 have hb:(0:Rat)<(b:Rat):=qAX.mpr h.pos
 have ha:(0:Rat)<(a:Rat):=by rw[h.eq];exact qBB hq hb
 have ha':0<a:=qAX.mp ha
 have q0:q≠0:=fun z=>absurd (z ▸ hq) qA0
 refine#[ha',ha',?_,h.lb,h.la]
 rw[h.eq]
 grind
theorem Wq.lt_iff {k n:Nat}{a b c d:Int}{p q:Rat}(h:Wq k a b p) (g:Wq n c d q):a*d<c*b ↔ p<q:=by
 have hb:(0:Rat)<(b:Rat):=qAX.mpr h.pos
 have hd:(0:Rat)<(d:Rat):=qAX.mpr g.pos
 rw[<-qBb,qAj,qAj,h.eq,g.eq]
 rw[show p*(b:Rat)*(d:Rat)=p*((b:Rat)*d) from ⋯,show q*(d:Rat)*(b:Rat)=q*((b:Rat)*d) from ⋯]
 have hp:=qBB hb hd
 constructor
 .intro e
  by_cases z:p<q
  .exact z
  .exact absurd e (qAM.mpr (Rat.mul_le_mul_of_nonneg_right (qAM.mp z) (qAy hp)))
 .intro e
  exact Rat.mul_lt_mul_of_pos_right e hp
theorem Wq.plus {k n:Nat}{a b c d:Int}{p q:Rat}(h:Wq k a b p) (g:Wq n c d q):Wq (k+n+1) (a*d+c*b) (b*d) (p+q):=by
 refine#[qA1 h.pos g.pos,?_,GO (Aj h.la g.lb) (Ay (Aj g.la h.lb) ()),Ay (Aj h.lb g.lb) ()]
 rw[qBn,qAj,qAj,qAj,h.eq,g.eq]
 grind
theorem Wq.cast {k:Nat}{a b:Int}{p q:Rat}(h:Wq k a b p) (e:p=q):Wq k a b q:=e ▸ h
theorem Wq.l4 {k n:Nat}{a b c d:Int}{p q:Rat}(h:Wq k a b p) (g:Wq k c d q) (hk:k<=n):L4 n a b c d:=#[Ay h.la hk,Ay h.lb hk,Ay g.la hk,Ay g.lb hk]
theorem RM {cs:Cs}{t:Rat}{n:Nat}(h:t<tt cs n):plc cs t (n+1)=plc cs t n:=if_pos h
theorem MN {cs:Cs}{t:Rat}{n:Nat}(h:¬t<tt cs n):plc cs t (n+1)=n:=if_neg h
theorem QU {a b:Rat}(h:a<b):0<b-a:=⋯
def sat (cs:Cs)(m t:Rat):Rat:=slp cs m (plc cs t cs.length)
theorem Vg {L M:Cs}{t:Rat}:∀n,n<=L.length->plc (L++M) t n=plc L t n
 |0,_=>rfl
 |n+1,h=>by
  unfold plc
  rw[M9 (),Vg n ()]
theorem L5 {L:Cs}{c:Rat×Rat}{t:Rat}:plc (L++[c]) t (L++[c]).length=if t<c.1 then plc L t L.length else L.length:=by
 rw[BB]
 conv=>lhs;unfold plc
 rw[PQ,Vg _ (qAe _)]
theorem Mo {L:Cs}{c:Rat×Rat}{M M' t:Rat}(n:0<L.length) (h:(c.2-vv L (L.length-1))/(c.1-tt L (L.length-1))=M):sat (L++[c]) M' t=if t<c.1 then sat L M t else M':=by
 unfold sat
 rw[L5]
 split
 .exact ES (Ic n _ (qAe _)) h
 .exact Hf
theorem MB {L:Cs}{c:Rat×Rat}{M M' t:Rat}(n:0<L.length) (h:(c.2-vv L (L.length-1))/(c.1-tt L (L.length-1))=M):val (L++[c]) M' t=if t<c.1 then val L M t else c.2+M'*(t-c.1):=by
 unfold val
 rw[L5]
 split
 .have p:=Ic (t:=t) n _ (qAe _)
  rw[ES p h,OR p,M9 p]
 .rw[Hf,RE,PQ]
theorem LR {L:Cs}{t:Rat}(n:0<L.length) (h:tt L (L.length-1)<=t):plc L t L.length=L.length-1:=by
 have e:L.length=L.length-1+1:=()
 rw[e,MN (qAM.mpr h),qBw]
theorem LD {L:Cs}{M t:Rat}(n:0<L.length) (h:tt L (L.length-1)<=t):sat L M t=M:=by
 unfold sat
 rw[LR n h,AW ()]
theorem Dt {L:Cs}{M t:Rat}(n:0<L.length) (h:tt L (L.length-1)<=t):val L M t=vv L (L.length-1)+M*(t-tt L (L.length-1)):=by
 unfold val
 rw[LR n h,AW ()]
def pre (cs:Cs)(n:Nat):Cs:=cs.take (n+1)
theorem Ow {cs:Cs}{n:Nat}(h:n<cs.length):(pre cs n).length=n+1:=by unfold pre;rw[qAS];omega
theorem Uh {cs:Cs}{n:Nat}(h:n+1<cs.length):pre cs (n+1)=pre cs n++[(tt cs (n+1),vv cs (n+1))]:=by
 unfold pre tt vv
 rw[List.take_succ,qAb h,qAf,qAb h]
 rfl
theorem VB {cs:Cs}{n k:Nat}(h:n<cs.length) (hk:k<=n):tt (pre cs n) k=tt cs k/\vv (pre cs n) k=vv cs k:=by
 have e:cs=pre cs n++cs.drop (n+1):=(qCB _ _).symm
 have l:=Ow h
 constructor
 .conv=>rhs;rw[e]
  rw[M9 ()]
 .conv=>rhs;rw[e]
  rw[OR ()]
theorem Ti {cs:Cs}(n:0<cs.length):pre cs (cs.length-1)=cs:=by
 unfold pre
 exact qBt ()
theorem NI {cs:Cs}{m:Rat}(o:Ord cs) (t:Rat):∀n,n<cs.length->val (kp cs m n) (slp cs m n) t=val (pre cs n) (slp cs m n) t/\sat (kp cs m n) (slp cs m n) t=sat (pre cs n) (slp cs m n) t
 |0,h=>by
  have e:pre cs 0=kp cs m 0:=by
   cases cs with
   |nil=>exact absurd h (by simp)
   |cons c r=>rfl
  rw[e]
  exact#[rfl,rfl]
 |n+1,h=>by
  obtain⟨iv,is⟩:=NI (m:=m) o t n ()
  have k:=J6 (m:=m) o n ()
  obtain⟨j,hj,ht,hv,hs,tn,vn⟩:=k.at_
  have u:=o.up n h
  have sn:=BN (m:=m) h
  have g:vv cs (n+1)-vv cs j=slp cs m n*(tt cs (n+1)-tt cs j):=seg (z:=0) hs sn.symm u
  have lp:=Ow (cs:=cs) (n:=n) ()
  have pl:=VB (cs:=cs) (n:=n) (k:=n) () (qAe _)
  have sp:(vv cs (n+1)-vv (pre cs n) ((pre cs n).length-1))/(tt cs (n+1)-tt (pre cs n) ((pre cs n).length-1))=slp cs m n:=by
   rw[lp,qBw,pl.1,pl.2,sn]
  rw[Uh h,MB (c:=(tt cs (n+1),vv cs (n+1))) () sp,Mo (c:=(tt cs (n+1),vv cs (n+1))) () sp]
  have lt:tt cs j<tt cs (n+1):=⋯
  by_cases e:slp cs m n=slp cs m (n+1)
  .rw[H0 e,<-e,iv,is]
   by_cases c:t<tt cs (n+1)
   .rw[if_pos c,if_pos c];exact#[rfl,rfl]
   .rw[if_neg c,if_neg c]
    have c':=qAM.mp c
    have en:tt (pre cs n) ((pre cs n).length-1)<=t:=by rw[lp,qBw,pl.1];grind
    rw[Dt () en,LD () en,lp,qBw,pl.1,pl.2]
    refine#[?_,rfl]
    have q:vv cs (n+1)-vv cs n=slp cs m n*(tt cs (n+1)-tt cs n):=by
     have:=FP u
     rw[sn];grind
    show _=vv cs (n+1)+slp cs m n*(t-tt cs (n+1))
    grind
  .have sl:(vv cs (n+1)-vv (kp cs m n) ((kp cs m n).length-1))/(tt cs (n+1)-tt (kp cs m n) ((kp cs m n).length-1))=slp cs m n:=by
    rw[ht,hv];exact LY g (FP lt)
   rw[Pb e,MB (c:=(tt cs (n+1),vv cs (n+1))) k.ord.ne sl,Mo (c:=(tt cs (n+1),vv cs (n+1))) k.ord.ne sl,iv,is]
   exact#[rfl,rfl]
theorem Jf {cs:Cs}{m:Rat}(o:Ord cs) (t:Rat):val (kp cs m (cs.length-1)) m t=val cs m t/\sat (kp cs m (cs.length-1)) m t=sat cs m t:=by
 have n:=o.ne
 have k:=NI (m:=m) o t (cs.length-1) ()
 rw[AW (show ¬cs.length-1+1<cs.length from ()),Ti n] at k
 exact k
theorem Bn {cs:Cs}(u:Up cs){i:Nat}:∀{j:Nat},i<=j->j<cs.length->tt cs i<=tt cs j
 |0,h,_=>by have:i=0:=()
            subst this;exact qAg
 |j+1,h,hl=>by
  by_cases e:i=j+1
  .subst e;exact qAg
  .have:=Bn u (i:=i) (j:=j) () ()
   have:=u j hl
   grind
theorem Ll {cs:Cs}(u:∀k,k+1<cs.length->vv cs k<=vv cs (k+1)){i:Nat}:∀{j:Nat},i<=j->j<cs.length->vv cs i<=vv cs j
 |0,h,_=>by have:i=0:=()
            subst this;exact qAg
 |j+1,h,hl=>by
  by_cases e:i=j+1
  .subst e;exact qAg
  .have:=Ll u (i:=i) (j:=j) () ()
   have:=u j hl
   grind
theorem Hy {cs:Cs}(u:Up cs){t:Rat}{k:Nat}(h1:tt cs k<=t) (h2:k+1<cs.length->t<tt cs (k+1)):∀n,k<n->n<=cs.length->plc cs t n=k
 |0,h,_=>()
 |n+1,h,hn=>by
  by_cases e:n=k
  .subst e;exact MN (qAM.mpr h1)
  .rw[RM,Hy u h1 h2 n () ()]
   have a:=h2 ()
   have b:=Bn u (i:=k+1) (j:=n) () ()
   grind
structure On (cs:Cs)(k:Nat)(t:Rat):Prop where
 lt:k<cs.length
 lo:tt cs k<=t
 hi:k+1<cs.length->t<=tt cs (k+1)
theorem OX {cs:Cs}{m:Rat}(u:Up cs){k:Nat}(h:k+1<cs.length):vv cs (k+1)=vv cs k+slp cs m k*(tt cs (k+1)-tt cs k):=by
 have:=FP (u k h)
 rw[BN h];grind
theorem DD {cs:Cs}{m t:Rat}(u:Up cs){k:Nat}(o:On cs k t):val cs m t=vv cs k+slp cs m k*(t-tt cs k):=by
 have hl:=o.lt
 by_cases e:k+1<cs.length/\t=tt cs (k+1)
 .obtain⟨e1,e2⟩:=e
  have p:plc cs t cs.length=k+1:=Hy u (by rw[e2];exact qAg) (fun h=>by rw[e2];exact u _ h) _ e1 (qAe _)
  unfold val
  rw[p,OX (m:=m) u e1,e2]
  grind
 .have p:plc cs t cs.length=k:=Hy u o.lo (fun h=>by
   have a:=o.hi h
   have b:t≠tt cs (k+1):=fun z=>e #[h,z]
   grind) _ hl (qAe _)
  unfold val
  rw[p]
theorem Wq.sz {k:Nat}{a b:Int}{q:Rat}(h:Wq k a b q):Sz k q:=by
 have hb:(b:Rat)≠0:=fun z=>absurd (qBq.mp z) (qBc h.pos)
 have e:q=Rat.divInt a b:=by
  rw[qAC,h.eq]
  grind
 rw[e]
 exact J1 h.pos h.la h.lb
theorem Wq.div {k n:Nat}{a b c d:Int}{p q:Rat}(h:Wq k a b p) (g:Wq n c d q) (hq:0<q):Wq (k+n) (a*d) (b*c) (p/q):=by
 refine(h.mul (g.inv hq).2).cast ?_
 grind
theorem Ro (p q:Rat):eqN 1 (qd p) (qd q)=decide (p=q):=by
 by_cases h:p=q
 .subst h
  rw[decide_eq_true rfl]
  exact Hc 1 _ rfl
 .rw[decide_eq_false h]
  cases e:eqN 1 (qd p) (qd q) with
  |false=>rfl
  |true =>
   exfalso
   apply h
   have e':((p.num==q.num&&((p.den:Int)==(q.den:Int)&&true))&&true)=true:=e
   rw[qCk,qCk,qAT,beq_iff_eq,beq_iff_eq] at e'
   exact Rat.ext e'.1 (Int.ofNat.inj e'.2)
theorem neT (p q:Rat){A B:Prop}(h1:¬p=q->A) (h2:p=q->B):if (!eqN 1 (qd p) (qd q))=true then A else B:=by
 rw[Ro]
 exact Na h1 h2
theorem eqT (p q:Rat){A B:Prop}(h1:p=q->A) (h2:¬p=q->B):if eqN 1 (qd p) (qd q)=true then A else B:=by
 rw[Ro]
 exact BI h1 h2
def Bgn (cs:Cs):Prop:=0<cs.length/\tt cs 0=0/\0<=vv cs 0
def Ris (cs:Cs)(n:Nat):Prop:=∀k,k<n->k+1<cs.length->tt cs k<tt cs (k+1)/\vv cs k<=vv cs (k+1)
def G7 (cs:Cs)(m:Rat):List Rat:=(List.range cs.length).map (slp cs m)
theorem CS (cs:Cs)(m:Rat):(G7 cs m).length=cs.length:=by unfold G7;rw[qAa,qAr]
theorem atI_nat {α:Type}{xs:List α}{k:Nat}(h:k<xs.length):atI xs (k:Int)=xs[k]? := by
 unfold atI ixN
 rw[if_pos (),if_pos ()]
 simp
theorem Nh {cs:Cs}{m:Rat}{i:Int}(k:Nat) (hi:i=(k:Int)) (h:k<cs.length):atI ((G7 cs m).map qd) i=some (qd (slp cs m k)):=by
 subst hi
 rw[atI_nat (by rw[qAa,CS];exact h)]
 unfold G7
 rw[qAc,qAc,qAE h]
 rfl
theorem L0 (cs:Cs)(m:Rat)(h:0<cs.length):(((List.range (cs.length-1)).map fun i=>some (qd (slp cs m i))).filterMap id)++[qd m]=(G7 cs m).map qd:=by
 have e:((List.range (cs.length-1)).map fun i=>some (qd (slp cs m i))).filterMap id=(List.range (cs.length-1)).map fun i=>qd (slp cs m i):=by
  rw[qBu]
  exact congrFun (qB1 (f:=fun i=>qd (slp cs m i))) _
 rw[e]
 unfold G7
 rw[qBa]
 have e2:cs.length=cs.length-1+1:=()
 conv=>rhs;rw[e2,List.range_succ,qAO]
 show _++[qd m]=_++[qd (slp cs m (cs.length-1))]
 rw[AW (cs:=cs) (m:=m) (k:=cs.length-1) ()]
 rfl
def tOf:D->Rat
 |.tup (.tup [.int a,.int b]::_)=>Rat.divInt a b
 |_=>0
theorem Rx (a b:Rat):tOf (.tup [qd a,qd b])=a:=qCh a
theorem DQ {cs:Cs}{t:Rat}(h0:tt cs 0<=t):∀n,0<n->tt cs (plc cs t n)<=t/\plc cs t n<n/\∀i,plc cs t n<i->i<n->t<tt cs i
 |1,_=>by
  have e:plc cs t 1=0:=by rw[MN (n:=0) (qAM.mpr h0)]
  rw[e]
  exact#[h0,Nat.one_pos,fun i h1 h2=>()]
 |n+2,_=>by
  obtain⟨h1,h2,h3⟩:=DQ h0 (n+1) (Nat.succ_pos n)
  by_cases c:t<tt cs (n+1)
  .rw[RM c]
   refine#[h1,(),fun i i1 i2=>?_]
   by_cases e:i=n+1
   .rw[e];exact c
   .exact h3 i i1 ()
  .rw[MN c]
   exact#[qAM.mp c,(),fun i i1 i2=>()]
theorem Ts {cs:Cs}{t:Rat}(up:Up cs) (h0:tt cs 0<=t){i:Nat}(hi:i<cs.length):(!decide (t<tt cs i))=decide (i<plc cs t cs.length+1):=by
 obtain⟨h1,h2,h3⟩:=DQ h0 cs.length ()
 by_cases c:i<plc cs t cs.length+1
 .rw[decide_eq_true c,decide_eq_false (qAM.mpr (qAL (Bn up (i:=i) (j:=plc cs t cs.length) () h2) h1))]
  rfl
 .rw[decide_eq_false c,decide_eq_true (h3 i () hi)]
  rfl
theorem Rv {a b:Rat}(ha:0<=a) (hb:0<b):0<=a/b:=by
 by_cases h:0<=a/b
 .exact h
 .have h':0 < -(a/b):=⋯
  have:=qBB h' hb
  have e:-(a/b)*b=-a:=⋯
  rw[e] at this
  grind
structure Fe (cs:Cs)(m:Rat):Prop where
 o:Ord cs
 m0:0<=m
theorem HE {cs:Cs}{m:Rat}(r:Fe cs m) (k:Nat):0<=slp cs m k:=by
 by_cases c:k+1<cs.length
 .rw[BN c]
  have h1:=r.o.vu k c
  have h2:=r.o.up k c
  exact Rv ⋯ ⋯
 .rw[AW c];exact r.m0
theorem GP {cs:Cs}(o:Ord cs){t:Rat}(ht:0<=t):On cs (plc cs t cs.length) t:=by
 have n:=o.ne
 obtain⟨h1,h2,h3⟩:=DQ (cs:=cs) (t:=t) (by rw[o.t0];exact ht) cs.length n
 exact#[h2,h1,fun c=>qAy (h3 _ () c)]
theorem Rh {cs:Cs}{m t:Rat}(r:Fe cs m){k:Nat}(hk:k<cs.length) (h:tt cs k<=t):vv cs k<=val cs m t:=by
 have t0:0<=t:=by
  have:=Bn r.o.up (i:=0) (j:=k) () hk
  rw[r.o.t0] at this
  grind
 have n:=r.o.ne
 obtain⟨h1,h2,h3⟩:=DQ (cs:=cs) (t:=t) (by rw[r.o.t0];exact t0) cs.length n
 have kj:k<=plc cs t cs.length:=by
  by_cases c:k<=plc cs t cs.length
  .exact c
  .have:=h3 k () hk
   grind
 have:=Ll r.o.vu kj h2
 have s:=HE r (plc cs t cs.length)
 have p:=qAt s (show 0<=t-tt cs (plc cs t cs.length) from ⋯)
 show vv cs k<=vv cs (plc cs t cs.length)+slp cs m (plc cs t cs.length)*(t-tt cs (plc cs t cs.length))
 grind
theorem Uj {cs:Cs}{m t:Rat}(r:Fe cs m){k:Nat}(hk:k<cs.length) (t0:0<=t) (h:t<=tt cs k):val cs m t<=vv cs k:=by
 have on:=GP r.o t0
 generalize hj:plc cs t cs.length=j at on
 by_cases c:j<k
 .have c1:j+1<cs.length:=()
  have:=Ll r.o.vu (i:=j+1) (j:=k) () hk
  have e:=OX (m:=m) r.o.up c1
  have s:=HE r j
  have p:=qAt s (show 0<=tt cs (j+1)-t by have:=on.hi c1;grind)
  rw[DD r.o.up on]
  grind
 .have e1:=Bn r.o.up (i:=k) (j:=j) () on.lt
  have e2:=on.lo
  have e:t=tt cs k:=⋯
  by_cases c2:j=k
  .subst c2
   rw[DD r.o.up on,e]
   grind
  .have e3:=Bn r.o.up (i:=k+1) (j:=j) () on.lt
   have e4:=r.o.up k (by have:=on.lt;omega)
   grind
theorem CQ {cs:Cs}{m x y:Rat}(r:Fe cs m) (x0:0<=x) (h:x<=y):val cs m x<=val cs m y:=by
 have ox:=GP r.o x0
 have oy:=GP r.o (qAL x0 h)
 by_cases c:plc cs y cs.length<=plc cs x cs.length
 .have e1:=Bn r.o.up c ox.lt
  have oy2:On cs (plc cs x cs.length) y\/plc cs y cs.length<plc cs x cs.length:=by
   by_cases e:plc cs y cs.length=plc cs x cs.length
   .rw[<-e];exact .inl oy
   .exact .inr ()
  rcases oy2 with oy2|oy2
  .rw[DD r.o.up ox,DD r.o.up oy2]
   have s:=HE r (plc cs x cs.length)
   have p:=qAt s (show 0<=y-x from ⋯)
   grind
  .have h3:=(DQ (cs:=cs) (t:=y) (by rw[r.o.t0];exact qAL x0 h) cs.length r.o.ne).2.2 _ oy2 ox.lt
   have:=ox.lo
   grind
 .have c':plc cs x cs.length+1<cs.length:=by have:=oy.lt;omega
  have h1:=Uj (m:=m) r c' x0 (ox.hi c')
  have h2:=Rh (m:=m) (t:=y) r c' (by
   have e3:=Bn r.o.up (i:=plc cs x cs.length+1) (j:=plc cs y cs.length) () oy.lt
   have:=oy.lo
   grind)
  exact qAL h1 h2
def oD:Option Rat->D
 |none=>.non
 |some q=>qd q
theorem E3 {cs:Cs}{m:Rat}(o:Ord cs){k:Nat}(hk:k<cs.length):val cs m (tt cs k)=vv cs k:=by
 rw[DD (k:=k) o.up #[hk,qAg,fun c=>qAy (o.up k c)]]
 grind
theorem Gg {cs:Cs}{m:Rat}(o:Ord cs):val cs m 0=vv cs 0:=by
 have:=E3 (m:=m) o o.ne
 rw[o.t0] at this
 exact this
def T (ts:List Rat)(i:Nat):Rat:=ts.getD i 0
structure Tms (cs ds:Cs)(ts:List Rat):Prop where
 ne:0<ts.length
 t0:T ts 0=0
 up:∀i,i+1<ts.length->T ts i<T ts (i+1)
 a:∀k,k<cs.length->∃i,i<ts.length/\T ts i=tt cs k
 b:∀k,k<ds.length->∃i,i<ts.length/\T ts i=tt ds k
 of:∀i,i<ts.length->(∃k,k<cs.length/\T ts i=tt cs k)\/∃k,k<ds.length/\T ts i=tt ds k
theorem Ji {ts:List Rat}(u:∀i,i+1<ts.length->T ts i<T ts (i+1)){i:Nat}:∀{j:Nat},i<=j->j<ts.length->T ts i<=T ts j
 |0,h,_=>by have:i=0:=()
            subst this;exact qAg
 |j+1,h,hj=>by
  by_cases e:i=j+1
  .subst e;exact qAg
  .have h1:=Ji u (i:=i) (j:=j) () ()
   have h2:=u j hj
   grind
theorem LZ {cs ds:Cs}{ts:List Rat}(t:Tms cs ds ts){i:Nat}(h:i<ts.length):0<=T ts i:=by
 have:=Ji t.up (i:=0) (j:=i) () h
 rw[t.t0] at this
 exact this
theorem Tms.swap {cs ds:Cs}{ts:List Rat}(t:Tms cs ds ts):Tms ds cs ts:=#[t.ne,t.t0,t.up,t.b,t.a,fun i h=>(t.of i h).symm]
theorem L1 {cs ds:Cs}{ts:List Rat}(o:Ord cs) (t:Tms cs ds ts){i:Nat}(hi:i<ts.length){x:Rat}(h1:T ts i<=x) (h2:i+1<ts.length->x<=T ts (i+1)):On cs (plc cs (T ts i) cs.length) x:=by
 have on:=GP o (LZ t hi)
 obtain⟨_,p2,p3⟩:=DQ (cs:=cs) (t:=T ts i) (by rw[o.t0];exact LZ t hi) cs.length o.ne
 refine#[on.lt,by have:=on.lo;grind,fun c=>?_]
 have lt:=p3 _ (qB0 _) c
 obtain⟨j,hj,ej⟩:=t.a _ c
 have ij:i<j:=by
  by_cases z:i<j
  .exact z
  .have:=Ji t.up (i:=j) (j:=i) () hi
   rw[ej] at this
   grind
 have:=h2 ()
 have h3:=Ji t.up (i:=i+1) (j:=j) () hj
 rw[ej] at h3
 grind
theorem G9 {cs ds:Cs}{ts:List Rat}{m:Rat}(o:Ord cs) (t:Tms cs ds ts){i:Nat}(hi:i<ts.length){x:Rat}(h1:T ts i<=x) (h2:i+1<ts.length->x<=T ts (i+1)) :
 val cs m x=val cs m (T ts i)+slp cs m (plc cs (T ts i) cs.length)*(x-T ts i):=by
 rw[DD o.up (L1 o t hi h1 h2),DD o.up (L1 o t hi qAg (fun c=>qAy (t.up i c)))]
 grind
theorem Hx {cs ds:Cs}{ts:List Rat}{m:Rat}(o:Ord cs) (t:Tms cs ds ts):slp cs m (plc cs (T ts (ts.length-1)) cs.length)=m:=by
 have n:=o.ne
 obtain⟨j,hj,ej⟩:=t.a (cs.length-1) ()
 have:=Ji t.up (i:=j) (j:=ts.length-1) () (by have:=t.ne;omega)
 rw[ej] at this
 rw[LR n this]
 exact AW ()
theorem ME {ts:List Rat}(ne:0<ts.length) (t0:T ts 0=0){x:Rat}(x0:0<=x):∃i,i<ts.length/\T ts i<=x/\(i+1<ts.length->x<=T ts (i+1)):=by
 have all:∀n,n<ts.length->T ts n<=x\/∃i,i<ts.length/\T ts i<=x/\(i+1<ts.length->x<=T ts (i+1)):=by
  intro n
  induction n with
  |zero=>intro _;exact .inl (by rw[t0];exact x0)
  |succ n ih =>
   intro h
   rcases ih () with h1|h1
   .by_cases c:T ts (n+1)<=x
    .exact .inl c
    .exact .inr #[n,(),h1,fun _=>⋯]
   .exact .inr h1
 rcases all (ts.length-1) () with h|h
 .exact#[ts.length-1,(),h,fun c=>()]
 .exact h
def gap (cs:Cs)(m:Rat)(ds:Cs)(k:Rat)(x:Rat):Rat:=val cs m x-val ds k x
theorem Rm {cs ds:Cs}{ts:List Rat}{m k:Rat}(o:Ord cs) (p:Ord ds) (t:Tms cs ds ts){i:Nat}(hi:i<ts.length):∃s:Rat,(¬i+1<ts.length->s=m-k)/\∀x,T ts i<=x->(i+1<ts.length->x<=T ts (i+1))->gap cs m ds k x=gap cs m ds k (T ts i)+s*(x-T ts i):=by
 refine#[slp cs m (plc cs (T ts i) cs.length)-slp ds k (plc ds (T ts i) ds.length),fun c=>?_,fun x h1 h2=>?_]
 .have e:i=ts.length-1:=()
  rw[e,Hx o t,Hx p t.swap]
 .unfold gap
  rw[G9 (m:=m) o t hi h1 h2,G9 (m:=k) p t.swap hi h1 h2]
  grind
def Abv (cs:Cs)(m:Rat)(ds:Cs)(k:Rat):Option Rat->Prop
 |none=>∀x,0<=x->val cs m x<=val ds k x
 |some t=>0<=t/\val ds k t<val cs m t
theorem Qa {cs ds:Cs}{ts:List Rat}{m k:Rat}(o:Ord cs) (p:Ord ds) (t:Tms cs ds ts) (h:∀i,i<ts.length->gap cs m ds k (T ts i)<=0) (hl:m-k<=0):Abv cs m ds k none:=fun x x0=>by
 obtain⟨i,hi,h1,h2⟩:=ME t.ne t.t0 x0
 obtain⟨s,s1,s2⟩:=Rm (m:=m) (k:=k) o p t hi
 have g:=s2 x h1 h2
 have gi:=h i hi
 suffices gap cs m ds k x<=0 by unfold gap at this;grind
 by_cases sn:s<=0
 .have:=qAt (show 0<=-s from ⋯) (show 0<=x-T ts i from ⋯)
  grind
 .by_cases c:i+1<ts.length
  .have g2:=s2 _ (qAy (t.up i c)) (fun _=>qAg)
   have gj:=h (i+1) c
   have:=qAt (show 0<=s from ⋯) (show 0<=T ts (i+1)-x by have:=h2 c;grind)
   grind
  .have:=s1 c
   grind
theorem SN {cs ds:Cs}{ts:List Rat}{m k:Rat}(o:Ord cs) (p:Ord ds) (t:Tms cs ds ts) (h:gap cs m ds k (T ts (ts.length-1))<=0) (hl:0<m-k):Abv cs m ds k (some (T ts (ts.length-1)+(0-gap cs m ds k (T ts (ts.length-1)))/(m-k)+1)):=by
 have n:=t.ne
 obtain⟨s,s1,s2⟩:=Rm (m:=m) (k:=k) o p t (i:=ts.length-1) ()
 have es:=s1 ()
 subst es
 have d:=Rv (show 0<=0-gap cs m ds k (T ts (ts.length-1)) from ⋯) hl
 have g:=s2 (T ts (ts.length-1)+(0-gap cs m ds k (T ts (ts.length-1)))/(m-k)+1) ⋯ (fun c=>())
 have t0:=LZ t (i:=ts.length-1) ()
 refine#[⋯,?_]
 have e:(m-k)*(T ts (ts.length-1)+(0-gap cs m ds k (T ts (ts.length-1)))/(m-k)+1-T ts (ts.length-1))=(0-gap cs m ds k (T ts (ts.length-1)))+(m-k):=by
  generalize gap cs m ds k (T ts (ts.length-1))=G
  have hne:m-k≠0:=⋯
  generalize m-k=S at hne
  grind
 rw[e] at g
 have:0<gap cs m ds k (T ts (ts.length-1)+(0-gap cs m ds k (T ts (ts.length-1)))/(m-k)+1):=⋯
 unfold gap at this ⊢
 grind
structure Mrg (cs ds:Cs)(i p:Nat)(ts:List Rat):Prop where
 inc:ts.Pairwise (· < ·)
 of:∀x∈ts,(∃a,a<i/\x=tt cs a)\/∃b,b<p/\x=tt ds b
 a:∀k,k<i->tt cs k∈ts
 b:∀k,k<p->tt ds k∈ts
 lt:∀x∈ts,∀k,p<=k->k<ds.length->x<tt ds k
 len:ts.length<=i+p
theorem Jr {cs:Cs}(u:Up cs){i j:Nat}(h:i<j) (hj:j<cs.length):tt cs i<tt cs j:=by
 have h1:=u i ()
 have h2:=Bn u (i:=i+1) (j:=j) () hj
 grind
theorem Mrg.nil (cs ds:Cs):Mrg cs ds 0 0 []:=#[List.Pairwise.nil,(fun x h=>by cases h),(fun k h=>()),(fun k h=>()),(fun x h=>by cases h),qA8 _]
theorem Mrg.other {cs ds:Cs}{i p:Nat}{ts:List Rat}(g:Mrg cs ds i p ts) (up:Up ds) (hp:p<ds.length) (hi:∀x∈ts,x<tt cs i) (h:tt ds p<tt cs i):Mrg cs ds i (p+1) (ts++[tt ds p])/\∀x∈ts++[tt ds p],x<tt cs i:=by
 refine#[#[?_,fun x hx=>?_,fun k hk=>qAZ _ (g.a k hk),fun k hk=>?_,fun x hx k k1 k2=>?_,by rw[qAx];have:=g.len;simp;omega],fun x hx=>?_]
 .rw[qB9]
  exact#[g.inc,qCv _ _,fun x hx y hy=>by rw[qAz.mp hy];exact g.lt x hx p (qAe _) hp]
 .rcases qAo.mp hx with hx|hx
  .rcases g.of x hx with z|⟨b,hb,e⟩
   .exact .inl z
   .exact .inr #[b,(),e]
  .exact .inr #[p,(),qAz.mp hx]
 .by_cases e:k=p
  .subst e;exact qAw _ (qAz.mpr rfl)
  .exact qAZ _ (g.b k ())
 .rcases qAo.mp hx with hx|hx
  .exact g.lt x hx k () k2
  .rw[qAz.mp hx];exact Jr up () k2
 .rcases qAo.mp hx with hx|hx
  .exact hi x hx
  .rw[qAz.mp hx];exact h
theorem Mrg.one {cs ds:Cs}{i p q:Nat}{ts:List Rat}(g:Mrg cs ds i p ts) (hpq:q=p\/(q=p+1/\p<ds.length/\tt ds p=tt cs i)) (hi:∀x∈ts,x<tt cs i) (hb:∀k,q<=k->k<ds.length->tt cs i<tt ds k):Mrg cs ds (i+1) q (ts++[tt cs i]):=by
 refine#[?_,fun x hx=>?_,fun k hk=>?_,fun k hk=>?_,fun x hx k k1 k2=>?_,?_]
 .rw[qB9]
  exact#[g.inc,qCv _ _,fun x hx y hy=>by rw[qAz.mp hy];exact hi x hx]
 .rcases qAo.mp hx with hx|hx
  .rcases g.of x hx with⟨a,ha,e⟩|⟨b,hb,e⟩
   .exact .inl #[a,(),e]
   .exact .inr #[b,(),e]
  .exact .inl #[i,(),qAz.mp hx]
 .by_cases e:k=i
  .subst e;exact qAw _ (qAz.mpr rfl)
  .exact qAZ _ (g.a k ())
 .by_cases e:k<p
  .exact qAZ _ (g.b k e)
  .rcases hpq with z|⟨z,_,e2⟩
   .omega
   .have:k=p:=()
    subst this
    rw[e2]
    exact qAw _ (qAz.mpr rfl)
 .rcases qAo.mp hx with hx|hx
  .exact g.lt x hx k () k2
  .rw[qAz.mp hx];exact hb k k1 k2
 .rw[qAx]
  have:=g.len
  simp
  omega
theorem LI {ts:List Rat}{i:Nat}(h:i<ts.length):T ts i=ts[i]:=by
 unfold T
 rw[qAf,qAb h]
 rfl
theorem PZ {ts:List Rat}{x:Rat}(h:x∈ts):∃i,i<ts.length/\T ts i=x:=by
 obtain⟨i,hi,e⟩:=qCa.mp h
 exact#[i,hi,by rw[LI hi];exact e]
def rst (ds:Cs)(p:Nat):List Rat:=(ds.drop p).map (·.1)
theorem F6 {ds:Cs}{p j:Nat}(h:p+j<ds.length):(rst ds p)[j]? = some (tt ds (p+j)):=by
 unfold rst
 rw[qAc,qBv,qAb h]
 unfold tt
 rw[qAf,qAb h]
 rfl
theorem Mn {ds:Cs}{p:Nat}{x:Rat}(h:x∈rst ds p):∃k,p<=k/\k<ds.length/\x=tt ds k:=by
 obtain⟨j,hj,e⟩:=qCa.mp h
 have hj':p+j<ds.length:=by unfold rst at hj;rw[qAa,qAR] at hj;omega
 have:=F6 hj'
 rw[qAb hj,e] at this
 exact#[p+j,(),hj',qAl this]
theorem QP {ds:Cs}{p k:Nat}(h:p<=k) (hk:k<ds.length):tt ds k∈rst ds p:=by
 have:=F6 (ds:=ds) (p:=p) (j:=k-p) ()
 rw[show p+(k-p)=k from ()] at this
 exact qAF this
theorem Ux {cs ds:Cs}{p:Nat}{ts:List Rat}(o:Ord cs) (q:Ord ds) (g:Mrg cs ds cs.length p ts) (hp:p<=ds.length):Tms cs ds (ts++rst ds p):=by
 have inc:(ts++rst ds p).Pairwise (· < ·):=by
  rw[qB9]
  refine#[g.inc,?_,fun x hx y hy=>?_]
  .rw[qCo]
   intro i j hi hj hij
   have lr:(rst ds p).length=ds.length-p:=by unfold rst;rw[qAa,qAR]
   have e1:=F6 (ds:=ds) (p:=p) (j:=i) ()
   have e2:=F6 (ds:=ds) (p:=p) (j:=j) ()
   rw[qAb hi] at e1
   rw[qAb hj] at e2
   rw[qAl e1,qAl e2]
   exact Jr q.up () ()
  .obtain⟨k,k1,k2,e⟩:=Mn hy
   rw[e]
   exact g.lt x hx k k1 k2
 have z:tt cs 0∈ts++rst ds p:=qAZ _ (g.a 0 o.ne)
 have ne:0<(ts++rst ds p).length:=qCy z
 have of:∀x∈ts++rst ds p,(∃k,k<cs.length/\x=tt cs k)\/∃k,k<ds.length/\x=tt ds k:=fun x hx=>by
  rcases qAo.mp hx with hx|hx
  .rcases g.of x hx with h|⟨b,hb,e⟩
   .exact .inl h
   .exact .inr #[b,(),e]
  .obtain⟨k,_,k2,e⟩:=Mn hx
   exact .inr #[k,k2,e]
 have up:∀i,i+1<(ts++rst ds p).length->T (ts++rst ds p) i<T (ts++rst ds p) (i+1):=fun i hi=>by
  rw[LI (),LI hi]
  exact qCo.mp inc i (i+1) () hi ()
 refine#[ne,?_,up,fun k hk=>PZ (qAZ _ (g.a k hk)),fun k hk=>?_,fun i hi=>?_]
 .obtain⟨i,hi,e⟩:=PZ z
  rw[o.t0] at e
  have h1:=Ji up (i:=0) (j:=i) () hi
  rw[e] at h1
  have nn:0<=T (ts++rst ds p) 0:=by
   rw[LI ne]
   rcases of _ (qBM ne) with⟨k,hk,ek⟩|⟨k,hk,ek⟩
   .rw[ek];have:=Bn o.up (i:=0) (j:=k) () hk;rw[o.t0] at this;exact this
   .rw[ek];have:=Bn q.up (i:=0) (j:=k) () hk;rw[q.t0] at this;exact this
  grind
 .by_cases c:k<p
  .exact PZ (qAZ _ (g.b k c))
  .exact PZ (qAw _ (QP () hk))
 .rw[LI hi]
  exact of _ (qBM hi)
theorem Jx {ds:Cs}{p:Int}(k:Nat) (hp:p=(k:Int)) (h:k<ds.length):atI ((rst ds 0).map qd) p=some (qd (tt ds k)):=by
 subst hp
 have lr:(rst ds 0).length=ds.length:=by unfold rst;rw[qAa,qAR];omega
 rw[atI_nat (by rw[qAa,lr];exact h),qAc]
 have:=F6 (ds:=ds) (p:=0) (j:=k) ()
 rw[this,Nat.zero_add]
 rfl
theorem Dg (ds:Cs)(p:Nat):(rst ds p).length=ds.length-p:=by unfold rst;rw[qAa,qAR]
theorem P4 {ds:Cs}{p:Nat}(h:p<=ds.length):Hh ((rst ds 0).map qd) (some (p:Int)) none=(rst ds p).map qd:=by
 unfold Hh
 have lr:((rst ds 0).map qd).length=ds.length:=by rw[qAa,Dg];omega
 rw[lr,HT.sIx_nat,HT.sIx_none,qBQ h]
 rw[qBt (by rw[qAR,lr];omega),<-qCl]
 congr 1
 unfold rst
 rw[<-qCl,List.drop_drop,Nat.zero_add]
def rw3 (cs:Cs)(m:Rat)(ds:Cs)(k:Rat)(t:Rat):D:=.tup [qd t,qd (val cs m t),qd (val ds k t)]
def gcs (cs:Cs)(m:Rat)(ds:Cs)(k:Rat)(ts:List Rat):Cs:=ts.map fun t=>(t,gap cs m ds k t)
theorem CK {cs:Cs}{m:Rat}{ds:Cs}{k:Rat}{ts:List Rat}:(gcs cs m ds k ts).length=ts.length:=by unfold gcs;rw[qAa]
theorem B5 {cs:Cs}{m:Rat}{ds:Cs}{k:Rat}{ts:List Rat}{i:Nat}(h:i<ts.length):tt (gcs cs m ds k ts) i=T ts i/\vv (gcs cs m ds k ts) i=gap cs m ds k (T ts i):=by
 have e:(gcs cs m ds k ts).getD i (0,0)=(T ts i,gap cs m ds k (T ts i)):=by
  unfold gcs
  rw[qAf,qAc,qAb h,LI h]
  rfl
 unfold tt vv
 rw[e]
 exact#[rfl,rfl]
theorem Q6 {ts:List Rat}{i:Nat}{t:Rat}(h:ts[i]? = some t):i<ts.length/\T ts i=t:=by
 obtain⟨h1,h2⟩:=qAd.mp h
 exact#[h1,by rw[LI h1];exact h2]
theorem Co {α:Type}{f:α->D}{xs:List α}{i:Nat}{x:D}(h:(xs.map f)[i]? = some x):∃a,xs[i]? = some a/\x=f a:=by
 rw[qAc] at h
 cases e:xs[i]? with
 |none=>rw[e] at h;cases h
 |some a=>rw[e] at h;exact#[a,rfl,(qAl h).symm]
theorem Ey {α:Type}(xs:List α) (f:α->D):(xs.map fun a=>some (f a)).filterMap id=xs.map f:=by
 rw[qBu]
 exact congrFun (qB1 (f:=f)) _
theorem MO {n:Nat}{a b:Int}(hb:0<b) (h1:a.natAbs<2^n) (h2:b.natAbs<2^n):Wq n a b (Rat.divInt a b):=by
 refine#[hb,?_,h1,h2]
 rw[qAC]
 have:(b:Rat)≠0:=by
  intro z
  have:b=0:=by exact_mod_cast z
  omega
 grind
theorem JX {cs ds:Cs}{ts:List Rat}{m k:Rat}(o:Ord cs) (q:Ord ds) (t:Tms cs ds ts){i:Nat}(hi:i<ts.length) :
 (∀x,T ts i<=x->(i+1<ts.length->x<=T ts (i+1))->gap cs m ds k x=gap cs m ds k (T ts i)+slp (gcs cs m ds k ts) (m-k) i*(x-T ts i)) /\
  slp (gcs cs m ds k ts) (m-k) i=slp cs m (plc cs (T ts i) cs.length)-slp ds k (plc ds (T ts i) ds.length):=by
 have main:∀x,T ts i<=x->(i+1<ts.length->x<=T ts (i+1))->gap cs m ds k x=gap cs m ds k (T ts i)+(slp cs m (plc cs (T ts i) cs.length)-slp ds k (plc ds (T ts i) ds.length))*(x-T ts i):=fun x h1 h2=>by
  unfold gap
  rw[G9 (m:=m) o t hi h1 h2,G9 (m:=k) q t.swap hi h1 h2]
  grind
 have e:slp (gcs cs m ds k ts) (m-k) i=slp cs m (plc cs (T ts i) cs.length)-slp ds k (plc ds (T ts i) ds.length):=by
  by_cases c:i+1<ts.length
  .rw[BN (by rw[CK];exact c),(B5 hi).1,(B5 hi).2,(B5 c).1,(B5 c).2]
   have u:=t.up i c
   have g:=main (T ts (i+1)) (qAy u) (fun _=>qAg)
   exact LY ⋯ ⋯
  .rw[AW (by rw[CK];exact c)]
   have e:i=ts.length-1:=()
   rw[e,Hx o t,Hx q t.swap]
 exact#[fun x h1 h2=>by rw[e];exact main x h1 h2,e]
theorem Jd {cs:Cs}{k:Nat}(h:k<cs.length):tt cs k=cs[k].1/\vv cs k=cs[k].2:=by
 unfold tt vv
 rw[qAf,qAb h]
 exact#[rfl,rfl]
theorem Wq.le_iff {k n:Nat}{a b c d:Int}{p q:Rat}(h:Wq k a b p) (g:Wq n c d q):a*d<=c*b ↔ p<=q:=by
 have:=g.lt_iff h
 constructor
 .intro z
  exact qAM.mp (fun y=>absurd (this.mpr y) ())
 .intro z
  exact Int.not_lt.mp (fun y=>absurd (this.mp y) (qAM.mpr z))
theorem U6 {cs:Cs}{m:Rat}:∀k,k<cs.length->∀i,i<(kp cs m k).length->∃j,j<cs.length/\tt (kp cs m k) i=tt cs j
 |0,hk=>fun i hi=>by
  have:i=0:=by simp[kp] at hi;omega
  subst this
  exact#[0,hk,rfl]
 |k+1,hk=>by
  have ih:=U6 (cs:=cs) (m:=m) k ()
  by_cases e:slp cs m k=slp cs m (k+1)
  .rw[H0 e];exact ih
  .rw[Pb e]
   intro i hi
   by_cases c:i<(kp cs m k).length
   .rw[M9 c];exact ih i c
   .rw[BB] at hi
    rw[show i=(kp cs m k).length from (),PQ]
    exact#[k+1,hk,rfl]
theorem Wh {α:Type}{f:α->D}{xs:List α}{h:Nat}(hh:h<=xs.length):Hh (xs.map f) none (some (h:Int))=(xs.take h).map f:=by
 unfold Hh
 rw[HT.sIx_nat,qAa,qBQ hh]
 show((xs.map f).drop 0).take (h-0)=_
 rw[List.drop_zero,Nat.sub_zero,List.map_take]
theorem T9 {α:Type}{f:α->D}{xs:List α}{h:Nat}(hh:h<=xs.length):Hh (xs.map f) (some (h:Int)) none=(xs.drop h).map f:=by
 unfold Hh
 rw[HT.sIx_nat,qAa,qBQ hh]
 show((xs.map f).drop h).take (xs.length-h)=_
 rw[<-qCl,qBt (by rw[qAa,qAR];exact qAe _)]
end CH
namespace L3
open PySem PySem.Spec PyProof.Rows L2
section
variable {X:Cx}
end
end L3
namespace CH
open PySem L2 L3
structure LS (a b c:Nat)(cs:Cs)(m:Rat):Prop where
 tm:∀i,i<cs.length->Sz a (tt cs i)
 sl:∀t,0<=t->Sz b (sat cs m t)
 ic:∀t,0<=t->Sz c (val cs m t-sat cs m t*t)
theorem LS.va {a b c n:Nat}{cs:Cs}{m t:Rat}(z:LS a b c cs m) (t0:0<=t) (ht:Sz n t):Sz (b+n+c+1) (val cs m t):=by
 have h:=(z.ic t t0).add ((z.sl t t0).mul ht)
 rw[show val cs m t-sat cs m t*t+sat cs m t*t=val cs m t from ⋯] at h
 exact h.mono ()
theorem LS.m {a b c:Nat}{cs:Cs}{m:Rat}(z:LS a b c cs m) (o:Ord cs):Sz b m:=by
 have n:=o.ne
 have t0:=Bn o.up (i:=0) (j:=cs.length-1) () ()
 rw[o.t0] at t0
 have:=z.sl _ t0
 rw[LD n qAg] at this
 exact this
theorem LS.szk {a b c n:Nat}{cs:Cs}{m:Rat}(z:LS a b c cs m) (o:Ord cs) (hl:cs.length<=100000) (h:a+b+c+1<=n):SzK n cs m:=by
 refine#[hl,fun i hi=>?_,(z.m o).mono ()]
 have t0:=Bn o.up (i:=0) (j:=i) () hi
 rw[o.t0] at t0
 have:=z.va t0 (z.tm i hi)
 rw[E3 o hi] at this
 exact#[(z.tm i hi).mono (),this.mono ()]
theorem LS.mono {a b c a' b' c':Nat}{cs:Cs}{m:Rat}(z:LS a b c cs m) (h1:a<=a') (h2:b<=b') (h3:c<=c'):LS a' b' c' cs m :=
 #[fun i hi=>(z.tm i hi).mono h1,fun t t0=>(z.sl t t0).mono h2,fun t t0=>(z.ic t t0).mono h3]
theorem LS.kept {a b c:Nat}{cs:Cs}{m:Rat}(z:LS a b c cs m) (o:Ord cs):LS a b c (kp cs m (cs.length-1)) m:=by
 have n:=o.ne
 refine#[fun i hi=>?_,fun t t0=>by rw[(Jf o t).2];exact z.sl t t0,fun t t0=>by rw[(Jf o t).1,(Jf o t).2];exact z.ic t t0]
 obtain⟨j,hj,e⟩:=U6 (cs:=cs) (m:=m) _ () i hi
 rw[e];exact z.tm j hj
theorem O6 {f0 g0 m k a:Rat}(h:∀x,a<=x->f0+m*(x-a)<=g0+k*(x-a)):m<=k:=by
 refine qAM.mp fun c=>?_
 have h0:=h a qAg
 have d0:0<m-k:=⋯
 have q0:0<=(g0-f0)/(m-k):=by
  rw[Rat.div_def]
  exact qAt ⋯ (qAy (Rat.inv_pos.mpr d0))
 have:=h (a+(g0-f0)/(m-k)+1) ⋯
 have e:(m-k)*((g0-f0)/(m-k))=g0-f0:=by
  have:m-k≠0:=⋯
  grind
 generalize (g0-f0)/(m-k)=y at *
 grind
section
variable {op:Rat->Rat->Rat}{cs ds:Cs}{m k:Rat}{us:List Rat}
end
def Ln (p g:Nat)(C:Cs)(M:Rat):Prop:=∀i,i<C.length->Sz p (slp C M i)/\Sz g (vv C i-slp C M i*tt C i)
theorem Ln.one {p g:Nat}{c:Rat×Rat}{M:Rat}(h1:Sz p M) (h2:Sz g (c.2-M*c.1)):Ln p g [c] M:=fun i hi=>by
 have:i=0:=by have:i<1:=hi;omega
 subst this
 rw[AW (by show ¬0+1<1;decide)]
 exact#[h1,h2]
theorem Ln.snoc {p g:Nat}{C:Cs}{c:Rat×Rat}{M M':Rat}(a:Ln p g C M) (h:(c.2-vv C (C.length-1))/(c.1-tt C (C.length-1))=M) (h1:Sz p M') (h2:Sz g (c.2-M'*c.1)):Ln p g (C++[c]) M':=fun i hi=>by
 rw[BB] at hi
 by_cases e:i<C.length
 .rw[ES e h,M9 e,OR e]
  exact a i e
 .have:i=C.length:=()
  subst this
  rw[Hf,PQ,RE]
  exact#[h1,h2]
theorem Ln.ls {a p g:Nat}{C:Cs}{M:Rat}(n:Ln p g C M) (o:Ord C) (ht:∀i,i<C.length->Sz a (tt C i)):LS a p g C M:=by
 refine#[ht,fun t t0=>?_,fun t t0=>?_]
 .exact(n _ (GP o t0).lt).1
 .have on:=GP o t0
  have ev:val C M t=vv C (plc C t C.length)+slp C M (plc C t C.length)*(t-tt C (plc C t C.length)):=rfl
  have es:sat C M t=slp C M (plc C t C.length):=rfl
  generalize plc C t C.length=j at on ev es
  have z:=(n j on.lt).2
  rw[ev,es]
  rw[show vv C j+slp C M j*(t-tt C j)-slp C M j*t=vv C j-slp C M j*tt C j from ⋯]
  exact z
section
variable {a b c a2 b2 c2:Nat}{cs ds:Cs}{m k:Rat}
theorem O9 (z1:LS a b c cs m)(z2:LS a2 b2 c2 ds k){t:Rat}(t0:0<=t):Sz (c+c2+1) (gap cs m ds k t-(sat cs m t-sat ds k t)*t):=by
 have q:=(z1.ic t t0).sub (z2.ic t t0)
 have e:(val cs m t-sat cs m t*t)-(val ds k t-sat ds k t*t)=gap cs m ds k t-(sat cs m t-sat ds k t)*t:=by unfold gap;grind
 rw[e] at q
 exact q
theorem UP (z1:LS a b c cs m)(z2:LS a2 b2 c2 ds k){t:Rat}{n:Nat}(t0:0<=t) (ht:Sz n t):Sz (b+b2+c+c2+n+3) (gap cs m ds k t):=by
 have q:=(O9 z1 z2 t0).add (((z1.sl t t0).sub (z2.sl t t0)).mul ht)
 rw[show gap cs m ds k t-(sat cs m t-sat ds k t)*t+(sat cs m t-sat ds k t)*t=gap cs m ds k t from ⋯] at q
 exact q.mono ()
theorem QR (z1:LS a b c cs m)(z2:LS a2 b2 c2 ds k){t B:Rat}{n:Nat}(t0:0<=t) (hB:Sz n B) (s0:sat cs m t-sat ds k t≠0):Sz (n+(b+b2+c+c2+3)) (t+(B-gap cs m ds k t)/(sat cs m t-sat ds k t)):=by
 have q:=(hB.sub (O9 z1 z2 t0)).div ((z1.sl t t0).sub (z2.sl t t0)) s0
 have e:t+(B-gap cs m ds k t)/(sat cs m t-sat ds k t)=(B-(gap cs m ds k t-(sat cs m t-sat ds k t)*t))/(sat cs m t-sat ds k t):=by
  generalize sat cs m t-sat ds k t=s at *
  generalize gap cs m ds k t=G at *
  grind
 rw[e]
 exact q.mono ()
end
end CH
namespace L3
open PySem PySem.Spec PyProof.Rows L2
section
variable {X:L2.Cx}{e1 e2:Expr}{ti te:TE3}{pos:Pos}
end
end L3
namespace CH
open PySem L2 L3
section
variable {a b c a2 b2 c2:Nat}{cs ds:Cs}{m k:Rat}{ts:List Rat}
theorem S3 (o:Ord cs)(p:Ord ds)(t:Tms cs ds ts)(inc:∀x y,0<=x->x<=y->gap cs m ds k x<=gap cs m ds k y)(g0:0<=gap cs m ds k 0):Ord (gcs cs m ds k ts):=by
 have n:=t.ne
 refine#[by rw[CK];exact n,by rw[(B5 n).1];exact t.t0,by rw[(B5 n).2,t.t0];exact g0,fun i hi=>?_,fun i hi=>?_]
 .rw[CK] at hi
  rw[(B5 (show i<ts.length from ())).1,(B5 hi).1];exact t.up i hi
 .rw[CK] at hi
  have i0:i<ts.length:=()
  rw[(B5 i0).2,(B5 hi).2]
  exact inc _ _ (LZ t i0) (qAy (t.up i hi))
theorem QK (o:Ord cs)(p:Ord ds)(t:Tms cs ds ts)(inc:∀x y,0<=x->x<=y->gap cs m ds k x<=gap cs m ds k y):0<=m-k:=by
 have n:=t.ne
 have hi:ts.length-1<ts.length:=()
 obtain⟨l1,l2⟩:=JX (m:=m) (k:=k) o p t hi
 rw[AW (by rw[CK];omega)] at l1
 have t0:=LZ t hi
 have e:=l1 (T ts (ts.length-1)+1) ⋯ (fun z=>absurd z ())
 have:=inc (T ts (ts.length-1)) (T ts (ts.length-1)+1) t0 ⋯
 grind
theorem S9 (o:Ord cs)(p:Ord ds)(t:Tms cs ds ts)(O:Ord (gcs cs m ds k ts)){x:Rat}(x0:0<=x):val (gcs cs m ds k ts) (m-k) x=gap cs m ds k x:=by
 obtain⟨i,hi,h1,h2⟩:=ME t.ne t.t0 x0
 have on:On (gcs cs m ds k ts) i x:=#[by rw[CK];exact hi,by rw[(B5 hi).1];exact h1,fun z=>by rw[CK] at z;rw[(B5 z).1];exact h2 z]
 rw[DD O.up on,(B5 hi).1,(B5 hi).2,(JX (m:=m) (k:=k) o p t hi).1 x h1 h2]
theorem Vn (o:Ord cs)(p:Ord ds)(t:Tms cs ds ts)(O:Ord (gcs cs m ds k ts))(z1:LS a b c cs m)(z2:LS a2 b2 c2 ds k){n:Nat}(h1:a<=n) (h2:a2<=n):LS n (b+b2+1) (c+c2+1) (gcs cs m ds k ts) (m-k):=by
 refine Ln.ls (fun i hi=>?_) O (fun i hi=>?_)
 .rw[CK] at hi
  have t0:=LZ t hi
  have es:slp (gcs cs m ds k ts) (m-k) i=sat cs m (T ts i)-sat ds k (T ts i):=(JX (m:=m) (k:=k) o p t hi).2
  rw[es,(B5 hi).1,(B5 hi).2]
  exact#[(z1.sl _ t0).sub (z2.sl _ t0),O9 z1 z2 t0]
 .rw[CK] at hi
  rw[(B5 hi).1]
  rcases t.of i hi with⟨j,hj,e⟩|⟨j,hj,e⟩
  .rw[e];exact(z1.tm j hj).mono h1
  .rw[e];exact(z2.tm j hj).mono h2
end
theorem LS.ln {a b c:Nat}{cs:Cs}{m:Rat}(z:LS a b c cs m) (o:Ord cs):Ln b c cs m:=fun i hi=>by
 have t0:0<=tt cs i:=by
  have:=Bn o.up (i:=0) (j:=i) () hi
  rw[o.t0] at this
  exact this
 have e:sat cs m (tt cs i)=slp cs m i:=by
  unfold sat
  rw[Hy o.up (k:=i) qAg (fun h=>o.up i h) _ hi (qAe _)]
 have z1:=z.sl _ t0
 have z2:=z.ic _ t0
 rw[e] at z1 z2
 rw[E3 o hi] at z2
 exact#[z1,z2]
section
variable {h:Rat->Rat}{ts:List Rat}{S:Nat->Rat}{a b c g X:Nat}
end
end CH
namespace L3
open PySem PySem.Spec PyProof.Rows L2
section
variable {X:L2.Cx}{x:Str}{px pos:Pos}{scope:Scope}{N:List Str}{idx:List Nat}{elt iter:Expr}{ifs:List Expr}{wi:TI}{ws:TX3}{tt:TT3}{te:TE3}
end
section
variable {X:L2.Cx}{pos:Pos}
end
abbrev SpM:=List D->List D->(List D->Prop)->Prop
noncomputable def Nr (a:Addr)(H:Hp):Hp:=fun b=>if b=a then none else H b
theorem TV {a:Addr}{H:Hp}:Bk (Nr a H) H:=fun b o h=>by
 unfold Nr at h
 split at h
 .cases h
 .exact h
theorem HM {a b:Addr}{H:Hp}(h:b≠a):Nr a H b=H b:=if_neg h
theorem S7 {a:Addr}{H:Hp}:Nr a H a=none:=if_pos rfl
def Nn (K:W.Frag)(sp:SpM):Sp:=fun vs H Q _=>∃(z:Hp)(a:Addr)(ws vs0:List V)(xs0 ds:List D)(R:List D->Prop),
 vs=.ref a::ws/\Bk z H/\z a=none/\K.lookup a=none/\H a=some (.lst vs0)/\Iss K z vs0 xs0/\Iss K z ws ds/\sp xs0 ds R /\
 ∀(q:HZ)(vs1:List V)(xs1:List D),Ext #[Nr a H,z] q->q.h a=some (.lst vs1)->q.z a=none->Iss K q.z vs1 xs1->R xs1->Q .non q.h
def MZ (X:Cx)(a:Addr):Cx:={ X with lent:=some (0,a) }
section
variable {X:Cx}{pins:List (Addr×Obj)}{σ:St}{H H':Hp}{s s':Shared}{a:Addr}
theorem Q4 (I:Inv X pins σ H s):Inv (MZ X a) pins σ H s :=
 #[#[I.ok.mod,I.ok.kind,I.ok.glob,I.ok.blt,I.ok.above,I.ok.inj,I.ok.has,I.ok.cab,I.ok.hd,I.ok.frames,I.ok.stk,I.ok.exf,I.ok.bs,I.ok.bsz,I.ok.noex,I.ok.exfs,I.ok.funs,I.ok.frf,I.ok.tb],I.os,I.bare,I.base,I.loc,I.cell,I.free,I.freeC,I.pin,I.hok,I.len]
theorem EV (I:Inv (MZ X a) pins σ H s):Inv X pins σ H s :=
 #[#[I.ok.mod,I.ok.kind,I.ok.glob,I.ok.blt,I.ok.above,I.ok.inj,I.ok.has,I.ok.cab,I.ok.hd,I.ok.frames,I.ok.stk,I.ok.exf,I.ok.bs,I.ok.bsz,I.ok.noex,I.ok.exfs,I.ok.funs,I.ok.frf,I.ok.tb],I.os,I.bare,I.base,I.loc,I.cell,I.free,I.freeC,I.pin,I.hok,I.len]
theorem NZ {D2:M7}{f:Flow}(h:SP (MZ X a) pins D2 f s):SP X pins D2 f s:=by
 cases f with
 |next=>obtain⟨σ',H',I',q⟩:=h;exact#[σ',H',EV I',q]
 |cont=>obtain⟨σ',H',I',q⟩:=h;exact#[σ',H',EV I',q]
 |brk=>obtain⟨σ',H',I',q⟩:=h;exact#[σ',H',EV I',q]
 |ret v=>obtain⟨x,σ',H',I',r,q⟩:=h;exact#[x,σ',H',EV I',r,q]
theorem QI {st:List Stmt}{t:TS}(h:PSs (MZ X a) st t):PSs X st t:=fun pins s σ H D I q =>
 thn (h pins s σ H D (Q4 I) q) fun f s1 h1=>NZ h1
theorem QG {N:List Str}{ws vs0:List V}{xs0 ds:List D}{z:Hp}(hz:Bk z H) (hza:z a=none) (hk:X.K.lookup a=none) (hv:H a=some (.lst vs0)) (iv:Iss X.K z vs0 xs0) (iw:Iss X.K z ws ds) :
 Rep (MZ X a) #[Nr a H,z] (Cf N (.l xs0::ds.map S.d)) (L2.start N (.ref a::ws)) #[H,z]:=by
 have len:(V.ref a::ws).length=(S.l xs0::ds.map S.d).length:=by simp[iw.1]
 have st:∀(i:Nat)(s:S),(Cf N (.l xs0::ds.map S.d))[i]? = some (some s)->(S.l xs0::ds.map S.d)[i]? = some s:=fun i s h=>H4 h
 have sg:∀(i:Nat)(v:V),(V.ref a::ws)[i]? = some v->(L2.start N (.ref a::ws))[i]? = some (some v):=fun i v h=>by
  have hi:=(qAd.mp h).1
  unfold L2.start
  rw[qAp (by simpa using hi),qAc,h]
  rfl
 have onlyl:∀(i:Nat)(s:S),(S.l xs0::ds.map S.d)[i]? = some s->s.isL=true->i=0:=fun i s h hl=>by
  cases i with
  |zero=>rfl
  |succ i =>
   rw[qBD,qAc] at h
   cases e:ds[i]? with
   |none=>rw[e] at h;cases h
   |some d=>rw[e] at h;cases h;cases hl
 refine#[by unfold L2.start Cf;simp[iw.1],#[TV,Bk.refl _,hz,fun _ _ e=>.inl e],fun i s h=>?_,fun i xs c h1 h2=>?_,fun i j xs s c hij h1 h2 hs h3=>?_,(fun h=>by cases h),fun i c h=>?_]
 .have h':=st i s h
  cases i with
  |zero =>
   cases h'
   exact#[.ref a,sg 0 _ rfl,a,vs0,rfl,hv,iv]
  |succ i =>
   rw[qBD,qAc] at h'
   cases e:ds[i]? with
   |none=>rw[e] at h';cases h'
   |some d =>
    rw[e] at h'
    cases h'
    have hi:=(qAd.mp e).1
    have hw:ws[i]? = some (ws[i]'(by rw[iw.1];exact hi)):=qAb (by rw[iw.1];exact hi)
    exact#[_,sg (i+1) _ (by rw[qBD];exact hw),iw.2 i _ d hw e]
 .have e0:=onlyl i _ (st i _ h1) rfl
  subst e0
  have:=sg 0 (.ref a) rfl
  rw[h2] at this
  cases this
  exact#[S7,hk,hza]
 .have e1:=onlyl i _ (st i _ h1) rfl
  have e2:=onlyl j _ (st j _ h2) hs
  exact absurd (e1.trans e2.symm) hij
 .cases h
  exact sg 0 _ rfl
end
section
variable {P:Program}{w:World}{K:W.Frag}{mg:Str->Option Value}{base:Heap}
theorem fnM {x qual:Str}{st:Stmt}{f:Addr}{fd:FuncData}{N ps:List Str}{k:Nat}{sp:SpM}(F:Fun K x qual st f fd) (Sc:Ad N ps (Aa st)) (len:∀xs ds R,sp xs ds R->ds.length+1=ps.length)
 (hbody:∀(cdv:Value)(A:Around)(outer:List Env)(s:Shared)(H:Hp)(E:XK)(a:Addr)(xs ds:List D)(R:List D->Prop),E9 k (A.deeper (envOfC qual (Aa st) s.heap.objs.size f cdv))->sp xs ds R ->
  ∃t,D5 (MZ (KR CX0 P w K mg base N qual (Aa st) f cdv A outer s H E).nox a) (B7 st) t/\t { nx:=fun τ=>∃ys,τ[0]? = some (some (.l ys))/\R ys,rt:=fun _=>False } (Cf N (.l xs::ds.map S.d))):Ap P w K mg base CX0 (k+1) f fd ps (Nn K sp):=by
 refine F.ok Sc (fun vs H Q E hh=>by obtain⟨z,a,ws,vs0,xs0,ds,R,rfl,_,_,_,_,_,iw,h3,_⟩:=hh;rw[qAU,iw.1];exact len _ _ _ h3) fun cdv A outer s H vs Q E hr hh=>?_
 obtain⟨z,a,ws,vs0,xs0,ds,R,rfl,hz,hza,hk,hv,iv,iw,h3,q⟩:=hh
 obtain⟨t,ht,hq⟩:=hbody cdv A outer s H E a xs0 ds R hr h3
 refine#[_,QI ht.out,#[Nr a H,z],z,Cf N (.l xs0::ds.map S.d),_,QG hz hza hk hv iv iw,hq,#[fun τ σ p r h=>?_,fun _ _ _ _ z=>z.elim,fun _ _ _ _ z=>z.elim,fun s v p e i f h=>h.elim]]
 obtain⟨ys,hy,hR⟩:=h
 have pn:=r.pin 0 a rfl
 obtain⟨vs1,e1,e2⟩:=r.own_list hy pn
 exact q p vs1 ys r.ext e1 (r.own 0 ys a hy pn).2.2 e2 hR
end
structure VL (P:Program)(w:World)(K:W.Frag)(mg:Str->Option Value)(base:Heap)(k:Nat)(x:Str)(ps:List Str)(sp:SpM):Prop where
 ex:∃f fd,Ap P w K mg base CX0 k f fd ps (Nn K sp)/\mg x=some (.ref f)/\W.keepIn K (.ref f)=true/\L2.Binds K fd ps []
theorem mkM {P:Program}{w:World}{K:W.Frag}{mg:Str->Option Value}{base h:Heap}(X:K.In h) (G:h.Ns mainGlobals mg){n:Str}{st:Stmt}(r:Rw K n st){k:Nat}{ps:List Str}{sp:SpM}(ok:∀{f:Addr}{fd:FuncData},L2.Fun K n n st f fd->rA K n f->Ap P w K mg base CX0 k f fd ps (Nn K sp))
 (hb:Bnd st n ps:=by(intro _ _ _ _ _ _ us hl;first|(obtain⟨x0,rfl⟩:=Sa hl;rfl)|(obtain⟨x0,x1,rfl⟩:=SZ hl;rfl)|(obtain⟨x0,x1,x2,rfl⟩:=RZ hl;rfl)|(obtain⟨x0,x1,x2,x3,rfl⟩:=RW hl;rfl))):VL P w K mg base k n ps sp:=by
 obtain⟨a,l,c,k⟩:=r
 have F:=Mv (st:=st) l c k
 exact#[#[_,_,ok F a,qBE X G a,k,F.binds hb]]
section
variable {X:Cx}{e:Expr}{es:List Expr}{tr:TA3}
theorem SM {K:W.Frag}{H:Hp}{a c:Addr}{vs:List V}(h:SqL K H c vs) (n:c≠a):SqL K (Nr a H) c vs:=by
 rcases h with (h|⟨o,h⟩)|h
 .exact .inl (.inl (by rw[HM n];exact h))
 .exact .inl (.inr #[o,by rw[HM n];exact h])
 .exact .inr h
theorem Rep.grown {B p q:HZ}{τ:Tau}{σ:St}{j:Nat}{a:Addr}{xs xs1:List D}{vs1:List V}(r:Rep X B τ σ p) (hj:τ[j]? = some (some (.l xs))) (hσ:σ[j]? = some (some (.ref a))) (e:Ext #[Nr a p.h,p.z] q) (hq:q.h a=some (.lst vs1)) (hz:q.z a=none) (hi:Iss X.K q.z vs1 xs1) :
 Rep X B (τ.set j (some (.l xs1))) σ q:=by
 obtain⟨o1,o2,o3⟩:=r.own j xs a hj hσ
 have up:∀b o,B.h b=some o->Nr a p.h b=some o:=fun b o h=>by
  have:b≠a:=fun z=>by rw[z,o1] at h;cases h
  rw[HM this]
  exact r.ext.hh b o h
 have apart:∀(i:Nat)(s:S)(c:Addr),i≠j->τ[i]? = some (some s)->s.isL=true->σ[i]? = some (some (.ref c))->c≠a:=fun i s c hn h1 h2 h3 z=>by
  rw[z] at h3
  exact r.sep j i xs s a (fun z=>hn z.symm) hj h1 h2 hσ h3
 refine#[by simp[r.len],#[fun b o h=>e.hh b o (up b o h),r.ext.zz.trans e.zz,e.sub,fun b o h=>?_],fun i s h=>?_,fun i ys c h1 h2=>?_,fun i k ys s c hik h1 h2 hs h3=>?_,r.top,r.pin]
 .rcases e.new b o h with x|x
  .exact r.ext.new b o x
  .right
   cases y:B.h b with
   |none=>rfl
   |some o' =>
    have x':Nr a p.h b=none:=x
    rw[up b o' y] at x'
    cases x'
 .rcases AF h with⟨rfl,rfl⟩|⟨hn,h'⟩
  .exact#[.ref a,hσ,a,vs1,rfl,hq,hi]
  .obtain⟨v,h1,h2⟩:=r.val i s h'
   refine#[v,h1,?_]
   cases s with
   |d x=>exact Is.mono e.zz h2
   |l zs =>
    obtain⟨c,us,rfl,q1,q2⟩:=h2
    exact#[c,us,rfl,e.hh c _ (by show Nr a p.h c=_;rw[HM (apart i _ c hn h' rfl h1)];exact q1),q2.mono e.zz]
   |r zs =>
    obtain⟨c,us,rfl,q1,q2⟩:=h2
    exact#[c,us,rfl,e.hh.seq (SM q1 (apart i _ c hn h' rfl h1)),q2.mono e.zz]
 .rcases AF h1 with⟨rfl,e1⟩|⟨hn,h1'⟩
  .rw[hσ] at h2
   cases h2
   exact#[o1,o2,hz]
  .obtain⟨w1,w2,w3⟩:=r.own i ys c h1' h2
   refine#[w1,w2,?_]
   obtain⟨us,y1,_⟩:=r.own_list h1' h2
   cases y:q.z c with
   |none=>rfl
   |some o =>
    rcases e.new c o y with x|x
    .have x':p.z c=some o:=x
     rw[w3] at x';cases x'
    .have x':Nr a p.h c=none:=x
     rw[HM (apart i _ c hn h1' rfl h2),y1] at x'
     cases x'
 .rcases AF h1 with⟨rfl,e1⟩|⟨hn,h1'⟩
  .rcases AF h2 with⟨e3,_⟩|⟨_,h2'⟩
   .exact absurd e3.symm hik
   .exact r.sep i k xs s c hik hj h2' hs h3
  .rcases AF h2 with⟨rfl,e4⟩|⟨_,h2'⟩
   .exact r.sep i k ys (.l xs) c hik h1' hj rfl h3
   .exact r.sep i k ys s c hik h1' h2' hs h3
def Q7 (j:Nat)(sp:SpM)(tr:TA3):TS3:=fun D3 τ=>match τ[j]? with
 |some (some (.l xs))=>tr τ fun ss=>match Tg ss with
  |some ds=>sp xs ds (fun ys=>D3.nx (τ.set j (some (.l ys))))
  |none=>False
 |_=>False
theorem HQ {k j:Nat}{x y:Str}{ps:List Str}{sp:SpM}{p py pos pa:Pos}(c:VL X.prog X.w X.K X.mg X.base k x ps sp) (hr:E9 k X.A) (hg:Gl X x) (hv:PE X (.Name y py) (Pd j)) (ha:PA3 X (e::es) tr)
 (hdb:(x==("__debug__":Str))=false:=by decide) (he:starEach (.Name y py::e::es) X.env=(false,eval (.Name y py) X.env)::starEach (e::es) X.env:=by exact Dw rfl) (hpl:(backTo pos (starEach (e::es) X.env)).any (·.1)=false:=by exact F0 rfl)
 (hs:swapsWith (.Call (.Name x p) (.Name y py::e::es) [] pos) none pa.line X.env=pure false:=by rfl) :
 PS3 X (.Expr (.Call (.Name x p) (.Name y py::e::es) [] pos) pa) (Q7 j sp tr):=by
 refine#[?_]
 obtain⟨f,fd,F,hm,hk,hb⟩:=c.ex
 refine CF (Bq (OF F hr hg hm hk hb .nil WZ (AX hv ha.out he) hdb he hpl) hs) fun D2 σ H hh=>?_
 obtain⟨B,z,τ,D3,r,ht,ct⟩:=hh
 unfold Q7 at ht
 split at ht
 .rename_i xs hx
  obtain⟨v,h1,a,vs,rfl,h3,h4⟩:=r.val j _ hx
  refine#[.ref a,h1,B,_,τ,_,r,ht,fun ss ws q1 e1 i1 h2=>?_]
  split at h2
  .rename_i ds hd
   rw[Hr hd] at i1
   have iw:=JZ i1
   have r1:=r.mono e1
   obtain⟨o1,o2,o3⟩:=r1.own j xs a hx h1
   obtain⟨vs',hv',iv'⟩:=r1.own_list hx h1
   show Nn X.K sp ((.ref a::ws)++[]) q1.h _ E0
   rw[qBx]
   exact#[q1.z,a,ws,vs',xs,ds,_,rfl,e1.sub,o3,o2,hv',iv',iw,h2,fun q vs1 xs1 e2 g1 g2 g3 hR=>ct.nx _ _ _ (r1.grown hx h1 e2 g1 g2 g3) hR]
  .exact h2.elim
 .exact ht.elim
end
section
variable {X:Cx}{e:Expr}
def Xi (j:Nat):TT3:=fun τ R=>match τ[j]? with
 |some (some (.l xs))=>R (!xs.isEmpty)
 |some (some (.r xs))=>R (!xs.isEmpty)
 |_=>False
theorem Kp {K:W.Frag}{H:Hp}{vs:List V}{xs:List D}(h:Iss K H vs xs):(!vs.isEmpty)=!xs.isEmpty:=by
 have:=h.1
 cases vs<;>cases xs<;>first|rfl|(simp at this)
theorem V7 {j:Nat}(h:PE X e (Pd j)) (he:∀whole,isTrue e X.env whole=(do let v <-whole;standAt e.pos;holding [v] (truthy v)):=by intro _;rfl):PT3 X e (Xi j):=#[Mq (P0 h he) fun σ H Q hh=>by
 obtain⟨B,z,τ,R,r,ht,q⟩:=hh
 unfold Xi at ht
 split at ht
 .rename_i xs hs
  obtain⟨v,h1,a,vs,rfl,h3,h4⟩:=r.val j _ hs
  exact#[.ref a,h1,!vs.isEmpty,.inl #[vs,SqL.of h3,rfl],q _ #[H,z] (Ext.refl r.ext.sub) (by rw[Kp h4];exact ht)]
 .rename_i xs hs
  obtain⟨v,h1,a,vs,rfl,h3,h4⟩:=r.val j _ hs
  exact#[.ref a,h1,!vs.isEmpty,.inl #[vs,h3,rfl],q _ #[H,z] (Ext.refl r.ext.sub) (by rw[Kp h4];exact ht)]
 .exact ht.elim]
end
open PySem PySem.Spec PyProof.Rows
structure Pp (P:Program)(w:World)(A:Around)(i l:Addr)(us:Array Value)(st:Nat->Heap->Prop):Prop where
 item:∀(t:Shared)(k:Nat)(u:Value)(Q:Value->Shared->Prop)(E:Value->Shared->Prop),st k t.heap->us[k]? = some u->(∀h1,st (k+1) h1->Heap.SameBut i t.heap h1->Q u { t with heap:=h1 })->wpAny (model P w) A (Builtin.SmallTypes.nextOf (.ref i)) Q E t
 done:∀(t:Shared)(k:Nat)(Q:Value->Shared->Prop)(E:Value->Shared->Prop),st k t.heap->us[k]? = none->(∀h1 x,Heap.ExtBut i t.heap h1->(∃o,h1.get? x=some o/\o.cls=.type "StopIteration")->E (.ref x) { t with heap:=h1 })->wpAny (model P w) A (Builtin.SmallTypes.nextOf (.ref i)) Q E t
 keep:∀(k:Nat)(h h1:Heap),st k h->(∀b o,b=i\/b=l->h.get? b=some o->h1.get? b=some o)->st k h1
def stL (i l:Addr)(us:Array Value)(k:Nat)(h:Heap):Prop:=h.IsListIter i l k/\h.IsList l us
def stT (i l:Addr)(us:Array Value)(k:Nat)(h:Heap):Prop:=h.IsTupleIter i l k/\h.IsTuple l us
section
variable {P:Program}{w:World}{A:Around}
theorem P9 (hd:A.handled=none){i l:Addr}(ne:l≠i) (us:Array Value):Pp P w A i l us (stL i l us) where
 item:=fun t k u Q E s1 hu q=>wpAny_nextOf_list_item s1.1 s1.2 hu fun h1 a b=>q h1 #[a,s1.2.extBut b.extBut ne] b
 done:=fun t k Q E s1 hu q=>wpAny_nextOf_list_end hd s1.1 s1.2 hu q
 keep:=fun k h h1 s1 e=>#[s1.1.at fun o z=>e i o (.inl rfl) z,s1.2.at fun o z=>e l o (.inr rfl) z]
theorem O8 (hd:A.handled=none){i l:Addr}(ne:l≠i) (us:Array Value):Pp P w A i l us (stT i l us) where
 item:=fun t k u Q E s1 hu q=>by
  obtain⟨⟨ob,g1,g2,g3⟩,oT,f1,f2,nT,f3⟩:=id s1
  have ty:=s1.1.typeIs (s:=t)
  refine wpAny_bind (wpAny_callSpecial?_slot (name:=Str.ofString "__next__") ty qBA (wpAny_call_entry qBA ty qCi ?_ (qCf _)))
  refine(wpAny_bind (wpAny_field g1 g3 (x:=Value.ref l) rfl ?_):wpAny _ _ (field (Value.ref i) 0 >>= _) _ _ t)
  refine(?_:wpAny _ _ (if (Value.ref l==Value.none)=true then _ else _) _ _ t)
  rw[if_neg (by intro z;cases z)]
  refine(wpAny_bind (wpAny_field g1 g3 (x:=Value.int k 0) rfl ?_):wpAny _ _ (field (Value.ref i) 1 >>= _) _ _ t)
  refine(wpAny_bind (wpAny_seqItems f1 f3 ?_):wpAny _ _ (seqItems? (Value.ref l) >>= _) _ _ t)
  simp only[qBI,hu]
  refine wpAny_bind (wpAny_setField g1 g3 (by simp) (wpAny_pure #[u,rfl,wpAny_pure (q _ #[?_,s1.2.extBut (Heap.SameBut.update ..).extBut ne] (Heap.SameBut.update ..))]))
  refine#[_,Heap.get?_update_self _ g1 (Obj.isFreed_of_fields (Obj.data_mapFields g3 _)),(Obj.cls_mapFields ..).trans g2,?_]
  rw[Obj.data_mapFields g3]
  simp[rawInt]
 done:=fun t k Q E s1 hu q=>by
  obtain⟨⟨ob,g1,g2,g3⟩,oT,f1,f2,nT,f3⟩:=id s1
  have ty:=s1.1.typeIs (s:=t)
  refine wpAny_bind (wpAny_callSpecial?_slot (name:=Str.ofString "__next__") ty qBA (wpAny_call_entry qBA ty qCi ?_ (qCf _)))
  refine(wpAny_bind (wpAny_field g1 g3 (x:=Value.ref l) rfl ?_):wpAny _ _ (field (Value.ref i) 0 >>= _) _ _ t)
  refine(?_:wpAny _ _ (if (Value.ref l==Value.none)=true then _ else _) _ _ t)
  rw[if_neg (by intro z;cases z)]
  refine(wpAny_bind (wpAny_field g1 g3 (x:=Value.int k 0) rfl ?_):wpAny _ _ (field (Value.ref i) 1 >>= _) _ _ t)
  refine(wpAny_bind (wpAny_seqItems f1 f3 ?_):wpAny _ _ (seqItems? (Value.ref l) >>= _) _ _ t)
  simp only[qBI,hu]
  refine wpAny_bind (wpAny_rule (wpAny_bind (wpAny_setField g1 g3 (by simp) ?_)))
  refine(wpAny_bind ?_:wpAny _ _ (newExc (.type "StopIteration") [] >>= _) _ _ _)
  simp only[newExc,newTuple]
  refine wpAny_bind (wpAny_newObj_type ?_ (by size_fits))
  refine wpAny_bind (m:=firstArgMember _ _) (wpAny_of_eq (a:=Value.none) (by first|rfl|(unfold firstArgMember;rfl)) ?_)
  refine wpAny_newObj_type ?_ (by size_fits)
  unfold raiseNew
  refine wpAny_bind (wpAny_handled ?_)
  have hd1:A.in1.handled=none:=hd
  rw[hd1]
  exact wpAny_bind (wpAny_pure (wpAny_throw (q _ _ (((Heap.SameBut.update ..).extBut.push _).push _) #[_,qAu _ rfl,rfl])))
 keep:=fun k h h1 s1 e=>by
  obtain⟨⟨ob,g1,g2⟩,oT,f1,f2⟩:=s1
  exact#[#[ob,e i ob (.inl rfl) g1,g2],oT,e l oT (.inr rfl) f1,f2]
structure ZAp (z TI TO i1 i2 l1 l2:Addr):Prop where
 a1:TI≠z/\TO≠z/\i1≠z/\i2≠z/\l1≠z/\l2≠z
 a2:TI≠TO/\i1≠TO/\i2≠TO/\l1≠TO/\l2≠TO
 a3:TI≠i1/\i2≠i1/\l2≠i1/\TI≠i2/\l1≠i2
 a4:l1≠i1/\l2≠i2
variable {z TI TO i1 i2 l1 l2:Addr}{us1 us2:Array Value}{st1 st2:Nat->Heap->Prop}{s:Shared}{E:Value->Shared->Prop}
theorem QB (D:ZAp z TI TO i1 i2 l1 l2)(S1:Pp P w A i1 l1 us1 st1)(S2:Pp P w A i2 l2 us2 st2){k:Nat}{x y a b:Value}{Q:Value->Shared->Prop}(Hz:IsZip s.heap z TI TO .none) (Ht:IsPair s.heap TI (.ref i1) (.ref i2)) (Ho:IsPair s.heap TO a b)
 (c1:st1 k s.heap) (c2:st2 k s.heap) (hx:us1[k]? = some x) (hy:us2[k]? = some y)
 (fin:∀h',IsZip h' z TI TO (rawInt s.heap.objs.size)->IsPair h' TO x y->st1 (k+1) h'->st2 (k+1) h'->IsPair h' s.heap.objs.size x y->(∀c o,c≠z->c≠TO->c≠i1->c≠i2->s.heap.get? c=some o->h'.get? c=some o)->Q (.ref s.heap.objs.size) { s with heap:=h' }) :
 wpAny (model P w) A (Builtin.«zip.__next__» #[[.ref z],[]]) (fun f s'=>∃v,f=.done (.ret v)/\Q v s') E s:=by
 obtain⟨⟨d1,d2,d3,d4,d5,d6⟩,⟨e1,e2,e3,e4,e5⟩,⟨f1,f2,f3,f4,f5⟩,_⟩:=D
 refine(wpAny_bind (wpAny_field Hz rfl (x:=Value.bool false) rfl ?_):wpAny _ _ (field (Value.ref z) 2 >>= _) _ _ _)
 refine(wpAny_bind (wpAny_field Hz rfl (x:=Value.ref TI) rfl ?_):wpAny _ _ (field (Value.ref z) 3 >>= _) _ _ _)
 refine wpAny_bind (wpAny_seqItems Ht rfl ?_)
 refine(wpAny_bind ?_:wpAny _ _ (Builtin.SmallTypes.ownedTupleIsFree (Value.ref z) >>= _) _ _ _)
 refine wpAny_bind (wpAny_field Hz rfl (x:=Value.none) rfl (wpAny_pure ?_))
 simp only[if_true]
 refine wpAny_bind (wpAny_rule (wpAny_bind (wpAny_field Hz rfl (x:=Value.ref TO) rfl (wpAny_bind (wpAny_setField_rec Hz (by simp) fun g1 Hz1 m1=>?_)))))
 have Hz1:IsZip g1 z TI TO .ellipsis:=Hz1
 refine wpAny_bind ?_
 simp only[List.zipIdx_cons,List.zipIdx_nil,qB8,List.forIn_nil]
 have c1a:st1 k g1:=S1.keep k _ _ c1 fun b o hb e=>by
  rcases hb with rfl|rfl
  .exact m1.extBut _ _ d3 e
  .exact m1.extBut _ _ d5 e
 refine wpAny_bind (wpAny_bind (wpAny_onRaise (?_:wpAny _ _ (Builtin.SmallTypes.nextOf (Value.ref i1) >>= _) _ _ _)))
 refine wpAny_bind (S1.item _ k x _ _ c1a hx fun g2 c1b m2=>wpAny_pure ?_)
 have Ho2:IsPair g2 TO a b:=m2.extBut _ _ (Ne.symm e2) (m1.extBut _ _ d2 Ho)
 refine wpAny_bind (wpAny_seqItems Ho2 rfl (wpAny_bind (wpAny_updateSeq_pair Ho2 fun g3 Ho3 m3=>wpAny_bind (wpAny_letGo (wpAny_pure ?_)))))
 have Ho3:IsPair g3 TO x b:=Ho3
 have c2a:st2 k g3:=S2.keep k _ _ c2 fun b o hb e=>by
  rcases hb with rfl|rfl
  .exact m3.extBut _ _ e3 (m2.extBut _ _ f2 (m1.extBut _ _ d4 e))
  .exact m3.extBut _ _ e5 (m2.extBut _ _ f3 (m1.extBut _ _ d6 e))
 refine wpAny_bind (wpAny_bind (wpAny_onRaise (?_:wpAny _ _ (Builtin.SmallTypes.nextOf (Value.ref i2) >>= _) _ _ _)))
 refine wpAny_bind (S2.item _ k y _ _ c2a hy fun g4 c2b m4=>wpAny_pure ?_)
 have Ho4:IsPair g4 TO x b:=m4.extBut _ _ (Ne.symm e3) Ho3
 refine wpAny_bind (wpAny_seqItems Ho4 rfl (wpAny_bind (wpAny_updateSeq_pair Ho4 fun g5 Ho5 m5=>wpAny_bind (wpAny_letGo (wpAny_pure (wpAny_pure ?_))))))
 have Ho5:IsPair g5 TO x y:=Ho5
 have sz:g5.objs.size=s.heap.objs.size:=by rw[m5.1,m4.1,m3.1,m2.1,m1.1]
 have Hz5:IsZip g5 z TI TO .ellipsis:=m5.extBut _ _ (Ne.symm d2) (m4.extBut _ _ (Ne.symm d4) (m3.extBut _ _ (Ne.symm d2) (m2.extBut _ _ (Ne.symm d3) Hz1)))
 have old:∀c o,c≠z->c≠TO->c≠i1->c≠i2->s.heap.get? c=some o->g5.get? c=some o:=fun c o n1 n2 n3 n4 e =>
  m5.extBut _ _ n2 (m4.extBut _ _ n4 (m3.extBut _ _ n2 (m2.extBut _ _ n3 (m1.extBut _ _ n1 e))))
 have at5:∀b o,b≠TO->b≠i2->g2.get? b=some o->g5.get? b=some o:=fun b o n1 n2 e=>m5.extBut _ _ n1 (m4.extBut _ _ n2 (m3.extBut _ _ n1 e))
 have lz:z<g5.objs.size:=qAi Hz5
 refine wpAny_bind (wpAny_seqItems Ho5 rfl (wpAny_bind (wpAny_newTuple ?_)))
 refine(wpAny_bind ?_:wpAny _ _ (Builtin.SmallTypes.ownedTupleHandOut (Value.ref z) (Value.ref g5.objs.size) >>= _) _ _ _)
 have Hz6:IsZip (g5.push { cls:=.type "tuple",data:=.seq (List.toArray [x,y]) }) z TI TO .ellipsis:=qAh _ Hz5
 refine wpAny_bind (wpAny_setField_rec Hz6 (by simp) fun g7 Hz7 m7=>?_)
 have Hz7:IsZip g7 z TI TO (rawInt g5.objs.size):=Hz7
 refine wpAny_setField_rec Hz7 (by simp) fun g8 Hz8 m8=>?_
 have Hz8:IsZip g8 z TI TO (rawInt g5.objs.size):=Hz8
 have up:∀c o,c≠z->g5.get? c=some o->g8.get? c=some o:=fun c o n e=>m8.extBut _ _ n (m7.extBut _ _ n (qAh _ e))
 have new8:IsPair g8 g5.objs.size x y:=m8.extBut _ _ (qBl lz) (m7.extBut _ _ (qBl lz) (qAu _ rfl))
 rw[sz] at Hz8 new8
 have k1:st1 (k+1) g8:=S1.keep _ _ _ c1b fun b o hb e=>by
  rcases hb with rfl|rfl
  .exact up _ _ d3 (at5 _ _ e2 (Ne.symm f2) e)
  .exact up _ _ d5 (at5 _ _ e4 f5 e)
 have k2:st2 (k+1) g8:=S2.keep _ _ _ c2b fun b o hb e=>by
  rcases hb with rfl|rfl
  .exact up _ _ d4 (m5.extBut _ _ e3 e)
  .exact up _ _ d6 (m5.extBut _ _ e5 e)
 refine wpAny_pure #[_,rfl,(?_:Q (.ref g5.objs.size) _)]
 rw[sz]
 exact fin g8 Hz8 (up _ _ d2 Ho5) k1 k2 new8 fun c o n1 n2 n3 n4 e=>up c o n1 (old c o n1 n2 n3 n4 e)
theorem QX (hd:A.handled=none)(D:ZAp z TI TO i1 i2 l1 l2)(S1:Pp P w A i1 l1 us1 st1)(S2:Pp P w A i2 l2 us2 st2){k:Nat}{a b:Value}{Q:Fin->Shared->Prop}(Hz:IsZip s.heap z TI TO .none) (Ht:IsPair s.heap TI (.ref i1) (.ref i2)) (Ho:IsPair s.heap TO a b)
 (c1:st1 k s.heap) (c2:st2 k s.heap) (he:us1[k]? = none\/us2[k]? = none)
 (fin:∀h' e,(∀c o,c≠z->c≠TO->c≠i1->c≠i2->s.heap.get? c=some o->h'.get? c=some o)->(∃o,h'.get? e=some o/\o.cls=.type "StopIteration")->E (.ref e) { s with heap:=h' }) :
 wpAny (model P w) A (Builtin.«zip.__next__» #[[.ref z],[]]) Q E s:=by
 obtain⟨⟨d1,d2,d3,d4,d5,d6⟩,⟨e1,e2,e3,e4,e5⟩,⟨f1,f2,f3,f4,f5⟩,_⟩:=D
 refine(wpAny_bind (wpAny_field Hz rfl (x:=Value.bool false) rfl ?_):wpAny _ _ (field (Value.ref z) 2 >>= _) _ _ _)
 refine(wpAny_bind (wpAny_field Hz rfl (x:=Value.ref TI) rfl ?_):wpAny _ _ (field (Value.ref z) 3 >>= _) _ _ _)
 refine wpAny_bind (wpAny_seqItems Ht rfl ?_)
 refine(wpAny_bind ?_:wpAny _ _ (Builtin.SmallTypes.ownedTupleIsFree (Value.ref z) >>= _) _ _ _)
 refine wpAny_bind (wpAny_field Hz rfl (x:=Value.none) rfl (wpAny_pure ?_))
 simp only[if_true]
 refine wpAny_bind (wpAny_rule (wpAny_bind (wpAny_field Hz rfl (x:=Value.ref TO) rfl (wpAny_bind (wpAny_setField_rec Hz (by simp) fun g1 Hz1 m1=>?_)))))
 have Hz1:IsZip g1 z TI TO .ellipsis:=Hz1
 refine wpAny_bind ?_
 simp only[List.zipIdx_cons,List.zipIdx_nil,qB8,List.forIn_nil]
 have c1a:st1 k g1:=S1.keep k _ _ c1 fun b o hb e=>by
  rcases hb with rfl|rfl
  .exact m1.extBut _ _ d3 e
  .exact m1.extBut _ _ d5 e
 refine wpAny_bind (wpAny_bind (wpAny_onRaise (?_:wpAny _ _ (Builtin.SmallTypes.nextOf (Value.ref i1) >>= _) _ _ _)))
 have out:∀{g:Heap}{x:Addr}(n:IsZip g z TI TO .ellipsis) (g':Heap) (m:Heap.SameBut z g g'),(∃o,g.get? x=some o/\o.cls=.type "StopIteration")->∃o,g'.get? x=some o/\o.cls=.type "StopIteration":=fun {g x} n g' m #[o,h1,h2] =>
  #[o,m.extBut _ _ (fun y=>by subst y;rw[n] at h1;cases h1;simp at h2) h1,h2]
 cases hx:us1[k]? with
 |none =>
  refine wpAny_bind (S1.done _ k _ _ c1a hx fun g2 x m2 hs=>?_)
  have Hz2:IsZip g2 z TI TO .ellipsis:=m2 _ _ (Ne.symm d3) Hz1
  exact wpAny_setField_rec Hz2 (by simp) fun g3 _ m3=>fin g3 x (fun c o n1 _ n3 _ e=>m3.extBut _ _ n1 (m2 _ _ n3 (m1.extBut _ _ n1 e))) (out Hz2 g3 m3 hs)
 |some x =>
  have hy:us2[k]? = none:=he.resolve_left (by rw[hx];simp)
  refine wpAny_bind (S1.item _ k x _ _ c1a hx fun g2 c1b m2=>wpAny_pure ?_)
  have Ho2:IsPair g2 TO a b:=m2.extBut _ _ (Ne.symm e2) (m1.extBut _ _ d2 Ho)
  refine wpAny_bind (wpAny_seqItems Ho2 rfl (wpAny_bind (wpAny_updateSeq_pair Ho2 fun g3 Ho3 m3=>wpAny_bind (wpAny_letGo (wpAny_pure ?_)))))
  have c2a:st2 k g3:=S2.keep k _ _ c2 fun b o hb e=>by
   rcases hb with rfl|rfl
   .exact m3.extBut _ _ e3 (m2.extBut _ _ f2 (m1.extBut _ _ d4 e))
   .exact m3.extBut _ _ e5 (m2.extBut _ _ f3 (m1.extBut _ _ d6 e))
  refine wpAny_bind (wpAny_bind (wpAny_onRaise (?_:wpAny _ _ (Builtin.SmallTypes.nextOf (Value.ref i2) >>= _) _ _ _)))
  refine wpAny_bind (S2.done _ k _ _ c2a hy fun g4 x m4 hs=>?_)
  have Hz4:IsZip g4 z TI TO .ellipsis:=m4 _ _ (Ne.symm d4) (m3.extBut _ _ (Ne.symm d2) (m2.extBut _ _ (Ne.symm d3) Hz1))
  exact wpAny_setField_rec Hz4 (by simp) fun g5 _ m5=>fin g5 x (fun c o n1 n2 n3 n4 e=>m5.extBut _ _ n1 (m4 _ _ n4 (m3.extBut _ _ n2 (m2.extBut _ _ n3 (m1.extBut _ _ n1 e))))) (out Hz4 g5 m5 hs)
end
abbrev zpA (h:Heap)(l1:Addr):Heap:=h.push { cls:=.type "tuple_iterator",data:=.fields (List.toArray [.ref l1,.int 0 0]) }
abbrev zpB (h:Heap)(l1 l2:Addr):Heap:=(zpA h l1).push { cls:=.type "list_iterator",data:=.fields (List.toArray [.ref l2,.int 0 0]) }
abbrev zpC (h:Heap)(l1 l2:Addr):Heap:=(zpB h l1 l2).push { cls:=.type "tuple",data:=.seq (List.toArray [.ref h.objs.size,.ref (zpA h l1).objs.size]) }
abbrev zpD (h:Heap)(l1 l2:Addr):Heap:=(zpC h l1 l2).push { cls:=.type "tuple",data:=.seq (List.toArray [.none,.none]) }
abbrev zpE (h:Heap)(l1 l2:Addr):Heap:=(zpD h l1 l2).push { cls:=.type "zip",data:=.fields (List.toArray [.none,.bool false,.bool false,.ref (zpB h l1 l2).objs.size,.ref (zpC h l1 l2).objs.size]) }
theorem OW (l1 l2:Addr)(xs ys:Array Value) :
 Meets (Builtin.«zip.__new__» #[[.type "zip",.ref l1,.ref l2],[]]) (fun _ R s=>s.heap.IsTuple l1 xs/\s.heap.IsList l2 ys/\R (.ok (.ret (.ref (zpD s.heap l1 l2).objs.size))) { s with heap:=zpE s.heap l1 l2 }) :=
 .of_wp fun prog w A R s h=>by
  obtain⟨hp,g,d,tk,os⟩:=s;obtain⟨t1,t2,h⟩:=h
  have hsub:=sub_zip
  have q1:Heap.IsTuple (Shared.heap #[hp,g,d,tk,os]) l1 xs:=t1
  have q2:Heap.IsList (Shared.heap #[hp.push { cls:=.type "tuple_iterator",data:=.fields (List.toArray [.ref l1,.int 0 0]) },g,d,tk,os]) l2 ys:=Heap.IsList.push t2 _
  wp_walk using wpAny_pyIter_tuple q1,wpAny_pyIter_list q2
  exact#[_,rfl,h]
section
variable {P:Program}{w:World}{A:Around}{E:Value->Shared->Prop}{s:Shared}
theorem M6 {l1 l2:Addr}{xs ys:Array Value}{Q:Value->Shared->Prop}(t1:s.heap.IsTuple l1 xs) (t2:s.heap.IsList l2 ys)
 (fin:∀h',IsZip h' (s.heap.objs.size+4) (s.heap.objs.size+2) (s.heap.objs.size+3) .none->IsPair h' (s.heap.objs.size+2) (.ref s.heap.objs.size) (.ref (s.heap.objs.size+1))->IsPair h' (s.heap.objs.size+3) .none .none ->
  h'.IsTupleIter s.heap.objs.size l1 0->h'.IsListIter (s.heap.objs.size+1) l2 0->(∀c o,s.heap.get? c=some o->h'.get? c=some o)->Q (.ref (s.heap.objs.size+4)) { s with heap:=h' }) :
 wpAny (model P w) A (call (.type "zip") [.ref l1,.ref l2]) Q E s:=by
 refine callType_new F.called_zip ∅ (F.typeCall_zip_2 _ _) (F.newCall_zip_2 _ _) (fun ob=>F.args_object_init_3 ob _ _) F.entry_zip_new (OW l1 l2 xs ys) #[t1,t2,?_]
 have n1:(zpA s.heap l1).objs.size=s.heap.objs.size+1:=qBJ ..
 have n2:(zpB s.heap l1 l2).objs.size=s.heap.objs.size+2:=by rw[qBJ,n1]
 have n3:(zpC s.heap l1 l2).objs.size=s.heap.objs.size+3:=by rw[qBJ,n2]
 have n4:(zpD s.heap l1 l2).objs.size=s.heap.objs.size+4:=by rw[qBJ,n3]
 have o5:(zpE s.heap l1 l2).get? (zpD s.heap l1 l2).objs.size=some _:=qAu _ rfl
 have o4:(zpE s.heap l1 l2).get? (zpC s.heap l1 l2).objs.size=some _:=qAh _ (qAu _ rfl)
 have o3:(zpE s.heap l1 l2).get? (zpB s.heap l1 l2).objs.size=some _:=qAh _ (qAh _ (qAu _ rfl))
 have o2:(zpE s.heap l1 l2).get? (zpA s.heap l1).objs.size=some _:=qAh _ (qAh _ (qAh _ (qAu _ rfl)))
 have o1:(zpE s.heap l1 l2).get? s.heap.objs.size=some _:=qAh _ (qAh _ (qAh _ (qAh _ (qAu _ rfl))))
 refine(?_:_/\_)
 rw[n2,n3,n4] at o5
 rw[n1,n2] at o3
 rw[n3] at o4
 rw[n1] at o2
 rw[n4]
 exact#[#[_,o5,rfl],fin _ o5 o3 o4 #[_,o1,rfl,rfl] #[_,o2,rfl,rfl] fun c o x=>qAh _ (qAh _ (qAh _ (qAh _ (qAh _ x))))]
variable {z TI TO i1 i2 l1 l2:Addr}{us1 us2:Array Value}{st1 st2:Nat->Heap->Prop}
theorem Qz (D:ZAp z TI TO i1 i2 l1 l2)(S1:∀A':Around,A'.handled=A.handled->Pp P w A' i1 l1 us1 st1)(S2:∀A':Around,A'.handled=A.handled->Pp P w A' i2 l2 us2 st2){k:Nat}{x y a b:Value}{Q:Option Value->Shared->Prop}(Hz:IsZip s.heap z TI TO .none) (Ht:IsPair s.heap TI (.ref i1) (.ref i2)) (Ho:IsPair s.heap TO a b)
 (c1:st1 k s.heap) (c2:st2 k s.heap) (hx:us1[k]? = some x) (hy:us2[k]? = some y)
 (fin:∀h',IsZip h' z TI TO (rawInt s.heap.objs.size)->IsPair h' TO x y->st1 (k+1) h'->st2 (k+1) h'->IsPair h' s.heap.objs.size x y->(∀c o,c≠z->c≠TO->c≠i1->c≠i2->s.heap.get? c=some o->h'.get? c=some o)->Q (some (.ref s.heap.objs.size)) { s with heap:=h' }) :
 wpAny (model P w) A (pyNext (.ref z)) Q E s:=by
 have ty:s.TypeIs (.ref z) "zip":=#[_,Hz,rfl]
 refine wpAny_bind (wpAny_attempt (wpAny_callSpecial?_slot (name:=Str.ofString "__next__") ty qCb (wpAny_call_entry qCb ty F.entry_zip_next ?_ (F.args_zip_next_1 _))))
 refine QB (A:=A.in1) D (S1 A.in1 rfl) (S2 A.in1 rfl) Hz Ht Ho c1 c2 hx hy fun h' b1 b2 b3 b4 b5 b6=>?_
 exact wpAny_pure (fin h' b1 b2 b3 b4 b5 b6)
theorem QN (hd:A.handled=none)(D:ZAp z TI TO i1 i2 l1 l2)(S1:∀A':Around,A'.handled=A.handled->Pp P w A' i1 l1 us1 st1)(S2:∀A':Around,A'.handled=A.handled->Pp P w A' i2 l2 us2 st2){k:Nat}{a b:Value}{Q:Option Value->Shared->Prop}(Hz:IsZip s.heap z TI TO .none) (Ht:IsPair s.heap TI (.ref i1) (.ref i2)) (Ho:IsPair s.heap TO a b)
 (c1:st1 k s.heap) (c2:st2 k s.heap) (he:us1[k]? = none\/us2[k]? = none)
 (fin:∀h',(∀c o,c≠z->c≠TO->c≠i1->c≠i2->s.heap.get? c=some o->h'.get? c=some o)->Q none { s with heap:=h' }):wpAny (model P w) A (pyNext (.ref z)) Q E s:=by
 have ty:s.TypeIs (.ref z) "zip":=#[_,Hz,rfl]
 refine wpAny_bind (wpAny_attempt (wpAny_callSpecial?_slot (name:=Str.ofString "__next__") ty qCb (wpAny_call_entry qCb ty F.entry_zip_next ?_ (F.args_zip_next_1 _))))
 refine QX (A:=A.in1) hd D (S1 A.in1 rfl) (S2 A.in1 rfl) Hz Ht Ho c1 c2 he fun h' e kp hs=>?_
 obtain⟨o,g1,g2⟩:=hs
 exact wpAny_bind (wpAny_isInstance (T:="StopIteration") (b:=true) #[o,g1,g2] isSubtype_stop (wpAny_pure (fin _ kp)))
end
def SqB (K:W.Frag)(b:Bool)(H:Hp)(a:Addr)(xs:List V):Prop:=if b=true then SqT K H a xs else SqL K H a xs
def ItB (b:Bool)(h:Heap)(i l:Addr)(k:Nat):Prop:=if b=true then h.IsTupleIter i l k else h.IsListIter i l k
def Itz (K:W.Frag)(b1 b2:Bool)(l1 l2:Addr):It :=
 #[fun i H=>∃xs ys x y,SqB K b1 H l1 xs/\SqB K b2 H l2 ys/\xs[i]? = some x/\ys[i]? = some y,
  fun i H v H'=>∃p x y,H p=none/\v=.ref p/\(∀xs,SqB K b1 H l1 xs->xs[i]? = some x)/\(∀ys,SqB K b2 H l2 ys->ys[i]? = some y)/\H'=upd H p (.tup [x,y]),
  fun i H=>∃xs ys,SqB K b1 H l1 xs/\SqB K b2 H l2 ys/\(xs.length<=i\/ys.length<=i)]
theorem Hv {b:Bool}{h h':Heap}{i l:Addr}{k:Nat}(a:ItB b h i l k) (e:∀o,h.get? i=some o->h'.get? i=some o):ItB b h' i l k:=by
 unfold ItB at *
 split at a
 .rename_i c;rw[if_pos c];obtain⟨o,g1,g2⟩:=a;exact#[o,e o g1,g2]
 .rename_i c;rw[if_neg c];exact a.at fun o z=>e o z
theorem J9 {b:Bool}{h:Heap}{i l:Addr}{k:Nat}(a:ItB b h i l k):∃o,h.get? i=some o/\∀v,o.data≠.cell v:=by
 unfold ItB at a
 split at a
 .obtain⟨o,g1,g2,g3⟩:=a;exact#[o,g1,fun v z=>by rw[g3] at z;cases z]
 .obtain⟨o,g1,g2,g3⟩:=a;exact#[o,g1,fun v z=>by rw[g3] at z;cases z]
def stB (b:Bool)(i l:Addr)(us:Array Value)(k:Nat)(h:Heap):Prop:=if b=true then stT i l us k h else stL i l us k h
theorem QV {P:Program}{w:World}{A:Around}(hd:A.handled=none) (b:Bool){i l:Addr}(ne:l≠i) (us:Array Value):Pp P w A i l us (stB b i l us):=by
 cases b with
 |true=>exact O8 hd ne us
 |false=>exact P9 hd ne us
section
variable {X:Cx}{pins:List (Addr×Obj)}{σ:St}{H:Hp}{s:Shared}
theorem JF {b:Bool}{l:Addr}{xs:List V}(I:Inv X pins σ H s) (q:SqB X.K b H l xs):∃its:List Value,B4 xs its/\∀i k,ItB b s.heap i l k->stB b i l its.toArray k s.heap:=by
 unfold SqB at q
 cases b with
 |true =>
  obtain⟨its,rv,p,hz⟩:=I.tuple q
  exact#[its,rv,fun i k a=>#[a,p]]
 |false =>
  obtain⟨its,rv,p,hz⟩:=I.list q
  exact#[its,rv,fun i k a=>#[a,p.isList]]
theorem O7 {b:Bool}{l:Addr}{xs ys:List V}(I:Inv X pins σ H s) (q:SqB X.K b H l xs) (r:SqB X.K b H l ys):ys=xs:=by
 unfold SqB at q r
 cases b with
 |true=>exact I.tuple_inj r q
 |false=>exact I.list_inj r q
end
def tnZ (b1 b2:Bool)(z TI TO i1 i2 l1 l2:Addr)(i:Nat)(h:Heap):Prop:=IsZip h z TI TO .none/\IsPair h TI (.ref i1) (.ref i2)/\(∃a b,IsPair h TO a b)/\ItB b1 h i1 l1 i/\ItB b2 h i2 l2 i
theorem Rl {b:Bool}{i l:Addr}{us:Array Value}{k:Nat}{h:Heap}(a:stB b i l us k h):ItB b h i l k:=by
 unfold stB at a
 unfold ItB
 split at a
 .rename_i c;rw[if_pos c];exact a.1
 .rename_i c;rw[if_neg c];exact a.1
theorem Qo {P:Program}{w:World}{K:W.Frag}{elts:List Expr}{x1:Nat}{tpos:Pos}(b1 b2:Bool){z TI TO i1 i2 l1 l2:Addr}(D:ZAp z TI TO i1 i2 l1 l2):Q9 P w K (.Tuple elts x1 tpos) (Itz K b1 b2 l1 l2) [z,TI,TO,i1,i2] z (tnZ b1 b2 z TI TO i1 i2 l1 l2) where
 mem:=by simp
 obj:=fun i h st b hb=>by
  obtain⟨g1,g2,⟨a,c,g3⟩,g4,g5⟩:=st
  simp only[qAk,qBC,or_false] at hb
  rcases hb with rfl|rfl|rfl|rfl|rfl
  .exact#[_,g1,fun v y=>by cases y]
  .exact#[_,g2,fun v y=>by cases y]
  .exact#[_,g3,fun v y=>by cases y]
  .exact J9 g4
  .exact J9 g5
 keep:=fun i h h' st k=>by
  obtain⟨g1,g2,⟨a,c,g3⟩,g4,g5⟩:=st
  exact#[k z (by simp) _ g1,k TI (by simp) _ g2,#[a,c,k TO (by simp) _ g3],Hv g4 fun o e=>k i1 (by simp) o e,Hv g5 fun o e=>k i2 (by simp) o e]
 item:=by
  intro X hP hw hK hc i pins s σ H E I hf st hg
  subst hP hw hK
  obtain⟨xs,ys,x,y,q1,q2,hx,hy⟩:=hg
  obtain⟨its1,rv1,src1⟩:=JF I q1
  obtain⟨its2,rv2,src2⟩:=JF I q2
  obtain⟨u,hu,ru⟩:=rv1.get hx
  obtain⟨v,hv,rv⟩:=rv2.get hy
  obtain⟨g1,g2,⟨a,c,g3⟩,g4,g5⟩:=st
  have hd:=I.ok.hd hc
  have fz:=hf z (by simp)
  have fI:=hf TI (by simp)
  have fO:=hf TO (by simp)
  have f1:=hf i1 (by simp)
  have f2:=hf i2 (by simp)
  refine Qz D (fun A' e=>QV (e.trans hd) b1 D.a4.1 its1.toArray) (fun A' e=>QV (e.trans hd) b2 D.a4.2 its2.toArray) g1 g2 g3 (src1 i1 i g4) (src2 i2 i g5) (x:=u) (y:=v) (by simpa using hu) (by simpa using hv) fun h1 k1 k2 k3 k4 k5 k6=>#[_,rfl,wpAny_letOwnedTupleGo_zip (s:={ s with heap:=h1 }) k1 fun h2 m1 m2=>?_]
  have m2':Heap.SameBut z h1 h2:=m2
  have lt:∀{b:Addr}{o:Obj},s.heap.get? b=some o->s.heap.objs.size≠b:=fun e=>qBl (qAi e)
  have hn:H s.heap.objs.size=none:=I.hok.fresh (qAe _)
  have old2:∀b o,b≠z->b≠TO->b≠i1->b≠i2->s.heap.get? b=some o->h2.get? b=some o:=fun b o n1 n2 n3 n4 y=>(m2'.2 b n1).trans (k6 b o n1 n2 n3 n4 y)
  have tup2:h2.get? s.heap.objs.size=some { cls:=.type "tuple",data:=.seq (List.toArray [u,v]) }:=(m2'.2 _ (lt g1)).trans k5
  have trk:∀{b:Addr}{o:HO},H b=some o->b≠z/\b≠TO/\b≠i1/\b≠i2:=fun {b o} q=>#[(fun y=>by rw[y,fz.1] at q;cases q),(fun y=>by rw[y,fO.1] at q;cases q),(fun y=>by rw[y,f1.1] at q;cases q),(fun y=>by rw[y,f2.1] at q;cases q)]
  have hok2:HOk X.prog X.w (upd H s.heap.objs.size (.tup [x,y])) h2:=fun b o q=>by
   by_cases hb:b=s.heap.objs.size
   .subst hb
    rw[Aq] at q
    cases q
    exact#[by show 2<=sizeLine;decide,[u,v],.cons ru (.cons rv .nil),#[_,tup2,rfl,_,rfl]]
   .rw[Al hb] at q
    refine(I.hok b o q).stay (hf:=fun c w1 w2 y=>by rw[Al (AA y hn)];exact y) (fun c o hc' y=>?_) (fun c y=>by rw[Al (AA y hn)];exact y) fun c ys y=>by rw[Al (AA y hn)];exact y
    have t:c≠z/\c≠TO/\c≠i1/\c≠i2:=by
     rcases hc' with rfl|hc'
     .exact trk q
     .exact trk hc'
    exact old2 c o t.1 t.2.1 t.2.2.1 t.2.2.2 y
  have nin:∀{b:Addr},b∉[z,TO,i1,i2]->b≠z/\b≠TO/\b≠i1/\b≠i2:=fun {b} h=>#[(fun y=>h (by simp[y])),(fun y=>h (by simp[y])),(fun y=>h (by simp[y])),(fun y=>h (by simp[y]))]
  have I2:Inv X pins σ (upd H s.heap.objs.size (.tup [x,y])) { s with heap:=h2,toks:=s.toks }:=by
   refine I.step (g':=s.gens) (d':=s.drawn) (ch:=[z,TO,i1,i2]) (fun b hb=>?_) (fun b o _ _ hb q _=>old2 b o (nin hb).1 (nin hb).2.1 (nin hb).2.2.1 (nin hb).2.2.2 q) (fun b o _ _ hb q _=>#[o.slots,old2 b o (nin hb).1 (nin hb).2.1 (nin hb).2.2.1 (nin hb).2.2.2 q])
    (fun b o _ q n=>by rw[Al (qAq (qAi q))];exact n) (fun b o hb q=>#[o,old2 b o (nin hb).1 (nin hb).2.1 (nin hb).2.2.1 (nin hb).2.2.2 q])
    (fun b ys y=>by rw[Al (AA y hn)];exact y) (fun b o ys y=>by rw[Al (AA y hn)];exact y) (fun b ps y=>#[(List.toArray []),by rw[Al (AA y hn),y];simp]) (fun m hm=>?_) hok2 I.bare
   .simp only[qAk,qBC,or_false] at hb
    rcases hb with rfl|rfl|rfl|rfl
    .exact#[fz.2.2.2.1,fz.2.1,fz.2.2.2.2.1,fz.2.2.2.2.2]
    .exact#[fO.2.2.2.1,fO.2.1,fO.2.2.2.2.1,fO.2.2.2.2.2]
    .exact#[f1.2.2.2.1,f1.2.1,f1.2.2.2.2.1,f1.2.2.2.2.2]
    .exact#[f2.2.2.2.1,f2.2.1,f2.2.2.2.2.1,f2.2.2.2.2.2]
   .obtain⟨o,es,ep,ho,r⟩:=hm
    exact#[o,es,ep,old2 _ o (Ne.symm fz.2.1) (Ne.symm fO.2.1) (Ne.symm f1.2.1) (Ne.symm f2.2.1) ho,r]
  have ob1:=J9 g4
  have ob2:=J9 g5
  refine#[.ref s.heap.objs.size,_,I2,rfl,#[_,x,y,hn,rfl,fun zs hz=>by rw[O7 I q1 hz];exact hx,fun zs hz=>by rw[O7 I q2 hz];exact hy,rfl],#[m1,?_,#[u,v,?_],?_,?_],fun b hb=>?_]
  .exact(m2'.2 _ D.a1.1).trans (k6 _ _ D.a1.1 D.a2.1 D.a3.1 D.a3.2.2.2.1 g2)
  .exact(m2'.2 _ D.a1.2.1).trans k2
  .exact Hv (Rl k3) fun o e=>(m2'.2 _ D.a1.2.2.1).trans e
  .exact Hv (Rl k4) fun o e=>(m2'.2 _ D.a1.2.2.2.1).trans e
  .have ne:∀{b:Addr}{o:Obj},s.heap.get? b=some o->b≠s.heap.objs.size:=fun e=>qAq (qAi e)
   simp only[qAk,qBC,or_false] at hb
   rcases hb with rfl|rfl|rfl|rfl|rfl
   .rw[Al (ne g1)];exact fz.1
   .rw[Al (ne g2)];exact fI.1
   .rw[Al (ne g3)];exact fO.1
   .obtain⟨o,e,_⟩:=ob1;rw[Al (ne e)];exact f1.1
   .obtain⟨o,e,_⟩:=ob2;rw[Al (ne e)];exact f2.1
 done:=by
  intro X hP hw hK hc i pins s σ H E I hf st hg
  subst hP hw hK
  obtain⟨xs,ys,q1,q2,he⟩:=hg
  obtain⟨its1,rv1,src1⟩:=JF I q1
  obtain⟨its2,rv2,src2⟩:=JF I q2
  obtain⟨g1,g2,⟨a,c,g3⟩,g4,g5⟩:=st
  have hd:=I.ok.hd hc
  have fz:=hf z (by simp)
  have fO:=hf TO (by simp)
  have f1:=hf i1 (by simp)
  have f2:=hf i2 (by simp)
  refine QN hd D (fun A' e=>QV (e.trans hd) b1 D.a4.1 its1.toArray) (fun A' e=>QV (e.trans hd) b2 D.a4.2 its2.toArray) g1 g2 g3 (src1 i1 i g4) (src2 i2 i g5) ?_ fun h' kp=>#[rfl,?_]
  .have e1:=rv1.length
   have e2:=rv2.length
   rcases he with he|he
   .left;rw[qBy,qAN];omega
   .right;rw[qBy,qAN];omega
  .have nin:∀{b:Addr},b∉[z,TO,i1,i2]->b≠z/\b≠TO/\b≠i1/\b≠i2:=fun {b} h=>#[(fun y=>h (by simp[y])),(fun y=>h (by simp[y])),(fun y=>h (by simp[y])),(fun y=>h (by simp[y]))]
   have old2:∀b o,b∉[z,TO,i1,i2]->s.heap.get? b=some o->h'.get? b=some o:=fun b o hb q=>kp b o (nin hb).1 (nin hb).2.1 (nin hb).2.2.1 (nin hb).2.2.2 q
   have trk:∀{b:Addr}{o:HO},H b=some o->b∉[z,TO,i1,i2]:=fun {b o} q hb=>by
    simp only[qAk,qBC,or_false] at hb
    rcases hb with rfl|rfl|rfl|rfl
    .rw[fz.1] at q;cases q
    .rw[fO.1] at q;cases q
    .rw[f1.1] at q;cases q
    .rw[f2.1] at q;cases q
   have hok2:HOk X.prog X.w H h':=fun b o q=>by
    refine(I.hok b o q).stay (fun c o hc' y=>old2 c o ?_ y) (fun _ y=>y) fun _ _ y=>y
    rcases hc' with rfl|hc'
    .exact trk q
    .exact trk hc'
   refine I.step (t':=s.toks) (g':=s.gens) (d':=s.drawn) (ch:=[z,TO,i1,i2]) (fun b hb=>?_) (fun b o _ _ hb q _=>old2 b o hb q) (fun b o _ _ hb q _=>#[o.slots,old2 b o hb q]) (fun b o _ q n=>n) (fun b o hb q=>#[o,old2 b o hb q])
    (fun b ys y=>y) (fun b o ys y=>y) (fun b ps y=>#[(List.toArray []),by rw[y];simp]) (fun m hm=>?_) hok2 I.bare
   .simp only[qAk,qBC,or_false] at hb
    rcases hb with rfl|rfl|rfl|rfl
    .exact#[fz.2.2.2.1,fz.2.1,fz.2.2.2.2.1,fz.2.2.2.2.2]
    .exact#[fO.2.2.2.1,fO.2.1,fO.2.2.2.2.1,fO.2.2.2.2.2]
    .exact#[f1.2.2.2.1,f1.2.1,f1.2.2.2.2.1,f1.2.2.2.2.2]
    .exact#[f2.2.2.2.1,f2.2.1,f2.2.2.2.2.1,f2.2.2.2.2.2]
   .obtain⟨o,es,ep,ho,r⟩:=hm
    refine#[o,es,ep,kp _ o (Ne.symm fz.2.1) (Ne.symm fO.2.1) (Ne.symm f1.2.1) (Ne.symm f2.2.1) ho,r]
 self:=fun A i s Q E st h=>wpAny_pyIter_zip st.1 h
section
variable {X:Cx}{pos:Pos}
def VQ (K:W.Frag)(ta:TA):TI:=fun σ H R=>ta σ H fun vs H1=>∃a1 a2,vs=[.ref a1,.ref a2]/\∃b:Bool,(∃xs,SqB K b H1 a1 xs)/\(∃ys,SqL K H1 a2 ys)/\R (Itz K b false a1 a2) H1
theorem RO {n l1 l2:Addr}(h1:l1<n) (h2:l2<n):ZAp (n+4) (n+2) (n+3) n (n+1) l1 l2:=by
 have up:∀{a:Addr}(j:Nat),a<n->a≠n+j:=fun {a} j h=>qAq (qAm h (qBN n j))
 have lt:∀{i j:Nat},i<j->n+i≠n+j:=fun h=>qAq (Nat.add_lt_add_left h n)
 have gt:∀{i j:Nat},j<i->n+i≠n+j:=fun h=>qBl (Nat.add_lt_add_left h n)
 exact#[#[lt ∅,lt ∅,lt (i:=0) ∅,lt ∅,up 4 h1,up 4 h2],#[lt ∅,lt (i:=0) ∅,lt ∅,up 3 h1,up 3 h2],#[gt (j:=0) ∅,gt (j:=0) ∅,up 0 h2,gt ∅,up 1 h1],#[up 0 h1,up 1 h2]]
theorem Rp {e1 e2:Expr}{elts:List Expr}{x1:Nat}{tpos p:Pos}{ta:TA}(hg:Gl X "zip") (hm:X.mg "zip"=none) (ha:PA X [e1,e2] ta) (hs:starEach [e1,e2] X.env=[(false,eval e1 X.env),(false,eval e2 X.env)]:=by rfl) (hs2:starEach [e2] X.env=[(false,eval e2 X.env)]:=by rfl) :
 PI X (.Tuple elts x1 tpos) (.Call (.Name "zip" p) [e1,e2] [] pos) (VQ X.K ta):=by
 intro pins s σ H R I h
 refine Call_ (GS I hg hm PyProof.Rows.boot_zip (qA5 (thn (ha pos pins s σ H _ I h) fun us s1 #[vs,H1,I1,r1,q1]=>?_) (by rw[hs,hs2]) (by rw[hs2];rfl)))
 obtain⟨a1,a2,e,b,⟨xs,h1⟩,⟨ys,h2⟩,q⟩:=q1
 subst e
 cases r1 with
 |cons r rr =>
  cases rr with
  |cons r' rr =>
   cases rr
   cases r
   cases r'
   obtain⟨its2,rv2,p2,hz2⟩:=I1.list h2
   have fin:∀h',IsZip h' (s1.heap.objs.size+4) (s1.heap.objs.size+2) (s1.heap.objs.size+3) .none->IsPair h' (s1.heap.objs.size+2) (.ref s1.heap.objs.size) (.ref (s1.heap.objs.size+1))->IsPair h' (s1.heap.objs.size+3) .none .none ->
    ItB b h' s1.heap.objs.size a1 0->ItB false h' (s1.heap.objs.size+1) a2 0->(∀c o,s1.heap.get? c=some o->h'.get? c=some o)->a1<s1.heap.objs.size->a2<s1.heap.objs.size ->
    wpAny (model X.prog X.w) X.A (pyIter (.ref (s1.heap.objs.size+4))) (PIE X pins σ (.Tuple elts x1 tpos) R) X.xe { s1 with heap:=h' }:=fun h' g1 g2 g3 g4 g5 old n1 n2=>by
    have I2:Inv X pins σ H1 { s1 with heap:=h' }:=I1.kept (t':=s1.toks) old
    refine wpAny_pyIter_zip (s:={ s1 with heap:=h' }) g1 ?_
    refine#[s1.heap.objs.size+4,_,_,_,H1,rfl,I2,Qo b false (RO n1 n2),#[g1,g2,#[_,_,g3],g4,g5],fun c hc=>?_,q]
    have ge:s1.heap.objs.size<=c:=by
     simp only[qAk,qBC,or_false] at hc
     rcases hc with rfl|rfl|rfl|rfl|rfl
     .exact qBN _ 4
     .exact qBN _ 2
     .exact qBN _ 3
     .exact qAe _
     .exact qBN _ 1
    exact I1.fpOk ge (I1.hok.fresh ge)
   have n2:a2<s1.heap.objs.size:=by obtain⟨o,e,_⟩:=p2.isList;exact qAi e
   cases b with
   |true =>
    obtain⟨its1,rv1,p1,hz1⟩:=I1.tuple h1
    have t1:s1.heap.IsTuple a1 its1.toArray:=p1
    have n1:a1<s1.heap.objs.size:=by obtain⟨o,e,_⟩:=t1;exact qAi e
    exact M6 t1 p2.isList fun h' g1 g2 g3 g4 g5 old=>fin h' g1 g2 g3 g4 g5 old n1 n2
   |false =>
    obtain⟨its1,rv1,p1,hz1⟩:=I1.list h1
    have n1:a1<s1.heap.objs.size:=by obtain⟨o,e,_⟩:=p1.isList;exact qAi e
    exact call_zip_2 p1.isList p2.isList fun h' g1 g2 g3 g4 g5 _ old=>fin h' g1 g2 g3 g4 g5 old n1 n2
end
structure DA (X:Cx)(x y':Str)(scope:Scope)(N:List Str)(idx:List Nat):Prop where
 kind:scope.kind=.function
 cell:∀y∈scope.names,y.2≠.cell
 names:∀y∈scope.names,y.2=.local->scope.names.lookup y.1=some .local
 own:scope.names.lookup x=some .local
 own2:scope.names.lookup y'=some .local
 free:∀y∈scope.names,y.2=.free->X.env.kindOf y.1=some .cell
 nd:N.Nodup
 fst:N[0]? = some x
 snd:N[1]? = some y'
 len:N.length=idx.length+2
 cap:∀(k j:Nat),idx[k]? = some j->∃y,N[k+2]? = some y/\X.N[j]? = some y/\scope.names.lookup y=some .free
section
variable {X:Cx}{pins:List (Addr×Obj)}{σ:St}{H2:Hp}{s2:Shared}{x y':Str}{px py' pt:Pos}{kt:Nat}{tg:Expr}{scope:Scope}{N:List Str}{idx:List Nat}{J:It}{fp:List Addr}{it:Addr}{tn:Nat->Heap->Prop}{cl:List (Str×Addr)}
theorem Lj (O:DA X x y' scope N idx)(I2:Inv X pins σ H2 s2)(T:Q9 X.prog X.w X.K tg J fp it tn)(st2:tn 0 s2.heap)(f2:∀b∈fp,MR X pins H2 b)
 (hcl:∀y c,cl.lookup y=some c->X.env.cells.lookup y=some c)(hcl2:∀y,(y,NameKind.free)∈scope.names->∃c,cl.lookup y=some c)
 {h1:Heap}{C:Addr}{m:Str->Option Value}{tk:Nat}(hC:s2.heap.objs.size<C) (hns:h1.Ns C m) (old:∀b o,s2.heap.get? b=some o->h1.get? b=some o)
 (hD:h1.get? s2.heap.objs.size=some { cls:=.type "list",data:=.seq ([]:List Value).toArray }) :
 Inv (Aw X N scope cl C s2 H2 fp) [] (none::none::Dm σ idx) (upd H2 s2.heap.objs.size (.lst [])) { s2 with heap:=h1,toks:=tk }:=by
 have inHeap:∀b∈fp,b<s2.heap.objs.size:=fun b hb=>by
  obtain⟨o,e,_⟩:=T.obj 0 _ st2 b hb
  exact qAi e
 have hDn:H2 s2.heap.objs.size=none:=I2.hok.fresh (qAe _)
 refine#[#[I2.ok.mod,O.kind,I2.ok.glob,I2.ok.blt,?_,?_,?_,(fun _ _ z=>by cases z),I2.ok.hd,I2.ok.frames,.inl rfl,?_,fun b o e=>I2.bs b o e,qAJ I2.ok.bsz I2.sz,?_,?_,I2.stack,I2.stkFree,I2.tb],rfl,I2.bare,?_,#[m,hns,?_],?_,?_,?_,?_,?_,?_]
 .exact qBk hC
 .intro y z c h1 h2
  exact I2.ok.inj y z c (hcl y c h1) (hcl z c h2)
 .intro y hy
  have key:∀k,(relabel scope X.env).names.lookup y=some k->(k=.cell\/k=.free)->∃c,cl.lookup y=some c:=fun k e hk=>by
   obtain⟨k0,h1,h2⟩:=Cp e
   have hf:k0=.free:=by
    rcases h2 with rfl|h2
    .rcases hk with rfl|rfl
     .exact absurd rfl (O.cell _ h1)
     .rfl
    .exact h2
   subst hf
   exact hcl2 y h1
  rcases hy with e|e
  .exact key _ e (.inl rfl)
  .exact key _ e (.inr rfl)
 .intro b hb
  have:=inHeap b hb
  exact#[qAq (qA9 this hC),fun y c e=>(f2 b hb).2.2.2.2.1 y c (hcl y c e)]
 .intro b o e hb
  rcases(f2 b hb).2.2.2.1 with z|z
  .exact I2.ok.noex b o e z
  .exact absurd (qAm (qAi e) (qAJ I2.ok.bsz z)) (qAY _)
 .intro b hb hf
  rcases qAk.mp (I2.stkSub b hf) with e|e
  .exact(f2 b hb).2.1 e
  .exact(f2 b hb).2.2.1 e
 .exact Un.laid old (qAe _) hDn
 .intro i y v e1 e2 e3
  cases i with
  |zero=>cases e2
  |succ k =>
   cases k with
   |zero=>cases e2
   |succ k =>
    obtain⟨j,ej,es⟩:=Hd (k:=k) e2
    obtain⟨y',n1,n2,n3⟩:=O.cap k j ej
    have ey:y'=y:=qAl (n1.symm.trans e1)
    subst ey
    have kc:=O.free _ (Bl n3) rfl
    obtain⟨m0,hn0,hl0⟩:=I2.loc
    obtain⟨u,ru,lk⟩:=hl0 j y' v n2 es (.inr (.inl kc))
    refine#[u,ru,?_]
    rcases lk with⟨k1,_⟩|⟨_,c,hc,ic⟩
    .rw[kc] at k1;cases k1
    .obtain⟨c',hc'⟩:=hcl2 y' (Bl n3)
     have:c'=c:=qAl ((hcl y' c' hc').symm.trans hc)
     subst this
     exact .inr #[.inl (BY I2.ok.kind kc n3),c',hc',ic.keeps old]
 .intro y c e
  obtain⟨v,ic⟩:=I2.cell y c (hcl y c e)
  exact#[v,ic.keeps old]
 .show upd H2 _ _ C=none
  rw[Al (qBl hC)]
  exact I2.hok.fresh (qBk hC)
 .intro y c e
  obtain⟨v,ic⟩:=I2.cell y c (hcl y c e)
  rw[Al (qAq ic.lt)]
  exact I2.freeC y c (hcl y c e)
 .intro p hp;cases hp
 .exact I2.hok.laid old (qAe _) #[qA8 _,[],_,.nil,hD]
 .show(none::none::Dm σ idx).length=N.length
  rw[O.len,qAU,qAU]
  unfold Dm
  rw[qAa]
def MK (K:W.Frag)(idx:List Nat)(wi:TI)(te:Hp->TE):TE:=fun σ H Q=>wi σ H fun J H1=>∀D,H1 D=none->K.lookup D=none->∃W:Nat->Nat->List V->Hp->Prop,(∃m,W 0 m [] (upd H1 D (.lst []))) /\
 ∀i m ys H,H D=some (.lst ys)->W i m ys H->(J.stop i H/\Q (.ref D) H)\/(J.go i H/\∀x H',J.yld i H x H'->∃p v1 v2,x=.ref p/\SqT K H' p [v1,v2] /\
  te H1 (some v1::some v2::Dm σ idx) H' (fun v H3=>H3 D=some (.lst ys)/\ys.length<sizeLine/\∃m',m'<m/\W (i+1) m' (ys++[v]) (upd H3 D (.lst (ys++[v])))))
theorem KI {elt iter:Expr}{wi:TI}{te:Hp->TE}{pos:Pos}{s:Shared}{H:Hp}{Q:VK}{use:Option (Value->Sem Unit)}{QQ:Value->Shared->Prop}(O:DA X x y' scope N idx) (hc:X.calm=true) (hi:PI X (.Tuple [.Name x px,.Name y' py'] kt pt) iter wi)
 (helt:∀cl C s₀ H₀ fp,PE (Aw X N scope cl C s₀ H₀ fp) elt (te H₀))
 (hs:∀x,foldedSetIterable iter X.env x=pure x) (I:Inv X pins σ H s) (h:MK X.K idx wi te σ H Q)
 (fin:∀(s2:Shared)(H2:Hp)(fp:List Addr)(cl:List (Str×Addr))(C D:Addr)(σ':St)(H':Hp)(s':Shared),Inv X pins σ H2 s2->(∀b∈fp,MR X pins H2 b)->s2.heap.objs.size<C->Inv (Aw X N scope cl C s2 H2 fp) [] σ' H' s'->Q (.ref D) H' ->
  compPost (model X.prog X.w) X.A X.xe use QQ (.ref D) C (.ok .next) s') :
 wpAny (model X.prog X.w) X.A (comprehension (.ListComp elt [#[.Tuple [.Name x px,.Name y' py'] kt pt,iter,[],0]] scope pos) scope X.env (firstIterPos [#[.Tuple [.Name x px,.Name y' py'] kt pt,iter,[],0]] pos) (newList []) false (eval iter X.env) use) QQ X.xe s:=by
 obtain⟨cl,ecl,hcl,hcl2⟩:=GL (scope:=scope) (env:=X.env) fun y hy hf=>I.ok.has y.1 (.inl (O.free y hy hf))
 refine wpAny_comprehension_free (use:=use) (cl:=cl) rfl hs ecl O.kind O.names ?_
 refine thn (hi pins s σ H _ I h) fun v s1 h1=>thn h1 fun itv s2 h2=>?_
 obtain⟨it,fp,tn,J,H2,rfl,I2,T,st2,f2,hD⟩:=h2
 refine wpAny_newObj_type (wpAny_newFunctionEnv O.cell (by intro y hy;simp at hy) (fun h1 hns hsb=>?_) O.kind)
 dsimp only at hns hsb ⊢
 generalize hG:s2.heap.push { cls:=.type "list",dict:=none,data:=.seq ([]:List Value).toArray }=G at hns hsb ⊢
 have hCs:s2.heap.objs.size<G.objs.size:=by rw[<-hG,qBJ];exact qB0 _
 have old:∀b o,s2.heap.get? b=some o->h1.get? b=some o:=fun b o e=>hsb.extBut b o (qAq (qA9 (qAi e) hCs)) (qAh _ (hG ▸ qAh _ e))
 have hDl:h1.get? s2.heap.objs.size=some { cls:=.type "list",data:=.seq ([]:List Value).toArray }:=hsb.extBut _ _ (qAq hCs) (qAh _ (hG ▸ qAu _ rfl))
 have hDn:H2 s2.heap.objs.size=none:=I2.hok.fresh (qAe _)
 have hDk:X.K.lookup s2.heap.objs.size=none:=by
  cases e:X.K.lookup s2.heap.objs.size with
  |none=>rfl
  |some o=>exact absurd (qAi (I2.kIn _ _ e)) (qAY _)
 obtain⟨W,⟨m0,w0⟩,step⟩:=hD _ hDn hDk
 have I4:Inv (Aw X N scope cl G.objs.size s2 H2 fp) [] (none::none::Dm σ idx) (upd H2 s2.heap.objs.size (.lst [])) { s2 with heap:=h1,toks:=s2.toks+([]:List (Str×Value)).length } :=
  Lj O I2 T st2 f2 hcl hcl2 hCs hns old hDl
 generalize hCC:G.objs.size=C at I4 hCs ⊢
 clear hsb hns hG hCC
 generalize hDD:s2.heap.objs.size=D at hDn hDk step w0 I4 hDl ⊢
 have st4:tn 0 h1:=T.keep 0 _ _ st2 fun b _ o e=>old b o e
 have frD:∀b∈fp,(upd H2 D (.lst [])) b=none:=fun b hb=>by
  obtain⟨o,e,_⟩:=T.obj 0 _ st2 b hb
  rw[Al (by rw[<-hDD];exact qAq (qAi e))]
  exact(f2 b hb).1
 have stat:∀{H':Hp},(∀b∈fp,H' b=none)->∀b∈fp,MR (Aw X N scope cl C s2 H2 fp) [] H' b:=fun hn b hb =>
  #[hn b hb,(I4.ok.exf b hb).1,I4.ok.exfs b hb,.inl hb,(I4.ok.exf b hb).2,fun p hp=>by cases hp]
 have hloc:(Aw X N scope cl C s2 H2 fp).env.scope.names.lookup x=some .local:=lookup_relabel_local O.own
 have hloc2:(Aw X N scope cl C s2 H2 fp).env.scope.names.lookup y'=some .local:=lookup_relabel_local O.own2
 have pg:PG (Aw X N scope cl C s2 H2 fp) (.Tuple [.Name x px,.Name y' py'] kt pt) (VZ X.K 2 (N2 (El 0) (N2 (El 1) VX))) :=
  Ri (X:=Aw X N scope cl C s2 H2 fp) hc (Hj (A9 O.nd O.fst (.inl hloc) (.inr hloc)) (Hj (A9 O.nd O.snd (.inl hloc2) (.inr hloc2)) Of))
 have loop:∀s3:Shared,s3={ s2 with heap:=h1,toks:=s2.toks+([]:List (Str×Value)).length } ->
  codeAny (model X.prog X.w) X.A (.compLoop (.ListComp elt [#[.Tuple [.Name x px,.Name y' py'] kt pt,iter,[],0]] scope pos) 0 (.ref it) (.ref D) (compEnvC scope cl C X.env)) (compPost (model X.prog X.w) X.A X.xe use QQ (.ref D) C) s3:=by
  rintro s3 rfl
  refine LCp.codeAny_compLoop_pair (fun n s'=>∃i z1 z2 H' ys,Inv (Aw X N scope cl C s2 H2 fp) [] (z1::z2::Dm σ idx) H' s'/\tn i s'.heap/\(∀b∈fp,H' b=none)/\H' D=some (.lst ys)/\W i n ys H') ?_ m0 #[0,none,none,_,[],I4,st4,frD,Aq,w0]
  rintro n s5 ⟨i,z1,z2,H5,ys,I5,st5,fr5,hD5,w5⟩
  rcases step i n ys H5 hD5 w5 with⟨stop,q⟩|⟨go,next⟩
  .refine wpAny_mono (T.done (Aw X N scope cl C s2 H2 fp) rfl rfl rfl hc i [] s5 _ H5 (fun _ _=>False) I5 (stat fr5) st5 stop) (fun r s6 hh=>?_) fun _ _ z=>z.elim
   obtain⟨hr,I6⟩:=hh
   subst hr
   exact fin s2 H2 fp cl C D _ H5 s6 I2 f2 hCs I6 q
  .refine wpAny_mono (T.item (Aw X N scope cl C s2 H2 fp) rfl rfl rfl hc i [] s5 _ H5 (fun _ _=>False) I5 (stat fr5) st5 go) (fun r s6 hh=>?_) fun _ _ z=>z.elim
   obtain⟨u,hr,h6⟩:=hh
   subst hr
   dsimp only
   refine wpAny_mono h6 (fun _ s7 h7=>?_) fun _ _ z=>z.elim
   obtain⟨xv,H7,I7,r7,y7,st7,fr7⟩:=h7
   have I7':=I7.pinned (stat fr7) (T.obj _ _ st7)
   obtain⟨p,v1,v2,e7,sq7,nx7⟩:=next xv H7 y7
   subst e7
   refine wpAny_mono (pg _ s7 _ H7 (.ref p) u (fun σ' H'=>σ'=some v1::some v2::Dm σ idx/\H'=H7) I7' r7 #[p,[v1,v2],rfl,sq7,rfl,v1,[v2],rfl,v2,[],rfl,rfl,rfl,rfl]) (fun _ s8 h8=>?_) fun _ _ z=>z.elim
   obtain⟨σ8,H8,I8,e8,e8'⟩:=h8
   subst e8 e8'
   have again:∀{H9:Hp}{s9:Shared}{ys':List V}{m':Nat},Inv (Aw X N scope cl C s2 H2 fp) ([]++Js fp s7.heap) (some v1::some v2::Dm σ idx) H9 s9->H9 D=some (.lst ys')->m'<n->W (i+1) m' ys' H9 ->
    ∃m,m<n/\∃i z1 z2 H' ys,Inv (Aw X N scope cl C s2 H2 fp) [] (z1::z2::Dm σ idx) H' s9/\tn i s9.heap/\(∀b∈fp,H' b=none)/\H' D=some (.lst ys)/\W i m ys H':=fun {H9 s9 ys' m'} I9 hD9 hm w9=>by
    refine#[m',hm,i+1,some v1,some v2,H9,ys',I9.unpinned,T.keep _ _ _ st7 fun b hb o e=>(I9.pin (b,o) (qAw _ (qAw _ (C0 hb e)))).1,fun b hb=>?_,hD9,w9]
    obtain⟨o,e,d⟩:=T.obj _ _ st7 b hb
    exact(I9.pin (b,o) (qAw _ (qAw _ (C0 hb e)))).2.1
   refine wpAny_mono (helt cl C s2 H2 fp _ s8 _ H8 _ I8 nx7) (fun y s10 hh=>?_) fun _ _ z=>z.elim
   obtain⟨v,H10,I10,r10,hD10,hl,m',hm,w'⟩:=hh
   refine wpAny_mono (AU (X:=Aw X N scope cl C s2 H2 fp) _ s10 _ H10 (.ref D) [v] (.ref D) [y] (fun _ H'=>H'=upd H10 D (.lst (ys++[v]))) I10 rfl (.cons r10 .nil) #[D,ys,v,rfl,rfl,hD10,hl,rfl]) (fun _ s11 hh=>?_) fun _ _ z=>z.elim
   obtain⟨_,H11,I11,_,e11⟩:=hh
   subst e11
   exact again I11 Aq hm w'
 exact codeAny_compStart_list (loop _ rfl) (T.self X.A 0 _ _ _ st4 (loop _ rfl))
theorem P5 {elt iter:Expr}{wi:TI}{te:Hp->TE}{pos:Pos}(O:DA X x y' scope N idx) (hc:X.calm=true) (hi:PI X (.Tuple [.Name x px,.Name y' py'] kt pt) iter wi)
 (helt:∀cl C s₀ H₀ fp,PE (Aw X N scope cl C s₀ H₀ fp) elt (te H₀))
 (hs:∀x,foldedSetIterable iter X.env x=pure x:=by intro _;rfl):PE X (.ListComp elt [#[.Tuple [.Name x px,.Name y' py'] kt pt,iter,[],0]] scope pos) (MK X.K idx wi te):=by
 intro pins s σ H Q I h
 rw[eval_ListComp]
 refine KI (use:=none) O hc hi helt hs I h fun s2 H2 fp cl C D σ' H' s' I2 f2 hC I' q=>?_
 obtain⟨m,hn,_⟩:=I'.loc
 exact#[m,hn,fun h' hs'=>#[.ref D,H',FO I2 f2 hC I' hs',rfl,q]]
theorem K9 {i:Nat}{y:Str}{py spos:Pos}{elt iter:Expr}{wi:TI}{te:Hp->TE}{pos:Pos}(O:DA X x y' scope N idx) (hc:X.calm=true) (hi:PI X (.Tuple [.Name x px,.Name y' py'] kt pt) iter wi)
 (helt:∀cl C s₀ H₀ fp,PE (Aw X N scope cl C s₀ H₀ fp) elt (te H₀)) (hN:X.N.Nodup) (hy:X.N[i]? = some y) (hly:Loc X.env.scope y)
 (hsw:swapsWith (.ListComp elt [#[.Tuple [.Name x px,.Name y' py'] kt pt,iter,[],0]] scope pos) (some (.Name y py)) spos.line X.env=pure true:=by rfl) (hs:∀x,foldedSetIterable iter X.env x=pure x:=by intro _;rfl)
 (hfn:X.fn y=true\/X.env.scope.names.lookup y=some .local:=by first|exact .inl rfl|exact .inr rfl|assumption) :
 PS X (.Assign [.Name y py] (.ListComp elt [#[.Tuple [.Name x px,.Name y' py'] kt pt,iter,[],0]] scope pos) spos) (UT i (MK X.K idx wi te)):=by
 intro pins s σ H D I h
 rw[exec_Assign_Name_used _ _ _ _ hsw]
 refine wpAny_bind (wpAny_standAt (wpAny_bind ?_))
 show wpAny _ X.A (do let _ <-comprehension (.ListComp elt [#[.Tuple [.Name x px,.Name y' py'] kt pt,iter,[],0]] scope pos) scope X.env _ (newList []) false (eval iter X.env) (some (assign (.Name y py) X.env))) _ _ s
 refine wpAny_bind (wpAny_mono (KI (use:=some (assign (.Name y py) X.env)) (QQ:=fun _ s'=>SP X pins D .next s') O hc hi helt hs I h fun s2 H2 fp cl C E σ' H' s' I2 f2 hC I' q=>?_) (fun _ s' hq=>wpAny_pure (wpAny_pure hq)) fun _ _ e=>e)
 have I3:Inv X pins σ H' s':=FO (h':=s'.heap) I2 f2 hC I' #[rfl,fun _ _=>rfl]
 obtain⟨mC,hnC,_⟩:=I'.loc
 have h0:X.s₀.heap.objs.size<=C:=qAJ I2.sz (qBk hC)
 have hCL:C≠X.env.locals:=qBl (qA9 I2.lt hC)
 have hCc:∀y c,X.env.cells.lookup y=some c->c≠C:=fun y c e=>by
  obtain⟨v,ic⟩:=I2.cell y c e
  exact qAq (qA9 ic.lt hC)
 have hCp:∀p∈X.pn++pins,p.1≠C:=fun p hp=>qAq (qA9 (qAi (I2.pin p hp).1) hC)
 show wpAny _ X.A (assign (.Name y py) X.env (.ref E)) _ _ _
 refine wpAny_assign_Name (IE (v:=.ref E) I3 hN hy hly rfl (fun s4 I4 hb=>?_) hfn)
 obtain⟨a,hsa,ha⟩:=hb
 have hCa:C≠a:=by
  rcases ha with rfl|ha
  .exact hCL
  .exact fun z=>hCc y a ha z.symm
 exact#[mC,hnC.sameBut hsa hCa,fun h' hs'=>#[_,H',N7 I4 hs' h0 I'.free hCL hCc hCp,q]]
end
def Qj (τ:Tau)(idx:List Nat)(x y:D):Tau:=some (.d x)::some (.d y)::(Dm τ idx).map (Option.map S.share)
section
variable {X:Cx}{x y':Str}{px py' pt pos:Pos}{kt:Nat}{scope:Scope}{N:List Str}{idx:List Nat}{σ:St}{τ:Tau}{elt:Expr}{ta:TA3}{te:TE3}
theorem Oh {B p p0 q:HZ}{d e:D}{v u:V}(r:Rep X B τ σ p) (e0:Ext p p0) (e':Ext p0 q) (iv:Is X.K q.z v d) (iu:Is X.K q.z u e):Rep (cxC X N scope p0.h) p0 (Qj τ idx d e) (some v::some u::Dm σ idx) q:=by
 have base:=MJ (N:=N) (scope:=scope) (idx:=idx) r e0 e' iu
 have no:∀(i:Nat)(xs:List D),¬(Qj τ idx d e)[i]? = some (some (.l xs)):=fun i xs z=>by
  cases i with
  |zero=>cases z
  |succ k =>
   have z':(RJ τ idx e)[k]? = some (some (.l xs)):=z
   cases k with
   |zero=>cases z'
   |succ k =>
    have z2:((Dm τ idx).map (Option.map S.share))[k]? = some (some (.l xs)):=z'
    rw[qAc] at z2
    cases q:(Dm τ idx)[k]? with
    |none=>rw[q] at z2;cases z2
    |some o =>
     rw[q] at z2
     cases o with
     |none=>cases z2
     |some s0 =>
      have z3:s0.share=.l xs:=qAl (qAl z2)
      cases s0<;>cases z3
 refine#[?_,e',fun i s hs=>?_,fun i xs a z _=>absurd z (no i xs),fun i j xs s a _ z _ _ _=>absurd z (no i xs),fun _=>Bk.refl _,fun k a h=>by cases h]
 .have:=base.len
  show(some u::Dm σ idx).length+1=(RJ τ idx e).length+1
  rw[this]
 .cases i with
  |zero=>cases hs;exact#[v,rfl,iv]
  |succ k=>exact base.val k s hs
def OV (idx:List Nat)(ta:TA3)(te:TE3):TE3:=fun τ R=>ta τ fun ss=>∃(s1 s2:S)(xs ys:List D),ss=[s1,s2]/\items s1=some xs/\(s2=.r ys\/s2=.d (.lst ys))/\∃os:List D,os.length=min xs.length ys.length /\
 (∀(n:Nat)(x y:D),xs[n]? = some x->ys[n]? = some y->te (Qj τ idx x y) (fun s=>dd s.arg fun d=>os[n]? = some d))/\os.length<=100000/\R (.l os)
theorem WW {K:W.Frag}{p:HZ}{v:V}{s:S}{xs:List D}(h:IsS K p v s) (hz:Bk p.z p.h) (hs:items s=some xs):∃a vs b,v=.ref a/\SqB K b p.h a vs/\Iss K p.z vs xs:=by
 cases s with
 |d z =>
  cases z with
  |tup zs=>cases hs;obtain⟨a,vs,rfl,h3,h4⟩:=Is.tup_inv h;exact#[a,vs,true,rfl,SqT.same hz h3,h4]
  |lst zs=>cases hs;obtain⟨a,vs,rfl,h3,h4⟩:=Is.lst_inv h;exact#[a,vs,false,rfl,hz.seq h3,h4]
  |_=>cases hs
 |l zs=>cases hs;obtain⟨a,vs,rfl,h3,h4⟩:=h;exact#[a,vs,false,rfl,SqL.of h3,h4]
 |r zs=>cases hs;obtain⟨a,vs,rfl,h3,h4⟩:=h;exact#[a,vs,false,rfl,h3,h4]
theorem SqB.same {K:W.Frag}{b:Bool}{H H':Hp}{a:Addr}{vs:List V}(e:Bk H H') (h:SqB K b H a vs):SqB K b H' a vs:=by
 unfold SqB at *
 cases b with
 |true=>exact SqT.same e h
 |false=>exact e.seq h
theorem KG {Q:VK}{H:Hp}(h:FE X (OV idx ta te) σ H Q):MK X.K idx (VQ X.K (FA X ta)) (fun H₀=>FE (cxC X N scope H₀) te) σ H Q:=by
 obtain⟨B,z,τ,R,r,ht,q⟩:=h
 refine#[B,z,τ,_,r,ht,fun ss vs p1 e1 i1 h1=>?_]
 obtain⟨s1,s2,xs,ys,rfl,hx,hy,os,hlen,hel,hsz,hR⟩:=h1
 obtain⟨w1,w2,rfl,is1,is2⟩:∃w1 w2,vs=[w1,w2]/\IsS X.K p1 w1 s1/\IsS X.K p1 w2 s2:=by
  have hl:=i1.1
  match vs,hl with
  |[w1,w2],_=>exact#[w1,w2,rfl,(i1.2 0 w1 s1 rfl rfl).1,(i1.2 1 w2 s2 rfl rfl).1]
 obtain⟨a1,vs1,b,rfl,q1,j1⟩:=WW is1 e1.sub hx
 have hy':items s2=some ys:=by rcases hy with rfl|rfl<;>rfl
 obtain⟨a2,vs2,q2,j2,rfl⟩:∃a2 vs2,SqL X.K p1.h a2 vs2/\Iss X.K p1.z vs2 ys/\w2=.ref a2:=by
  rcases hy with rfl|rfl
  .obtain⟨p,us,e,h3,h4⟩:=is2;exact#[p,us,h3,h4,e]
  .obtain⟨p,us,e,h3,h4⟩:=Is.lst_inv is2;exact#[p,us,e1.sub.seq h3,h4,e]
 refine#[a1,a2,rfl,b,#[vs1,q1],#[vs2,q2],fun D' hD hK=>?_]
 have sz:(100000:Nat)<sizeLine:=∅
 have q2':SqB X.K false p1.h a2 vs2:=q2
 refine#[fun i m us H'=>m=os.length-i/\i<=os.length/\∃z',Ext p1 #[H',z']/\z' D'=none/\Iss X.K z' us (os.take i),#[os.length,rfl,qA8 _,p1.z,Ext.own e1.sub hD _,e1.sub.free hD,Iss.nil],?_]
 rintro i m us H' hD' ⟨rfl,hi,z',hs,hzD,hiss⟩
 have q1h:SqB X.K b H' a1 vs1:=q1.same hs.hh
 have q2h:SqB X.K false H' a2 vs2:=q2'.same hs.hh
 have l1:=j1.1
 have l2:=j2.1
 by_cases hlt:i<os.length
 .have n1:i<vs1.length:=()
  have n2:i<vs2.length:=()
  refine .inr #[#[vs1,vs2,_,_,q1h,q2h,qAb n1,qAb n2],fun v H'' hy2=>?_]
  obtain⟨p,v1,v2,hp,rfl,g1,g2,rfl⟩:=hy2
  obtain⟨d1,hd1,id1⟩:=DS j1 (g1 vs1 q1h)
  obtain⟨d2,hd2,id2⟩:=DS j2 (g2 vs2 q2h)
  have eo:Ext #[H',z'] #[upd H' p (.tup [v1,v2]),z']:=Ext.own hs.sub hp _
  have hs2:=hs.trans eo
  refine#[p,v1,v2,rfl,.inl (.inl Aq),?_]
  have rr:Rep (cxC X N scope p1.h) p1 (Qj τ idx d1 d2) (some v1::some v2::Dm σ idx) #[upd H' p (.tup [v1,v2]),z']:=Oh r e1 hs2 (id1.mono hs.zz) (id2.mono hs.zz)
  have hDp:D'≠p:=by rintro rfl;rw[hD'] at hp;cases hp
  have hD2:upd H' p (.tup [v1,v2]) D'=some (.lst us):=by rw[Al hDp];exact hD'
  have hys:us.length<=i:=by rw[hiss.1,qAS];omega
  have keep:∀q:HZ,Ext #[upd H' p (.tup [v1,v2]),z'] q->q.z D'=none:=fun q e=>by
   cases y:q.z D' with
   |none=>rfl
   |some o =>
    rcases e.new D' o y with y|y
    .exact nomatch (hzD.symm.trans y)
    .exact nomatch (hD2.symm.trans y)
  refine#[_,_,_,_,rr,hel i d1 d2 hd1 hd2,fun s v3 q4 e4 i4 f4 h4=>?_]
  obtain⟨y,hy',h4⟩:=FZ h4
  obtain⟨z5,e5,i5⟩:=Fs e4 i4 f4
  rw[hy'] at i5
  have hD4:q4.h D'=some (.lst us):=e5.hh _ _ hD2
  have hz5:z5 D'=none:=keep _ e5
  refine#[hD4,(),os.length-(i+1),(),rfl,hlt,z5,?_,hz5,?_]
  .have e15:=hs2.trans e5
   refine#[fun b o hb'=>?_,e15.zz,fun b o hb'=>?_,e15.new]
   .have hne:b≠D':=by rintro rfl;rw[hD] at hb';cases hb'
    show upd q4.h D' _ b=some o
    rw[Al hne]
    exact e15.hh b o hb'
   .have hne:b≠D':=by
     rintro rfl
     have hb2:z5 b=some o:=hb'
     rw[hz5] at hb2;cases hb2
    show upd q4.h D' _ b=some o
    rw[Al hne]
    exact e15.sub b o hb'
  .rw[qBp,h4]
   exact(hiss.mono e5.zz).snoc i5
 .have ei:i=os.length:=()
  subst ei
  rw[qCq] at hiss
  refine .inl #[#[vs1,vs2,q1h,q2h,()],q (.l os) _ #[H',z'] (e1.trans hs) #[D',us,rfl,hD',hiss] (fun xs a _ h2=>?_) hR]
  cases h2
  exact#[e1.hh.free hD,hK,hzD]
variable {e1 e2:Expr}{np pn:Pos}
theorem Ta (O:DA X x y' scope N idx)(hc:X.calm=true)(hi:PI X (.Tuple [.Name x px,.Name y' py'] kt pt) (.Call (.Name "zip" np) [e1,e2] [] pn) (VQ X.K (FA X ta)))(helt:∀cl C s₀ H₀ fp,PE3 (Aw X N scope cl C s₀ H₀ fp) elt te)
 (hs:∀x,foldedSetIterable (.Call (.Name "zip" np) [e1,e2] [] pn) X.env x=pure x:=by intro _;rfl):PE3 X (.ListComp elt [#[.Tuple [.Name x px,.Name y' py'] kt pt,.Call (.Name "zip" np) [e1,e2] [] pn,[],0]] scope pos) (OV idx ta te) :=
 #[Bs (P5 O hc hi (Kh helt) hs) fun σ H Q h=>KG h]
theorem VA {i:Nat}{y:Str}{py spos:Pos}(O:DA X x y' scope N idx) (hc:X.calm=true) (hi:PI X (.Tuple [.Name x px,.Name y' py'] kt pt) (.Call (.Name "zip" np) [e1,e2] [] pn) (VQ X.K (FA X ta))) (helt:∀cl C s₀ H₀ fp,PE3 (Aw X N scope cl C s₀ H₀ fp) elt te)
 (hN:X.N.Nodup) (hy:X.N[i]? = some y) (hly:Loc X.env.scope y)
 (hsw:swapsWith (.ListComp elt [#[.Tuple [.Name x px,.Name y' py'] kt pt,.Call (.Name "zip" np) [e1,e2] [] pn,[],0]] scope pos) (some (.Name y py)) spos.line X.env=pure true:=by rfl) (hs:∀x,foldedSetIterable (.Call (.Name "zip" np) [e1,e2] [] pn) X.env x=pure x:=by intro _;rfl)
 (hfn:X.fn y=true\/X.env.scope.names.lookup y=some .local:=by first|exact .inl rfl|exact .inr rfl|assumption) (hp:Eg X i:=by first|exact Ec rfl|exact Eu rfl ∅|assumption) :
 PS3 X (.Assign [.Name y py] (.ListComp elt [#[.Tuple [.Name x px,.Name y' py'] kt pt,.Call (.Name "zip" np) [e1,e2] [] pn,[],0]] scope pos) spos) (VR i (OV idx ta te)) :=
 #[CF (K9 O hc hi (Kh helt) hN hy hly hsw hs hfn) fun D2 σ H hh=>by obtain⟨B,z,τ,D3,r,ht,c⟩:=hh;exact KG #[B,z,τ,_,r,ht,fun s v H' e i f h=>by
  cases s with
  |r _=>exact h.elim
  |d y=>exact c.nx _ _ _ (r.set e i f rfl hp) h
  |l ys=>exact c.nx _ _ _ (r.set e i f rfl hp) h]]
end
def Kd (fN:List Str)(scope:Scope)(N:List Str):Nat->List Nat->Bool
 |_,[]=>true
 |k,j::r=>(match N[k+2]?,fN[j]? with
  |some y,some y'=>y==y'&&(scope.names.lookup y==some NameKind.free)
  |_,_=>false)&&Kd fN scope N (k+1) r
def LX (fsc:Scope)(fN:List Str)(x z:Str)(scope:Scope)(N:List Str)(idx:List Nat):Bool :=
 (scope.kind == .function)&&scope.names.all (fun y=>!(y.2 == .cell))&&scope.names.all (fun y=>!(y.2 == .local)||scope.names.lookup y.1==some .local)&&(scope.names.lookup x==some NameKind.local)&&(scope.names.lookup z==some NameKind.local) &&
 scope.names.all (fun y=>!(y.2 == .free)||fsc.names.lookup y.1==some .cell)&&decide N.Nodup&&(N[0]? == some x)&&(N[1]? == some z)&&(N.length==idx.length+2)&&Kd fN scope N 0 idx
theorem NG {fN:List Str}{scope:Scope}{N:List Str}:∀{idx:List Nat}{k0:Nat},Kd fN scope N k0 idx=true->∀(k j:Nat),idx[k]? = some j->∃y,N[k0+k+2]? = some y/\fN[j]? = some y/\scope.names.lookup y=some .free
 |[],_,_,_,_,h=>by simp at h
 |i::r,k0,h,k,j,hk=>by
  unfold Kd at h
  rw[qAT] at h
  cases k with
  |zero =>
   have e:i=j:=by simpa using hk
   subst e
   obtain⟨h1,_⟩:=h
   split at h1
   .rename_i y y' e1 e2
    rw[qAT] at h1
    have ey:y=y':=by simpa using h1.1
    subst ey
    exact#[y,e1,e2,by simpa using h1.2]
   .cases h1
  |succ k =>
   obtain⟨y,a,b,c⟩:=NG h.2 k j (by simpa using hk)
   exact#[y,by rw[<-a];congr 1;omega,b,c]
theorem DA.mk' {X:Cx}{x z:Str}{scope:Scope}{N:List Str}{idx:List Nat}(fsc:Scope) (fN:List Str) (h1:X.env.scope=fsc) (h2:X.N=fN) (h:LX fsc fN x z scope N idx=true):DA X x z scope N idx:=by
 subst h1 h2
 unfold LX at h
 simp only[qAT] at h
 obtain⟨⟨⟨⟨⟨⟨⟨⟨⟨⟨a1,a2⟩,a3⟩,a4⟩,b4⟩,a5⟩,a6⟩,a7⟩,b7⟩,a8⟩,a9⟩:=h
 refine#[by simpa using a1,fun y hy=>?_,fun y hy hl=>?_,by simpa using a4,by simpa using b4,fun y hy hf=>?_,by simpa using a6,by simpa using a7,by simpa using b7,by simpa using a8,fun k j hk=>?_]
 .have:=qAG.mp a2 y hy
  simpa using this
 .have:=qAG.mp a3 y hy
  rw[hl] at this
  simpa using this
 .have:=qAG.mp a5 y hy
  rw[hf] at this
  show X.env.scope.names.lookup y.1=some .cell
  simpa using this
 .have:=NG a9 k j hk
  simpa using this
theorem Kf {α β:Type}{f g:α->Option β}:∀{l:List α},(∀a∈l,f a=g a)->l.filterMap f=l.filterMap g
 |[],_=>rfl
 |a::l,h=>by
  rw[qA7,qA7,h a (qAk.mpr (.inl rfl)),Kf fun b hb=>h b (qAk.mpr (.inr hb))]
theorem Qv (items:List Value):slicePick items.toArray none none (some (-1))=items.reverse.toArray:=by
 unfold slicePick
 congr 1
 have e:sliceBounds none none (some (-1)) items.toArray.size=((items.length:Int)-1,-1,-1):=by
  unfold sliceBounds
  simp
 rw[e]
 unfold sliceRange
 have c:(if (-1:Int)>0 then (if ((items.length:Int)-1) < -1 then ((-1:Int)-((items.length:Int)-1) + -1-1) / -1 else 0) else (if ((items.length:Int)-1) > -1 then (((items.length:Int)-1) - -1 - -1-1)/(- -1) else 0))=(items.length:Int):=by
  rw[if_neg ∅]
  split
  .rw[show(- -1:Int)=1 from ∅,Int.ediv_one];omega
  .omega
 show((List.range (if (-1:Int)>0 then (if ((items.length:Int)-1) < -1 then ((-1:Int)-((items.length:Int)-1) + -1-1) / -1 else 0) else (if ((items.length:Int)-1) > -1 then (((items.length:Int)-1) - -1 - -1-1)/(- -1) else 0)).toNat).map fun(k:Nat)=>(((items.length:Int)-1) + -1*(k:Int)).toNat).filterMap (items.toArray[·]?)=_
 rw[c,qBI]
 have q:((List.range items.length).map fun(k:Nat)=>(((items.length:Int)-1) + -1*(k:Int)).toNat).filterMap (items.toArray[·]?)=(List.range items.length).filterMap fun k=>items[items.length-1-k]? := by
  rw[qBu]
  refine Kf fun k hk=>?_
  have hk:=qAI.mp hk
  show items.toArray[(((items.length:Int)-1) + -1*(k:Int)).toNat]? = _
  rw[show(((items.length:Int)-1) + -1*(k:Int)).toNat=items.length-1-k from (),qBy]
 rw[q]
 have g:(List.range items.length).filterMap (fun k=>items[items.length-1-k]?)=(List.range items.length).filterMap (fun k=>items.reverse[k]?):=by
  refine Kf fun k hk=>?_
  have hk:=qAI.mp hk
  rw[qBz hk]
 rw[g]
 have all:∀(l:List Value),(List.range l.length).filterMap (fun k=>l[k]?)=l:=fun l=>by
  induction l with
  |nil=>rfl
  |cons a l ih =>
   rw[qAU,List.range_succ_eq_map,qA7,qBu]
   show a::_=_
   congr 1
 have:=all items.reverse
 rw[qBr] at this
 exact this
section
variable {X:Cx}{e st:Expr}{te ts:TE3}{pos p2:Pos}
def Ym (K:W.Frag)(t:TE)(ts:TE):TE:=fun σ H Q=>t σ H fun x H1=>ts σ H1 fun u H2=>u=.int (-1)/\∃a xs,x=.ref a/\SqL K H2 a xs/\∀p,H2 p=none->K.lookup p=none->Q (.ref p) (upd H2 p (.lst xs.reverse))
theorem Uk {t t2:TE}(he:PE X e t) (hs:PE X st t2):PE X (.Subscript e (.Slice none none (some st) p2) pos) (Ym X.K t t2):=by
 intro pins s σ H Q I h
 refine Subscript_ (thn (he pins s σ H _ I h) fun v s1 hh=>?_)
 obtain⟨x,H1,I1,r1,q1⟩:=hh
 refine wpAny_Slice ?_
 rw[evalPart_none]
 refine wpAny_pure (wpAny_pure ?_)
 rw[evalPart_some]
 refine thn (hs pins s1 σ H1 _ I1 q1) fun vs s3 hh=>?_
 obtain⟨u,H3,I3,r3,e3,a,xs,e4,hx,q⟩:=hh
 subst e3 e4
 obtain⟨tk,rfl⟩:=r3
 cases r1
 have I4:Inv X pins σ H3 { s3 with heap:=s3.heap.push { cls:=.type "slice",data:=.fields (List.toArray [.none,.none,.int (-1) tk]) } }:=I3.kept (t':=s3.toks) fun b ob q=>qAh _ q
 obtain⟨its,r,ht,hz⟩:=I4.list hx
 have hlen:=r.length
 have go:wpAny (model X.prog X.w) X.A (getItem (.ref a) (.ref s3.heap.objs.size)) (EP X pins σ Q) X.xe { s3 with heap:=s3.heap.push { cls:=.type "slice",data:=.fields (List.toArray [.none,.none,.int (-1) tk]) } }:=by
  refine wpAny_getItem_list_slice ht.isList (Heap.IsSliceOf.new ..) .none .none (.int (-1) tk) ∅ ?_ (by rw[qAv]<;>omega)
  rw[Qv]
  refine#[.ref _,_,I4.laid (t':=s3.toks) (o:=.lst xs.reverse) (fun b ob q=>qAh _ q) (qAe _) ?_,rfl,q _ (I4.hok.fresh (qAe _)) ?_]
  .exact#[by rw[qBr];exact hz,_,0,r.reverse,qAu _ rfl]
  .cases e:X.K.lookup _ with
   |none=>rfl
   |some o=>exact absurd (qAi (I4.kIn _ _ e)) (qAY _)
 show wpAny (model X.prog X.w) X.A (subscriptTail e (.Slice none none (some st) p2) (.ref a) (.ref s3.heap.objs.size)) (EP X pins σ Q) X.xe _
 exact tail_any (ops:=[.ref a,.ref s3.heap.objs.size]) ht.isList.typeIs slot_list_getitem.lookup go (by with_unfolding_all rfl)
def Xz (te ts:TE3):TE3:=fun τ R=>te τ fun s=>∃xs,(s=.r xs\/s=.l xs\/s=.d (.lst xs))/\ts τ fun u=>u=.d (.int (-1))/\R (.l xs.reverse)
theorem Sk {K:W.Frag}{H:Hp}{vs:List V}{xs:List D}(h:Iss K H vs xs):Iss K H vs.reverse xs.reverse:=by
 refine#[by rw[qBr,qBr];exact h.1,fun i v x h1 h2=>?_]
 have hi:i<vs.length:=by have:=(qAd.mp h1).1;rw[qBr] at this;exact this
 rw[qBz hi] at h1
 rw[qBz (by rw[<-h.1];exact hi),<-h.1] at h2
 exact h.2 _ v x h1 h2
theorem Wa (he:PE3 X e te)(hs:PE3 X st ts):PE3 X (.Subscript e (.Slice none none (some st) p2) pos) (Xz te ts) :=
 #[Bs (Uk he.out hs.out) fun σ H Q hh=>by
  obtain⟨B,z,τ,R,r,ht,q⟩:=hh
  refine#[B,z,τ,_,r,ht,fun s v q1 e1 i1 f1 h1=>?_]
  obtain⟨xs,hx,h1⟩:=h1
  refine#[B,_,τ,_,r.mono e1,h1,fun u v2 q2 e2 i2 f2 h2=>?_]
  obtain⟨rfl,hR⟩:=h2
  have i1':=IsS.mono e2 i1
  refine#[Is.int_inv i2,?_]
  have fin:∀(a:Addr)(vs:List V),v=.ref a->SqL X.K q2.h a vs->Iss X.K q2.z vs xs->∃a xs,v=.ref a/\SqL X.K q2.h a xs/\∀p,q2.h p=none->X.K.lookup p=none->Q (.ref p) (upd q2.h p (.lst xs.reverse)):=fun a vs hv hq hi =>
   #[a,vs,hv,hq,fun p hp hk=>q (.l xs.reverse) _ #[_,q2.z] ((e1.trans e2).trans (Ext.own e2.sub hp _)) #[p,_,rfl,Aq,Sk hi] (fun ys a _ h2=>by
    cases h2
    exact#[(e1.trans e2).hh.free hp,hk,e2.sub.free hp]) hR]
  rcases hx with rfl|rfl|rfl
  .obtain⟨a,vs,rfl,h3,h4⟩:=i1';exact fin a vs rfl h3 h4
  .obtain⟨a,vs,rfl,h3,h4⟩:=i1';exact fin a vs rfl (SqL.of h3) h4
  .obtain⟨a,vs,rfl,h3,h4⟩:=Is.lst_inv i1';exact fin a vs rfl (e2.sub.seq h3) h4]
end
section
variable {X:Cx}{pos:Pos}{e:Expr}{te tb:TE3}
def RY (sp:SpL)(U:Str->Prop)(idx:List Nat)(te tb:TE3):TE3:=fun τ R=>te τ fun s=>∃(dom:D->Prop)(p:D->Bool),(∀x,dom x->tb (some (.d x)::KL τ idx) fun s=>s=.d (.bl (p x)))/\∀a,sp a dom p [s.arg,.d (.ref a)] R U
theorem He {k kb:Nat}{g x y:Str}{np lp:Pos}{ps:List Str}{sp:SpL}{c T:Addr}{params:Arguments}{body:Expr}{scope:Scope}{N:List Str}{idx:List Nat}(cal:W4 X.prog X.w X.K X.mg X.base k (kb+1) g ps sp) (hr:E9 k X.A) (hg:Gl X g)
 (ht:W.tabIn X.K y=some (c,T)) (hp:(recsOf X.prog).any (fun d=>d.name==y)=true) (hcode:X.env.code=.ref c) (O:A8 X x scope N idx) (he:PE3 X e te)
 (hb:∀cl nm a cdv A outer s H,E9 kb (A.deeper (W.envX nm scope s.heap.objs.size a cdv cl))->PE3 (Sr X N scope cl nm a cdv A outer s H) body tb)
 (hfn:∀y,X.fn y=true:=by intro _;rfl) (hdef:defaultsOf params X.env=([],[]):=by rfl) (hco:scope.isCoroutine=false:=by rfl) (hgen:scope.isGenerator=false:=by rfl)
 (hbind:∀(q:Str)(cl:List (Str×Addr))(pm cv ct u:Value),bindArgs (qCe "<lambda>" q params body scope cl pm cv ct) #[[u],[]]=pure [(x,u)]:=by intros;rfl)
 (hdb:(g==("__debug__":Str))=false:=by decide) (hs:starEach [e,.Lambda params body scope lp] X.env=(false,eval e X.env)::starEach [.Lambda params body scope lp] X.env:=by exact Dw rfl) :
 PE3 X (.Call (.Name g np) [e,.Lambda params body scope lp] [] pos) (RY sp NoU idx te tb):=by
 refine#[fun pins s σ H Q I hh=>?_]
 obtain⟨B,z,τ,R,r,ht1,q⟩:=hh
 obtain⟨f,fd,F,hm,hk,hbi⟩:=cal.ex
 obtain⟨cl,ecl,hcl,hcl2⟩:=GL (scope:=scope) (env:=X.env) fun y hy hf=>I.ok.has y.1 (.inl (O.free y hy hf))
 refine wpAny_Call_Name_kw (JH I hg hm ?_ hdb)
 refine W.callWith_K (h₀:=X.base) I.ok.mod.kin hk ?_ hs rfl
 rw[hs]
 refine Calls.spliced_cons (thn (he.out pins s σ H (fun v1 H1=>∃z1 d,Ext #[H,z] #[H1,z1]/\IsS X.K #[H1,z1] v1 d/\d.own=false/\∃(dom:D->Prop)(p:D->Bool),(∀x,dom x->tb (some (.d x)::KL τ idx) fun s=>s=.d (.bl (p x)))/\∀a,sp a dom p [d,.d (.ref a)] R NoU) I #[B,z,τ,_,r,ht1,fun s2 v2 q2 e2 i2 f2 h2=>?_]) fun u1 s1 #[v1,H1,I1,rv1,z1,d,e1,i1,ow,dom,p,hdom,hsp]=>?_)
 .obtain⟨dom,p,hdom,h3⟩:=h2
  obtain⟨z5,e5,i5⟩:=Fs e2 i2 f2
  exact#[z5,s2.arg,e5,i5,N4 s2,dom,p,hdom,h3]
 have hs2:starEach [Expr.Lambda params body scope lp] X.env=(false,eval (.Lambda params body scope lp) X.env)::starEach [] X.env:=Dw rfl
 rw[hs2]
 refine Calls.spliced_cons (Qr I1 ht hp hcode hdef ecl fun a c' H2 s2 fo oc fs nm qual tq pm ctv I2 sm ha hfo hc hoc hfs=>?_)
 refine Calls.spliced_nil #[I2.kIn,?_]
 have e12:Ext #[H,z] #[H2,z1]:=e1.trans (Ext.grow e1.sub sm)
 have r2:Rep X B τ σ #[H2,z1]:=r.mono e12
 have hL:=Ve O hfn I2 hcl hcl2 ha hfo hc hoc hfs hco hgen hbind hb r2 hdom
 have i1':IsS X.K #[H2,z1] v1 d:=IsS.mono (Ext.grow e1.sub sm) i1
 have hl:[u1,Value.ref a].length=ps.length:=F.len a dom p _ _ _ (hsp a)
 have rvs:B4 [v1,V.ref a] [u1,Value.ref a]:=.cons rv1 (.cons rfl .nil)
 refine wpAny_call (codeAny_mono (F.run X.A X.stack s2 H2 #[[u1,.ref a],[]] [u1,.ref a] [v1,.ref a] Q (fun _ _ _=>False) a dom p hr I2.env0 ?_ rvs hL #[z1,[d,.d (.ref a)],R,NoU,e12.sub,#[rfl,fun i v s h1 h2=>?_],hsp a,fun s v q3 e3 i3 f3 h3=>q s v q3 (e12.trans e3) i3 (Nt e12 f3) h3,fun _ _ _ _ _ z=>z.elim]) fun rr s3 hq=>?_)
 .have:=hbi s2 [u1,.ref a] I2.kIn (by simpa using hl)
  simpa using this
 .match i,h1,h2 with
  |0,h1,h2=>cases h1;cases h2;exact#[i1',ow]
  |1,h1,h2=>cases h1;cases h2;exact#[Is.ref a,rfl]
 cases rr with
 |error e=>exact(show False from hq).elim
 |ok fl =>
  cases fl with
  |ret u=>exact I2.after hq
  |next=>exact False.elim hq
  |brk=>exact False.elim hq
  |cont=>exact False.elim hq
end
section
variable {X:Cx}{e a b:Expr}{te ta tb:TE3}{pos:Pos}
end
end L3
namespace CH
abbrev Ln2:=Rat×Rat
def ev (l:Ln2)(t:Rat):Rat:=l.1*t+l.2
abbrev Ps:=List (Rat×Ln2)
def bg (P:Ps)(i:Nat):Rat:=(P.getD i (0,(0,0))).1
def ln (P:Ps)(i:Nat):Ln2:=(P.getD i (0,(0,0))).2
def LeO (t:Rat):Option Rat->Prop
 |none=>True
 |some u=>t<=u
def LtO (t:Rat):Option Rat->Prop
 |none=>True
 |some u=>t<u
theorem LtO.le {t:Rat}{T:Option Rat}(h:LtO t T):LeO t T:=by
 cases T with
 |none=>trivial
 |some u=>exact qAy h
structure PU (P:Ps)(h:Rat->Rat)(T:Option Rat):Prop where
 up:∀i,i+1<P.length->bg P i<bg P (i+1)
 lt:∀i,i<P.length->LtO (bg P i) T
 v:∀i,i<P.length->∀t,bg P i<=t->(i+1<P.length->t<=bg P (i+1))->LeO t T->h t=ev (ln P i) t
theorem Kz {P:Ps}{c:Rat×Ln2}{i:Nat}(h:i<P.length):bg (P++[c]) i=bg P i/\ln (P++[c]) i=ln P i:=by
 have e:(P++[c]).getD i (0,(0,0))=P.getD i (0,(0,0)):=by
  rw[qAf,qAf,qAp h]
 unfold bg ln
 rw[e]
 exact#[rfl,rfl]
theorem VN {P:Ps}{c:Rat×Ln2}:bg (P++[c]) P.length=c.1/\ln (P++[c]) P.length=c.2:=by
 have e:(P++[c]).getD P.length (0,(0,0))=c:=by
  rw[qAf,qAs (qAe _),qCG]
  rfl
 unfold bg ln
 rw[e]
 exact#[rfl,rfl]
theorem PU.push {P:Ps}{h:Rat->Rat}{T:Option Rat}{b:Rat}{l:Ln2}(p:PU P h (some b)) (hb:LtO b T) (hv:∀t,b<=t->LeO t T->h t=ev l t):PU (P++[(b,l)]) h T:=by
 have hl:(P++[(b,l)]).length=P.length+1:=by simp
 have r:=VN (P:=P) (c:=(b,l))
 refine#[fun i hi=>?_,fun i hi=>?_,fun i hi t h1 h2 h3=>?_]
 .rw[hl] at hi
  have hi':i<P.length:=()
  rw[(Kz hi').1]
  by_cases c:i+1<P.length
  .rw[(Kz c).1];exact p.up i c
  .rw[show i+1=P.length from (),r.1];exact p.lt i hi'
 .rw[hl] at hi
  by_cases c:i<P.length
  .rw[(Kz c).1]
   have:=p.lt i c
   cases T with
   |none=>trivial
   |some u =>
    have h1:bg P i<b:=this
    have h2:b<u:=hb
    show bg P i<u
    grind
  .rw[show i=P.length from (),r.1];exact hb
 .rw[hl] at hi h2
  by_cases c:i<P.length
  .rw[(Kz c).2]
   rw[(Kz c).1] at h1
   have h2':=h2 ()
   by_cases c2:i+1<P.length
   .rw[(Kz c2).1] at h2'
    exact p.v i c t h1 (fun _=>h2') (by
     have:=p.lt _ c2
     have h1:bg P (i+1)<b:=this
     show t<=b
     grind)
   .rw[show i+1=P.length from (),r.1] at h2'
    exact p.v i c t h1 (fun z=>absurd z c2) h2'
  .have e:i=P.length:=()
   subst e
   rw[r.1] at h1
   rw[r.2]
   exact hv t h1 h3
theorem PU.skip {P:Ps}{h:Rat->Rat}{T:Option Rat}{b:Rat}{l:Ln2}(p:PU P h (some b)) (hb:LtO b T) (ne:0<P.length) (e:ln P (P.length-1)=l) (hv:∀t,b<=t->LeO t T->h t=ev l t):PU P h T:=by
 refine#[p.up,fun i hi=>?_,fun i hi t h1 h2 h3=>?_]
 .have:=p.lt i hi
  cases T with
  |none=>trivial
  |some u =>
   have h1:bg P i<b:=this
   have h2:b<u:=hb
   show bg P i<u
   grind
 .by_cases c:t<=b
  .exact p.v i hi t h1 h2 c
  .have hn:¬i+1<P.length:=fun z=>by
    have h4:=h2 z
    have h5:bg P (i+1)<b:=p.lt _ z
    grind
   rw[show i=P.length-1 from (),e]
   exact hv t ⋯ h3
def mp (a b:Rat):Rat:=if a<b then a else b
theorem VU {a b:Rat}(h:a<=b):mp a b=a:=by unfold mp;split<;>grind
theorem WQ {a b:Rat}(h:b<=a):mp a b=b:=by unfold mp;split<;>grind
def Xg (l1 l2:Ln2)(a:Rat):Option Rat->Prop
 |some u=>a<u/\ev l1 u<=ev l2 u
 |none=>l1.1<=l2.1
def V5 (l1 l2:Ln2)(a:Rat):Option Rat->Prop
 |some u=>a<u/\ev l2 u<ev l1 u
 |none=>l2.1<l1.1
theorem Kv {l1 l2:Ln2}{a t:Rat}{T:Option Rat}(ha:a<=t) (ht:LeO t T) (n:ev l1 a<=ev l2 a) (th:Xg l1 l2 a T):ev l1 t<=ev l2 t:=by
 cases T with
 |none =>
  unfold ev at *
  have h1:l1.1<=l2.1:=th
  have h2:0<=(l2.1-l1.1)*(t-a):=qAt ⋯ ⋯
  grind
 |some u =>
  obtain⟨h0,h1⟩:=th
  unfold ev at *
  have h2:t<=u:=ht
  have h3:0<u-a:=⋯
  have k1:0<=(l2.1*a+l2.2-(l1.1*a+l1.2))*(u-t):=qAt ⋯ ⋯
  have k2:0<=(l2.1*u+l2.2-(l1.1*u+l1.2))*(t-a):=qAt ⋯ ⋯
  have k3:(l2.1*t+l2.2-(l1.1*t+l1.2))*(u-a)=(l2.1*a+l2.2-(l1.1*a+l1.2))*(u-t)+(l2.1*u+l2.2-(l1.1*u+l1.2))*(t-a):=⋯
  refine qAM.mp fun z=>?_
  have k4:(l2.1*t+l2.2-(l1.1*t+l1.2))*(u-a)<0:=by
   have:=qBB (a:=l1.1*t+l1.2-(l2.1*t+l2.2)) (b:=u-a) ⋯ h3
   grind
  grind
def xg (l1 l2:Ln2):Rat:=(l2.2-l1.2)/(l1.1-l2.1)
theorem M8 {l1 l2:Ln2}(h:l1.1≠l2.1):ev l1 (xg l1 l2)=ev l2 (xg l1 l2):=by
 unfold ev xg
 have:l1.1-l2.1≠0:=⋯
 have k:(l2.2-l1.2)/(l1.1-l2.1)*(l1.1-l2.1)=l2.2-l1.2:=qA3 this
 grind
theorem R6 {l1 l2:Ln2}:xg l1 l2=xg l2 l1:=by
 unfold xg
 by_cases h:l1.1=l2.1
 .rw[h,show l2.1-l2.1=0 from ⋯];rw[Rat.div_def,Rat.div_def];simp
 .have x1:=M8 h
  have x2:=M8 (l1:=l2) (l2:=l1) (Ne.symm h)
  unfold xg at x1 x2
  unfold ev at x1 x2
  have k:(l1.1-l2.1)*((l2.2-l1.2)/(l1.1-l2.1)-(l1.2-l2.2)/(l2.1-l1.1))=0:=⋯
  rcases qA6.mp k with z|z
  .grind
  .grind
theorem IB {l1 l2:Ln2}{a:Rat}{T:Option Rat}(n:ev l1 a<ev l2 a) (th:V5 l1 l2 a T):l1.1≠l2.1/\a<xg l1 l2/\LtO (xg l1 l2) T:=by
 have s:l2.1<l1.1:=by
  cases T with
  |none=>exact th
  |some u =>
   obtain⟨h0,h1⟩:=th
   unfold ev at n h1
   refine qBe.mp fun z=>?_
   have k:0<=(l2.1-l1.1)*(u-a):=qAt ⋯ ⋯
   grind
 have ne:l1.1≠l2.1:=⋯
 have x:=M8 ne
 have key:∀t,(l1.1-l2.1)*(xg l1 l2-t)=ev l2 t-ev l1 t:=fun t=>by
  unfold ev at x ⊢
  grind
 have pos:∀t,ev l1 t<ev l2 t->t<xg l1 l2:=fun t h=>by
  refine qBe.mp fun z=>?_
  have k1:=key t
  have k2:0<=(l1.1-l2.1)*(t-xg l1 l2):=qAt ⋯ ⋯
  grind
 have neg:∀t,ev l2 t<ev l1 t->xg l1 l2<t:=fun t h=>by
  refine qBe.mp fun z=>?_
  have k1:=key t
  have k2:0<=(l1.1-l2.1)*(xg l1 l2-t):=qAt ⋯ ⋯
  grind
 refine#[ne,pos a n,?_]
 cases T with
 |none=>trivial
 |some u=>exact neg u th.2
def sg (x:Rat):Int:=if x<0 then -1 else if 0<x then 1 else 0
theorem Om {x:Rat}:sg x<0 ↔ x<0:=by unfold sg;split<;>(try split)<;>constructor<;>intro h<;>first|grind|omega
theorem ON {x:Rat}:0<sg x ↔ 0<x:=by unfold sg;split<;>(try split)<;>constructor<;>intro h<;>first|grind|omega
theorem R8 {x:Rat}:sg x=0 ↔ x=0:=by unfold sg;split<;>(try split)<;>constructor<;>intro h<;>first|grind|omega
def DL (l1 l2:Ln2):Option Rat->Rat
 |some u=>ev l1 u-ev l2 u
 |none=>l1.1-l2.1
theorem SQ {l1 l2:Ln2}{a:Rat}{T:Option Rat}(ha:LtO a T) (h:DL l1 l2 T<=0):Xg l1 l2 a T:=by
 cases T with
 |none=>exact(by have h':l1.1-l2.1<=0:=h;show l1.1<=l2.1;grind)
 |some u=>exact#[ha,by have h':ev l1 u-ev l2 u<=0:=h;grind]
theorem MY {l1 l2:Ln2}{a:Rat}{T:Option Rat}(ha:LtO a T) (h:0<DL l1 l2 T):V5 l1 l2 a T:=by
 cases T with
 |none=>exact(by have h':0<l1.1-l2.1:=h;show l2.1<l1.1;grind)
 |some u=>exact#[ha,by have h':0<ev l1 u-ev l2 u:=h;grind]
theorem GK {l1 l2:Ln2}{T:Option Rat}:DL l2 l1 T=- DL l1 l2 T:=by
 cases T with
 |none=>show l2.1-l1.1=-(l1.1-l2.1);grind
 |some u=>show ev l2 u-ev l1 u=-(ev l1 u-ev l2 u);grind
theorem Kq {l1 l2:Ln2}{a:Rat}{T:Option Rat}(n:ev l1 a<ev l2 a) (th:V5 l1 l2 a T) :
 a<xg l1 l2/\LtO (xg l1 l2) T/\(∀t,a<=t->t<=xg l1 l2->ev l1 t<=ev l2 t)/\∀t,xg l1 l2<=t->LeO t T->ev l2 t<=ev l1 t:=by
 obtain⟨ne,x1,x2⟩:=IB n th
 have x:=M8 ne
 refine#[x1,x2,fun t h1 h2=>?_,fun t h1 h2=>?_]
 .exact Kv (T:=some (xg l1 l2)) h1 h2 (qAy n) #[x1,by rw[x];exact qAg]
 .refine Kv (T:=T) h1 h2 (by rw[x];exact qAg) ?_
  cases T with
  |none=>exact qAy th
  |some u=>exact#[x2,qAy th.2]
open PySem L2 L3
abbrev RL:=Int×Int×Int
abbrev RP:=(Int×Int)×RL
def lnD (l:RL):D:=.tup [.int l.1,.int l.2.1,.int l.2.2]
def rpD (p:RP):D:=.tup [.tup [.int p.1.1,.int p.1.2],lnD p.2]
structure LW (k:Nat)(l:RL)(q:Ln2):Prop where
 s:Wq k l.1 l.2.2 q.1
 c:Wq k l.2.1 l.2.2 q.2
structure PW1 (k m:Nat)(p:RP)(q:Rat×Ln2):Prop where
 t:Wq m p.1.1 p.1.2 q.1
 l:LW k p.2 q.2
structure PL (k m:Nat)(ps:List RP)(P:Ps):Prop where
 len:ps.length=P.length
 at_:∀(i:Nat)(p:RP)(q:Rat×Ln2),ps[i]? = some p->(P:List (Rat×Ln2))[i]? = some q->PW1 k m p q
theorem PL.snoc {k m:Nat}{ps:List RP}{P:Ps}{p:RP}{q:Rat×Ln2}(h:PL k m ps P) (w:PW1 k m p q):PL k m (ps++[p]) (P++[q]):=by
 refine#[by simp[h.len],fun i p' q' h1 h2=>?_]
 by_cases c:i<ps.length
 .rw[qAp c] at h1
  rw[qAp (by rw[<-h.len];exact c)] at h2
  exact h.at_ i p' q' h1 h2
 .rw[qAs ()] at h1
  rw[qAs (by rw[<-h.len];omega),<-h.len] at h2
  cases e:i-ps.length with
  |zero=>rw[e] at h1 h2;cases h1;cases h2;exact w
  |succ n=>rw[e] at h1;cases h1
theorem LW.at_ {k m:Nat}{l:RL}{q:Ln2}{tn td:Int}{t:Rat}(h:LW k l q) (w:Wq m tn td t):Wq (k+m+1) (l.1*tn+l.2.1*td) (l.2.2*td) (ev q t):=by
 have w1:=h.s.mul w
 refine#[qA1 h.s.pos w.pos,?_,?_,Ay w1.lb ()]
 .have e1:=h.s.eq
  have e2:=h.c.eq
  have e3:=w.eq
  unfold ev
  rw[qBn,qAj,qAj,qAj,e1,e2,e3]
  grind
 .have b1:=Aj h.s.la w.la
  have b2:=Aj h.c.la w.lb
  exact GO b1 b2
theorem LW.uniq {k k':Nat}{l:RL}{q q':Ln2}(h:LW k l q) (h':LW k' l q'):q=q':=by
 have hb:(l.2.2:Rat)≠0:=by
  have:=h.s.pos
  intro z
  have:l.2.2=0:=Rat.intCast_inj.mp z
  omega
 have cn:∀a b:Rat,a*(l.2.2:Rat)=b*(l.2.2:Rat)->a=b:=fun a b e=>by
  have:(a-b)*(l.2.2:Rat)=0:=⋯
  rcases qA6.mp this with z|z
  .grind
  .exact absurd z hb
 have e1:=cn _ _ (h.s.eq.symm.trans h'.s.eq)
 have e2:=cn _ _ (h.c.eq.symm.trans h'.c.eq)
 exact Prod.ext e1 e2
theorem UM {a b:Int}{q:Rat}(hb:0<b) (e:(a:Rat)=q*(b:Rat)):sg q=a.sign:=by
 have hb:(0:Rat)<(b:Rat):=qAX.mpr hb
 unfold sg
 by_cases c1:q<0
 .rw[if_pos c1]
  have:(a:Rat)<0:=by
   have:=qBB (a:=-q) (b:=(b:Rat)) ⋯ hb
   rw[e];grind
  have:a<0:=Rat.intCast_neg_iff.mp this
  rw[qBO this]
 .rw[if_neg c1]
  by_cases c2:0<q
  .rw[if_pos c2]
   have:(0:Rat)<(a:Rat):=by rw[e];exact qBB c2 hb
   have:0<a:=qAX.mp this
   rw[qBY this]
  .rw[if_neg c2]
   have z:q=0:=⋯
   rw[z] at e
   have:(a:Rat)=0:=by rw[e];grind
   have:a=0:=Rat.intCast_inj.mp this
   rw[this];rfl
theorem SG {k m:Nat}{l1 l2:RL}{q1 q2:Ln2}{tn td:Int}{t:Rat}(h1:LW k l1 q1) (h2:LW k l2 q2) (w:Wq m tn td t) :
 ((l1.1*tn+l1.2.1*td)*l2.2.2-(l2.1*tn+l2.2.1*td)*l1.2.2).sign=sg (ev q1 t-ev q2 t):=by
 refine(UM (b:=l1.2.2*l2.2.2*td) (qA1 (qA1 h1.s.pos h2.s.pos) w.pos) ?_).symm
 have e1:=h1.s.eq
 have e2:=h1.c.eq
 have e3:=h2.s.eq
 have e4:=h2.c.eq
 have e5:=w.eq
 unfold ev
 simp only[qBo,qBn,qAj]
 rw[e1,e2,e3,e4,e5]
 grind
theorem R0 {k:Nat}{l1 l2:RL}{q1 q2:Ln2}(h1:LW k l1 q1) (h2:LW k l2 q2):(l1.1*l2.2.2-l2.1*l1.2.2).sign=sg (q1.1-q2.1):=by
 refine(UM (b:=l1.2.2*l2.2.2) (qA1 h1.s.pos h2.s.pos) ?_).symm
 have e1:=h1.s.eq
 have e3:=h2.s.eq
 simp only[qBo,qAj]
 rw[e1,e3]
 grind
theorem Mu {k:Nat}{l1 l2:RL}{q1 q2:Ln2}(h1:LW k l1 q1) (h2:LW k l2 q2) (ne:q1.1≠q2.1) :
 l1.1*l2.2.2-l2.1*l1.2.2≠0/\Rat.divInt (l2.2.1*l1.2.2-l1.2.1*l2.2.2) (l1.1*l2.2.2-l2.1*l1.2.2)=xg q1 q2:=by
 have e1:=h1.s.eq
 have e2:=h1.c.eq
 have e3:=h2.s.eq
 have e4:=h2.c.eq
 have p1:(l1.2.2:Rat)≠0:=by have:=qAX.mpr h1.s.pos;grind
 have p2:(l2.2.2:Rat)≠0:=by have:=qAX.mpr h2.s.pos;grind
 have eb:((l1.1*l2.2.2-l2.1*l1.2.2:Int):Rat)=(q1.1-q2.1)*((l1.2.2:Rat)*(l2.2.2:Rat)):=by
  simp only[qBo,qAj];rw[e1,e3];grind
 have ea:((l2.2.1*l1.2.2-l1.2.1*l2.2.2:Int):Rat)=(q2.2-q1.2)*((l1.2.2:Rat)*(l2.2.2:Rat)):=by
  simp only[qBo,qAj];rw[e2,e4];grind
 have np:(l1.2.2:Rat)*(l2.2.2:Rat)≠0:=fun z=>by
  rcases qA6.mp z with z|z
  .exact p1 z
  .exact p2 z
 have nb:((l1.1*l2.2.2-l2.1*l1.2.2:Int):Rat)≠0:=fun z=>by
  rw[eb] at z
  rcases qA6.mp z with z|z
  .grind
  .exact np z
 refine#[fun z=>nb (by rw[z];rfl),?_]
 rw[qAC,ea,eb]
 unfold xg
 have n1:q1.1-q2.1≠0:=⋯
 generalize (l1.2.2:Rat)*(l2.2.2:Rat)=B at *
 have k1:(q2.2-q1.2)/(q1.1-q2.1)*(q1.1-q2.1)=q2.2-q1.2:=qA3 n1
 have n2:(q1.1-q2.1)*B≠0:=fun z=>by
  rcases qA6.mp z with z|z
  .exact n1 z
  .exact np z
 have k2:(q2.2-q1.2)*B/((q1.1-q2.1)*B)*((q1.1-q2.1)*B)=(q2.2-q1.2)*B:=qA3 n2
 have k3:((q2.2-q1.2)*B/((q1.1-q2.1)*B)-(q2.2-q1.2)/(q1.1-q2.1))*((q1.1-q2.1)*B)=0:=⋯
 rcases qA6.mp k3 with z|z
 .grind
 .exact absurd z n2
theorem WA {k:Nat}{l1 l2:RL}{q1 q2:Ln2}(h1:LW k l1 q1) (h2:LW k l2 q2) (ne:q1.1≠q2.1):Sz (k+k+1) (xg q1 q2):=by
 obtain⟨n,e⟩:=Mu h1 h2 ne
 rw[<-e]
 exact DM n (FV (Aj h2.c.la h1.s.lb) (Aj h1.c.la h2.s.lb)) (FV (Aj h1.s.la h2.s.lb) (Aj h2.s.la h1.s.lb))
theorem UW (a b:RL):eqN 1 (lnD a) (lnD b)=decide (a=b):=by
 have e:eqN 1 (lnD a) (lnD b)=((a.1==b.1&&(a.2.1==b.2.1&&(a.2.2==b.2.2&&true)))&&true):=rfl
 rw[e]
 by_cases h:a=b
 .subst h;simp
 .rw[decide_eq_false h]
  cases c:((a.1==b.1&&(a.2.1==b.2.1&&(a.2.2==b.2.2&&true)))&&true) with
  |false=>rfl
  |true =>
   exfalso
   apply h
   simp only[qCk,qAT,beq_iff_eq] at c
   exact Prod.ext c.1 (Prod.ext c.2.1 c.2.2)
theorem Kg {α:Type}{f:α->D}{xs:List α}{a:α}(h:xs[xs.length-1]? = some a):atI (xs.map f) (-1)=some (f a):=by
 have hl:0<xs.length:=by
  cases xs with
  |nil=>cases h
  |cons _ _=>simp
 unfold atI ixN
 rw[qAa,if_neg (),if_pos ()]
 have e:((-1:Int)+(xs.length:Int)).toNat=xs.length-1:=()
 show(xs.map f)[((-1:Int)+(xs.length:Int)).toNat]? = _
 rw[e,qAc,h]
 rfl
theorem Yh {a b:RL}{A B:Prop}(h1:¬a=b->A) (h2:a=b->B):if (!eqN 1 (lnD a) (lnD b))=true then A else B:=by
 rw[UW]
 exact Na h1 h2
theorem LW.moved {k m:Nat}{l:RL}{q:Ln2}{wn wd vn vd:Int}{w v:Rat}(h:LW k l q) (hw:Wq m wn wd w) (hv:Wq m vn vd v) :
 LW (k+m+m+2) (l.1*(wd*vd),l.2.1*(wd*vd)-l.1*wn*vd+l.2.2*vn*wd,l.2.2*(wd*vd)) (q.1,q.2-q.1*w+v):=by
 have e1:=h.s.eq
 have e2:=h.c.eq
 have e3:=hw.eq
 have e4:=hv.eq
 have pb:0<l.2.2*(wd*vd):=qA1 h.s.pos (qA1 hw.pos hv.pos)
 have sb:=Aj h.s.lb (Aj hw.lb hv.lb)
 refine#[#[pb,?_,Ay (Aj h.s.la (Aj hw.lb hv.lb)) (),Ay sb ()],#[pb,?_,?_,Ay sb ()]]
 .show((l.1*(wd*vd):Int):Rat)=_
  simp only[qAj]
  rw[e1]
  grind
 .show((l.2.1*(wd*vd)-l.1*wn*vd+l.2.2*vn*wd:Int):Rat)=_
  simp only[qAj,qBn,qBo]
  rw[e1,e2,e3,e4]
  grind
 .have b1:=Ay (Aj h.c.la (Aj hw.lb hv.lb)) (show k+(m+m)<=k+m+m from ())
  have b2:=Aj (Aj h.s.la hw.la) hv.lb
  have b3:=Aj (Aj h.s.lb hv.la) hw.lb
  have b4:=GO (FV b1 b2) (Ay b3 (qBP _))
  exact b4
theorem Wq.moved {m n:Nat}{a b wn wd:Int}{t w:Rat}(h:Wq m a b t) (hw:Wq n wn wd w):Wq (m+n+1) (a*wd+wn*b) (b*wd) (t+w):=by
 refine#[qA1 h.pos hw.pos,?_,?_,Ay (Aj h.lb hw.lb) ()]
 .have e1:=h.eq
  have e2:=hw.eq
  simp only[qAj,qBn]
  rw[e1,e2]
  grind
 .exact GO (Aj h.la hw.lb) (Ay (Aj hw.la h.lb) ())
theorem Qw {q:Ln2}{w v t:Rat}:ev (q.1,q.2-q.1*w+v) t=ev q (t-w)+v:=by
 unfold ev
 grind
def mvP (w v:Rat)(p:Rat×Ln2):Rat×Ln2:=(p.1+w,(p.2.1,p.2.2-p.2.1*w+v))
def mvR (wn wd vn vd:Int)(p:RP):RP:=((p.1.1*wd+wn*p.1.2,p.1.2*wd),(p.2.1*(wd*vd),p.2.2.1*(wd*vd)-p.2.1*wn*vd+p.2.2.2*vn*wd,p.2.2.2*(wd*vd)))
theorem PL.get {k m:Nat}{ps:List RP}{P:Ps}(h:PL k m ps P){i:Nat}{p:RP}(hp:ps[i]? = some p):∃q:Rat×Ln2,(P:List (Rat×Ln2))[i]? = some q/\PW1 k m p q:=by
 have hi:=(qAd.mp hp).1
 rw[h.len] at hi
 exact#[_,qAb hi,h.at_ i p _ hp (qAb hi)]
theorem PL.moved {k m n:Nat}{ps:List RP}{P:Ps}{wn wd vn vd:Int}{w v:Rat}(h:PL k m ps P) (hw:Wq n wn wd w) (hv:Wq n vn vd v):PL (k+n+n+2) (m+n+1) (ps.map (mvR wn wd vn vd)) (P.map (mvP w v)):=by
 refine#[by simp[h.len],fun i p q h1 h2=>?_]
 rw[qAc] at h1 h2
 cases e1:ps[i]? with
 |none=>rw[e1] at h1;cases h1
 |some p0 =>
  obtain⟨q0,e2,w0⟩:=h.get e1
  rw[e1] at h1
  rw[e2] at h2
  cases h1
  cases h2
  exact#[w0.t.moved hw,w0.l.moved hw hv]
theorem FN {α:Type}{f:α->D}{xs:List α}:(xs.map fun x=>some (f x)).filterMap id=xs.map f:=by
 induction xs with
 |nil=>rfl
 |cons x xs ih=>simp[ih]
def flP (p:Rat×Ln2):Rat×Ln2:=(p.1,(-p.2.1,-p.2.2))
def flR (p:RP):RP:=(p.1,(-p.2.1,-p.2.2.1,p.2.2.2))
theorem Wq.neg {k:Nat}{a b:Int}{q:Rat}(h:Wq k a b q):Wq k (-a) b (-q):=by
 refine#[h.pos,?_,?_,h.lb]
 .have e:=h.eq
  rw[Rat.intCast_neg,e]
  grind
 .have l:=h.la
  show(-a).natAbs<2^k
  rw[qCC]
  exact l
theorem PL.flipped {k m:Nat}{ps:List RP}{P:Ps}(h:PL k m ps P):PL k m (ps.map flR) (P.map flP):=by
 refine#[by simp[h.len],fun i p q h1 h2=>?_]
 rw[qAc] at h1 h2
 cases e1:ps[i]? with
 |none=>rw[e1] at h1;cases h1
 |some p0 =>
  obtain⟨q0,e2,w0⟩:=h.get e1
  rw[e1] at h1
  rw[e2] at h2
  cases h1
  cases h2
  exact#[w0.t,#[w0.l.s.neg,w0.l.c.neg]]
theorem S4 {p:Rat×Ln2}{t:Rat}:ev (flP p).2 t=- ev p.2 t:=by
 unfold flP ev
 grind
theorem Ik {k m:Nat}{p:RP}{q:Rat×Ln2}(w:PW1 k m p q):Rat.divInt p.1.1 p.1.2=q.1/\Rat.divInt (p.2.1*p.1.1+p.2.2.1*p.1.2) (p.2.2.2*p.1.2)=ev q.2 q.1:=by
 have wa:=w.l.at_ w.t
 have key:∀{j:Nat}{a b:Int}{x:Rat},Wq j a b x->Rat.divInt a b=x:=fun {j a b x} h=>by
  have hb:(b:Rat)≠0:=by have:=qAX.mpr h.pos;grind
  rw[qAC,h.eq]
  have k2:x*(b:Rat)/(b:Rat)*(b:Rat)=x*(b:Rat):=qA3 hb
  have k3:(x*(b:Rat)/(b:Rat)-x)*(b:Rat)=0:=⋯
  rcases qA6.mp k3 with z|z
  .grind
  .exact absurd z hb
 exact#[key w.t,key wa]
theorem Wy {k l:Nat}{a b c d:Int}{p q:Rat}(h1:Wq k a b p) (h2:Wq l c d q):decide (a*d<c*b)=decide (p<q):=by
 have pb:(0:Rat)<(b:Rat):=qAX.mpr h1.pos
 have pd:(0:Rat)<(d:Rat):=qAX.mpr h2.pos
 have pp:(0:Rat)<(b:Rat)*(d:Rat):=qBB pb pd
 have ea:((a*d:Int):Rat)=p*((b:Rat)*(d:Rat)):=by rw[qAj,h1.eq];grind
 have eb:((c*b:Int):Rat)=q*((b:Rat)*(d:Rat)):=by rw[qAj,h2.eq];grind
 refine decide_eq_decide.mpr #[fun h=>?_,fun h=>?_]
 .have h':((a*d:Int):Rat)<((c*b:Int):Rat):=qBb.mpr h
  rw[ea,eb] at h'
  refine qBe.mp fun z=>?_
  have:0<=(p-q)*((b:Rat)*(d:Rat)):=qAt ⋯ (qAy pp)
  grind
 .have h':=qBB (a:=q-p) (b:=(b:Rat)*(d:Rat)) ⋯ pp
  refine qBb.mp ?_
  rw[ea,eb]
  grind
theorem O5 {n j:Nat}{m b:Rat}(hm:Sz n m) (hb:Sz j b):LW (n+j) (m.num*(b.den:Int),b.num*(m.den:Int),(m.den:Int)*(b.den:Int)) (m,b):=by
 have wm:=Wq.of hm
 have wb:=Wq.of hb
 refine#[#[qA1 wm.pos wb.pos,?_,Aj wm.la wb.lb,Aj wm.lb wb.lb],#[qA1 wm.pos wb.pos,?_,Ay (Aj wb.la wm.lb) (),Aj wm.lb wb.lb]]
 .have e:=wm.eq
  simp only[qAj]
  rw[e]
  grind
 .have e:=wb.eq
  simp only[qAj]
  rw[e]
  grind
structure Cnt (B S:List Rat)(P:Ps):Prop where
 up:∀i,i+1<P.length->bg P i<bg P (i+1)
 sl:∀i,i<P.length->(ln P i).1∈S
 st:∀i,i+1<P.length->bg P (i+1)∈B\/(ln P (i+1)).1<(ln P i).1
def bel (S:List Rat)(x:Rat):Nat:=(S.filter fun s=>decide (s<x)).length
theorem RC {S:List Rat}{x y:Rat}(h:x∈S) (l:x<y):bel S x+1<=bel S y:=by
 unfold bel
 induction S with
 |nil=>cases h
 |cons a S ih =>
  have mono:∀T:List Rat,(T.filter fun s=>decide (s<x)).length<=(T.filter fun s=>decide (s<y)).length:=fun T=>by
   induction T with
   |nil=>exact qAe _
   |cons b T ih2 =>
    rw[qBg,qBg]
    by_cases c:b<x
    .have c2:b<y:=⋯
     rw[if_pos (by simp[c]),if_pos (by simp[c2])]
     simp;exact ih2
    .rw[if_neg (by simp[c])]
     split
     .simp;omega
     .exact ih2
  rw[qBg,qBg]
  rcases qAk.mp h with rfl|h'
  .rw[if_neg (by simp[qA0]),if_pos (by simp[l])]
   have:=mono S
   simp;omega
  .have:=ih h'
   by_cases c:a<x
   .have c2:a<y:=⋯
    rw[if_pos (by simp[c]),if_pos (by simp[c2])]
    simp;omega
   .rw[if_neg (by simp[c])]
    split
    .simp;omega
    .exact this
theorem O4 {S:List Rat}{x:Rat}(h:x∈S):bel S x+1<=S.length:=by
 unfold bel
 induction S with
 |nil=>cases h
 |cons a S ih =>
  rw[qBg]
  rcases qAk.mp h with rfl|h'
  .rw[if_neg (by simp[qA0])]
   have:=qA2 (fun s=>decide (s<x)) S
   simp;omega
  .have:=ih h'
   split
   .simp;omega
   .simp;omega
theorem Cnt.count {B S:List Rat}{P:Ps}(h:Cnt B S P):∀i,i<P.length->i+1+bel S (ln P i).1<=(bel B (bg P i)+(if bg P i∈B then 1 else 0)+1)*S.length:=by
 intro i
 induction i with
 |zero =>
  intro hi
  have:=O4 (h.sl 0 hi)
  have k:1*S.length<=(bel B (bg P 0)+(if bg P 0∈B then 1 else 0)+1)*S.length:=qA4 _ ()
  omega
 |succ i ih =>
  intro hi
  have ih:=ih ()
  have u:=h.up i hi
  have sm:=h.sl (i+1) hi
  have le1:bel B (bg P i)+(if bg P i∈B then 1 else 0)<=bel B (bg P (i+1)):=by
   split
   .exact RC (by assumption) u
   .unfold bel
    have:∀T:List Rat,(T.filter fun s=>decide (s<bg P i)).length<=(T.filter fun s=>decide (s<bg P (i+1))).length:=fun T=>by
     induction T with
     |nil=>exact qAe _
     |cons b T ih2 =>
      rw[qBg,qBg]
      by_cases c:b<bg P i
      .have c2:b<bg P (i+1):=⋯
       rw[if_pos (by simp[c]),if_pos (by simp[c2])]
       simp;exact ih2
      .rw[if_neg (by simp[c])]
       split
       .simp;omega
       .exact ih2
    exact this B
  by_cases c:bg P (i+1)∈B
  .rw[if_pos c]
   have b1:=O4 sm
   have k:(bel B (bg P i)+(if bg P i∈B then 1 else 0)+1)*S.length<=(bel B (bg P (i+1))+1)*S.length:=qA4 _ ()
   have e:(bel B (bg P (i+1))+1+1)*S.length=(bel B (bg P (i+1))+1)*S.length+S.length:=Nat.succ_mul _ _
   omega
  .rw[if_neg c]
   rcases h.st i hi with z|z
   .exact absurd z c
   .have b1:=RC sm z
    have k:(bel B (bg P i)+(if bg P i∈B then 1 else 0)+1)*S.length<=(bel B (bg P (i+1))+0+1)*S.length:=qA4 _ ()
    omega
theorem Cnt.len {B S:List Rat}{P:Ps}(h:Cnt B S P):P.length<=(B.length+1)*S.length:=by
 rcases qBh P.length with z|z
 .rw[z];exact qA8 _
 .have c:=h.count (P.length-1) ()
  have k:(bel B (bg P (P.length-1))+(if bg P (P.length-1)∈B then 1 else 0)+1)*S.length<=(B.length+1)*S.length:=by
   refine qA4 _ ?_
   split
   .have:=O4 (S:=B) (by assumption)
    omega
   .have:bel B (bg P (P.length-1))<=B.length:=qA2 _ _
    omega
  omega
def K3 (ps:List RP)(p:RP)(ps':List RP):Prop:=(ps'=ps++[p]/\∀q,ps[ps.length-1]? = some q->q.2≠p.2)\/(ps'=ps/\∃q,ps[ps.length-1]? = some q/\q.2=p.2)
theorem K3.len {ps ps':List RP}{p:RP}(h:K3 ps p ps'):ps'.length<=ps.length+1:=by
 rcases h with⟨rfl,_⟩|⟨rfl,_⟩
 .simp
 .omega
structure EY (B S:List Rat)(G:Ln2->Prop)(U:Rat->Prop)(k m:Nat)(h:Rat->Rat)(T:Option Rat)(qs:List RP)(Q:Ps):Prop where
 pl:PL k m qs Q
 pu:PU Q h T
 cn:Cnt B S Q
 gd:∀i,i<Q.length->G (ln Q i)/\U (bg Q i)
theorem Cnt.snoc {B S:List Rat}{P:Ps}{b:Rat}{l:Ln2}(c:Cnt B S P) (hb:0<P.length->bg P (P.length-1)<b) (hs:l.1∈S) (st:0<P.length->b∈B\/l.1<(ln P (P.length-1)).1):Cnt B S (P++[(b,l)]):=by
 have hl:(P++[(b,l)]).length=P.length+1:=by simp
 have r:=VN (P:=P) (c:=(b,l))
 refine#[fun i hi=>?_,fun i hi=>?_,fun i hi=>?_]
 .rw[hl] at hi
  by_cases z:i+1<P.length
  .rw[(Kz (show i<P.length from ())).1,(Kz z).1];exact c.up i z
  .have:i=P.length-1:=()
   rw[(Kz (show i<P.length from ())).1,show i+1=P.length from (),r.1,this]
   exact hb ()
 .rw[hl] at hi
  by_cases z:i<P.length
  .rw[(Kz z).2];exact c.sl i z
  .rw[show i=P.length from (),r.2];exact hs
 .rw[hl] at hi
  by_cases z:i+1<P.length
  .rw[(Kz (show i<P.length from ())).2,(Kz z).1,(Kz z).2];exact c.st i z
  .have:i=P.length-1:=()
   rw[(Kz (show i<P.length from ())).2,show i+1=P.length from (),r.1,r.2,this]
   exact st ()
theorem FG {P:Ps}{i:Nat}{q:Rat×Ln2}(h:(P:List (Rat×Ln2))[i]? = some q):bg P i=q.1/\ln P i=q.2:=by
 unfold bg ln
 rw[qAf,h]
 exact#[rfl,rfl]
theorem PL.lnw {k m:Nat}{qs:List RP}{Q:Ps}(h:PL k m qs Q){i:Nat}{q:RP}(hq:qs[i]? = some q):LW k q.2 (ln Q i)/\Wq m q.1.1 q.1.2 (bg Q i)/\i<Q.length:=by
 obtain⟨r,h1,h2⟩:=h.get hq
 rw[(FG h1).1,(FG h1).2]
 exact#[h2.l,h2.t,(qAd.mp h1).1]
def Few (B:List Rat)(qs:List RP)(k:Nat)(b:Rat)(p:RL)(l:Ln2):Prop:=b∈B\/qs=[]\/∃q ql,qs[qs.length-1]? = some q/\LW k q.2 ql/\(q.2=p\/l.1<ql.1)
theorem EY.add {B S:List Rat}{G:Ln2->Prop}{U:Rat->Prop}{k m:Nat}{h:Rat->Rat}{T:Option Rat}{qs qs':List RP}{Q:Ps}{b:Rat}{p:RP}{l:Ln2}(r:EY B S G U k m h (some b) qs Q) (w:PW1 k m p (b,l)) (a:K3 qs p qs') (hb:LtO b T) (hv:∀t,b<=t->LeO t T->h t=ev l t) (hs:l.1∈S) (hG:G l) (hU:U b) (few:Few B qs k b p.2 l) :
 ∃Q',EY B S G U k m h T qs' Q'/\(∃q,qs'[qs'.length-1]? = some q/\q.2=p.2)/\(qs=[]->bg Q' 0=b)/\(qs≠[]->bg Q' 0=bg Q 0)/\(∀i,i<qs.length->qs'[i]? = qs[i]?):=by
 have len:=r.pl.len
 rcases a with⟨rfl,hn⟩|⟨rfl,q,hq,e⟩
 .refine#[Q++[(b,l)],#[r.pl.snoc w,r.pu.push hb hv,r.cn.snoc (fun z=>r.pu.lt _ ()) hs fun z=>?_,fun i hi=>?_],#[p,by simp,rfl],fun z=>?_,fun z=>?_,fun i hi=>qAp hi]
  .rcases few with f|f|⟨q,ql,h1,h2,f⟩
   .exact .inl f
   .rw[f] at len;simp at len;omega
   .have u:=(r.pl.lnw h1).1
    rw[len] at u
    rcases f with f|f
    .exact absurd f (hn q h1)
    .right
     rw[u.uniq h2];exact f
  .rw[qAx] at hi
   by_cases z:i<Q.length
   .rw[(Kz z).1,(Kz z).2];exact r.gd i z
   .have hi':i<Q.length+1:=hi
    rw[show i=Q.length from (),VN.1,VN.2];exact#[hG,hU]
  .subst z
   simp at len
   have:Q=[]:=qAP len.symm
   subst this
   rfl
  .have:0<qs.length:=List.length_pos_iff.mpr z
   exact(Kz (show 0<Q.length from ())).1
 .have u:=r.pl.lnw hq
  have e2:ln Q (Q.length-1)=l:=by
   rw[<-len]
   have:=u.1
   rw[e] at this
   exact this.uniq w.l
  have q0:0<Q.length:=by have:=u.2.2;omega
  refine#[Q,#[r.pl,r.pu.skip hb q0 e2 hv,r.cn,r.gd],#[q,hq,e],fun z=>?_,fun _=>rfl,fun _ _=>rfl]
  rw[z] at hq;cases hq
def Xn (qs:List RP)(r1 r2:RL)(now thn:Rat):Prop:=∃q,qs[qs.length-1]? = some q/\((q.2=r1/\(thn<0\/(now<0/\thn=0)))\/(q.2=r2/\(0<thn\/(thn=0/\0<=now))))
def QH (ps:List RP)(tm:Int×Int)(l1 l2:RL)(now thn:Int)(x:Rat)(ps':List RP):Prop :=
 ∃ps1,(if now<0\/(now=0/\thn<0) then K3 ps (tm,l1) ps1 else K3 ps (tm,l2) ps1) /\
  (if now<0/\0<thn then K3 ps1 ((x.num,(x.den:Int)),l2) ps' else if 0<now/\thn<0 then K3 ps1 ((x.num,(x.den:Int)),l1) ps' else ps'=ps1)
theorem EY.row {B S:List Rat}{G:Ln2->Prop}{U:Rat->Prop}{k m:Nat}{h f g:Rat->Rat}{T:Option Rat}{qs qs':List RP}{Q:Ps}{a:Rat}{tm:Int×Int}{r1 r2:RL}{l1 l2:Ln2}(r:EY B S G U k m h (some a) qs Q) (ha:LtO a T) (wt:Wq m tm.1 tm.2 a) (w1:LW k r1 l1) (w2:LW k r2 l2) (hm:k+k+1<=m)
 (hf:∀t,a<=t->LeO t T->f t=ev l1 t) (hg:∀t,a<=t->LeO t T->g t=ev l2 t) (hh:∀t,a<=t->LeO t T->h t=mp (f t) (g t)) (s1:l1.1∈S) (s2:l2.1∈S) (g1:G l1) (g2:G l2) (ua:U a) (ux:∀l l',G l->G l'->l.1≠l'.1->U (xg l l'))
 (few:a∈B\/qs=[]\/∃q ql,qs[qs.length-1]? = some q/\LW k q.2 ql/\if ev l1 a-ev l2 a<0\/(ev l1 a-ev l2 a=0/\DL l1 l2 T<0) then (q.2=r1\/l1.1<ql.1) else (q.2=r2\/l2.1<ql.1))
 (ad:QH qs tm r1 r2 (sg (ev l1 a-ev l2 a)) (sg (DL l1 l2 T)) (xg l1 l2) qs') :
 ∃Q',EY B S G U k m h T qs' Q'/\Xn qs' r1 r2 (ev l1 a-ev l2 a) (DL l1 l2 T)/\(qs=[]->bg Q' 0=a)/\(qs≠[]->bg Q' 0=bg Q 0):=by
 obtain⟨ps1,a1,a2⟩:=ad
 have i1:∀x:Rat,(sg x<0)=(x<0):=fun x=>propext Om
 have i2:∀x:Rat,(0<sg x)=(0<x):=fun x=>propext ON
 have i3:∀x:Rat,(sg x=0)=(x=0):=fun x=>propext R8
 simp only[i1,i2,i3] at a1 a2
 have xw:l1.1≠l2.1->Wq m (xg l1 l2).num ((xg l1 l2).den:Int) (xg l1 l2):=fun ne=>(Wq.of (WA w1 w2 ne)).mono hm
 have inT:∀{x:Rat},LtO x T->∀t,LeO t (some x)->LeO t T:=fun {x} hx t ht=>by
  cases T with
  |none=>trivial
  |some u =>
   have h1:t<=x:=ht
   have h2:x<u:=hx
   show t<=u
   grind
 have id':∀t,LeO t T->LeO t T:=fun _ h=>h
 have one:∀{V:Option Rat},(∀t,LeO t V->LeO t T)->(∀t,a<=t->LeO t V->ev l1 t<=ev l2 t)->∀t,a<=t->LeO t V->h t=ev l1 t:=fun hU le t h1 h2=>by
  rw[hh t h1 (hU t h2),hf t h1 (hU t h2),hg t h1 (hU t h2)];exact VU (le t h1 h2)
 have two:∀{V:Option Rat},(∀t,LeO t V->LeO t T)->(∀t,a<=t->LeO t V->ev l2 t<=ev l1 t)->∀t,a<=t->LeO t V->h t=ev l2 t:=fun hU le t h1 h2=>by
  rw[hh t h1 (hU t h2),hf t h1 (hU t h2),hg t h1 (hU t h2)];exact WQ (le t h1 h2)
 have fewA:∀{c:RL}{l:Ln2},(∀q ql,(if ev l1 a-ev l2 a<0\/(ev l1 a-ev l2 a=0/\DL l1 l2 T<0) then (q=r1\/l1.1<ql) else (q=r2\/l2.1<ql))->(q=c\/l.1<ql))->Few B qs k a c l:=fun {c l} F=>by
  rcases few with f|f|⟨q,ql,h1,h2,f⟩
  .exact .inl f
  .exact .inr (.inl f)
  .exact .inr (.inr #[q,ql,h1,h2,F q.2 ql.1 f])
 by_cases c1:ev l1 a-ev l2 a<0
 .rw[if_pos (.inl c1)] at a1
  have F1:Few B qs k a r1 l1:=fewA (fun q ql z=>by rw[if_pos (.inl c1)] at z;exact z)
  by_cases c2:0<DL l1 l2 T
  .rw[if_pos #[c1,c2]] at a2
   have am:=IB (T:=T) (l1:=l1) (l2:=l2) (a:=a) ⋯ (MY ha c2)
   obtain⟨x1,x2,y1,y2⟩:=Kq (T:=T) (l1:=l1) (l2:=l2) (a:=a) ⋯ (MY ha c2)
   obtain⟨Q1,R1,⟨q,hq,eq⟩,b1,b2,_⟩:=r.add (T:=some (xg l1 l2)) #[wt,w1] a1 x1 (one (inT x2) (fun t h1 h2=>y1 t h1 h2)) s1 g1 ua F1
   have ne1:ps1≠[]:=fun z=>by rw[z] at hq;cases hq
   have sl:l2.1<l1.1:=by
    have e:=M8 am.1
    unfold ev at e c1
    refine qBe.mp fun z=>?_
    have:0<=(l2.1-l1.1)*(xg l1 l2-a):=qAt ⋯ ⋯
    grind
   obtain⟨Q2,R2,E2,b3,b4,_⟩:=R1.add (T:=T) (l:=l2) #[xw am.1,w2] a2 x2 (fun t h1 h2=>by
    have ht:a<=t:=⋯
    rw[hh t ht h2,hf t ht h2,hg t ht h2];exact WQ (y2 t h1 h2)) s2 g2 (ux _ _ g1 g2 am.1) (.inr (.inr #[q,l1,hq,by rw[eq];exact w1,.inr sl]))
   obtain⟨q2,hq2,eq2⟩:=E2
   exact#[Q2,R2,#[q2,hq2,.inr #[eq2,.inl c2]],fun z=>(b4 ne1).trans (b1 z),fun z=>(b4 ne1).trans (b2 z)]
  .rw[if_neg (fun z=>c2 z.2),if_neg (fun z=>⋯)] at a2
   subst a2
   obtain⟨Q1,R1,⟨q,hq,eq⟩,b1,b2,_⟩:=r.add (T:=T) #[wt,w1] a1 ha (one id' fun t h1 h2=>Kv h1 h2 ⋯ (SQ ha ⋯)) s1 g1 ua F1
   exact#[Q1,R1,#[q,hq,.inl #[eq,⋯]],b1,b2]
 .by_cases c3:ev l1 a-ev l2 a=0/\DL l1 l2 T<0
  .rw[if_pos (.inr c3)] at a1
   have F1:Few B qs k a r1 l1:=fewA (fun q ql z=>by rw[if_pos (.inr c3)] at z;exact z)
   rw[if_neg (fun z=>c1 z.1),if_neg (fun z=>⋯)] at a2
   subst a2
   obtain⟨Q1,R1,⟨q,hq,eq⟩,b1,b2,_⟩:=r.add (T:=T) #[wt,w1] a1 ha (one id' fun t h1 h2=>Kv h1 h2 ⋯ (SQ ha ⋯)) s1 g1 ua F1
   exact#[Q1,R1,#[q,hq,.inl #[eq,.inl c3.2]],b1,b2]
  .have nc:¬(ev l1 a-ev l2 a<0\/(ev l1 a-ev l2 a=0/\DL l1 l2 T<0)):=fun z=>z.elim c1 c3
   rw[if_neg nc] at a1
   have F2:Few B qs k a r2 l2:=fewA (fun q ql z=>by rw[if_neg nc] at z;exact z)
   rw[if_neg (fun z=>c1 z.1)] at a2
   by_cases c4:0<ev l1 a-ev l2 a/\DL l1 l2 T<0
   .rw[if_pos c4] at a2
    have c5:0<DL l2 l1 T:=by rw[GK];grind
    have am:=IB (T:=T) (l1:=l2) (l2:=l1) (a:=a) ⋯ (MY ha c5)
    obtain⟨x1,x2,y1,y2⟩:=Kq (T:=T) (l1:=l2) (l2:=l1) (a:=a) ⋯ (MY ha c5)
    have xc:xg l2 l1=xg l1 l2:=R6
    rw[xc] at am x1 x2 y1 y2
    obtain⟨Q1,R1,⟨q,hq,eq⟩,b1,b2,_⟩:=r.add (T:=some (xg l1 l2)) #[wt,w2] a1 x1 (two (inT x2) (fun t h1 h2=>y1 t h1 h2)) s2 g2 ua F2
    have ne1:ps1≠[]:=fun z=>by rw[z] at hq;cases hq
    have sl:l1.1<l2.1:=by
     have e:=M8 (Ne.symm am.1)
     have c4':=c4.1
     unfold ev at e c4'
     refine qBe.mp fun z=>?_
     have:0<=(l1.1-l2.1)*(xg l1 l2-a):=qAt ⋯ ⋯
     grind
    obtain⟨Q2,R2,E2,b3,b4,_⟩:=R1.add (T:=T) (l:=l1) #[xw (Ne.symm am.1),w1] a2 x2 (fun t h1 h2=>by
     have ht:a<=t:=⋯
     rw[hh t ht h2,hf t ht h2,hg t ht h2];exact VU (y2 t h1 h2)) s1 g1 (ux _ _ g1 g2 (Ne.symm am.1)) (.inr (.inr #[q,l2,hq,by rw[eq];exact w2,.inr sl]))
    obtain⟨q2,hq2,eq2⟩:=E2
    exact#[Q2,R2,#[q2,hq2,.inl #[eq2,.inl c4.2]],fun z=>(b4 ne1).trans (b1 z),fun z=>(b4 ne1).trans (b2 z)]
   .rw[if_neg c4] at a2
    subst a2
    obtain⟨Q1,R1,⟨q,hq,eq⟩,b1,b2,_⟩:=r.add (T:=T) #[wt,w2] a1 ha (two id' fun t h1 h2=>Kv h1 h2 ⋯ (SQ ha (by grind [GK]))) s2 g2 ua F2
    exact#[Q1,R1,#[q,hq,.inr #[eq,⋯]],b1,b2]
structure Sbs (P O:Ps)(N:Nat)(a:Nat->Rat)(i j:Nat->Nat):Prop where
 n0:0<N
 a0:a 0=bg O 0
 j0:j 0=0
 iP:∀n,n<N->i n<P.length
 jO:∀n,n<N->j n<O.length
 bi:∀n,n<N->bg P (i n)<=a n
 bj:∀n,n<N->bg O (j n)<=a n
 up:∀n,n+1<N->a n<a (n+1)
 ei:∀n,n<N->i n+1<P.length->n+1<N/\a (n+1)<=bg P (i n+1)
 ej:∀n,n<N->j n+1<O.length->n+1<N/\a (n+1)<=bg O (j n+1)
 si:∀n,n+1<N->i (n+1)=i n\/(i (n+1)=i n+1/\a (n+1)=bg P (i n+1))
 sj:∀n,n+1<N->j (n+1)=j n\/(j (n+1)=j n+1/\a (n+1)=bg O (j n+1))
 mv:∀n,n+1<N->i (n+1)=i n->j (n+1)≠j n
def TmN (N:Nat)(a:Nat->Rat)(n:Nat):Option Rat:=if n<N then some (a n) else none
section
variable {P O:Ps}{N:Nat}{a:Nat->Rat}{i j:Nat->Nat}{h g:Rat->Rat}
theorem Sbs.hP (s:Sbs P O N a i j)(p:PU P h none){n:Nat}(hn:n<N){t:Rat}(h1:a n<=t) (h2:LeO t (TmN N a (n+1))):h t=ev (ln P (i n)) t:=by
 refine p.v (i n) (s.iP n hn) t (qAL (s.bi n hn) h1) (fun z=>?_) trivial
 obtain⟨z1,z2⟩:=s.ei n hn z
 unfold TmN at h2
 rw[if_pos z1] at h2
 exact qAL h2 z2
theorem Sbs.hO (s:Sbs P O N a i j)(p:PU O g none){n:Nat}(hn:n<N){t:Rat}(h1:a n<=t) (h2:LeO t (TmN N a (n+1))):g t=ev (ln O (j n)) t:=by
 refine p.v (j n) (s.jO n hn) t (qAL (s.bj n hn) h1) (fun z=>?_) trivial
 obtain⟨z1,z2⟩:=s.ej n hn z
 unfold TmN at h2
 rw[if_pos z1] at h2
 exact qAL h2 z2
theorem Sbs.lt (s:Sbs P O N a i j){n:Nat}(hn:n<N):LtO (a n) (TmN N a (n+1)):=by
 unfold TmN
 split
 .exact s.up n (by assumption)
 .trivial
theorem Sbs.ge (s:Sbs P O N a i j){n:Nat}:n<N->a 0<=a n:=by
 induction n with
 |zero=>intro _;exact qAg
 |succ n ih =>
  intro hn
  have:=ih ()
  have:=s.up n hn
  grind
theorem Sbs.next (s:Sbs P O N a i j)(p:PU P h none)(q:PU O g none){n:Nat}(hn:n+1<N):ev (ln P (i n)) (a (n+1))=ev (ln P (i (n+1))) (a (n+1))/\ev (ln O (j n)) (a (n+1))=ev (ln O (j (n+1))) (a (n+1)):=by
 have e:TmN N a (n+1)=some (a (n+1)):=if_pos hn
 have l1:LeO (a (n+1)) (TmN N a (n+1)):=by rw[e];exact qAg
 have l2:=(s.lt (n:=n+1) hn).le
 have u:=qAy (s.up n hn)
 rw[<-s.hP p () u l1,<-s.hP p hn qAg l2,<-s.hO q () u l1,<-s.hO q hn qAg l2]
 exact#[rfl,rfl]
theorem Sbs.thn (s:Sbs P O N a i j)(p:PU P h none)(q:PU O g none){n:Nat}(hn:n+1<N):DL (ln P (i n)) (ln O (j n)) (TmN N a (n+1))=ev (ln P (i (n+1))) (a (n+1))-ev (ln O (j (n+1))) (a (n+1)):=by
 have e:TmN N a (n+1)=some (a (n+1)):=if_pos hn
 rw[e]
 obtain⟨e1,e2⟩:=s.next p q hn
 show ev _ _-ev _ _=_
 rw[e1,e2]
end
def RT (a0:Rat)(h g:Rat->Rat)(t:Rat):Rat:=if t<a0 then h t else mp (h t) (g t)
def To (O:Ps):List Rat:=O.map (·.1)
theorem LV {O:Ps}{j:Nat}(h:j<O.length):bg O j∈To O:=by
 refine qAH.mpr #[O[j],qBM h,?_]
 exact(FG (qAb h)).1.symm
structure Sb (B S:List Rat)(G:Ln2->Prop)(U:Rat->Prop)(k m:Nat)(ps os:List RP)(P O:Ps)(h g:Rat->Rat)(N:Nat)(a:Nat->Rat)(i j:Nat->Nat)(n:Nat)(qs:List RP)(Q:Ps):Prop where
 r:EY (B++To O) S G U k m (RT (bg O 0) h g) (TmN N a n) qs Q
 e:∀n',n=n'+1->∀p1 p2,ps[i n']? = some p1->os[j n']? = some p2->Xn qs p1.2 p2.2 (ev (ln P (i n')) (a n')-ev (ln O (j n')) (a n')) (DL (ln P (i n')) (ln O (j n')) (TmN N a n))
 b:(n=0->qs≠[]->bg Q 0=bg P 0)/\(0<n->qs≠[]/\bg Q 0=bg P 0)
theorem Q5 {l1 l2:Ln2}{a u:Rat}(h:a<u) (h1:ev l1 a<ev l2 a) (h2:ev l1 u=ev l2 u):l2.1<l1.1:=by
 unfold ev at *
 refine qBe.mp fun z=>?_
 have:0<=(l2.1-l1.1)*(u-a):=qAt ⋯ ⋯
 grind
theorem RS {l1 l2:Ln2}{a:Rat}{T:Option Rat}(ha:LtO a T) (h1:ev l1 a=ev l2 a) (h2:DL l1 l2 T<0):l1.1<l2.1:=by
 cases T with
 |none=>have h:l1.1-l2.1<0:=h2;grind
 |some u =>
  have h:ev l1 u-ev l2 u<0:=h2
  have hl:a<u:=ha
  unfold ev at *
  refine qBe.mp fun z=>?_
  have:0<=(l1.1-l2.1)*(u-a):=qAt ⋯ ⋯
  grind
section
variable {B S:List Rat}{G:Ln2->Prop}{U:Rat->Prop}{k m:Nat}{ps os:List RP}{P O:Ps}{h g:Rat->Rat}{N:Nat}{a:Nat->Rat}{i j:Nat->Nat}
theorem Sb.step (rP:EY B S G U k m h none ps P)(lo:PL k m os O)(pO:PU O g none)(sO:∀x,x<O.length->(ln O x).1∈S)(gO:∀x,x<O.length->G (ln O x)/\U (bg O x))(ux:∀l l',G l->G l'->l.1≠l'.1->U (xg l l'))(hm:k+k+1<=m)(s:Sbs P O N a i j)(hb:bg P 0<=bg O 0){n:Nat}{qs qs':List RP}{Q:Ps}(li:Sb B S G U k m ps os P O h g N a i j n qs Q) (hn:n<N){tm:Int×Int}(wt:Wq m tm.1 tm.2 (a n)){p1 p2:RP}(h1:ps[i n]? = some p1) (h2:os[j n]? = some p2)
 (ad:QH qs tm p1.2 p2.2 (sg (ev (ln P (i n)) (a n)-ev (ln O (j n)) (a n))) (sg (DL (ln P (i n)) (ln O (j n)) (TmN N a (n+1)))) (xg (ln P (i n)) (ln O (j n))) qs') (h0:n=0->qs=[]->bg P 0=bg O 0) :
 ∃Q',Sb B S G U k m ps os P O h g N a i j (n+1) qs' Q':=by
 have lp:=rP.pl
 have pP:=rP.pu
 have cP:=rP.cn
 have ua:U (a n):=by
  cases n with
  |zero=>rw[s.a0];exact(gO 0 (by have:=s.jO 0 hn;omega)).2
  |succ n =>
   rcases s.sj n hn with jj|⟨jj,ja⟩
   .rcases s.si n hn with ii|⟨ii,ia⟩
    .exact absurd jj (s.mv n hn ii)
    .rw[ia];exact(rP.gd _ (by rw[<-ii];exact s.iP _ hn)).2
   .rw[ja];exact(gO _ (by rw[<-jj];exact s.jO _ hn)).2
 have w1:=(lp.lnw h1).1
 have w2:=(lo.lnw h2).1
 have eT:TmN N a n=some (a n):=if_pos hn
 have r:=li.r
 rw[eT] at r
 have hg0:bg O 0<=a n:=by rw[<-s.a0];exact s.ge hn
 have few:a n∈B++To O\/qs=[]\/∃q ql,qs[qs.length-1]? = some q/\LW k q.2 ql/\if ev (ln P (i n)) (a n)-ev (ln O (j n)) (a n)<0\/(ev (ln P (i n)) (a n)-ev (ln O (j n)) (a n)=0/\DL (ln P (i n)) (ln O (j n)) (TmN N a (n+1))<0) then (q.2=p1.2\/(ln P (i n)).1<ql.1) else (q.2=p2.2\/(ln O (j n)).1<ql.1):=by
  cases n with
  |zero =>
   left
   rw[s.a0]
   exact qAo.mpr (.inr (LV (by have:=s.jO 0 hn;omega)))
  |succ n =>
   rcases s.sj n hn with jj|⟨jj,ja⟩
   .rcases s.si n hn with ii|⟨ii,ia⟩
    .exact absurd jj (s.mv n hn ii)
    .have il:=s.iP (n+1) hn
     rw[ii] at il
     rcases cP.st (i n) il with z|z
     .left
      rw[ia]
      exact qAo.mpr (.inl z)
     .right;right
      have i0:=s.iP n ()
      have hp:i n<ps.length:=by rw[lp.len];exact i0
      have h1':=qAb hp
      have h2':os[j n]? = some p2:=by rw[<-jj];exact h2
      obtain⟨q,hq,e⟩:=li.e n rfl _ _ h1' h2'
      have w1':=(lp.lnw h1').1
      have tn:=s.thn pP pO hn
      have u:=s.up n hn
      have hl:=s.lt (n:=n+1) hn
      rw[tn] at e
      have nx:=s.next pP pO hn
      rw[jj] at e ⊢
      rw[ii] at e nx ⊢
      rw[jj] at nx
      rcases e with⟨e1,e2⟩|⟨e1,e2⟩
      .refine#[q,ln P (i n),hq,by rw[e1];exact w1',?_]
       split
       .exact .inr z
       .right
        rename_i nc
        have:ev (ln P (i n)) (a n)-ev (ln O (j n)) (a n)<0/\ev (ln P (i n+1)) (a (n+1))-ev (ln O (j n)) (a (n+1))=0:=by
         rcases e2 with e2|e2
         .exact absurd (.inl e2) nc
         .exact e2
        exact Q5 u ⋯ ⋯
      .refine#[q,ln O (j n),hq,by rw[e1,<-jj];exact w2,?_]
       split
       .right
        rename_i c
        have:ev (ln P (i n+1)) (a (n+1))-ev (ln O (j n)) (a (n+1))=0/\DL (ln P (i n+1)) (ln O (j n)) (TmN N a (n+1+1))<0:=by
         rcases c with c|c
         .rcases e2 with e2|e2<;>grind
         .exact c
        exact RS hl ⋯ this.2
       .exact .inl e1
   .left
    rw[ja]
    exact qAo.mpr (.inr (LV (by have:=s.jO (n+1) hn;omega)))
 obtain⟨Q',R',E',b1,b2⟩:=r.row (T:=TmN N a (n+1)) (f:=h) (g:=g) (s.lt hn) wt w1 w2 hm (fun t t1 t2=>s.hP pP hn t1 t2) (fun t t1 t2=>s.hO pO hn t1 t2) (fun t t1 _=>by
  unfold RT
  rw[if_neg ⋯]) (cP.sl _ (s.iP n hn)) (sO _ (s.jO n hn)) (rP.gd _ (s.iP n hn)).1 (gO _ (s.jO n hn)).1 ua ux few ad
 have ne':qs'≠[]:=fun z=>by obtain⟨q,hq,_⟩:=E';rw[z] at hq;cases hq
 refine#[Q',R',fun n' e p1' p2' g1 g2=>?_,fun z=>absurd z (),fun _=>#[ne',?_]]
 .have:n'=n:=()
  subst this
  rw[h1] at g1
  rw[h2] at g2
  cases g1
  cases g2
  exact E'
 .rcases qBh n with z|z
  .by_cases c:qs=[]
   .rw[b1 c,z,s.a0]
    exact(h0 z c).symm
   .rw[b2 c];exact li.b.1 z c
  .have:=li.b.2 z
   rw[b2 this.1];exact this.2
theorem A6 {P:Ps}{c x:Nat}(h:x<c):bg (P.take c) x=bg P x/\ln (P.take c) x=ln P x:=by
 unfold bg ln
 rw[qAf,qAf,qBS h]
 exact#[rfl,rfl]
theorem Sb.zero (rP:EY B S G U k m h none ps P)(s:Sbs P O N a i j){c:Nat}(hc:c<=P.length) (c1:∀x,x<c->bg P x<bg O 0) (c2:c<P.length->bg O 0<=bg P c) (hj:0<c->h (bg O 0)<=g (bg O 0)):Sb B S G U k m ps os P O h g N a i j 0 (ps.take c) (P.take c):=by
 have lp:=rP.pl
 have pP:=rP.pu
 have cP:=rP.cn
 have tl:(P.take c).length=c:=by rw[qAS];omega
 have eT:TmN N a 0=some (bg O 0):=by unfold TmN;rw[if_pos s.n0,s.a0]
 refine#[#[#[by rw[qAS,qAS,lp.len],fun x p q h1 h2=>?_],?_,#[fun x hx=>?_,fun x hx=>?_,fun x hx=>?_],fun x hx=>by rw[tl] at hx;rw[(A6 hx).1,(A6 hx).2];exact rP.gd x ()],fun n' e=>absurd e (),fun _ z=>?_,fun z=>absurd z ()]
 .have hx:x<c:=by
   have:=(qAd.mp h2).1
   rw[tl] at this;exact this
  rw[qBS hx] at h1 h2
  exact lp.at_ x p q h1 h2
 .rw[eT]
  refine#[fun x hx=>?_,fun x hx=>?_,fun x hx t t1 t2 t3=>?_]
  .rw[tl] at hx
   rw[(A6 (show x<c from ())).1,(A6 hx).1];exact pP.up x ()
  .rw[tl] at hx
   rw[(A6 hx).1];exact c1 x hx
  .rw[tl] at hx t2
   rw[(A6 hx).1] at t1
   rw[(A6 hx).2]
   have t3:t<=bg O 0:=t3
   have ev1:h t=ev (ln P x) t:=by
    refine pP.v x () t t1 (fun z=>?_) trivial
    by_cases z2:x+1<c
    .have:=t2 z2
     rw[(A6 z2).1] at this
     exact this
    .have:x+1=c:=()
     rw[this]
     exact qAL t3 (c2 ())
   unfold RT
   split
   .exact ev1
   .have:t=bg O 0:=⋯
    rw[this] at ev1 ⊢
    rw[VU (hj ())]
    exact ev1
 .rw[tl] at hx
  rw[(A6 (show x<c from ())).1,(A6 hx).1];exact pP.up x ()
 .rw[tl] at hx
  rw[(A6 hx).2];exact cP.sl x ()
 .rw[tl] at hx
  rw[(A6 (show x<c from ())).2,(A6 hx).1,(A6 hx).2]
  rcases cP.st x () with z|z
  .exact .inl (qAo.mpr (.inl z))
  .exact .inr z
 .have:0<c:=by
   rcases qBh c with y|y
   .subst y;exact absurd rfl z
   .exact y
  exact(A6 this).1
end
def Eb (cs:Cs)(m:Rat):Ps:=(List.range cs.length).map fun k=>(tt cs k,(slp cs m k,vv cs k-slp cs m k*tt cs k))
theorem AS {cs:Cs}{m:Rat}:(Eb cs m).length=cs.length:=by unfold Eb;simp
theorem B0 {cs:Cs}{m:Rat}{k:Nat}(h:k<cs.length):bg (Eb cs m) k=tt cs k/\ln (Eb cs m) k=(slp cs m k,vv cs k-slp cs m k*tt cs k):=by
 refine FG (q:=(tt cs k,(slp cs m k,vv cs k-slp cs m k*tt cs k))) ?_
 unfold Eb
 rw[qAc,qAE h]
 rfl
theorem Ov {cs:Cs}{m:Rat}(o:Ord cs):PU (Eb cs m) (val cs m) none:=by
 refine#[fun i hi=>?_,fun i hi=>trivial,fun i hi t h1 h2 _=>?_]
 .rw[AS] at hi
  rw[(B0 (show i<cs.length from ())).1,(B0 hi).1];exact o.up i hi
 .rw[AS] at hi h2
  rw[(B0 hi).1] at h1
  rw[(B0 hi).2]
  have on:On cs i t:=#[hi,h1,fun z=>by have:=h2 z;rw[(B0 z).1] at this;exact this]
  rw[DD o.up on]
  unfold ev
  grind
theorem BJ {P:Ps}{F:Rat×Ln2->Rat×Ln2}{i:Nat}(h:i<P.length):bg (P.map F) i=(F (bg P i,ln P i)).1/\ln (P.map F) i=(F (bg P i,ln P i)).2:=by
 have e:P[i]? = some (bg P i,ln P i):=by
  have g:=qAb h
  rw[g]
  have:=FG g
  rw[this.1,this.2]
 refine FG ?_
 rw[qAc,e]
 rfl
theorem PU.flip {P:Ps}{h:Rat->Rat}{T:Option Rat}(p:PU P h T):PU (P.map flP) (fun t=>-h t) T:=by
 refine#[fun i hi=>?_,fun i hi=>?_,fun i hi t h1 h2 h3=>?_]
 .rw[qAa] at hi
  rw[(BJ (show i<P.length from ())).1,(BJ hi).1];exact p.up i hi
 .rw[qAa] at hi
  rw[(BJ hi).1];exact p.lt i hi
 .rw[qAa] at hi h2
  rw[(BJ hi).1] at h1
  rw[(BJ hi).2]
  show -h t=_
  rw[p.v i hi t h1 (fun z=>by have:=h2 z;rw[(BJ z).1] at this;exact this) h3]
  exact S4.symm
theorem PU.move {P:Ps}{h:Rat->Rat}(w v:Rat) (p:PU P h none):PU (P.map (mvP w v)) (fun t=>h (t-w)+v) none:=by
 refine#[fun i hi=>?_,fun i hi=>trivial,fun i hi t h1 h2 _=>?_]
 .rw[qAa] at hi
  rw[(BJ (show i<P.length from ())).1,(BJ hi).1]
  have:=p.up i hi
  show bg P i+w<bg P (i+1)+w
  grind
 .rw[qAa] at hi h2
  rw[(BJ hi).1] at h1
  rw[(BJ hi).2]
  have h1:bg P i+w<=t:=h1
  show h (t-w)+v=_
  rw[p.v i hi (t-w) ⋯ (fun z=>by
   have:=h2 z
   rw[(BJ z).1] at this
   have this:t<=bg P (i+1)+w:=this
   grind) trivial]
  exact Qw.symm
def frN (P:Ps)(c:Nat):Ps:=(0,ln P (c-1))::P.drop c
theorem E8 {P:Ps}{c i:Nat}:bg (frN P c) (i+1)=bg P (c+i)/\ln (frN P c) (i+1)=ln P (c+i):=by
 unfold frN bg ln
 rw[qAf,qBD,qBv,qAf]
 exact#[rfl,rfl]
theorem Ef {P:Ps}{c:Nat}:(frN P c).length=P.length-c+1:=by unfold frN;rw[qAU,qAR]
theorem PU.fromN {P:Ps}{h:Rat->Rat}{c:Nat}(p:PU P h none) (c0:0<c) (cl:c<=P.length) (h1:∀i,i<c->bg P i<=0) (h2:c<P.length->0<bg P c):PU (frN P c) h none:=by
 have e0:bg (frN P c) 0=0/\ln (frN P c) 0=ln P (c-1):=#[rfl,rfl]
 refine#[fun i hi=>?_,fun i hi=>trivial,fun i hi t t1 t2 _=>?_]
 .rw[Ef] at hi
  cases i with
  |zero=>rw[e0.1,E8.1];exact h2 ()
  |succ i=>rw[E8.1,E8.1];exact p.up (c+i) ()
 .rw[Ef] at hi t2
  cases i with
  |zero =>
   rw[e0.1] at t1
   rw[e0.2]
   refine p.v (c-1) () t (qAL (h1 _ ()) t1) (fun z=>?_) trivial
   have:=t2 ()
   rw[E8.1] at this
   rw[show c-1+1=c+0 from ()]
   exact this
  |succ i =>
   rw[E8.1] at t1
   rw[E8.2]
   refine p.v (c+i) () t t1 (fun z=>?_) trivial
   have:=t2 ()
   rw[E8.1] at this
   exact this
def GF (P:Ps)(far:Rat):Ps:=((List.range P.length).map fun k=>((if k+1<P.length then -bg P (k+1) else -far),((-(ln P k).1,(ln P k).2):Ln2))).reverse++[(0,((0,(ln P 0).2):Ln2))]
theorem Fi {P:Ps}{far:Rat}:(GF P far).length=P.length+1:=by unfold GF;simp
theorem FW {P:Ps}{far:Rat}{i:Nat}(h:i<P.length):bg (GF P far) i=(if 0<i then -bg P (P.length-i) else -far)/\ln (GF P far) i=(-(ln P (P.length-1-i)).1,(ln P (P.length-1-i)).2):=by
 have e:(GF P far:List (Rat×Ln2))[i]? = some ((if 0<i then -bg P (P.length-i) else -far),(-(ln P (P.length-1-i)).1,(ln P (P.length-1-i)).2)):=by
  unfold GF
  rw[qAp (by simp;exact h),qBz (by simp;exact h)]
  rw[qAa,qAr,qAc,qAE ()]
  show some _=_
  congr 1
  refine Prod.ext ?_ rfl
  show(if P.length-1-i+1<P.length then _ else _)=_
  by_cases c:0<i
  .rw[if_pos c,if_pos (),show P.length-1-i+1=P.length-i from ()]
  .rw[if_neg c,if_neg ()]
 exact FG e
theorem Gu {P:Ps}{far:Rat}:bg (GF P far) P.length=0/\ln (GF P far) P.length=(0,(ln P 0).2):=by
 have e:(GF P far:List (Rat×Ln2))[P.length]? = some (0,(0,(ln P 0).2)):=by
  unfold GF
  rw[qAs (by simp)]
  simp
 exact FG e
theorem PU.turn {P:Ps}{g:Rat->Rat}{far:Rat}(p:PU P g none) (ne:0<P.length) (b0:bg P 0=0) (hf:bg P (P.length-1)<far):PU (GF P far) (fun t=>g (if t<=0 then -t else 0)) none:=by
 have pos:∀i,i<P.length->0<=bg P i:=fun i=>by
  induction i with
  |zero=>intro _;rw[b0];exact qAg
  |succ i ih=>intro hi;have:=ih ();have:=p.up i hi;grind
 have neg:∀i,i<P.length->bg (GF P far) i<0:=fun i hi=>by
  rw[(FW hi).1]
  by_cases c:0<i
  .rw[if_pos c]
   have h1:=p.up (P.length-i-1) ()
   rw[show P.length-i-1+1=P.length-i from ()] at h1
   have:=pos (P.length-i-1) ()
   grind
  .rw[if_neg c]
   have:=pos (P.length-1) ()
   grind
 refine#[fun i hi=>?_,fun i hi=>trivial,fun i hi t t1 t2 _=>?_]
 .rw[Fi] at hi
  by_cases z:i+1<P.length
  .rw[(FW (show i<P.length from ())).1,(FW z).1,if_pos (show 0<i+1 from ())]
   by_cases c:0<i
   .rw[if_pos c]
    have:=p.up (P.length-(i+1)) ()
    rw[show P.length-(i+1)+1=P.length-i from ()] at this
    grind
   .rw[if_neg c,show P.length-(i+1)=P.length-1 from ()]
    grind
  .rw[show i+1=P.length from (),Gu.1]
   exact neg i ()
 .rw[Fi] at hi t2
  by_cases z:i<P.length
  .have t3:t<=0:=by
    have:=t2 ()
    by_cases y:i+1<P.length
    .have:=neg (i+1) y;grind
    .rw[show i+1=P.length from (),Gu.1] at this;exact this
   show g (if t<=0 then -t else 0)=_
   rw[if_pos t3,(FW z).2]
   rw[p.v (P.length-1-i) () (-t) ?_ ?_ trivial]
   .unfold ev
    show _=-(ln P (P.length-1-i)).1*t+(ln P (P.length-1-i)).2
    grind
   .have:=t2 ()
    by_cases y:i+1<P.length
    .rw[(FW y).1,if_pos (),show P.length-(i+1)=P.length-1-i from ()] at this
     grind
    .rw[show P.length-1-i=0 from (),b0];grind
   .intro y
    rw[(FW z).1,if_pos ()] at t1
    rw[show P.length-1-i+1=P.length-i from ()]
    grind
  .have:i=P.length:=()
   subst this
   rw[Gu.1] at t1
   rw[Gu.2]
   have e:(if t<=0 then -t else 0)=0:=by split<;>grind
   show g (if t<=0 then -t else 0)=_
   rw[e]
   rw[p.v 0 ne 0 (by rw[b0];exact qAg) (fun y=>pos 1 y) trivial]
   unfold ev
   show _=0*t+(ln P 0).2
   grind
def G2 (Q:Ps):Cs:=Q.map fun p=>(p.1,ev p.2 p.1)
theorem Bo {Q:Ps}:(G2 Q).length=Q.length:=qAa _
theorem Bz {Q:Ps}{i:Nat}(h:i<Q.length):tt (G2 Q) i=bg Q i/\vv (G2 Q) i=ev (ln Q i) (bg Q i):=by
 have g:=qAb h
 have e:(G2 Q)[i]? = some (bg Q i,ev (ln Q i) (bg Q i)):=by
  unfold G2
  rw[qAc,g,(FG g).1,(FG g).2]
  rfl
 unfold tt vv
 rw[qAf,e]
 exact#[rfl,rfl]
theorem Jz {Q:Ps}{H:Rat->Rat}(p:PU Q H none){i:Nat}(h:i<Q.length):slp (G2 Q) (ln Q (Q.length-1)).1 i=(ln Q i).1:=by
 by_cases c:i+1<Q.length
 .rw[BN (by rw[Bo];exact c),(Bz h).1,(Bz h).2,(Bz c).1,(Bz c).2]
  have u:=p.up i c
  have e1:=p.v i h (bg Q (i+1)) (qAy u) (fun _=>qAg) trivial
  have e2:=p.v (i+1) c (bg Q (i+1)) qAg (fun z=>qAy (p.up (i+1) z)) trivial
  rw[<-e2,e1]
  unfold ev
  have ne:bg Q (i+1)-bg Q i≠0:=⋯
  generalize bg Q (i+1)=y at *
  generalize bg Q i=x at *
  have k:((ln Q i).1*y+(ln Q i).2-((ln Q i).1*x+(ln Q i).2))=(ln Q i).1*(y-x):=⋯
  rw[k]
  have k2:(ln Q i).1*(y-x)/(y-x)*(y-x)=(ln Q i).1*(y-x):=qA3 ne
  have k3:((ln Q i).1*(y-x)/(y-x)-(ln Q i).1)*(y-x)=0:=⋯
  rcases qA6.mp k3 with z|z
  .grind
  .exact absurd z ne
 .rw[AW (by rw[Bo];exact c),show i=Q.length-1 from ()]
theorem Tj {Q:Ps}{H:Rat->Rat}(p:PU Q H none) (ne:0<Q.length) (b0:bg Q 0=0) (mono:∀x y,0<=x->x<=y->H x<=H y) (h0:0<=H 0):Ord (G2 Q)/\0<=(ln Q (Q.length-1)).1/\∀t,0<=t->val (G2 Q) (ln Q (Q.length-1)).1 t=H t:=by
 have at_:∀i,i<Q.length->H (bg Q i)=ev (ln Q i) (bg Q i):=fun i hi=>p.v i hi _ qAg (fun z=>qAy (p.up i z)) trivial
 have pos:∀i,i<Q.length->0<=bg Q i:=fun i=>by
  induction i with
  |zero=>intro _;rw[b0];exact qAg
  |succ i ih=>intro hi;have:=ih ();have:=p.up i hi;grind
 have o:Ord (G2 Q):=by
  refine#[by rw[Bo];exact ne,by rw[(Bz ne).1];exact b0,by rw[(Bz ne).2,<-at_ 0 ne,b0];exact h0,fun i hi=>?_,fun i hi=>?_]
  .rw[Bo] at hi
   rw[(Bz (show i<Q.length from ())).1,(Bz hi).1];exact p.up i hi
  .rw[Bo] at hi
   rw[(Bz (show i<Q.length from ())).2,(Bz hi).2,<-at_ i (),<-at_ (i+1) hi]
   exact mono _ _ (pos i ()) (qAy (p.up i hi))
 refine#[o,?_,fun t t0=>?_]
 .have hl:Q.length-1<Q.length:=()
  have e1:=p.v (Q.length-1) hl (bg Q (Q.length-1)) qAg (fun z=>absurd z ()) trivial
  have e2:=p.v (Q.length-1) hl (bg Q (Q.length-1)+1) ⋯ (fun z=>absurd z ()) trivial
  have:=mono (bg Q (Q.length-1)) (bg Q (Q.length-1)+1) (pos _ hl) ⋯
  rw[e1,e2] at this
  unfold ev at this
  grind
 .have on:=GP o t0
  rw[DD (m:=(ln Q (Q.length-1)).1) o.up on]
  generalize plc (G2 Q) t (G2 Q).length=j at on
  have hj:j<Q.length:=by have:=on.lt;rw[Bo] at this;exact this
  rw[Jz p hj,(Bz hj).1,(Bz hj).2]
  have lo:=on.lo
  rw[(Bz hj).1] at lo
  rw[p.v j hj t lo (fun z=>by have:=on.hi (by rw[Bo];exact z);rw[(Bz z).1] at this;exact this) trivial]
  unfold ev
  grind
theorem Nl {α:Type}(key:α->Rat) (p:α->Prop):∀F:List α,(∃x∈F,p x)->∃y∈F,p y/\∀x∈F,p x->key x<=key y
 |[],#[_,h,_]=>by cases h
 |a::F,h=>by
  by_cases c:∃x∈F,p x
  .obtain⟨y,hy,py,my⟩:=Nl key p F c
   by_cases d:p a/\key y<key a
   .refine#[a,qAk.mpr (.inl rfl),d.1,fun x hx px=>?_]
    rcases qAk.mp hx with rfl|hx
    .exact qAg
    .have:=my x hx px
     have:=d.2
     grind
   .refine#[y,qAk.mpr (.inr hy),py,fun x hx px=>?_]
    rcases qAk.mp hx with rfl|hx
    .exact qAM.mp fun z=>d #[px,z]
    .exact my x hx px
  .obtain⟨x,hx,px⟩:=h
   rcases qAk.mp hx with rfl|hx
   .refine#[x,qAk.mpr (.inl rfl),px,fun z hz pz=>?_]
    rcases qAk.mp hz with rfl|hz
    .exact qAg
    .exact absurd #[z,hz,pz] c
   .exact absurd #[x,hx,px] c
section
variable {cs:Cs}{m:Rat}
theorem Jm (o:Ord cs){a:Rat}(a0:0<=a):plc cs a cs.length<cs.length/\tt cs (plc cs a cs.length)<=a/\(plc cs a cs.length+1<cs.length->a<tt cs (plc cs a cs.length+1)):=by
 have s:=DQ (cs:=cs) (t:=a) (by rw[o.t0];exact a0) cs.length o.ne
 exact#[s.2.1,s.1,fun z=>s.2.2 _ (qB0 _) z]
theorem RF (o:Ord cs){a b x:Rat}(a0:0<=a) (hk:∀k,k<cs.length->tt cs k<=a\/b<=tt cs k) (h1:a<=x) (h2:x<=b):val cs m x=val cs m a+sat cs m a*(x-a):=by
 obtain⟨jl,j1,j2⟩:=Jm o a0
 have ev:val cs m a=vv cs (plc cs a cs.length)+slp cs m (plc cs a cs.length)*(a-tt cs (plc cs a cs.length)):=rfl
 have es:sat cs m a=slp cs m (plc cs a cs.length):=rfl
 generalize plc cs a cs.length=j at *
 have on:On cs j x:=#[jl,qAL j1 h1,fun z=>by
  rcases hk (j+1) z with w|w
  .have:=j2 z;grind
  .exact qAL h2 w]
 rw[DD o.up on,ev,es]
 grind
theorem NM (o:Ord cs){a x:Rat}(hk:∀k,k<cs.length->tt cs k<=a) (h1:a<=x):val cs m x=val cs m a+m*(x-a)/\sat cs m a=m:=by
 have n:=o.ne
 have l:=hk (cs.length-1) ()
 rw[Dt n (qAL l h1),Dt n l,LD n l]
 exact#[⋯,rfl]
theorem Pm (o:Ord cs){a c:Rat}(a0:0<=a) (ac:a<c) (hk:∀k,k<cs.length->tt cs k<=a\/c<=tt cs k) (ne:sat cs m c≠sat cs m a):∃k,0<k/\k<cs.length/\tt cs k=c/\slp cs m k=sat cs m c/\slp cs m (k-1)=sat cs m a:=by
 obtain⟨jl,j1,j2⟩:=Jm o a0
 have es:sat cs m a=slp cs m (plc cs a cs.length):=rfl
 have ec:sat cs m c=slp cs m (plc cs c cs.length):=rfl
 generalize plc cs a cs.length=j at *
 by_cases z:j+1<cs.length/\tt cs (j+1)=c
 .obtain⟨z1,z2⟩:=z
  have e:plc cs c cs.length=j+1:=Hy o.up (by rw[z2];exact qAg) (fun w=>by rw[<-z2];exact o.up _ w) _ z1 (qAe _)
  exact#[j+1,(),z1,z2,by rw[ec,e],by rw[es];rfl]
 .have e:plc cs c cs.length=j:=Hy o.up (qAL j1 (qAy ac)) (fun w=>by
   rcases hk (j+1) w with y|y
   .have:=j2 w;grind
   .have:tt cs (j+1)≠c:=fun y=>z #[w,y]
    grind) _ jl (qAe _)
  rw[ec,es,e] at ne
  exact absurd rfl ne
end
def X6 (fc:Cs)(fm:Rat)(gc:Cs)(gm:Rat)(t u:Rat):Prop:=u=0\/(∃k,0<k/\k<gc.length/\tt gc k=u/\slp gc gm (k-1)<slp gc gm k)\/∃k,0<k/\k<fc.length/\tt fc k=t+u/\slp fc fm k<slp fc fm (k-1)
theorem Mp {fc gc:Cs}{fm gm:Rat}(of:Ord fc) (og:Ord gc) (hm:fm<=gm){t:Rat}(t0:0<=t):∃u,0<=u/\X6 fc fm gc gm t u/\∀v,0<=v->val fc fm (t+v)-val gc gm v<=val fc fm (t+u)-val gc gm u:=by
 obtain⟨F,hF⟩:∃F:List Rat,F=(0:Rat)::((List.range gc.length).map (tt gc)++((List.range fc.length).map fun k=>tt fc k-t).filter fun x=>decide (0<=x)):=#[_,rfl]
 have f0:(0:Rat)∈F:=by rw[hF];exact qAk.mpr (.inl rfl)
 have fg:∀k,k<gc.length->tt gc k∈F:=fun k hk=>by
  rw[hF]
  exact qAk.mpr (.inr (qAo.mpr (.inl (qAH.mpr #[k,qAI.mpr hk,rfl]))))
 have ff:∀k,k<fc.length->t<=tt fc k->tt fc k-t∈F:=fun k hk h=>by
  rw[hF]
  exact qAk.mpr (.inr (qAo.mpr (.inr (qBj.mpr #[qAH.mpr #[k,qAI.mpr hk,rfl],decide_eq_true ⋯]))))
 have nn:∀x∈F,0<=x:=fun x hx=>by
  rw[hF] at hx
  rcases qAk.mp hx with rfl|hx
  .exact qAg
  .rcases qAo.mp hx with hx|hx
   .obtain⟨k,hk,rfl⟩:=qAH.mp hx
    have:=Bn og.up (i:=0) (j:=k) () (qAI.mp hk)
    rw[og.t0] at this
    exact this
   .exact of_decide_eq_true (qBj.mp hx).2
 clear hF
 obtain⟨w,hw⟩:∃w:Rat->Rat,w=fun u=>val fc fm (t+u)-val gc gm u:=#[_,rfl]
 have we:∀u,w u=val fc fm (t+u)-val gc gm u:=fun u=>by rw[hw]
 have amid:∀p n,p∈F->(∀x∈F,x<=p\/n<=x)->∀x,p<=x->x<=n->w x=w p+(sat fc fm (t+p)-sat gc gm p)*(x-p):=fun p n hp h x x1 x2=>by
  have p0:=nn p hp
  have e1:=RF (m:=fm) of (a:=t+p) (b:=t+n) (x:=t+x) ⋯ (fun k hk=>by
   by_cases c:t<=tt fc k
   .rcases h _ (ff k hk c) with y|y
    .left;grind
    .right;grind
   .left;grind) ⋯ ⋯
  have e2:=RF (m:=gm) og (a:=p) (b:=n) (x:=x) p0 (fun k hk=>h _ (fg k hk)) x1 x2
  rw[we,we,e1,e2]
  grind
 have behind:∀p,p∈F->(∀x∈F,x<=p)->∀x,p<=x->w x=w p+(fm-gm)*(x-p)/\sat fc fm (t+p)=fm/\sat gc gm p=gm:=fun p hp h x x1=>by
  have e1:=NM (m:=fm) of (a:=t+p) (x:=t+x) (fun k hk=>by
   by_cases c:t<=tt fc k
   .have:=h _ (ff k hk c);grind
   .have:=nn p hp;grind) ⋯
  have e2:=NM (m:=gm) og (a:=p) (x:=x) (fun k hk=>h _ (fg k hk)) x1
  refine#[?_,e1.2,e2.2]
  rw[we,we,e1.1,e2.1]
  grind
 obtain⟨y0,hy0,_,my0⟩:=Nl w (fun _=>True) F #[0,f0,trivial]
 obtain⟨y,hy,py,my⟩:=Nl (fun x=>-x) (fun x=>w x=w y0) F #[y0,hy0,rfl]
 have best:∀x∈F,w x<=w y:=fun x hx=>by rw[py];exact my0 x hx trivial
 have first:∀x∈F,x<y->w x<w y:=fun x hx lt=>by
  refine qBe.mp fun z=>?_
  have b:=best x hx
  have:=my x hx (by rw[<-py];grind)
  grind
 have next:∀v,(∀x∈F,x<=v)\/∃n∈F,v<n/\∀x∈F,x<=v\/n<=x:=fun v=>by
  by_cases c:∃x∈F,v<x
  .obtain⟨n,hn,pn,mn'⟩:=Nl (fun x=>-x) (fun x=>v<x) F c
   refine .inr #[n,hn,pn,fun x hx=>?_]
   by_cases d:v<x
   .right
    have:=mn' x hx d
    grind
   .left;grind
  .left
   intro x hx
   exact qAM.mp fun z=>c #[x,hx,z]
 refine#[y,nn y hy,?_,fun v v0=>?_]
 .by_cases c:y=0
  .exact .inl c
  right
  have y0':0<y:=by have:=nn y hy;grind
  obtain⟨p,hp,lp,mp'⟩:=Nl (fun x=>x) (fun x=>x<y) F #[0,f0,y0']
  have gapF:∀x∈F,x<=p\/y<=x:=fun x hx=>by
   by_cases d:x<y
   .left;exact mp' x hx d
   .right;grind
  have a:=amid p y hp gapF y (qAy lp) qAg
  have f1:=first p hp lp
  have s1:0<sat fc fm (t+p)-sat gc gm p:=by
   refine qBe.mp fun z=>?_
   have:0<=(-(sat fc fm (t+p)-sat gc gm p))*(y-p):=qAt ⋯ ⋯
   grind
  have s2:sat fc fm (t+y)-sat gc gm y<=0:=by
   rcases next y with h|⟨n,hn,ln,gn⟩
   .obtain⟨_,e1,e2⟩:=behind y hy h y qAg
    rw[e1,e2];grind
   .have a2:=amid y n hy gn n (qAy ln) qAg
    have b:=best n hn
    refine qAM.mp fun z=>?_
    have:=qBB z (show 0<n-y from ⋯)
    grind
  have p0:=nn p hp
  by_cases d:sat gc gm p<sat gc gm y
  .left
   obtain⟨k,k0,kl,e,e1,e2⟩:=Pm (m:=gm) og p0 lp (fun k hk=>gapF _ (fg k hk)) ⋯
   exact#[k,k0,kl,e,by rw[e1,e2];exact d]
  .right
   obtain⟨k,k0,kl,e,e1,e2⟩:=Pm (m:=fm) of (a:=t+p) (c:=t+y) ⋯ ⋯ (fun k hk=>by
    by_cases c:t<=tt fc k
    .rcases gapF _ (ff k hk c) with y|y
     .left;grind
     .right;grind
    .left;grind) ⋯
   exact#[k,k0,kl,e,by rw[e1,e2];grind]
 .rw[<-we,<-we]
  obtain⟨p,hp,lp,mp'⟩:=Nl (fun x=>x) (fun x=>x<=v) F #[0,f0,v0]
  rcases next v with h|⟨n,hn,ln,gn⟩
  .have e:=(behind p hp (fun x hx=>mp' x hx (h x hx)) v lp).1
   have b:=best p hp
   have:0<=(gm-fm)*(v-p):=qAt ⋯ ⋯
   grind
  .have g2:∀x∈F,x<=p\/n<=x:=fun x hx=>by
    rcases gn x hx with h|h
    .left;exact mp' x hx h
    .right;exact h
   have a1:=amid p n hp g2 v lp (qAy ln)
   have a2:=amid p n hp g2 n ⋯ qAg
   have b1:=best p hp
   have b2:=best n hn
   by_cases c:0<=sat fc fm (t+p)-sat gc gm p
   .have:0<=(sat fc fm (t+p)-sat gc gm p)*(n-v):=qAt c ⋯
    grind
   .have:0<=(-(sat fc fm (t+p)-sat gc gm p))*(v-p):=qAt ⋯ ⋯
    grind
def IsU (fc:Cs)(fm:Rat)(gc:Cs)(gm:Rat)(t v:Rat):Prop:=0<=v/\(v=0\/∃u,0<=u/\val fc fm (t+u)-val gc gm u=v)/\∀u,0<=u->val fc fm (t+u)-val gc gm u<=v
def PY (L:List (Rat->Rat))(h:Rat->Rat):Prop:=∀t,0<=t->h t<=0/\(∀c∈L,h t<=c t)/\(h t=0\/∃c∈L,h t=c t)
theorem PY.nil:PY [] (fun _=>0):=fun t _=>#[qAg,(fun c hc=>nomatch hc),Or.inl rfl]
theorem PY.add {L:List (Rat->Rat)}{h c:Rat->Rat}(a:PY L h):PY (L++[c]) (RT 0 h c):=fun t t0=>by
 obtain⟨a1,a2,a3⟩:=a t t0
 have e:RT 0 h c t=mp (h t) (c t):=by unfold RT;rw[if_neg ⋯]
 rw[e]
 by_cases z:h t<=c t
 .rw[VU z]
  refine#[a1,fun d hd=>?_,?_]
  .rcases qAo.mp hd with hd|hd
   .exact a2 d hd
   .rw[qAz.mp hd];exact z
  .rcases a3 with y|⟨d,hd,y⟩
   .exact .inl y
   .exact .inr #[d,qAo.mpr (.inl hd),y]
 .rw[WQ ⋯]
  refine#[⋯,fun d hd=>?_,.inr #[c,qAo.mpr (.inr (qAz.mpr rfl)),rfl]]
  rcases qAo.mp hd with hd|hd
  .have:=a2 d hd;grind
  .rw[qAz.mp hd];exact qAg
def cA (fc:Cs)(fm:Rat)(gc:Cs)(k:Nat)(t:Rat):Rat:=-val fc fm (t-(0-tt gc k))+vv gc k
def cB (fc:Cs)(gc:Cs)(gm:Rat)(k:Nat)(t:Rat):Rat:=val gc gm (if t-tt fc k<=0 then -(t-tt fc k) else 0)+(0-vv fc k)
def stI (cs:Cs)(m:Rat):List Nat:=((List.range (cs.length-1)).filter fun n=>decide (slp cs m n<slp cs m (n+1))).map (· + 1)
def flI (cs:Cs)(m:Rat):List Nat:=((List.range (cs.length-1)).filter fun n=>decide (slp cs m (n+1)<slp cs m n)).map (· + 1)
theorem Ip {cs:Cs}{m:Rat}{k:Nat}:k∈stI cs m ↔ k<cs.length/\0<k/\slp cs m (k-1)<slp cs m k:=by
 unfold stI
 rw[qAH]
 constructor
 .rintro⟨n,hn,rfl⟩
  have h:=qBj.mp hn
  have h1:=qAI.mp h.1
  exact#[(),(),of_decide_eq_true h.2]
 .rintro⟨h1,h2,h3⟩
  refine#[k-1,qBj.mpr #[qAI.mpr (),?_],()]
  rw[show k-1+1=k from ()]
  exact decide_eq_true h3
theorem Ie {cs:Cs}{m:Rat}{k:Nat}:k∈flI cs m ↔ k<cs.length/\0<k/\slp cs m k<slp cs m (k-1):=by
 unfold flI
 rw[qAH]
 constructor
 .rintro⟨n,hn,rfl⟩
  have h:=qBj.mp hn
  have h1:=qAI.mp h.1
  exact#[(),(),of_decide_eq_true h.2]
 .rintro⟨h1,h2,h3⟩
  refine#[k-1,qBj.mpr #[qAI.mpr (),?_],()]
  rw[show k-1+1=k from ()]
  exact decide_eq_true h3
theorem LB {α:Type}{p:Nat->Bool}{f:Nat->α}:∀l:List Nat,(l.map fun n=>if p n=true then some (f (n+1)) else none).filterMap id=((l.filter p).map (· + 1)).map f
 |[]=>rfl
 |a::l=>by
  have ih:=LB (p:=p) (f:=f) l
  rw[qCj,qBg]
  by_cases c:p a=true
  .rw[if_pos c,if_pos c,qCj,qCj,<-ih]
   rfl
  .rw[if_neg c,if_neg c,<-ih]
   rfl
def VV (fc:Cs)(fm:Rat)(gc:Cs)(gm:Rat):List (Rat->Rat):=(0::stI gc gm).map (cA fc fm gc)++(flI fc fm).map (cB fc gc gm)
section
variable {fc gc:Cs}{fm gm:Rat}
theorem CD {cs:Cs}(o:Ord cs){k:Nat}(h:k<cs.length):0<=tt cs k:=by
 have:=Bn o.up (i:=0) (j:=k) () h
 rw[o.t0] at this
 exact this
theorem SR (og:Ord gc){k:Nat}(h:k<gc.length) (t:Rat):cA fc fm gc k t=val gc gm (tt gc k)-val fc fm (t+tt gc k):=by
 unfold cA
 rw[E3 og h,show t-(0-tt gc k)=t+tt gc k from ⋯]
 grind
theorem Vb (of:Ord fc){k:Nat}(h:k<fc.length){t:Rat}(ht:t<=tt fc k):cB fc gc gm k t=val gc gm (tt fc k-t)-val fc fm (t+(tt fc k-t)):=by
 unfold cB
 rw[if_pos ⋯,show t+(tt fc k-t)=tt fc k from ⋯,E3 of h,show -(t-tt fc k)=tt fc k-t from ⋯]
 grind
theorem Vh (of:Ord fc)(t:Rat){k:Nat}(ht:¬t<=tt fc k):cB fc gc gm k t=val gc gm 0-vv fc k:=by
 unfold cB
 rw[if_neg ⋯]
 grind
theorem Ub (rf:Fe fc fm)(rg:Fe gc gm)(hm:fm<=gm){h:Rat->Rat}(a:PY (VV fc fm gc gm) h){t:Rat}(t0:0<=t):IsU fc fm gc gm t (-h t):=by
 obtain⟨a1,a2,a3⟩:=a t t0
 have inA:∀k,k=0\/k∈stI gc gm->cA fc fm gc k∈VV fc fm gc gm:=fun k hk=>qAo.mpr (.inl (qAH.mpr #[k,qAk.mpr hk,rfl]))
 have inB:∀k,k∈flI fc fm->cB fc gc gm k∈VV fc fm gc gm:=fun k hk=>qAo.mpr (.inr (qAH.mpr #[k,hk,rfl]))
 have g0:=rg.o.ne
 have z0:cA fc fm gc 0 t=val gc gm 0-val fc fm (t+0):=by rw[SR (gm:=gm) rg.o g0,rg.o.t0]
 have b0:=a2 _ (inA 0 (.inl rfl))
 rw[z0] at b0
 refine#[⋯,?_,fun u u0=>?_]
 .rcases a3 with e|⟨c,hc,e⟩
  .left;grind
  right
  rcases qAo.mp hc with hc|hc
  .obtain⟨k,hk,rfl⟩:=qAH.mp hc
   have kl:k<gc.length:=by
    rcases qAk.mp hk with rfl|hk
    .exact g0
    .exact(Ip.mp hk).1
   refine#[tt gc k,CD rg.o kl,?_]
   rw[e,SR (gm:=gm) rg.o kl]
   grind
  .obtain⟨k,hk,rfl⟩:=qAH.mp hc
   have kl:=(Ie.mp hk).1
   by_cases z:t<=tt fc k
   .refine#[tt fc k-t,⋯,?_]
    rw[e,Vb (fm:=fm) rf.o kl z]
    grind
   .refine#[0,qAg,?_]
    rw[Vh rf.o t z] at e
    have:vv fc k<=val fc fm (t+0):=by
     rw[show t+0=t from ⋯]
     exact Rh rf kl ⋯
    grind
 .obtain⟨w,w0,cw,best⟩:=Mp rf.o rg.o hm t0
  refine qAL (best u u0) ?_
  rcases cw with rfl|⟨k,k0,kl,e,s⟩|⟨k,k0,kl,e,s⟩
  .grind
  .have:=a2 _ (inA k (.inr (Ip.mpr #[kl,k0,s])))
   rw[SR (gm:=gm) rg.o kl,e] at this
   grind
  .have:=a2 _ (inB k (Ie.mpr #[kl,k0,s]))
   rw[Vb (fm:=fm) rf.o kl ⋯,e,show t+w-t=w from ⋯] at this
   grind
theorem Qu (rf:Fe fc fm){x y v w:Rat}(x0:0<=x) (xy:x<=y) (a:IsU fc fm gc gm x v) (b:IsU fc fm gc gm y w):v<=w:=by
 obtain⟨a0,a1,a2⟩:=a
 obtain⟨b0,b1,b2⟩:=b
 rcases a1 with e|⟨u,u0,e⟩
 .grind
 .have h1:=b2 u u0
  have h2:val fc fm (x+u)<=val fc fm (y+u):=CQ rf ⋯ ⋯
  grind
theorem Qm (rf:Fe fc fm)(rg:Fe gc gm)(hm:fm<=gm){C:Cs}{M:Rat}(o:Ord C) (a:∀t,0<=t->IsU fc fm gc gm t (val C M t)):M=fm:=by
 have fn:=rf.o.ne
 have cn:=o.ne
 have gn:=rg.o.ne
 have f0:=CD rf.o (show fc.length-1<fc.length from ())
 have c0:=CD o (show C.length-1<C.length from ())
 have g0:=CD rg.o (show gc.length-1<gc.length from ())
 generalize eA:tt fc (fc.length-1)+tt C (C.length-1)=A
 have A0:0<=A:=⋯
 have vC:∀x,A<=x->val C M x=val C M A+M*(x-A):=fun x hx=>by
  rw[Dt cn ⋯,Dt cn (show tt C (C.length-1)<=A from ⋯)]
  grind
 have vF:∀x,A<=x->val fc fm x=val fc fm A+fm*(x-A):=fun x hx=>by
  rw[Dt fn ⋯,Dt fn (show tt fc (fc.length-1)<=A from ⋯)]
  grind
 have low:fm<=M:=by
  refine O6 (f0:=val fc fm A-val gc gm 0) (g0:=val C M A) (a:=A) fun x hx=>?_
  rw[<-vC x hx]
  have:=(a x ⋯).2.2 0 qAg
  rw[show x+0=x from ⋯,vF x hx] at this
  grind
 have gb:∀u,0<=u->fm*u-val gc gm u<=fm*tt gc (gc.length-1):=fun u u0=>by
  have m0:=rf.m0
  by_cases c:u<=tt gc (gc.length-1)
  .have h1:0<=val gc gm u:=by
    have:=CQ rg qAg u0
    rw[Gg rg.o] at this
    exact qAL rg.o.v0 this
   have h2:0<=fm*(tt gc (gc.length-1)-u):=qAt m0 ⋯
   grind
  .have e:=Dt (M:=gm) gn (show tt gc (gc.length-1)<=u from ⋯)
   have h1:0<=vv gc (gc.length-1):=by
    have:=CQ rg qAg g0
    rw[Gg rg.o,E3 rg.o ()] at this
    exact qAL rg.o.v0 this
   have h2:0<=(gm-fm)*(u-tt gc (gc.length-1)):=qAt ⋯ ⋯
   grind
 have up:M<=fm:=by
  have fA:0<=val fc fm A:=by
   have:=CQ rf qAg A0
   rw[Gg rf.o] at this
   exact qAL rf.o.v0 this
  refine O6 (f0:=val C M A) (g0:=val fc fm A+fm*tt gc (gc.length-1)) (a:=A) fun x hx=>?_
  rw[<-vC x hx]
  have m0:=rf.m0
  have k1:0<=fm*tt gc (gc.length-1):=qAt m0 g0
  have k2:0<=fm*(x-A):=qAt m0 ⋯
  rcases(a x ⋯).2.1 with e|⟨u,u0,e⟩
  .rw[e];grind
  .rw[<-e,vF (x+u) ⋯]
   have:=gb u u0
   grind
 grind
end
def Mj (m b:Rat):RL:=(m.num*(b.den:Int),b.num*(m.den:Int),(m.den:Int)*(b.den:Int))
def qr (q:Rat):Int×Int:=(q.num,(q.den:Int))
def CA (cs:Cs)(m:Rat):List RP:=(List.range cs.length).map fun k=>(qr (tt cs k),Mj (slp cs m k) (vv cs k-slp cs m k*tt cs k))
theorem CI {cs:Cs}{m:Rat}:(CA cs m).length=cs.length:=by unfold CA;simp
theorem EK {cs:Cs}{m:Rat}{k:Nat}(h:k<cs.length):(CA cs m)[k]? = some (qr (tt cs k),Mj (slp cs m k) (vv cs k-slp cs m k*tt cs k)):=by
 unfold CA
 rw[qAc,qAE h]
 rfl
theorem Qx {cs:Cs}{m:Rat}{k:Nat}(h:k<cs.length):(Eb cs m)[k]? = some (tt cs k,(slp cs m k,vv cs k-slp cs m k*tt cs k)):=by
 unfold Eb
 rw[qAc,qAE h]
 rfl
theorem QZ {a b c:Nat}{cs:Cs}{m:Rat}(o:Ord cs) (z:LS a b c cs m):PL (b+c) a (CA cs m) (Eb cs m):=by
 have l:=z.ln o
 refine#[by rw[CI,AS],fun i p q h1 h2=>?_]
 have hi:i<cs.length:=by have:=(qAd.mp h1).1;rw[CI] at this;exact this
 rw[EK hi] at h1
 rw[Qx hi] at h2
 cases h1
 cases h2
 exact#[Wq.of (z.tm i hi),O5 (l i hi).1 (l i hi).2]
def frR (ps:List RP)(c:Nat):List RP:=((0,1),(ps.getD (c-1) ((0,1),(0,0,1))).2)::ps.drop c
theorem US {k m:Nat}{ps:List RP}{P:Ps}(h:PL k m ps P){c:Nat}(c0:0<c) (cl:c<=P.length) (hm:1<=m):PL k m (frR ps c) (frN P c):=by
 have len:=h.len
 refine#[by rw[Ef];unfold frR;rw[qAU,qAR,len],fun i p q h1 h2=>?_]
 cases i with
 |zero =>
  cases h1
  cases h2
  have hg:ps[c-1]? = some (ps.getD (c-1) ((0,1),(0,0,1))):=by
   rw[qAf,qAb (show c-1<ps.length from ())]
   rfl
  exact#[(show Wq 1 0 1 0 from Wq.of Sz.zero).mono hm,(h.lnw hg).1]
 |succ i =>
  have g1:(ps.drop c)[i]? = some p:=h1
  have g2:(P.drop c)[i]? = some q:=h2
  rw[qBv] at g1 g2
  exact h.at_ _ p q g1 g2
def trR (cs:Cs)(m far:Rat):List RP:=((List.range cs.length).map fun k=>((qr (if k+1<cs.length then 0-tt cs (k+1) else 0-far),(-(Mj (slp cs m k) (vv cs k-slp cs m k*tt cs k)).1,(Mj (slp cs m k) (vv cs k-slp cs m k*tt cs k)).2)):RP)).reverse++[((0,1),(0,(Mj (slp cs m 0) (vv cs 0-slp cs m 0*tt cs 0)).2))]
theorem Vc {a b c:Nat}{cs:Cs}{m far:Rat}(o:Ord cs) (z:LS a b c cs m){n:Nat}(hf:Sz n far) (ha:a+2<=n):PL (b+c) (n+2) (trR cs m far) (GF (Eb cs m) far):=by
 have l:=z.ln o
 have lw:∀k,k<cs.length->LW (b+c) (Mj (slp cs m k) (vv cs k-slp cs m k*tt cs k)) (slp cs m k,vv cs k-slp cs m k*tt cs k):=fun k hk=>O5 (l k hk).1 (l k hk).2
 have n0:=o.ne
 refine#[by rw[Fi,AS];unfold trR;simp,fun i p q h1 h2=>?_]
 have hlen:(trR cs m far).length=cs.length+1:=by unfold trR;simp
 have hi:i<cs.length+1:=by have:=(qAd.mp h1).1;rw[hlen] at this;exact this
 by_cases c1:i<cs.length
 .unfold trR at h1
  rw[qAp (by simp;exact c1),qBz (by simp;exact c1),qAa,qAr,qAc,qAE ()] at h1
  cases h1
  obtain⟨e1,e2⟩:=FG h2
  have ta:=FW (P:=Eb cs m) (far:=far) (i:=i) (by rw[AS];exact c1)
  rw[AS] at ta
  rw[ta.1] at e1
  rw[ta.2,(B0 (show cs.length-1-i<cs.length from ())).2] at e2
  have hk:=lw (cs.length-1-i) ()
  refine#[?_,?_]
  .rw[<-e1]
   dsimp only
   by_cases z0:0<i
   .rw[if_pos (show cs.length-1-i+1<cs.length from ()),if_pos z0,(B0 (show cs.length-i<cs.length from ())).1,show cs.length-1-i+1=cs.length-i from (),show(0:Rat)-tt cs (cs.length-i)=-tt cs (cs.length-i) from ⋯]
    have s0:=(Sz.zero.sub (z.tm (cs.length-i) ()))
    rw[show(0:Rat)-tt cs (cs.length-i)=-tt cs (cs.length-i) from ⋯] at s0
    exact(Wq.of s0).mono ()
   .rw[if_neg (show ¬cs.length-1-i+1<cs.length from ()),if_neg z0,show(0:Rat)-far=-far from ⋯]
    have s0:=Sz.zero.sub hf
    rw[show(0:Rat)-far=-far from ⋯] at s0
    exact(Wq.of s0).mono ()
  .rw[<-e2]
   exact#[hk.s.neg,hk.c]
 .have:i=cs.length:=()
  subst this
  unfold trR at h1
  rw[qAs (by simp)] at h1
  simp at h1
  subst h1
  obtain⟨e1,e2⟩:=FG h2
  have te:=Gu (P:=Eb cs m) (far:=far)
  rw[AS] at te
  rw[te.1] at e1
  rw[te.2,(B0 n0).2] at e2
  have hk:=lw 0 n0
  refine#[?_,?_]
  .rw[<-e1];exact(show Wq 1 0 1 0 from Wq.of Sz.zero).mono ()
  .rw[<-e2]
   exact#[#[hk.c.pos,by rw[show((0:Int):Rat)=0 from rfl];grind,by show(0:Int).natAbs<_;exact Nat.two_pow_pos _,hk.c.lb],hk.c]
abbrev R4:=(Int×Int)×Nat×Nat
def tmF (rw:List R4)(n:Nat):Int×Int:=(rw.getD n ((0,1),0,0)).1
def iF' (rw:List R4)(n:Nat):Nat:=(rw.getD n ((0,1),0,0)).2.1
def jF (rw:List R4)(n:Nat):Nat:=(rw.getD n ((0,1),0,0)).2.2
def aF (rw:List R4)(n:Nat):Rat:=Rat.divInt (tmF rw n).1 (tmF rw n).2
theorem X7 {rw:List R4}{r:R4}{n:Nat}(h:n<rw.length):tmF (rw++[r]) n=tmF rw n/\iF' (rw++[r]) n=iF' rw n/\jF (rw++[r]) n=jF rw n/\aF (rw++[r]) n=aF rw n:=by
 have e:(rw++[r]).getD n ((0,1),0,0)=rw.getD n ((0,1),0,0):=by
  rw[qAf,qAf,qAp h]
 unfold aF tmF iF' jF
 rw[e]
 exact#[rfl,rfl,rfl,rfl]
theorem Xp {rw:List R4}{r:R4}:tmF (rw++[r]) rw.length=r.1/\iF' (rw++[r]) rw.length=r.2.1/\jF (rw++[r]) rw.length=r.2.2/\aF (rw++[r]) rw.length=Rat.divInt r.1.1 r.1.2:=by
 have e:(rw++[r]).getD rw.length ((0,1),0,0)=r:=by
  rw[qAf,qAs (qAe _),qCG]
  rfl
 unfold aF tmF iF' jF
 rw[e]
 exact#[rfl,rfl,rfl,rfl]
theorem TJ {rw:List R4}{n:Nat}(h:n<rw.length):rw[n]? = some (tmF rw n,iF' rw n,jF rw n):=by
 unfold tmF iF' jF
 rw[qAf,qAb h]
 rfl
def dfR:RP:=((0,1),(0,0,1))
def Tb (ps os:List RP)(r:R4):D:=.tup [.tup [.int r.1.1,.int r.1.2],lnD (ps.getD r.2.1 dfR).2,lnD (os.getD r.2.2 dfR).2]
theorem Gj {k:Nat}{a b:Int}{x:Rat}(h:Wq k a b x):Rat.divInt a b=x:=by
 have hb:(b:Rat)≠0:=by have:=qAX.mpr h.pos;grind
 rw[qAC,h.eq]
 have k2:x*(b:Rat)/(b:Rat)*(b:Rat)=x*(b:Rat):=qA3 hb
 have k3:(x*(b:Rat)/(b:Rat)-x)*(b:Rat)=0:=⋯
 rcases qA6.mp k3 with z|z
 .grind
 .exact absurd z hb
structure NC (P O:Ps)(m:Nat)(rw:List R4):Prop where
 n0:0<rw.length
 w:∀n,n<rw.length->Wq m (tmF rw n).1 (tmF rw n).2 (aF rw n)
 a0:aF rw 0=bg O 0
 j0:jF rw 0=0
 iP:∀n,n<rw.length->iF' rw n<P.length
 jO:∀n,n<rw.length->jF rw n<O.length
 bi:∀n,n<rw.length->bg P (iF' rw n)<=aF rw n
 bj:∀n,n<rw.length->bg O (jF rw n)<=aF rw n
 up:∀n,n+1<rw.length->aF rw n<aF rw (n+1)
 ei:∀n,n+1<rw.length->iF' rw n+1<P.length->aF rw (n+1)<=bg P (iF' rw n+1)
 ej:∀n,n+1<rw.length->jF rw n+1<O.length->aF rw (n+1)<=bg O (jF rw n+1)
 li:iF' rw (rw.length-1)+1<P.length->aF rw (rw.length-1)<bg P (iF' rw (rw.length-1)+1)
 lj:jF rw (rw.length-1)+1<O.length->aF rw (rw.length-1)<bg O (jF rw (rw.length-1)+1)
 si:∀n,n+1<rw.length->iF' rw (n+1)=iF' rw n\/(iF' rw (n+1)=iF' rw n+1/\aF rw (n+1)=bg P (iF' rw n+1))
 sj:∀n,n+1<rw.length->jF rw (n+1)=jF rw n\/(jF rw (n+1)=jF rw n+1/\aF rw (n+1)=bg O (jF rw n+1))
 mv:∀n,n+1<rw.length->iF' rw (n+1)=iF' rw n->jF rw (n+1)≠jF rw n
 cnt:rw.length+iF' rw 0<=iF' rw (rw.length-1)+jF rw (rw.length-1)+1+iF' rw 0
theorem NC.all {P O:Ps}{m:Nat}{rw:List R4}(s:NC P O m rw) (h1:¬iF' rw (rw.length-1)+1<P.length) (h2:¬jF rw (rw.length-1)+1<O.length):Sbs P O rw.length (aF rw) (iF' rw) (jF rw):=by
 refine#[s.n0,s.a0,s.j0,s.iP,s.jO,s.bi,s.bj,s.up,fun n hn z=>?_,fun n hn z=>?_,s.si,s.sj,s.mv]
 .by_cases c:n+1<rw.length
  .exact#[c,s.ei n c z]
  .rw[show n=rw.length-1 from ()] at z;exact absurd z h1
 .by_cases c:n+1<rw.length
  .exact#[c,s.ej n c z]
  .rw[show n=rw.length-1 from ()] at z;exact absurd z h2
theorem NC.one {P O:Ps}{m:Nat}{tm:Int×Int}{i:Nat}(w:Wq m tm.1 tm.2 (bg O 0)) (hi:i<P.length) (ho:0<O.length) (b:bg P i<=bg O 0) (l:i+1<P.length->bg O 0<bg P (i+1)) (u:1<O.length->bg O 0<bg O 1):NC P O m [(tm,i,0)]:=by
 have e:=Gj w
 have ea:aF [(tm,i,0)] 0=bg O 0:=e
 have z:∀n,n < [(tm,i,(0:Nat))].length->n=0:=fun n hn=>by have:n<1:=hn;omega
 have nn:∀n,¬n+1 < [(tm,i,(0:Nat))].length:=fun n hn=>by have:n+1<1:=hn;omega
 refine#[by simp,fun n hn=>?_,ea,rfl,fun n hn=>?_,fun n hn=>?_,fun n hn=>?_,fun n hn=>?_,fun n hn=>absurd hn (nn n),fun n hn=>absurd hn (nn n),fun n hn=>absurd hn (nn n),fun h=>?_,fun h=>?_,fun n hn=>absurd hn (nn n),fun n hn=>absurd hn (nn n),fun n hn=>absurd hn (nn n),?_]
 .rw[z n hn,ea];exact w
 .rw[z n hn];exact hi
 .rw[z n hn];exact ho
 .rw[z n hn,ea];exact b
 .rw[z n hn,ea];exact qAg
 .show aF [(tm,i,0)] 0<_
  rw[ea];exact l h
 .show aF [(tm,i,0)] 0<_
  rw[ea];exact u h
 .show 1+i<=i+0+1+i
  omega
theorem NC.step {P O:Ps}{m:Nat}{rw:List R4}(s:NC P O m rw) (uP:∀i,i+1<P.length->bg P i<bg P (i+1)) (uO:∀i,i+1<O.length->bg O i<bg O (i+1)){tm:Int×Int}{x:Rat}{i' j':Nat}(w:Wq m tm.1 tm.2 x)
 (x1:iF' rw (rw.length-1)+1<P.length->x<=bg P (iF' rw (rw.length-1)+1)) (x2:jF rw (rw.length-1)+1<O.length->x<=bg O (jF rw (rw.length-1)+1))
 (x3:(iF' rw (rw.length-1)+1<P.length/\x=bg P (iF' rw (rw.length-1)+1))\/(jF rw (rw.length-1)+1<O.length/\x=bg O (jF rw (rw.length-1)+1)))
 (ei':i'=if iF' rw (rw.length-1)+1<P.length/\¬x<bg P (iF' rw (rw.length-1)+1) then iF' rw (rw.length-1)+1 else iF' rw (rw.length-1))
 (ej':j'=if jF rw (rw.length-1)+1<O.length/\¬x<bg O (jF rw (rw.length-1)+1) then jF rw (rw.length-1)+1 else jF rw (rw.length-1)):NC P O m (rw++[(tm,i',j')]):=by
 have ln:(rw++[(tm,i',j')]).length=rw.length+1:=by simp
 have n0:=s.n0
 have ex:=Gj w
 have L:=fun n (hn:n<rw.length)=>X7 (rw:=rw) (r:=(tm,i',j')) hn
 have Rr:=Xp (rw:=rw) (r:=(tm,i',j'))
 have rA:aF (rw++[(tm,i',j')]) rw.length=x:=by rw[Rr.2.2.2];exact ex
 have rI:iF' (rw++[(tm,i',j')]) rw.length=i':=Rr.2.1
 have rJ:jF (rw++[(tm,i',j')]) rw.length=j':=Rr.2.2.1
 have rT:tmF (rw++[(tm,i',j')]) rw.length=tm:=Rr.1
 have hL:rw.length-1<rw.length:=()
 have a1:=s.iP _ hL
 have a2:=s.jO _ hL
 have a3:=s.bi _ hL
 have a4:=s.bj _ hL
 have a5:=s.li
 have a6:=s.lj
 have cn:=s.cnt
 generalize eI:iF' rw (rw.length-1)=I0 at *
 generalize eJ:jF rw (rw.length-1)=J0 at *
 generalize eA:aF rw (rw.length-1)=A0 at *
 have lt:A0<x:=by
  rcases x3 with⟨h,e⟩|⟨h,e⟩
  .rw[e];exact a5 h
  .rw[e];exact a6 h
 have hi:(i'=I0/\(I0+1<P.length->x<bg P (I0+1)))\/(i'=I0+1/\I0+1<P.length/\x=bg P (I0+1)):=by
  by_cases c:I0+1<P.length/\¬x<bg P (I0+1)
  .rw[if_pos c] at ei'
   have:=x1 c.1
   exact .inr #[ei',c.1,⋯]
  .rw[if_neg c] at ei'
   exact .inl #[ei',fun h=>Decidable.byContradiction fun z=>c #[h,z]]
 have hj:(j'=J0/\(J0+1<O.length->x<bg O (J0+1)))\/(j'=J0+1/\J0+1<O.length/\x=bg O (J0+1)):=by
  by_cases c:J0+1<O.length/\¬x<bg O (J0+1)
  .rw[if_pos c] at ej'
   have:=x2 c.1
   exact .inr #[ej',c.1,⋯]
  .rw[if_neg c] at ej'
   exact .inl #[ej',fun h=>Decidable.byContradiction fun z=>c #[h,z]]
 have one:¬(i'=I0/\j'=J0):=fun z=>by
  rcases x3 with⟨h,e⟩|⟨h,e⟩
  .rcases hi with y|y
   .have:=y.2 h;grind
   .omega
  .rcases hj with y|y
   .have:=y.2 h;grind
   .omega
 have old:∀{q:Nat->Prop},(∀n,n<rw.length->q n)->q rw.length->∀n,n<(rw++[(tm,i',j')]).length->q n:=fun {q} h1 h2 n hn=>by
  rw[ln] at hn
  by_cases c:n<rw.length
  .exact h1 n c
  .rw[show n=rw.length from ()];exact h2
 have old2:∀{q:Nat->Prop},(∀n,n+1<rw.length->q n)->q (rw.length-1)->∀n,n+1<(rw++[(tm,i',j')]).length->q n:=fun {q} h1 h2 n hn=>by
  rw[ln] at hn
  by_cases c:n+1<rw.length
  .exact h1 n c
  .rw[show n=rw.length-1 from ()];exact h2
 have pre:rw.length-1+1=rw.length:=()
 have lI:iF' (rw++[(tm,i',j')]) (rw.length-1)=I0:=by rw[(L _ hL).2.1];exact eI
 have lJ:jF (rw++[(tm,i',j')]) (rw.length-1)=J0:=by rw[(L _ hL).2.2.1];exact eJ
 have lA:aF (rw++[(tm,i',j')]) (rw.length-1)=A0:=by rw[(L _ hL).2.2.2];exact eA
 have nl:(rw++[(tm,i',j')]).length-1=rw.length:=by rw[ln];omega
 refine#[(),old (fun n hn=>?_) ?_,?_,?_,old (fun n hn=>?_) ?_,old (fun n hn=>?_) ?_,old (fun n hn=>?_) ?_,old (fun n hn=>?_) ?_,old2 (fun n hn=>?_) ?_,old2 (fun n hn=>?_) ?_,old2 (fun n hn=>?_) ?_,?_,?_,old2 (fun n hn=>?_) ?_,old2 (fun n hn=>?_) ?_,old2 (fun n hn=>?_) ?_,?_]
 .rw[(L n hn).1,(L n hn).2.2.2];exact s.w n hn
 .rw[rT,rA];exact w
 .rw[(L 0 n0).2.2.2];exact s.a0
 .rw[(L 0 n0).2.2.1];exact s.j0
 .rw[(L n hn).2.1];exact s.iP n hn
 .rw[rI];rcases hi with y|y<;>omega
 .rw[(L n hn).2.2.1];exact s.jO n hn
 .rw[rJ];rcases hj with y|y<;>omega
 .rw[(L n hn).2.1,(L n hn).2.2.2];exact s.bi n hn
 .rw[rI,rA]
  rcases hi with y|y
  .rw[y.1];grind
  .rw[y.1,y.2.2];exact qAg
 .rw[(L n hn).2.2.1,(L n hn).2.2.2];exact s.bj n hn
 .rw[rJ,rA]
  rcases hj with y|y
  .rw[y.1];grind
  .rw[y.1,y.2.2];exact qAg
 .rw[(L n ()).2.2.2,(L (n+1) hn).2.2.2];exact s.up n hn
 .rw[pre,lA,rA];exact lt
 .rw[(L n ()).2.1,(L (n+1) hn).2.2.2];exact s.ei n hn
 .rw[pre,lI,rA];exact x1
 .rw[(L n ()).2.2.1,(L (n+1) hn).2.2.2];exact s.ej n hn
 .rw[pre,lJ,rA];exact x2
 .rw[nl,rI,rA]
  intro h
  rcases hi with y|y
  .rw[y.1] at h ⊢;exact y.2 h
  .rw[y.1] at h ⊢;rw[y.2.2];exact uP _ h
 .rw[nl,rJ,rA]
  intro h
  rcases hj with y|y
  .rw[y.1] at h ⊢;exact y.2 h
  .rw[y.1] at h ⊢;rw[y.2.2];exact uO _ h
 .rw[(L n ()).2.1,(L (n+1) hn).2.1,(L (n+1) hn).2.2.2];exact s.si n hn
 .rw[pre,lI,rI,rA]
  rcases hi with y|y
  .exact .inl y.1
  .exact .inr #[y.1,y.2.2]
 .rw[(L n ()).2.2.1,(L (n+1) hn).2.2.1,(L (n+1) hn).2.2.2];exact s.sj n hn
 .rw[pre,lJ,rJ,rA]
  rcases hj with y|y
  .exact .inl y.1
  .exact .inr #[y.1,y.2.2]
 .rw[(L n ()).2.1,(L (n+1) hn).2.1,(L n ()).2.2.1,(L (n+1) hn).2.2.1];exact s.mv n hn
 .rw[pre,lI,lJ,rI,rJ]
  exact fun z y=>one #[z,y]
 .rw[nl,rI,rJ,ln]
  rcases hi with y|y<;>rcases hj with z|z<;>omega
theorem J4 {α:Type}{f:α->D}{xs:List α}{j:Nat}{a b:Int}(e1:a=(j:Int)+1) (e2:b=(j:Int)+2):Hh (xs.map f) (some a) (some b)=((xs.drop (j+1)).take 1).map f:=by
 have e1:a=((j+1:Nat):Int):=()
 have e2:b=((j+2:Nat):Int):=()
 subst e1 e2
 unfold Hh
 rw[HT.sIx_nat,HT.sIx_nat,qAa]
 by_cases c:j+1<xs.length
 .rw[qBQ (),qBQ (),<-qCl,<-List.map_take,show j+2-(j+1)=1 from ()]
 .rw[Nat.min_eq_right (),Nat.min_eq_right (),qCG,List.take_zero,qCz (show xs.length<=j+1 from ())]
  rfl
theorem Jy {ps:List RP}{j:Nat}(h:j<ps.length):(ps.drop j).take 1=[ps.getD j dfR]:=by
 have g:ps[j]? = some (ps.getD j dfR):=by
  rw[qAf,qAb h]
  rfl
 rw[show(1:Nat)=0+1 from rfl,qBp,qBv,Nat.add_zero,g]
 rfl
theorem L7 {ps:List RP}{j:Nat}(h:¬j<ps.length):(ps.drop j).take 1=[]:=by
 rw[qCz ()]
 rfl
theorem Yl {k m:Nat}{ps os:List RP}{P O:Ps}(lp:PL k m ps P) (lo:PL k m os O){i j:Nat}(hc:i+1<P.length\/j+1<O.length) :
 ∃(p q:RP)(s t x:Rat)(tm:Int×Int),0<((ps.drop (i+1)).take 1++(os.drop (j+1)).take 1).length/\((ps.drop (i+1)).take 1++(os.drop (j+1)).take 1).getD 0 dfR=p/\((ps.drop (i+1)).take 1++(os.drop (j+1)).take 1).getD (((ps.drop (i+1)).take 1++(os.drop (j+1)).take 1).length-1) dfR=q/\Wq m p.1.1 p.1.2 s/\Wq m q.1.1 q.1.2 t/\(if t<s then tp q.1.1 q.1.2 else tp p.1.1 p.1.2)=tp tm.1 tm.2/\Wq m tm.1 tm.2 x /\
  (i+1<P.length->x<=bg P (i+1))/\(j+1<O.length->x<=bg O (j+1))/\((i+1<P.length/\x=bg P (i+1))\/(j+1<O.length/\x=bg O (j+1))):=by
 have l1:=lp.len
 have l2:=lo.len
 have g:∀{zs:List RP}{n:Nat},n<zs.length->zs[n]? = some (zs.getD n dfR):=fun {zs n} h=>by
  rw[qAf,qAb h]
  rfl
 by_cases c1:i+1<P.length
 .have w1:=(lp.lnw (g (show i+1<ps.length from ()))).2.1
  rw[Jy (show i+1<ps.length from ())]
  by_cases c2:j+1<O.length
  .have w2:=(lo.lnw (g (show j+1<os.length from ()))).2.1
   rw[Jy (show j+1<os.length from ())]
   refine#[_,_,_,_,if bg O (j+1)<bg P (i+1) then bg O (j+1) else bg P (i+1),if bg O (j+1)<bg P (i+1) then (os.getD (j+1) dfR).1 else (ps.getD (i+1) dfR).1,by simp,rfl,rfl,w1,w2,?_,?_,fun _=>?_,fun _=>?_,?_]
   .by_cases z:bg O (j+1)<bg P (i+1)
    .rw[if_pos z,if_pos z];rfl
    .rw[if_neg z,if_neg z];rfl
   .by_cases z:bg O (j+1)<bg P (i+1)
    .rw[if_pos z,if_pos z];exact w2
    .rw[if_neg z,if_neg z];exact w1
   .split<;>grind
   .split<;>grind
   .by_cases z:bg O (j+1)<bg P (i+1)
    .rw[if_pos z];exact .inr #[c2,rfl]
    .rw[if_neg z];exact .inl #[c1,rfl]
  .rw[L7 (show ¬j+1<os.length from ())]
   exact#[_,_,_,_,_,(ps.getD (i+1) dfR).1,by simp,rfl,rfl,w1,w1,by rw[if_neg qA0];rfl,w1,fun _=>qAg,fun z=>absurd z c2,.inl #[c1,rfl]]
 .have c2:j+1<O.length:=hc.resolve_left c1
  have w2:=(lo.lnw (g (show j+1<os.length from ()))).2.1
  rw[L7 (show ¬i+1<ps.length from ()),Jy (show j+1<os.length from ())]
  exact#[_,_,_,_,_,(os.getD (j+1) dfR).1,by simp,rfl,rfl,w2,w2,by rw[if_neg qA0];rfl,w2,fun z=>absurd z c1,fun _=>qAg,.inr #[c2,rfl]]
theorem Rj {P:Ps}(u:∀i,i+1<P.length->bg P i<bg P (i+1)) (x:Rat):∃c,c<=P.length/\(∀i,i<c->bg P i<x)/\∀i,c<=i->i<P.length->x<=bg P i:=by
 have key:∀n,n<=P.length->∃c,c<=n/\(∀i,i<c->bg P i<x)/\∀i,c<=i->i<n->x<=bg P i:=fun n=>by
  induction n with
  |zero=>intro _;exact#[0,qAe _,fun i hi=>absurd hi (qBG i),fun i _ hi=>absurd hi (qBG i)]
  |succ n ih =>
   intro hn
   obtain⟨c,c1,c2,c3⟩:=ih ()
   by_cases e:c<n
   .refine#[c,(),c2,fun i h1 h2=>?_]
    by_cases z:i<n
    .exact c3 i h1 z
    .have:=c3 (n-1) () ()
     have u':=u (n-1) ()
     rw[show n-1+1=n from ()] at u'
     rw[show i=n from ()];grind
   .have ec:c=n:=()
    subst ec
    by_cases z:bg P c<x
    .exact#[c+1,qAe _,fun i hi=>by
      by_cases y:i<c
      .exact c2 i y
      .rw[show i=c from ()];exact z,fun i h1 h2=>()]
    .exact#[c,(),c2,fun i h1 h2=>by rw[show i=c from ()];grind]
 exact key P.length (qAe _)
theorem OE {P:Ps}(u:∀i,i+1<P.length->bg P i<bg P (i+1)) (x:Rat):∃c,c<=P.length/\(∀i,i<c->bg P i<=x)/\∀i,c<=i->i<P.length->x<bg P i:=by
 obtain⟨c,c1,c2,c3⟩:=Rj u x
 by_cases z:c<P.length/\bg P c<=x
 .refine#[c+1,z.1,fun i hi=>?_,fun i h1 h2=>?_]
  .by_cases y:i<c
   .exact qAy (c2 i y)
   .rw[show i=c from ()];exact z.2
  .have m:∀d,c+1+d<P.length->bg P c<bg P (c+1+d):=fun d=>by
    induction d with
    |zero=>intro h;exact u c h
    |succ d ih=>intro h;have:=ih ();have:=u (c+1+d) h;rw[show c+1+(d+1)=c+1+d+1 from ()];grind
   have:=m (i-(c+1)) ()
   rw[show c+1+(i-(c+1))=i from ()] at this
   have:=c3 c (qAe _) z.1
   grind
 .refine#[c,c1,fun i hi=>qAy (c2 i hi),fun i h1 h2=>?_]
  by_cases e:i=c
  .subst e
   have:=c3 i h1 h2
   have:¬bg P i<=x:=fun y=>z #[h2,y]
   grind
  .have m:∀d,c+1+d<P.length->bg P c<bg P (c+1+d):=fun d=>by
    induction d with
    |zero=>intro h;exact u c h
    |succ d ih=>intro h;have:=ih ();have:=u (c+1+d) h;rw[show c+1+(d+1)=c+1+d+1 from ()];grind
   have:=m (i-(c+1)) ()
   rw[show c+1+(i-(c+1))=i from ()] at this
   have:=c3 c (qAe _) ()
   grind
theorem Sz.ngt {k:Nat}{q:Rat}(h:Sz k q):Sz k (-q):=h.neg
def Gz (b Z:Nat)(l:Ln2):Prop:=Sz b l.1/\Sz Z l.2
theorem WY {b Z X:Nat}(hX:Z+Z+1+(b+b+1)<=X):∀l l',Gz b Z l->Gz b Z l'->l.1≠l'.1->Sz X (xg l l'):=fun l l' h1 h2 ne=>by
 unfold xg
 exact((h2.2.sub h1.2).div (h1.1.sub h2.1) ⋯).mono hX
def slS (fc:Cs)(fm:Rat)(gc:Cs)(gm:Rat):List Rat:=0::((List.range fc.length).map fun i=>-slp fc fm i)++((List.range gc.length).map fun i=>-slp gc gm i)
theorem WJ {fc gc:Cs}{fm gm:Rat}{i:Nat}(h:i<fc.length):-slp fc fm i∈slS fc fm gc gm:=by
 unfold slS
 exact qAo.mpr (.inl (qAk.mpr (.inr (qAH.mpr #[i,qAI.mpr h,rfl]))))
theorem VY {fc gc:Cs}{fm gm:Rat}{i:Nat}(h:i<gc.length):-slp gc gm i∈slS fc fm gc gm:=by
 unfold slS
 exact qAo.mpr (.inr (qAH.mpr #[i,qAI.mpr h,rfl]))
theorem UI {fc gc:Cs}{fm gm:Rat}:(0:Rat)∈slS fc fm gc gm:=by
 unfold slS
 exact qAo.mpr (.inl (qAk.mpr (.inl rfl)))
structure Tz (S0:List Rat)(b Z X K m:Nat)(os:List RP)(O:Ps)(c:Rat->Rat):Prop where
 pl:PL K m os O
 pu:PU O c none
 ne:0<O.length
 b0:bg O 0=0
 sl:∀x,x<O.length->(ln O x).1∈S0
 gd:∀x,x<O.length->Gz b Z (ln O x)/\Sz X (bg O x)
theorem Ra {S0:List Rat}{b Z X K m:Nat}{ps:List RP}{P:Ps}{c:Nat}{h:Rat->Rat}(pl:PL K m ps P) (pu:PU P h none) (hm:1<=m) (hX:1<=X) (c0:0<c) (cl:c<=P.length) (h1:∀i,i<c->bg P i<=0) (h2:∀i,c<=i->i<P.length->0<bg P i)
 (sl:∀x,x<P.length->(ln P x).1∈S0) (gd:∀x,x<P.length->Gz b Z (ln P x)/\Sz X (bg P x)):Tz S0 b Z X K m (frR ps c) (frN P c) h:=by
 refine#[US pl c0 cl hm,pu.fromN c0 cl h1 (fun z=>h2 c (qAe _) z),by rw[Ef];omega,rfl,fun x hx=>?_,fun x hx=>?_]
 .rw[Ef] at hx
  cases x with
  |zero=>exact sl (c-1) ()
  |succ x=>rw[E8.2];exact sl _ ()
 .rw[Ef] at hx
  cases x with
  |zero=>exact#[(gd (c-1) ()).1,Sz.zero.mono hX]
  |succ x=>rw[E8.1,E8.2];exact gd _ ()
theorem PL.mono {k m k' m':Nat}{ps:List RP}{P:Ps}(h:PL k m ps P) (h1:k<=k') (h2:m<=m'):PL k' m' ps P :=
 #[h.len,fun i p q a b=>#[(h.at_ i p q a b).t.mono h2,#[(h.at_ i p q a b).l.s.mono h1,(h.at_ i p q a b).l.c.mono h1]]]
section
variable {fc gc:Cs}{fm gm:Rat}{a b c:Nat}
def pA (fc:Cs)(fm:Rat)(gc:Cs)(k:Nat):Ps:=((Eb fc fm).map flP).map (mvP (0-tt gc k) (vv gc k))
theorem OO {k:Nat}:(pA fc fm gc k).length=fc.length:=by unfold pA;rw[qAa,qAa,AS]
theorem Qy {k i:Nat}(h:i<fc.length):bg (pA fc fm gc k) i=tt fc i+(0-tt gc k)/\ln (pA fc fm gc k) i=(-slp fc fm i,-(vv fc i-slp fc fm i*tt fc i) - -slp fc fm i*(0-tt gc k)+vv gc k):=by
 unfold pA
 rw[(BJ (show i<((Eb fc fm).map flP).length by rw[qAa,AS];exact h)).1,(BJ (show i<((Eb fc fm).map flP).length by rw[qAa,AS];exact h)).2,(BJ (show i<(Eb fc fm).length by rw[AS];exact h)).1,(BJ (show i<(Eb fc fm).length by rw[AS];exact h)).2,(B0 h).1,(B0 h).2]
 exact#[rfl,rfl]
theorem Wg (of:Ord fc){k:Nat}:PU (pA fc fm gc k) (cA fc fm gc k) none:=((Ov of).flip).move _ _
theorem Wi (of:Ord fc)(og:Ord gc)(zf:LS a b c fc fm)(zg:LS a b c gc gm){k:Nat}(hk:k<gc.length){Z X:Nat}(hZ:2*(a+b+c)+5<=Z) (hX:3*a+4<=X):(∀x,x<(pA fc fm gc k).length->(ln (pA fc fm gc k) x).1∈slS fc fm gc gm)/\∀x,x<(pA fc fm gc k).length->Gz b Z (ln (pA fc fm gc k) x)/\Sz X (bg (pA fc fm gc k) x):=by
 refine#[fun x hx=>?_,fun x hx=>?_]
 .rw[OO] at hx
  rw[(Qy hx).2];exact WJ hx
 .rw[OO] at hx
  rw[(Qy hx).1,(Qy hx).2]
  have l:=zf.ln of x hx
  have tg:=zg.tm k hk
  have vg:Sz (b+a+c+1) (vv gc k):=by
   have:=zg.va (CD og hk) tg
   rw[E3 og hk] at this
   exact this
  refine#[#[l.1.ngt,?_],?_]
  .exact(((l.2.ngt).sub ((l.1.ngt).mul (Sz.zero.sub tg))).add vg).mono ()
  .exact((zf.tm x hx).add (Sz.zero.sub tg)).mono ()
def pB (fc:Cs)(gc:Cs)(gm far:Rat)(k:Nat):Ps:=(GF (Eb gc gm) far).map (mvP (tt fc k) (0-vv fc k))
theorem Ot {k:Nat}{far:Rat}:(pB fc gc gm far k).length=gc.length+1:=by unfold pB;rw[qAa,Fi,AS]
theorem WE (og:Ord gc){k:Nat}{far:Rat}(hf:tt gc (gc.length-1)<far):PU (pB fc gc gm far k) (cB fc gc gm k) none:=by
 have n0:=og.ne
 refine((Ov og).turn (by rw[AS];exact n0) (by rw[(B0 n0).1];exact og.t0) (by rw[AS,(B0 (show gc.length-1<gc.length from ())).1];exact hf)).move _ _
theorem XB (og:Ord gc){k:Nat}{far:Rat}:bg (pB fc gc gm far k) 0=-far+tt fc k:=by
 unfold pB
 rw[(BJ (show 0<(GF (Eb gc gm) far).length by rw[Fi];omega)).1]
 show bg (GF (Eb gc gm) far) 0+tt fc k=_
 rw[(FW (show 0<(Eb gc gm).length by rw[AS];exact og.ne)).1,if_neg ∅]
theorem V3 (of:Ord fc)(og:Ord gc)(zf:LS a b c fc fm)(zg:LS a b c gc gm){k:Nat}(hk:k<fc.length){far:Rat}(zr:Sz (2*a+1) far){Z X:Nat}(hb:1<=b) (hZ:2*(a+b+c)+5<=Z) (hX:3*a+4<=X):(∀x,x<(pB fc gc gm far k).length->(ln (pB fc gc gm far k) x).1∈slS fc fm gc gm)/\∀x,x<(pB fc gc gm far k).length->Gz b Z (ln (pB fc gc gm far k) x)/\Sz X (bg (pB fc gc gm far k) x):=by
 have n0:=og.ne
 have tf:=zf.tm k hk
 have vf:Sz (b+a+c+1) (vv fc k):=by
  have:=zf.va (CD of hk) tf
  rw[E3 of hk] at this
  exact this
 have key:∀x,x<gc.length+1->((ln (GF (Eb gc gm) far) x).1∈slS fc fm gc gm/\Sz b (ln (GF (Eb gc gm) far) x).1/\Sz c (ln (GF (Eb gc gm) far) x).2/\Sz (2*a+2) (bg (GF (Eb gc gm) far) x)):=fun x hx=>by
  by_cases z:x<gc.length
  .have ta:=FW (P:=Eb gc gm) (far:=far) (i:=x) (by rw[AS];exact z)
   rw[AS] at ta
   have hi:gc.length-1-x<gc.length:=()
   rw[ta.1,ta.2,(B0 hi).2]
   have l:=zg.ln og _ hi
   refine#[VY hi,l.1.ngt,l.2,?_]
   by_cases y:0<x
   .rw[if_pos y,(B0 (show gc.length-x<gc.length from ())).1]
    exact(zg.tm _ ()).ngt.mono ()
   .rw[if_neg y];exact zr.ngt.mono ()
  .have te:=Gu (P:=Eb gc gm) (far:=far)
   rw[AS] at te
   rw[show x=gc.length from (),te.1,te.2,(B0 n0).2]
   exact#[UI,Sz.zero.mono hb,(zg.ln og 0 n0).2,Sz.zero.mono ()]
 have at_:∀x,x<gc.length+1->bg (pB fc gc gm far k) x=bg (GF (Eb gc gm) far) x+tt fc k/\ln (pB fc gc gm far k) x=((ln (GF (Eb gc gm) far) x).1,(ln (GF (Eb gc gm) far) x).2-(ln (GF (Eb gc gm) far) x).1*tt fc k+(0-vv fc k)):=fun x hx=>by
  unfold pB
  have hx':x<(GF (Eb gc gm) far).length:=by rw[Fi,AS];exact hx
  rw[(BJ hx').1,(BJ hx').2]
  exact#[rfl,rfl]
 refine#[fun x hx=>?_,fun x hx=>?_]
 .rw[Ot] at hx
  rw[(at_ x hx).2];exact(key x hx).1
 .rw[Ot] at hx
  obtain⟨k1,k2,k3,k4⟩:=key x hx
  rw[(at_ x hx).1,(at_ x hx).2]
  exact#[#[k2,((k3.sub (k2.mul tf)).add (Sz.zero.sub vf)).mono ()],(k4.add tf).mono ()]
theorem Sx (rf:Fe fc fm)(rg:Fe gc gm)(hm:fm<=gm){B S0:List Rat}{b Z X K m:Nat}{h:Rat->Rat}{qs:List RP}{Q:Ps}(r:EY B S0 (Gz b Z) (Sz X) K m h none qs Q) (ne:0<Q.length) (b0:bg Q 0=0) (mi:PY (VV fc fm gc gm) h) :
 Ord (G2 (Q.map flP))/\0<=(ln (Q.map flP) ((Q.map flP).length-1)).1/\(ln (Q.map flP) ((Q.map flP).length-1)).1=fm/\(∀t,0<=t->IsU fc fm gc gm t (val (G2 (Q.map flP)) (ln (Q.map flP) ((Q.map flP).length-1)).1 t))/\LS X b Z (G2 (Q.map flP)) (ln (Q.map flP) ((Q.map flP).length-1)).1:=by
 have iu:∀t,0<=t->IsU fc fm gc gm t (-h t):=fun t t0=>Ub rf rg hm mi t0
 have pu:=r.pu.flip
 have fl:(Q.map flP).length=Q.length:=qAa _
 have ne':0<(Q.map flP).length:=by rw[fl];exact ne
 have fa:∀i,i<Q.length->bg (Q.map flP) i=bg Q i/\ln (Q.map flP) i=(-(ln Q i).1,-(ln Q i).2):=fun i hi=>by
  rw[(BJ hi).1,(BJ hi).2]
  exact#[rfl,rfl]
 obtain⟨o,m0,v⟩:=Tj pu ne' (by rw[(fa 0 ne).1];exact b0) (fun x y x0 xy=>Qu rf x0 xy (iu x x0) (iu y ⋯)) ((iu 0 qAg).1)
 have iv:∀t,0<=t->IsU fc fm gc gm t (val (G2 (Q.map flP)) (ln (Q.map flP) ((Q.map flP).length-1)).1 t):=fun t t0=>by rw[v t t0];exact iu t t0
 refine#[o,m0,Qm rf rg hm o iv,iv,Ln.ls (fun i hi=>?_) o (fun i hi=>?_)]
 .rw[Bo] at hi
  have hi':i<Q.length:=by rw[fl] at hi;exact hi
  rw[Jz pu hi,(Bz hi).1,(Bz hi).2,(fa i hi').2,(fa i hi').1]
  have g:=(r.gd i hi').1
  refine#[g.1.ngt,?_]
  have e:ev (-(ln Q i).1,-(ln Q i).2) (bg Q i) - -(ln Q i).1*bg Q i=-(ln Q i).2:=by unfold ev;grind
  rw[e]
  exact g.2.ngt
 .rw[Bo,fl] at hi
  rw[(Bz (by rw[fl];exact hi)).1,(fa i hi).1]
  exact(r.gd i hi).2
theorem Po {S0:List Rat}{b Z X K m:Nat}(hs:(0:Rat)∈S0) (hb:1<=b) (hZ:1<=Z) (hX:1<=X) (hK:1<=K) (hm:1<=m):EY [] S0 (Gz b Z) (Sz X) K m (fun _=>0) none [((0,1),(0,0,1))] [(0,(0,0))]:=by
 have z1:∀i,i < [((0:Rat),((0:Rat),(0:Rat)))].length->i=0:=fun i hi=>by have:i<1:=hi;omega
 have w0:Wq 1 0 1 0:=Wq.of Sz.zero
 refine#[#[rfl,fun i p q h1 h2=>?_],#[fun i hi=>by have:i+1<1:=hi;omega,fun i hi=>trivial,fun i hi t _ _ _=>?_],#[fun i hi=>by have:i+1<1:=hi;omega,fun i hi=>?_,fun i hi=>by have:i+1<1:=hi;omega],fun i hi=>?_]
 .have hi:=z1 i (by have:=(qAd.mp h2).1;exact this)
  subst hi
  cases h1
  cases h2
  exact#[w0.mono hm,#[w0.mono hK,w0.mono hK]]
 .rw[z1 i hi]
  show(0:Rat)=0*t+0
  grind
 .rw[z1 i hi];exact hs
 .rw[z1 i hi]
  exact#[#[Sz.zero.mono hb,Sz.zero.mono hZ],Sz.zero.mono hX]
end
end CH
namespace L3
open PySem PySem.Spec PyProof.Rows L2
section
variable {P:Program}{w:World}{A:Around}{E:Value->Shared->Prop}{s:Shared}
variable {n l1 l2 l3:Nat}{us1 us2 us3:Array Value}{st1 st2 st3:Nat->Heap->Prop}
end
section
variable {P:Program}{w:World}{A:Around}{E:Value->Shared->Prop}{s:Shared}
variable {n l1 l2 l3:Nat}{us1 us2 us3:Array Value}{st1 st2 st3:Nat->Heap->Prop}
end
section
variable {P:Program}{w:World}{A:Around}{E:Value->Shared->Prop}{s:Shared}
end
section
variable {X:Cx}{pos:Pos}
end
end L3
namespace CH
open PySem L2 L3
section
variable {cs:Cs}{m σ:Rat}
end
section
variable {fc gc:Cs}{fm gm last:Rat}{W:List (Nat×Nat)}
end
section
variable {fc gc:Cs}{fm gm last:Rat}{W:List (Nat×Nat)}{i j:Nat}
end
section
variable {fc gc:Cs}{fm gm:Rat}{a b c:Nat}
theorem UX {cs:Cs}{m t:Rat}(r:Fe cs m) (t0:0<=t):0<=val cs m t:=by
 have:=CQ r qAg t0
 rw[Gg r.o] at this
 exact qAL r.o.v0 this
end
section
variable {fc gc:Cs}{fm gm last:Rat}{W:List (Nat×Nat)}{L:List D}{i j:Nat}
end
section
variable {fc gc:Cs}{fm gm last:Rat}{W:List (Nat×Nat)}
end
def Df (cs:Cs):Prop:=∀k,k+1<cs.length->∃e f,Sz e (tt cs (k+1)-tt cs k)/\Sz f (vv cs (k+1)-vv cs k)/\e+f<=13000
theorem Df.of {n:Nat}{cs:Cs}(h:SzC n cs) (hn:n<=3200):Df cs:=fun k hk =>
 #[_,_,(h _ hk).1.sub (h k ()).1,(h _ hk).2.sub (h k ()).2,()]
structure SzD (cs:Cs)(m:Rat):Prop where
 len:cs.length<=100000
 df:Df cs
 cs:SzC 6400 cs
 m:Sz 6400 m
theorem SzK.d {n:Nat}{cs:Cs}{m:Rat}(h:SzK n cs m) (hn:n<=3200):SzD cs m:=#[h.len,Df.of h.cs hn,h.cs.mono (),h.m.mono ()]
theorem LS.df {a b c:Nat}{cs:Cs}{m:Rat}(z:LS a b c cs m) (o:Ord cs) (h:4*a+b+2<=13000):Df cs:=fun k hk=>by
 have t:=(z.tm _ hk).sub (z.tm k ())
 have s:=(z.ln o k ()).1
 have n:=FP (o.up k hk)
 refine#[_,b+(a+a+1),t,?_,()]
 have:=s.mul t
 rw[BN hk,qA3 n] at this
 exact this
theorem LS.szd {a b c:Nat}{cs:Cs}{m:Rat}(z:LS a b c cs m) (o:Ord cs) (hl:cs.length<=100000) (h:a+b+c+1<=6400) (h4:4*a+b+2<=13000):SzD cs m :=
 have k:=z.szk o hl h
 #[hl,z.df o h4,k.cs,k.m]
def SL (S0:List Rat)(cs:Cs)(m:Rat):Prop:=∀t,0<=t->sat cs m t∈S0
section
variable {S0:List Rat}{cs ds fc gc:Cs}{m k fm gm last:Rat}
theorem SL.of (o:Ord cs)(h:∀i,i<cs.length->slp cs m i∈S0):SL S0 cs m:=fun _ t0=>h _ (GP o t0).lt
theorem SL.at (h:SL S0 cs m)(o:Ord cs){i:Nat}(hi:i<cs.length):slp cs m i∈S0:=by
 have:=h _ (CD o hi)
 unfold sat at this
 rw[Hy o.up (k:=i) qAg (fun h=>o.up i h) _ hi (qAe _)] at this
 exact this
theorem SL.kept (h:SL S0 cs m)(o:Ord cs):SL S0 (kp cs m (cs.length-1)) m:=fun t t0=>by rw[(Jf o t).2];exact h t t0
def slL (cs:Cs)(m:Rat):List Rat:=(List.range cs.length).map fun i=>slp cs m i
theorem UO (o:Ord cs):SL (slL cs m) cs m:=SL.of o fun i hi=>qAH.mpr #[i,qAI.mpr hi,rfl]
theorem Sd:(slL cs m).length=cs.length:=by unfold slL;rw[qAa,qAr]
theorem SL.mono {S1:List Rat}(h:SL S0 cs m) (e:∀x∈S0,x∈S1):SL S1 cs m:=fun t t0=>e _ (h t t0)
end
section
variable {S0:List Rat}{fc gc hc jc oc:Cs}{fm gm hm jm om:Rat}
theorem RQ (of:Ord fc)(og:Ord gc)(h1:SL S0 fc fm)(h2:SL S0 gc gm)(h0:(0:Rat)∈S0):∀x∈slS fc fm gc gm,x∈S0.map (fun y=>-y):=fun x hx=>by
 unfold slS at hx
 rcases qAo.mp hx with hx|hx
 .rcases qAk.mp hx with rfl|hx
  .exact qAH.mpr #[0,h0,⋯]
  .obtain⟨i,hi,rfl⟩:=qAH.mp hx
   exact qAH.mpr #[_,h1.at of (qAI.mp hi),rfl]
 .obtain⟨i,hi,rfl⟩:=qAH.mp hx
  exact qAH.mpr #[_,h2.at og (qAI.mp hi),rfl]
theorem UD {B:List Rat}{b Z X K m:Nat}{h:Rat->Rat}{qs:List RP}{Q:Ps}(r:EY B (S0.map (fun y=>-y)) (Gz b Z) (Sz X) K m h none qs Q) (o:Ord (G2 (Q.map flP))):SL S0 (G2 (Q.map flP)) (ln (Q.map flP) ((Q.map flP).length-1)).1:=SL.of o fun i hi=>by
 rw[Bo] at hi
 have hi':i<Q.length:=by rw[qAa] at hi;exact hi
 rw[Jz r.pu.flip hi,(BJ hi').2]
 show -(ln Q i).1∈S0
 obtain⟨y,hy,e⟩:=qAH.mp (r.cn.sl i hi')
 rw[<-e,show - -y=y from ⋯]
 exact hy
end
def lw (cs:Cs)(e:Rat):Cs:=cs.map fun c=>(c.1,c.2-e)
section
variable {cs:Cs}{m e:Rat}
theorem Gd:(lw cs e).length=cs.length:=qAa _
theorem Go {i:Nat}(h:i<cs.length):tt (lw cs e) i=tt cs i/\vv (lw cs e) i=vv cs i-e:=by
 have q:(lw cs e)[i]? = some (tt cs i,vv cs i-e):=by
  unfold lw
  rw[qAc,qAb h,(Jd h).1,(Jd h).2]
  rfl
 unfold tt vv at q ⊢
 rw[qAf (l:=lw cs e),q]
 exact#[rfl,rfl]
theorem VD (i:Nat):slp (lw cs e) m i=slp cs m i:=by
 by_cases h:i+1<cs.length
 .rw[BN h,BN (by rw[Gd];exact h),(Go h).1,(Go h).2,(Go (show i<cs.length from ())).1,(Go (show i<cs.length from ())).2]
  grind
 .rw[AW h,AW (by rw[Gd];exact h)]
theorem Q8 (t:Rat):∀n,n<=cs.length->plc (lw cs e) t n=plc cs t n
 |0,_=>rfl
 |n+1,h=>by
  unfold plc
  rw[(Go (show n<cs.length from ())).1,Q8 t n ()]
theorem Ol (o:Ord cs)(t:Rat):val (lw cs e) m t=val cs m t-e/\sat (lw cs e) m t=sat cs m t:=by
 have p:=Ic (t:=t) o.ne _ (qAe cs.length)
 unfold val sat
 rw[Gd,Q8 t _ (qAe _),VD,(Go p).1,(Go p).2]
 exact#[⋯,rfl]
theorem Ut (o:Ord cs)(h:e<=vv cs 0):Ord (lw cs e):=by
 have n:=o.ne
 refine#[by rw[Gd];exact n,by rw[(Go n).1];exact o.t0,by rw[(Go n).2];grind,fun k hk=>?_,fun k hk=>?_]
 all_goals rw[Gd] at hk
 .rw[(Go hk).1,(Go (show k<cs.length from ())).1];exact o.up k hk
 .rw[(Go hk).2,(Go (show k<cs.length from ())).2];have:=o.vu k hk;grind
theorem WL {a b c n:Nat}(z:LS a b c cs m) (o:Ord cs) (h:Sz n e):LS a b (c+n+1) (lw cs e) m:=by
 refine#[fun i hi=>?_,fun t t0=>?_,fun t t0=>?_]
 .rw[Gd] at hi;rw[(Go hi).1];exact z.tm i hi
 .rw[(Ol o t).2];exact z.sl t t0
 .rw[(Ol o t).1,(Ol o t).2,show val cs m t-e-sat cs m t*t=(val cs m t-sat cs m t*t)-e from ⋯]
  exact(z.ic t t0).sub h
end
end CH
namespace L3
open PySem L2
section
variable {X:Cx}
theorem Oq {vs:List Value}{ns:List Int}(h:PyProof.Rows.IntsAre vs ns):∃xs:List (Int×Tok),vs=xs.map (fun p=>.int p.1 p.2)/\xs.map (·.1)=ns:=by
 induction h with
 |nil=>exact#[[],rfl,rfl]
 |cons n t _ ih =>
  obtain⟨xs,e1,e2⟩:=ih
  exact#[(n,t)::xs,by rw[e1];rfl,by rw[<-e2];rfl]
def WH (X:Cx):List V->Hp->VK->Prop:=fun xs H Q=>∃(p:Addr)(ns:List Int),xs=[.ref p]/\SqL X.K H p (ns.map V.int)/\0<ns.length/\∀m:Int,m∈ns->(∀x∈ns,x<=m)->Q (.int m) H
theorem OT (hc:X.calm=true):HK X (.builtin "max") (WH X):=by
 intro pins s σ H xs us Q I r h
 obtain⟨p,ns,rfl,hq,h0,q⟩:=h
 obtain⟨u,rfl,rx⟩:=K7 r
 cases rx
 obtain⟨its,r',pl,hz⟩:=I.list hq
 obtain⟨ys,e1,e2⟩:=Oq (Kc r')
 subst e1 e2
 rw[qAa] at h0
 have en:∀i (hi:i<ys.length),numAt ys.toArray i=(ys.map (·.1))[i]'(by rw[qAa];exact hi):=fun i hi=>by
  unfold numAt
  rw[qBy,qAb hi,List.getElem_map]
  rfl
 refine max_intList (xs:=ys.toArray) (I.ok.hd hc) (by rw[show intItems ys.toArray=(ys.map (fun p=>Value.int p.1 p.2)).toArray by unfold intItems;rw[List.map_toArray]];exact pl.isList) (by rw[qAv];exact h0) fun v h' tk hv k=>?_
 obtain⟨t,rfl⟩:=intItems_at hv
 obtain⟨b1,b2⟩:=argBest_gt (numAt ys.toArray) (ys.toArray.size-1)
 rw[qAv] at b1 b2 ⊢
 generalize argBest (fun i j=>decide (numAt ys.toArray i>numAt ys.toArray j)) (ys.length-1)=j at b1 b2
 have jl:j<ys.length:=()
 refine#[.int (numAt ys.toArray j),H,I.kept k,#[t,rfl],q _ ?_ fun x hx=>?_]
 .rw[en j jl];exact qBM _
 .obtain⟨i,hi,rfl⟩:=qCa.mp hx
  have il:i<ys.length:=by rw[qAa] at hi;exact hi
  have:=b2 i ()
  rw[en i il] at this
  exact this
def V4 (te:TE3):TE3:=fun τ R=>te τ fun s=>match W3 s with
 |some xs=>∃ns:List Int,xs=ns.map D.int/\0<ns.length/\∀m:Int,m∈ns->(∀x∈ns,x<=m)->R (.d (.int m))
 |none=>False
theorem UK {e:Expr}{te:TE3}{p pos:Pos}(hc:X.calm=true) (he:PE3 X e te) (hg:Gl X "max") (hm:X.mg "max"=none) (hs:starEach [e] X.env=(false,eval e X.env)::starEach [] X.env:=by exact Dw rfl):PE3 X (.Call (.Name "max" p) [e] [] pos) (V4 te) :=
 #[Bs (VO (Hu (OT hc) hg hm L3.boot_max (AX he.out Bt hs) (he:=hs))) fun σ H Q hh=>by
  obtain⟨B,z,τ,R,r,ht,q⟩:=hh
  exact#[B,z,τ,_,r,ht,fun s v q1 e1 i1 f1 h1=>by
   split at h1
   .rename_i xs hx
    obtain⟨ns,rfl,h0,h1⟩:=h1
    obtain⟨a,vs,rfl,g2,g1⟩:=NT i1 e1.sub hx
    have ev:=JY g2
    subst ev
    exact#[a,ns,rfl,g1,h0,fun m m1 m2 hk=>q (.d (.int m)) _ q1 e1 (.int m) Gi (h1 m m1 m2)]
   .exact h1.elim]]
end
end L3
namespace CH
open PySem L2 L3
theorem Vz {fc gc fc' gc':Cs}{fm gm fm' gm' t v:Rat}(h:IsU fc fm gc gm t v) (t0:0<=t) (e1:∀x,0<=x->val fc fm x=val fc' fm' x) (e2:∀x,0<=x->val gc gm x=val gc' gm' x):IsU fc' fm' gc' gm' t v:=by
 obtain⟨a,b,c⟩:=h
 refine#[a,?_,fun u u0=>?_]
 .rcases b with b|⟨u,u0,b⟩
  .exact .inl b
  .exact .inr #[u,u0,by rw[<-e1 _ ⋯,<-e2 _ u0];exact b]
 .rw[<-e1 _ ⋯,<-e2 _ u0];exact c u u0
def mis (cs:Cs)(v K:Rat):Cs:=cs.map fun c=>(c.1,v+K*c.1-c.2)
section
variable {cs:Cs}{m v K:Rat}
theorem IC:(mis cs v K).length=cs.length:=qAa _
theorem DB {i:Nat}(h:i<cs.length):tt (mis cs v K) i=tt cs i/\vv (mis cs v K) i=v+K*tt cs i-vv cs i:=by
 have q:(mis cs v K)[i]? = some (tt cs i,v+K*tt cs i-vv cs i):=by
  unfold mis
  rw[qAc,qAb h,(Jd h).1,(Jd h).2]
  rfl
 unfold tt vv at q ⊢
 rw[qAf (l:=mis cs v K),q]
 exact#[rfl,rfl]
theorem TM (up:Up cs)(i:Nat):slp (mis cs v K) (K-m) i=K-slp cs m i:=by
 by_cases h:i+1<cs.length
 .have u:=up i h
  rw[BN h,BN (by rw[IC];exact h),(DB h).1,(DB h).2,(DB (show i<cs.length from ())).1,(DB (show i<cs.length from ())).2]
  have:tt cs (i+1)-tt cs i≠0:=⋯
  grind
 .rw[AW h,AW (by rw[IC];exact h)]
theorem NJ (t:Rat):∀n,n<=cs.length->plc (mis cs v K) t n=plc cs t n
 |0,_=>rfl
 |n+1,h=>by
  unfold plc
  rw[(DB (show n<cs.length from ())).1,NJ t n ()]
theorem DR (o:Ord cs)(t:Rat):val (mis cs v K) (K-m) t=v+K*t-val cs m t:=by
 have p:=Ic (t:=t) o.ne _ (qAe cs.length)
 unfold val
 rw[IC,NJ t _ (qAe _),TM o.up,(DB p).1,(DB p).2]
 grind
theorem Pn (o:Ord cs)(h0:vv cs 0<=v)(hk:∀i,i<cs.length->slp cs m i<=K):Ord (mis cs v K):=by
 have n:=o.ne
 refine#[by rw[IC];exact n,by rw[(DB n).1];exact o.t0,by rw[(DB n).2,o.t0];grind,fun k hk'=>?_,fun k hk'=>?_]
 all_goals rw[IC] at hk'
 .rw[(DB hk').1,(DB (show k<cs.length from ())).1];exact o.up k hk'
 .rw[(DB hk').2,(DB (show k<cs.length from ())).2]
  have u:=o.up k hk'
  have s:=hk k ()
  rw[BN hk'] at s
  have d:tt cs (k+1)-tt cs k≠0:=⋯
  have e:vv cs (k+1)-vv cs k=(vv cs (k+1)-vv cs k)/(tt cs (k+1)-tt cs k)*(tt cs (k+1)-tt cs k):=⋯
  have w:0<=(K-(vv cs (k+1)-vv cs k)/(tt cs (k+1)-tt cs k))*(tt cs (k+1)-tt cs k):=qAt ⋯ ⋯
  grind
end
end CH
namespace CL
open PySem L2 L3 CH
theorem XU {x y p q s z:Nat}(h1:x<=p) (h2:y<=q) (h3:s<=z):(2*(x*y)+2*x+y+3)*s<=(2*(p*q)+2*p+q+3)*z:=by
 have:=Nat.mul_le_mul h1 h2
 exact Nat.mul_le_mul () h3
theorem CS {cs:Cs}{m:Rat}:(G7 cs m).length=cs.length:=by unfold G7;simp
theorem R5 {cs:Cs}{m:Rat}{n:Nat}{y:D}(h:((G7 cs m).map qd)[n]? = some y):n<cs.length/\y=qd (slp cs m n):=by
 have hn:n<cs.length:=by
  have:=(qAd.mp h).1
  rw[qAa,CS] at this
  exact this
 refine#[hn,?_]
 unfold G7 at h
 rw[qAc,qAc,qAE hn] at h
 exact(qAl h).symm
theorem HS {ps:List RP}{i:Int}(j:Nat) (e:i=(j:Int)) (h:j<ps.length):atI (ps.map rpD) i=some (rpD (ps.getD j dfR)):=by
 subst e
 rw[CH.atI_nat (by rw[qAa];exact h),qAc,qAb h,qAf,qAb h]
 rfl
theorem Rt {ps:List RP}(h:0<ps.length):atI (ps.map rpD) (-1)=some (rpD (ps.getD (ps.length-1) dfR)):=by
 refine Kg ?_
 rw[qAf,qAb (show ps.length-1<ps.length from ())]
 rfl
theorem Bm {ps:List RP}{j:Nat}(h:j<ps.length):ps[j]? = some (ps.getD j dfR):=by
 rw[qAf,qAb h]
 rfl
def PR (x:D):Rat:=match x with
 |.tup [.tup [.int a,.int b],_]=>Rat.divInt a b
 |_=>0
theorem GD {m:Nat}{p:RP}{t:Rat}(w:Wq m p.1.1 p.1.2 t):PR (rpD p)=t:=Gj w
theorem _root_.CH.Crv.rise {cs:Cs}{m:Rat}(h:Crv cs m):Fe cs m:=#[#[h.ne,h.t0,h.v0,h.up,h.vu],h.m0]
def cl (ns:List Int)(k:Int):Int:=if k<ns.length then cell ns k else 5*k+2
theorem OY {va g x ti u p:Int}(u0:0<u) (p0:0<p):Rat.divInt (va+g*x) (u*p)=Rat.divInt va (u*p)+Rat.divInt x p*(Rat.divInt (ti+g) u-Rat.divInt ti u):=by
 rw[qAC,qAC,qAC,qAC,qAC,qBn,qBn,qAj,qAj]
 have n1:(u:Rat)≠0:=fun z=>absurd (qBq.mp z) (qBc u0)
 have n2:(p:Rat)≠0:=fun z=>absurd (qBq.mp z) (qBc p0)
 grind
theorem Th {v y t u p:Int}(u0:0<u) (p0:0<p):Rat.divInt v (u*p)-Rat.divInt y p*Rat.divInt t u=Rat.divInt (v-y*t) (u*p):=by
 rw[qAC,qAC,qAC,qAC,qBo,qAj,qAj]
 have n1:(u:Rat)≠0:=fun z=>absurd (qBq.mp z) (qBc u0)
 have n2:(p:Rat)≠0:=fun z=>absurd (qBq.mp z) (qBc p0)
 grind
theorem KU {ms:List Int}(h:0<ms.length):atI (ms.map D.int) (-1)=some (.int (cell ms ((ms.length-1:Nat):Int))):=by
 rw[<-FD (ms:=ms) (i:=((ms.length-1:Nat):Int)) (ms.length-1) rfl ()]
 unfold atI ixN
 rw[qAa,if_neg (),if_pos (),if_pos (),if_pos ()]
 congr 1
 congr 1
 omega
def G8 (fc:Cs)(fm:Rat)(gc:Cs)(gm t u:Rat):Rat:=val fc fm (t+u)-val gc gm u
theorem W2 {k:Nat}{a b:Int}{q:Rat}(h:Wq k a b q):0<=a ↔ 0<=q:=by
 have:=(Wq.of (k:=1) Sz.zero).le_iff h
 simpa using this
def flo (cs:Cs)(m:Rat):List Int:=(G7 cs m).map fun q=>q.num.fdiv (q.den:Int)
noncomputable def stp (cs:Cs)(m:Rat):Int:=open Classical in if h:∃k,k∈flo cs m/\∀x∈flo cs m,x<=k then h.choose+1 else 1
theorem Rb {cs:Cs}{m:Rat}{k:Int}(h1:k∈flo cs m) (h2:∀x∈flo cs m,x<=k):stp cs m=k+1:=by
 have h:∃k,k∈flo cs m/\∀x∈flo cs m,x<=k:=#[k,h1,h2]
 unfold stp
 rw[dif_pos h]
 have a:=h.choose_spec
 have b:=h2 _ a.1
 have c:=a.2 _ h1
 omega
theorem Us (q:Rat):q<((q.num.fdiv (q.den:Int)+1:Int):Rat):=by
 have d0:=den_pos q
 have w:Wq (q.num.natAbs+q.den+1) q.num q.den q:=#[(),Py q,qAm (Nat.lt_two_pow_self) (qB5 ∅ ()),qAm (Nat.lt_two_pow_self (n:=q.den)) (qB5 ∅ ())]
 have e:((q.num.fdiv (q.den:Int)+1:Int):Rat)=((q.num.fdiv (q.den:Int)+1:Int):Rat):=rfl
 have h1:=Int.fmod_add_mul_fdiv q.num (q.den:Int)
 have h2:=qBU q.num (show(0:Int)<q.den from ())
 have h3:q.num<(q.den:Int)*(q.num.fdiv q.den+1):=by
  rw[Int.mul_add];omega
 have h4:((q.num:Int):Rat)<(((q.den:Int)*(q.num.fdiv q.den+1):Int):Rat):=qBb.mpr h3
 rw[qAj,w.eq] at h4
 have h5:(0:Rat)<((q.den:Int):Rat):=by
  have:((0:Int):Rat)<((q.den:Int):Rat):=qBb.mpr ()
  exact this
 generalize ((q.num.fdiv (q.den:Int)+1:Int):Rat)=K at h4 ⊢
 generalize ((q.den:Int):Rat)=D at h4 h5
 refine qBe.mp fun z=>?_
 have:=qAt (show 0<=q-K from ⋯) (qAy h5)
 grind
theorem N8:∀{l:List Int},0<l.length->∃k,k∈l/\∀x∈l,x<=k
 |[a],_=>#[a,qAV,fun x h=>by rw[qAz.mp h];exact Int.le_refl _]
 |a::b::l,_=>by
  obtain⟨k,h1,h2⟩:=N8 (l:=b::l) (Nat.succ_pos _)
  by_cases c:k<=a
  .exact#[a,qAV,fun x h=>(qAk.mp h).elim (fun e=>e ▸ Int.le_refl _) (fun e=>Int.le_trans (h2 x e) c)]
  .exact#[k,qAK _ h1,fun x h=>(qAk.mp h).elim (fun e=>()) (h2 x)]
def KO (cs:Cs)(m:Rat):Prop:=Fe cs m/\LS 41 45 68 cs m/\cs.length<=7/\Sz 68 (vv cs 0)
noncomputable abbrev sK (cs:Cs)(m:Rat):Rat:=((stp cs m:Int):Rat)
theorem Qn {cs:Cs}{m:Rat}(h:KO cs m):(∀i,i<cs.length->slp cs m i<sK cs m)/\0<stp cs m/\(stp cs m).natAbs<2^46:=by
 obtain⟨r,z,_,_⟩:=h
 have n:=r.o.ne
 obtain⟨k,k1,k2⟩:=N8 (l:=flo cs m) (by unfold flo;rw[qAa,CS];exact n)
 have e:=Rb k1 k2
 have pos:∀q:Rat,0<=q->0<=q.num.fdiv (q.den:Int)/\q.num.fdiv (q.den:Int)<=q.num:=fun q q0=>by
  have h1:=Rat.num_nonneg.mpr q0
  have d0:=den_pos q
  rw[qBd _ ()]
  exact#[Int.ediv_nonneg h1 (),Int.ediv_le_self _ h1]
 have mem:∀i,i<cs.length->(slp cs m i).num.fdiv ((slp cs m i).den:Int)∈flo cs m:=fun i hi=>by
  unfold flo G7
  rw[qBa]
  exact qAH.mpr #[i,qAI.mpr hi,rfl]
 refine#[fun i hi=>?_,?_,?_]
 .have a:=Us (slp cs m i)
  have b:=k2 _ (mem i hi)
  have c:(((slp cs m i).num.fdiv ((slp cs m i).den:Int)+1:Int):Rat)<=((k+1:Int):Rat):=Rat.intCast_le_intCast.mpr ()
  show _<((stp cs m:Int):Rat)
  rw[e]
  grind
 .have:=(pos _ (HE r 0)).1
  have:=k2 _ (mem 0 n)
  omega
 .unfold flo G7 at k1
  rw[qBa] at k1
  obtain⟨i,hi,rfl⟩:=qAH.mp k1
  have hi:=qAI.mp hi
  obtain⟨p1,p2⟩:=pos _ (HE r i)
  have zs:=(z.ln r.o i hi).1.1
  have e:stp cs m=(slp cs m i).num.fdiv ((slp cs m i).den:Int)+1:=e
  rw[e]
  omega
def MS (cs:Cs)(m:Rat)(C:Cs)(M:Rat):Prop:=Crv C M/\M=sK cs m-m/\(∀t,0<=t->val C M t=vv cs 0+sK cs m*t-val cs m t)/\LS 41 92 137 C M/\C.length<=8
noncomputable abbrev miK (cs:Cs)(m:Rat):Cs:=mis cs (vv cs 0) (sK cs m)
noncomputable abbrev IsM (cs:Cs)(m t g:Rat):Prop:=IsU (miK cs m) (sK cs m-m) (miK cs m) (sK cs m-m) t g
def SU (cs:Cs)(m:Rat)(C:Cs):Prop:=Crv C m/\LS 1280 139 547 C m/\C.length<=1396/\∀t,0<=t->∃g,IsM cs m t g/\val C m t=sK cs m*t-g
theorem NH {v K t:Rat}:val [(0,v)] K t=v+K*t:=by
 have e:plc [(0,v)] t 1=0:=by
  unfold plc
  split<;>rfl
 show vv [(0,v)] (plc [(0,v)] t 1)+slp [(0,v)] K (plc [(0,v)] t 1)*(t-tt [(0,v)] (plc [(0,v)] t 1))=_
 rw[e,AW (by show ¬1<1;decide)]
 show v+K*(t-0)=_
 grind
theorem UG {k:Int}{n:Nat}(h:k.natAbs<2^n) (hn:1<=n):Sz n ((k:Int):Rat):=by
 refine#[by rw[Rat.num_intCast];exact h,?_]
 rw[Rat.den_intCast]
 exact Nat.one_lt_two_pow ()
theorem KO.st {cs:Cs}{m:Rat}(h:KO cs m):Fe [(0,vv cs 0)] (sK cs m)/\LS 1 46 68 [(0,vv cs 0)] (sK cs m)/\Sz 46 (sK cs m)/\0<=sK cs m/\0<=sK cs m-m/\∀i,i<cs.length->slp cs m i<=sK cs m:=by
 obtain⟨s1,s2,s3⟩:=Qn h
 obtain⟨r,z,_,zv⟩:=h
 have o:=r.o
 have zk:=UG s3 ∅
 have k0:0<=sK cs m:=Rat.intCast_nonneg.mpr (Int.le_of_lt s2)
 have o1:Ord [(0,vv cs 0)]:=Ord.one o.v0
 refine#[#[o1,k0],?_,zk,k0,?_,fun i hi=>qAy (s1 i hi)]
 .refine Ln.ls (Ln.one zk ?_) o1 (fun i hi=>?_)
  .show Sz 68 (vv cs 0-_*0)
   rw[show vv cs 0-sK cs m*0=vv cs 0 from ⋯]
   exact zv
  .have:i=0:=by(have:i<1:=hi;omega)
   subst this
   exact Sz.zero
 .have n:=o.ne
  have:=s1 (cs.length-1) ()
  rw[AW ()] at this
  grind
theorem Qp {cs ds:Cs}{m k:Rat}(o:Ord cs) (q:Ord ds) (h:∀t,0<=t->val cs m t<=val ds k t):m<=k:=by
 have n1:=o.ne
 have n2:=q.ne
 have a0:=CD o (show cs.length-1<cs.length from ())
 have b0:=CD q (show ds.length-1<ds.length from ())
 refine O6 (a:=tt cs (cs.length-1)+tt ds (ds.length-1)) (f0:=vv cs (cs.length-1)+m*tt ds (ds.length-1)) (g0:=vv ds (ds.length-1)+k*tt cs (cs.length-1)) fun x hx=>?_
 have h1:=h x ⋯
 rw[Dt n1 ⋯,Dt n2 ⋯] at h1
 grind
def PLr (x:D):Prop:=∃(a b c d:Int)(s L:Rat),x=.tup [tp a b,tp c d]/\Wq 1501 a b s/\0<=s/\Wq 1501 c d L/\0<=L
theorem La {rows:List D}{y:D}(h:∀x∈rows,PLr x) (hy:PLr y):∀x∈rows++[y],PLr x:=fun x hx=>by
 rcases qAo.mp hx with z|z
 .exact h x z
 .rw[qAz.mp z];exact hy
theorem WT {n:Nat}{a b:Int}(hb:0<b) (ha:0<a) (h1:a.natAbs<2^n) (h2:b.natAbs<2^n):0<Rat.divInt a b:=((Wq.of (k:=1) Sz.zero).lt_iff (MO hb h1 h2)).mp (by simpa using ha)
def K8 (cs:Cs)(m:Rat):Prop:=Fe cs m/\LS 750 900 1700 cs m/\cs.length<=7/\(m=0\/LS 750 60 1600 cs m)
theorem K8.of {cs:Cs}{m:Rat}(r:Fe cs m) (z:LS 750 60 1600 cs m) (h:cs.length<=7):K8 cs m:=#[r,z.mono ∅ ∅ ∅,h,.inr z]
theorem Qc {L h b:Rat}(h0:0<h) (hl:h+h=L) (b0:0<=b) (zL:Sz 100 L) (zh:Sz 102 h) (zb:Sz 660 b):K8 [(0,0),(h,0),(L,b)] 0:=by
 have o:Ord [(0,0),(h,0),(L,b)]:=((Ord.one (v:=0) qAg).snoc (c:=(h,0)) (by show(0:Rat)<h;exact h0) (by show(0:Rat)<=0;exact qAg)).snoc (c:=(L,b)) (by show h<L;grind) (by show 0<=b;exact b0)
 refine#[#[o,qAg],?_,by show 3<=7;decide,.inl rfl]
 have zl:Ln 900 1700 [(0,0),(h,0),(L,b)] 0:=fun i hi=>by
  match i,hi with
  |0,_ =>
   have e:slp [(0,0),(h,0),(L,b)] 0 0=0:=by
    rw[BN (by show 1<3;decide)]
    show((0:Rat)-0)/(h-0)=0
    grind
   rw[e]
   refine#[Sz.zero.mono ∅,?_]
   show Sz 1700 ((0:Rat)-0*0)
   rw[show(0:Rat)-0*0=0 from ⋯]
   exact Sz.zero.mono ∅
  |1,_ =>
   have e:slp [(0,0),(h,0),(L,b)] 0 1=b/h:=by
    rw[BN (by show 2<3;decide)]
    show(b-0)/(L-h)=b/h
    rw[show L-h=h from ⋯]
    grind
   rw[e]
   have zs:Sz 762 (b/h):=(zb.div zh ⋯).mono ∅
   refine#[zs.mono ∅,?_]
   show Sz 1700 (0-b/h*h)
   exact((Sz.zero.mono (show 1<=1 from ∅)).sub (zs.mul zh)).mono ∅
  |2,_ =>
   have e:slp [(0,0),(h,0),(L,b)] 0 2=0:=AW (by show ¬3<3;decide)
   rw[e]
   refine#[Sz.zero.mono ∅,?_]
   show Sz 1700 (b-0*L)
   rw[show b-0*L=b from ⋯]
   exact zb.mono ∅
 refine(zl.ls o (a:=750) fun i hi=>?_)
 match i,hi with
 |0,_=>exact Sz.zero.mono ∅
 |1,_=>exact zh.mono ∅
 |2,_=>exact zL.mono ∅
theorem RU {L s:Rat}(l0:0<L) (s0:0<=s) (zL:Sz 100 L) (zs:Sz 45 s):K8 [(0,0),(L,0)] s:=by
 have o:Ord [(0,0),(L,0)]:=(Ord.one (v:=0) qAg).snoc (c:=(L,0)) (by show(0:Rat)<L;exact l0) (by show(0:Rat)<=0;exact qAg)
 refine K8.of #[o,s0] ?_ (by show 2<=7;decide)
 have zl:Ln 60 1600 [(0,0),(L,0)] s:=fun i hi=>by
  match i,hi with
  |0,_ =>
   have e:slp [(0,0),(L,0)] s 0=0:=by
    rw[BN (by show 1<2;decide)]
    show((0:Rat)-0)/(L-0)=0
    grind
   rw[e]
   refine#[Sz.zero.mono ∅,?_]
   show Sz 1600 ((0:Rat)-0*0)
   rw[show(0:Rat)-0*0=0 from ⋯]
   exact Sz.zero.mono ∅
  |1,_ =>
   have e:slp [(0,0),(L,0)] s 1=s:=AW (by show ¬2<2;decide)
   rw[e]
   refine#[zs.mono ∅,?_]
   show Sz 1600 (0-s*L)
   exact((Sz.zero.mono (show 1<=1 from ∅)).sub (zs.mul zL)).mono ∅
 refine(zl.ls o (a:=750) fun i hi=>?_)
 match i,hi with
 |0,_=>exact Sz.zero.mono ∅
 |1,_=>exact zL.mono ∅
inductive IA (ss:List S)(R:S->Prop)(U_:Str->Prop):Prop
 |mk (a:Int)(_:ss=[.d (.int a)])(_:R (.d (.bl true)))
inductive Jl (ss:List S)(R:S->Prop)(U_:Str->Prop):Prop
 |mk (a b:Int)(_:ss=[.d (.int a),.d (.int b)])(_:R (.d (.int (g a b))))
inductive Mm (ss:List S)(R:S->Prop)(U_:Str->Prop):Prop
 |mk (a b:Int)(_:ss=[.d (.int a),.d (.int b)])(_:b≠0)(_:a.natAbs<2^13000)(_:b.natAbs<2^13000)(_:R (.d (qd (Rat.divInt a b))))
inductive Pk (ss:List S)(R:S->Prop)(U_:Str->Prop):Prop
 |mk (p q:Rat)(k l:Nat)(_:ss=[.d (qd p),.d (qd q)])(_:Sz k p)(_:Sz l q)(_:k+l+1<=13000)(_:R (.d (qd (p+q))))
inductive My (ss:List S)(R:S->Prop)(U_:Str->Prop):Prop
 |mk (p q:Rat)(k l:Nat)(_:ss=[.d (qd p),.d (qd q)])(_:Sz k p)(_:Sz l q)(_:k+l+1<=13000)(_:R (.d (qd (p-q))))
inductive Mz (ss:List S)(R:S->Prop)(U_:Str->Prop):Prop
 |mk (p q:Rat)(k l:Nat)(_:ss=[.d (qd p),.d (qd q)])(_:Sz k p)(_:Sz l q)(_:k+l<=13000)(_:R (.d (qd (p*q))))
inductive PN (ss:List S)(R:S->Prop)(U_:Str->Prop):Prop
 |mk (p q:Rat)(k l:Nat)(_:ss=[.d (qd p),.d (qd q)])(_:Sz k p)(_:Sz l q)(_:k+l<=13000)(_:q≠0)(_:R (.d (qd (p/q))))
inductive Mw (ss:List S)(R:S->Prop)(U_:Str->Prop):Prop
 |mk (p q:Rat)(k l:Nat)(_:ss=[.d (qd p),.d (qd q)])(_:Sz k p)(_:Sz l q)(_:k+l<=30000)(_:R (.d (.bl (decide (p<q)))))
inductive ML (ss:List S)(R:S->Prop)(U:Str->Prop):Prop
 |mk (x:S)(cs:Cs)(m:Rat)(_:ss=[x,.d (qd m)])(_:(x=.r (cs.map cd)\/x=.d (.lst (cs.map cd))))(_:SzD cs m)(_:(Ord cs/\0<=m->R (.d (crv (kp cs m (cs.length-1)) m))))(_:(¬(Ord cs/\0<=m)->U "NoCurve"))
inductive Fa (ss:List S)(R:S->Prop)(U:Str->Prop):Prop
 |mk (x:S)(cs:Cs)(_:ss=[x])(_:(x=.r (cs.map cd)\/x=.d (.lst (cs.map cd))))(_:cs.length<=100000)(_:SzC 6400 cs)(_:(Bgn cs->R (.d .non)))(_:(¬Bgn cs->U "NoCurve"))
inductive F8 (ss:List S)(R:S->Prop)(U:Str->Prop):Prop
 |mk (x:S)(cs:Cs)(_:ss=[x])(_:(x=.r (cs.map cd)\/x=.d (.lst (cs.map cd))))(_:0<cs.length)(_:cs.length<=100000)(_:SzC 6400 cs)(_:(Ris cs cs.length->R (.d .non)))(_:(¬Ris cs cs.length->U "NoCurve"))
inductive OB (ss:List S)(R:S->Prop)(U_:Str->Prop):Prop
 |mk (v s:Rat)(_:ss=[.d (qd v),.d (qd s)])(_:0<=v)(_:0<=s)(_:Sz 2000 v)(_:Sz 2000 s)(_:R (.d (crv [(0,v)] s)))
inductive HW (ss:List S)(R:S->Prop)(U:Str->Prop):Prop
 |mk (cs:Cs)(m t:Rat)(a b c n:Nat)(_:ss=[.d (crv cs m),.d (qd t)])(_:Ord cs)(_:LS a b c cs m)(_:cs.length<=100000)(_:a+b+c+1<=6000)(_:4*a+b+2<=13000)(_:n<=6000)(_:2*a+2*b+c+n+3<=13000)(_:Sz n t)(_:(0<=t->R (.d (qd (val cs m t)))))(_:(¬0<=t->U "NoTime"))
inductive HN (ss:List S)(R:S->Prop)(U:Str->Prop):Prop
 |mk (cs:Cs)(m t:Rat)(n:Nat)(_:ss=[.d (crv cs m),.d (qd t)])(_:0<cs.length)(_:cs.length<=100000)(_:tt cs 0=0)(_:Up cs)(_:n<=6000)(_:SzC n cs)(_:Sz n t)(_:(0<=t->R (.d (.int (plc cs t cs.length)))))(_:(¬0<=t->U "NoTime"))
inductive Gm (ss:List S)(R:S->Prop)(U:Str->Prop):Prop
 |mk (t:Rat)(n:Nat)(_:ss=[.d (qd t)])(_:n<=6000)(_:Sz n t)(_:(0<=t->R (.d .non)))(_:(¬0<=t->U "NoTime"))
inductive DG (ss:List S)(R:S->Prop)(U_:Str->Prop):Prop
 |mk (cs:Cs)(m:Rat)(k:Nat)(_:ss=[.d (crv cs m),.d (.int k)])(_:k<cs.length)(_:cs.length<=100000)(_:Up cs)(_:SzC 6400 cs)(_:Df cs)(_:R (.d (qd (slp cs m k))))
inductive D7 (ss:List S)(R:S->Prop)(U_:Str->Prop):Prop
 |mk (a b c d:Rat)(n e f:Nat)(_:ss=[.d (.tup [qd a,qd b]),.d (.tup [qd c,qd d])])(_:n<=6400)(_:Sz n a)(_:Sz n b)(_:Sz n c)(_:Sz n d)(_:Sz e (c-a))(_:Sz f (d-b))(_:e+f<=13000)(_:c-a≠0)(_:R (.d (qd ((d-b)/(c-a)))))
inductive D6 (ss:List S)(R:S->Prop)(U_:Str->Prop):Prop
 |mk (x:S)(cs:Cs)(m:Rat)(_:ss=[x,.d (qd m)])(_:(x=.r (cs.map cd)\/x=.d (.lst (cs.map cd))))(_:0<cs.length)(_:cs.length<=100000)(_:SzC 6400 cs)(_:Df cs)(_:Up cs)(_:R (.l ((G7 cs m).map qd)))
inductive Dl (ss:List S)(R:S->Prop)(U_:Str->Prop):Prop
 |mk (cs:Cs)(m:Rat)(a b c:Nat)(_:ss=[.d (crv cs m)])(_:Ord cs)(_:LS a b c cs m)(_:a+b+c+1<=1800)(_:cs.length<=5000)(_:R (.l ((stI cs m).map fun k=>cd (tt cs k,vv cs k))))
inductive Dk (ss:List S)(R:S->Prop)(U_:Str->Prop):Prop
 |mk (cs:Cs)(m:Rat)(a b c:Nat)(_:ss=[.d (crv cs m)])(_:Ord cs)(_:LS a b c cs m)(_:a+b+c+1<=1800)(_:cs.length<=5000)(_:R (.l ((flI cs m).map fun k=>cd (tt cs k,vv cs k))))
inductive EA (ss:List S)(R:S->Prop)(U_:Str->Prop):Prop
 |mk (cs:Cs)(m:Rat)(_:ss=[.d (crv cs m)])(_:KO cs m)(_:R (.d (qd (sK cs m))))
inductive HB (ss:List S)(R:S->Prop)(U_:Str->Prop):Prop
 |mk (cs:Cs)(m:Rat)(ds:Cs)(k:Rat)(_:ss=[.d (crv cs m),.d (crv ds k)])(_:Sz 6000 m)(_:Sz 6000 k)(_:R (.d (.bl (decide (k<m)))))
inductive Jp (ss:List S)(R:S->Prop)(U_:Str->Prop):Prop
 |mk (a b s h:Rat)(n p l k:Nat)(_:ss=[.d (.tup [qd a,qd b]),.d (qd s),.d (qd h)])(_:Sz n a)(_:Sz p b)(_:Sz l h)(_:Sz k s)(_:s≠0)(_:n+p+l+k+2<=13000)(_:R (.d (qd (a+(h-b)/s))))
def Ff:SpL:=fun a dom p ss R _=>∃(x:S)(xs:List D)(n:Nat),ss=[x,.d (.ref a)]/\(x=.d (.tup xs)\/x=.r xs\/x=.d (.lst xs))/\xs.length<=100000/\n<=xs.length/\(∀i x,xs[i]? = some x->dom x/\p x=decide (i<n))/\R (.d (.int n))
inductive Ph (ss:List S)(R:S->Prop)(U_:Str->Prop):Prop
 |mk (cs:Cs)(m:Rat)(ds:Cs)(k:Rat)(a b c aa bb cc A:Nat)(_:ss=[.d (crv cs m),.d (crv ds k)])(_:Fe cs m)(_:Fe ds k)(_:LS a b c cs m)(_:LS aa bb cc ds k)(_:a<=A)(_:aa<=A)(_:cs.length+ds.length<=3000)(_:A+b+bb+c+cc+3<=6000)(_:4*A+b+bb+3<=13000)(_:3*A+2*(b+bb)+c+cc+3<=13000)(_:(∀x y,0<=x->x<=y->gap cs m ds k x<=gap cs m ds k y))(_:0<=gap cs m ds k 0)(_:∀(C:Cs)(M:Rat),Crv C M->(∀t,0<=t->val C M t=gap cs m ds k t)->M=m-k->LS A (b+bb+1) (c+cc+1) C M->C.length<=cs.length+ds.length->R (.d (crv C M)))
inductive Mi (ss:List S)(R:S->Prop)(U_:Str->Prop):Prop
 |mk (cs:Cs)(m:Rat)(ds:Cs)(k:Rat)(_:ss=[.d (crv cs m),.d (crv ds k)])(_:K8 cs m)(_:(Fe ds k/\LS 1280 139 547 ds k/\ds.length<=1396))(_:∀r:Option Rat,Abv cs m ds k r->(∀t,r=some t->Sz 2402 t)->R (.d (oD r)))
inductive E7 (ss:List S)(R:S->Prop)(U_:Str->Prop):Prop
 |mk (cs:Cs)(m:Rat)(ds:Cs)(k:Rat)(a b c:Nat)(_:ss=[.d (crv cs m),.d (crv ds k)])(_:Ord cs)(_:Ord ds)(_:cs.length<=3000)(_:ds.length<=3000)(_:LS a b c cs m)(_:LS a b c ds k)(_:a+b+c+1<=6000)(_:4*a+b+2<=13000)(_:3*a+2*b+c+3<=13000)(_:∀ts:List Rat,Tms cs ds ts->ts.length<=cs.length+ds.length->R (.l (ts.map (rw3 cs m ds k))))
inductive Ed (ss:List S)(R:S->Prop)(U_:Str->Prop):Prop
 |mk (cs:Cs)(m:Rat)(ds:Cs)(k:Rat)(n:Nat)(_:ss=[.d (crv cs m),.d (crv ds k)])(_:Ord cs)(_:Ord ds)(_:cs.length<=3000)(_:ds.length<=3000)(_:n<=6000)(_:SzC n cs)(_:SzC n ds)(_:∀ts:List Rat,Tms cs ds ts->ts.length<=cs.length+ds.length->R (.d (.lst (ts.map qd))))
inductive FY (ss:List S)(R:S->Prop)(U_:Str->Prop):Prop
 |mk (x:S)(cs:Cs)(m:Rat)(ds:Cs)(k:Rat)(ts:List Rat)(v:Nat)(_:ss=[x])(_:(x=.r (ts.map (rw3 cs m ds k))\/x=.d (.lst (ts.map (rw3 cs m ds k)))))(_:ts.length<=6000)(_:v<=6400)(_:(∀i,i<ts.length->Sz v (val cs m (T ts i))/\Sz v (val ds k (T ts i))))(_:R (.l ((gcs cs m ds k ts).map cd)))
inductive GQ (ss:List S)(R:S->Prop)(U_:Str->Prop):Prop
 |mk (cs:Cs)(m:Rat)(a b c:Nat)(_:ss=[.d (crv cs m)])(_:Ord cs)(_:LS a b c cs m)(_:a+b+c+1<=1800)(_:cs.length<=5000)(_:R (.l ((CA cs m).map rpD)))
inductive EF (ss:List S)(R:S->Prop)(U_:Str->Prop):Prop
 |mk (c:Rat×Rat)(m:Rat)(n:Nat)(_:ss=[.d (cd c),.d (qd m)])(_:Sz n c.1)(_:Sz n c.2)(_:Sz n m)(_:n<=4000)(_:R (.d (lnD (Mj m (c.2-m*c.1)))))
inductive HJ (ss:List S)(R:S->Prop)(U:Str->Prop):Prop
 |mk (x:S)(ps:List RP)(P:Ps)(k m:Nat)(_:ss=[x])(_:(x=.r (ps.map rpD)\/x=.d (.lst (ps.map rpD))))(_:PL k m ps P)(_:0<ps.length)(_:ps.length<=90000)(_:k+m+1<=13000)(_:SzD (G2 P) (ln P (P.length-1)).1)(_:Ord (G2 P))(_:0<=(ln P (P.length-1)).1)(_:R (.d (crv (kp (G2 P) (ln P (P.length-1)).1 (P.length-1)) (ln P (P.length-1)).1)))
inductive GX (ss:List S)(R:S->Prop)(U_:Str->Prop):Prop
 |mk (p:RP)(q:Rat×Ln2)(k m:Nat)(_:ss=[.d (tp p.1.1 p.1.2),.d (lnD p.2)])(_:PW1 k m p q)(_:k+m+1<=13000)(_:R (.d (cd (q.1,ev q.2 q.1))))
inductive NU (ss:List S)(R:S->Prop)(U_:Str->Prop):Prop
 |mk (x:S)(ps:List RP)(P:Ps)(wn wd vn vd:Int)(w v:Rat)(k m n:Nat)(_:ss=[x,.d (.tup [tp wn wd,tp vn vd])])(_:(x=.r (ps.map rpD)\/x=.d (.lst (ps.map rpD))))(_:PL k m ps P)(_:Wq n wn wd w)(_:Wq n vn vd v)(_:k<=30000)(_:m<=30000)(_:n<=30000)(_:ps.length<=100000)(_:R (.l ((ps.map (mvR wn wd vn vd)).map rpD)))
inductive Gb (ss:List S)(R:S->Prop)(U_:Str->Prop):Prop
 |mk (a b wn wd:Int)(t w:Rat)(m n:Nat)(_:ss=[.d (tp a b),.d (tp wn wd)])(_:Wq m a b t)(_:Wq n wn wd w)(_:m<=100000)(_:n<=100000)(_:R (.d (tp (a*wd+wn*b) (b*wd))))
inductive FH (ss:List S)(R:S->Prop)(U_:Str->Prop):Prop
 |mk (l:RL)(q:Ln2)(wn wd vn vd:Int)(w v:Rat)(k m:Nat)(_:ss=[.d (lnD l),.d (.tup [tp wn wd,tp vn vd])])(_:LW k l q)(_:Wq m wn wd w)(_:Wq m vn vd v)(_:k<=100000)(_:m<=100000)(_:R (.d (lnD (l.1*(wd*vd),l.2.1*(wd*vd)-l.1*wn*vd+l.2.2*vn*wd,l.2.2*(wd*vd)))))
inductive Jh (ss:List S)(R:S->Prop)(U_:Str->Prop):Prop
 |mk (x:S)(ps:List RP)(_:ss=[x])(_:(x=.r (ps.map rpD)\/x=.d (.lst (ps.map rpD))))(_:ps.length<=100000)(_:R (.l ((ps.map flR).map rpD)))
inductive K0 (ss:List S)(R:S->Prop)(U_:Str->Prop):Prop
 |mk (cs:Cs)(m far:Rat)(n:Nat)(_:ss=[.d (.lst ((CA cs m).map rpD)),.d (qd far)])(_:0<cs.length)(_:cs.length<=5000)(_:(∀i,i<cs.length->Sz n (tt cs i)))(_:Sz n far)(_:n<=6000)(_:R (.d (.lst ((trR cs m far).map rpD))))
inductive E6 (ss:List S)(R:S->Prop)(U_:Str->Prop):Prop
 |mk (ps:List RP)(P:Ps)(k m c:Nat)(_:ss=[.d (.lst (ps.map rpD))])(_:PL k m ps P)(_:ps.length<=50000)(_:m<=100000)(_:0<c)(_:c<=P.length)(_:(∀i,i<c->bg P i<=0))(_:(∀i,c<=i->i<P.length->0<bg P i))(_:R (.d (.lst ((frR ps c).map rpD))))
inductive Je (ss:List S)(R:S->Prop)(U_:Str->Prop):Prop
 |mk (y:S)(ps os:List RP)(P O:Ps)(B S0:List Rat)(G:Ln2->Prop)(V:Rat->Prop)(k m:Nat)(h g:Rat->Rat)(_:ss=[.r (ps.map rpD),y])(_:(y=.r (os.map rpD)\/y=.d (.lst (os.map rpD))))(_:(EY B S0 G V k m h none ps P/\0<P.length/\PL k m os O/\PU O g none/\0<O.length/\(∀x,x<O.length->(ln O x).1∈S0)/\(∀x,x<O.length->G (ln O x)/\V (bg O x))/\(∀l l',G l->G l'->l.1≠l'.1->V (xg l l'))/\k+k+1<=m/\m<=12000/\bg P 0<=bg O 0/\(bg P 0<bg O 0->h (bg O 0)<=g (bg O 0))/\ps.length+os.length<=90000/\(B.length+O.length+1)*S0.length<=90000))(_:∀(qs:List RP)(Q:Ps),EY (B++To O) S0 G V k m (RT (bg O 0) h g) none qs Q->0<Q.length->bg Q 0=bg P 0->R (.l (qs.map rpD)))
inductive EI (ss:List S)(R:S->Prop)(U_:Str->Prop):Prop
 |mk (y:S)(ps os:List RP)(P O:Ps)(k m c:Nat)(_:ss=[.r (ps.map rpD),y])(_:(y=.r (os.map rpD)\/y=.d (.lst (os.map rpD))))(_:PL k m ps P)(_:PL k m os O)(_:0<O.length)(_:(∀i,i+1<P.length->bg P i<bg P (i+1)))(_:(∀i,i+1<O.length->bg O i<bg O (i+1)))(_:m<=100000)(_:ps.length+os.length<=90000)(_:0<c)(_:c<=P.length)(_:(∀i,i<c->bg P i<=bg O 0))(_:(∀i,c<=i->i<P.length->bg O 0<bg P i))(_:∀rw:List R4,NC P O m rw->¬iF' rw (rw.length-1)+1<P.length->¬jF rw (rw.length-1)+1<O.length->R (.l (rw.map (Tb ps os))))
inductive EL (ss:List S)(R:S->Prop)(U_:Str->Prop):Prop
 |mk (xs:List RP)(p q:RP)(s t:Rat)(m:Nat)(_:ss=[.d (.lst (xs.map rpD))])(_:0<xs.length)(_:xs.getD 0 dfR=p)(_:xs.getD (xs.length-1) dfR=q)(_:Wq m p.1.1 p.1.2 s)(_:Wq m q.1.1 q.1.2 t)(_:m<=100000)(_:R (.d (if t<s then tp q.1.1 q.1.2 else tp p.1.1 p.1.2)))
inductive NK (ss:List S)(R:S->Prop)(U_:Str->Prop):Prop
 |mk (l1 l2:RL)(tn td:Int)(q1 q2:Ln2)(t:Rat)(k m:Nat)(_:ss=[.d (lnD l1),.d (lnD l2),.d (tp tn td)])(_:LW k l1 q1)(_:LW k l2 q2)(_:Wq m tn td t)(_:k<=100000)(_:m<=100000)(_:R (.d (.int (sg (ev q1 t-ev q2 t)))))
inductive NX (ss:List S)(R:S->Prop)(U_:Str->Prop):Prop
 |mk (l1 l2:RL)(q1 q2:Ln2)(k:Nat)(_:ss=[.d (lnD l1),.d (lnD l2)])(_:LW k l1 q1)(_:LW k l2 q2)(_:k<=100000)(_:R (.d (.int (sg (q1.1-q2.1)))))
inductive N0 (ss:List S)(R:S->Prop)(U_:Str->Prop):Prop
 |mk (a:Int)(_:ss=[.d (.int a)])(_:R (.d (.int a.sign)))
def GZ:SpM:=fun xs ds R=>∃(ps:List RP)(tm:Int×Int)(l1 l2:RL)(now thn:Int)(q1 q2:Ln2)(k:Nat),xs=ps.map rpD/\ds=[.tup [.tup [.int tm.1,.int tm.2],lnD l1,lnD l2],.int now,.int thn]/\LW k l1 q1/\LW k l2 q2/\k<=6000/\(now<0/\0<thn\/0<now/\thn<0->q1.1≠q2.1)/\ps.length<999980/\∀ps',QH ps tm l1 l2 now thn (xg q1 q2) ps'->R (ps'.map rpD)
def Di:SpM:=fun xs ds R=>∃(ps:List RP)(p:RP),xs=ps.map rpD/\ds=[.tup [.int p.1.1,.int p.1.2],lnD p.2]/\ps.length<999990/\∀ps',K3 ps p ps'->R (ps'.map rpD)
inductive HU (ss:List S)(R:S->Prop)(U_:Str->Prop):Prop
 |mk (l1 l2:RL)(q1 q2:Ln2)(k:Nat)(_:ss=[.d (lnD l1),.d (lnD l2)])(_:LW k l1 q1)(_:LW k l2 q2)(_:k<=6000)(_:q1.1≠q2.1)(_:R (.d (qd (xg q1 q2))))
inductive Ku (ss:List S)(R:S->Prop)(U_:Str->Prop):Prop
 |mk (fc:Cs)(fm:Rat)(gc:Cs)(gm:Rat)(a b c N:Nat)(S0:List Rat)(_:ss=[.d (crv fc fm),.d (crv gc gm)])(_:(Fe fc fm/\Fe gc gm/\LS a b c fc fm/\LS a b c gc gm/\1<=b/\6*a+9*b+6*c+24<=4400/\(2*(fc.length*gc.length)+2*fc.length+gc.length+3)*S0.length<=N/\N<=40000/\SL S0 fc fm/\SL S0 gc gm/\(0:Rat)∈S0/\fc.length<=4999/\gc.length<=4999))(_:(gm<fm->R (.d .non)))(_:(fm<=gm->∀C:Cs,Crv C fm->(∀t,0<=t->IsU fc fm gc gm t (val C fm t))->LS (4*(a+b+c)+2*b+16) b (2*(a+b+c)+5) C fm->SL S0 C fm->C.length<=N->R (.d (crv C fm))))
inductive NR (ss:List S)(R:S->Prop)(U:Str->Prop):Prop
 |mk (fc:Cs)(fm:Rat)(gc:Cs)(gm t:Rat)(a b c n:Nat)(_:ss=[.d (crv fc fm),.d (crv gc gm),.d (qd t)])(_:(Ord fc/\Ord gc/\LS a b c fc fm/\LS a b c gc gm/\a+b+c+1<=400/\fc.length<=5000/\gc.length<=5000))(_:Sz n t)(_:a+n+1<=2500)(_:(0<=t->gm<fm->R (.d .non)))(_:(0<=t->fm<=gm->∀u:Rat,0<=u->Sz (a+n+1) u->(∀v,0<=v->G8 fc fm gc gm t v<=G8 fc fm gc gm t u)->R (.d (qd u))))(_:(¬0<=t->U "NoTime"))
inductive CM (ss:List S)(R:S->Prop)(U_:Str->Prop):Prop
 |mk (cs:Cs)(m:Rat)(a b c:Nat)(_:ss=[.d (crv cs m)])(_:Ord cs)(_:LS a b c cs m)(_:a+b+c+1<=1800)(_:cs.length<=5000)(_:R (.d (.lst ((0::stI cs m).map fun k=>cd (tt cs k,vv cs k)))))
inductive DH (ss:List S)(R:S->Prop)(U_:Str->Prop):Prop
 |mk (fc:Cs)(fm:Rat)(gc:Cs)(gm t:Rat)(a b c n:Nat)(_:ss=[.d (crv fc fm),.d (crv gc gm),.d (qd t)])(_:(Ord fc/\Ord gc/\LS a b c fc fm/\LS a b c gc gm/\a+b+c+1<=400/\fc.length<=5000/\gc.length<=5000))(_:Sz n t)(_:n<=2500)(_:∀us:List Rat,us.length<=11000->(∀u∈us,0<=u/\Sz (a+n+1) u)->(∀k∈stI gc gm,tt gc k∈us)->(∀k∈flI fc fm,t<tt fc k->tt fc k-t∈us)->R (.l (us.map qd)))
inductive IH (ss:List S)(R:S->Prop)(U_:Str->Prop):Prop
 |mk (fc:Cs)(fm:Rat)(gc:Cs)(gm t u:Rat)(a b c n:Nat)(_:ss=[.d (crv fc fm),.d (crv gc gm),.d (qd t),.d (qd u)])(_:(Ord fc/\Ord gc/\LS a b c fc fm/\LS a b c gc gm/\a+b+c+1<=400/\fc.length<=5000/\gc.length<=5000))(_:0<=t)(_:0<=u)(_:Sz n t)(_:Sz n u)(_:n<=2500)(_:R (.d (qd (G8 fc fm gc gm t u))))
inductive OZ (ss:List S)(R:S->Prop)(U_:Str->Prop):Prop
 |mk (cs:Cs)(m:Rat)(ds:Cs)(k:Rat)(_:ss=[.d (crv cs m),.d (crv ds k)])(_:KO cs m)(_:K8 ds k)(_:((∀s t,0<=s->0<=t->val ds k t<=val cs m (s+t)-val cs m s)->R (.d .non)))(_:∀s t,0<=s->0<=t->Sz 2444 s->Sz 2402 t->val cs m (s+t)-val cs m s<val ds k t->R (.d (.tup [qd s,qd (s+t)])))
inductive KJ (ss:List S)(R:S->Prop)(U_:Str->Prop):Prop
 |mk (cs:Cs)(m:Rat)(_:ss=[.d (crv cs m)])(_:KO cs m)(_:∀C:Cs,SU cs m C->R (.d (crv C m)))
inductive KW (ss:List S)(R:S->Prop)(U_:Str->Prop):Prop
 |mk (cs:Cs)(m:Rat)(_:ss=[.d (crv cs m)])(_:(Fe cs m/\LS 41 92 137 cs m/\cs.length<=8))(_:∀C:Cs,Crv C m->(∀t,0<=t->IsU cs m cs m t (val C m t))->LS 1280 92 545 C m->C.length<=1395->R (.d (crv C m)))
inductive Jn (ss:List S)(R:S->Prop)(U_:Str->Prop):Prop
 |mk (cs:Cs)(m:Rat)(_:ss=[.d (crv cs m)])(_:KO cs m)(_:∀(C:Cs)(M:Rat),MS cs m C M->R (.d (crv C M)))
inductive IF (ss:List S)(R:S->Prop)(U_:Str->Prop):Prop
 |mk (cs:Cs)(m:Rat)(r:Option Rat)(_:ss=[.d (crv cs m),.d (oD r)])(_:(Fe cs m/\LS 41 92 137 cs m/\cs.length<=8))(_:(∀t,r=some t->Sz 2402 t/\0<=t))(_:(r=none->R (.d .non)))(_:∀t s,r=some t->0<=s->Sz 2444 s->(∀v,0<=v->G8 cs m cs m t v<=G8 cs m cs m t s)->R (.d (.tup [qd s,qd (s+t)])))
inductive Em (ss:List S)(R:S->Prop)(U_:Str->Prop):Prop
 |mk (ns:List Int)(k:Int)(_:ss=[.r (ns.map D.int),.d (.int k)])(_:0<=k)(_:k<=1000)(_:R (.d (.int (cl ns k))))
inductive IG (ss:List S)(R:S->Prop)(U_:Str->Prop):Prop
 |mk (a b:Int)(_:ss=[.d (.int a),.d (.int b)])(_:0<b)(_:a.natAbs<2^13000)(_:b.natAbs<2^13000)(_:R (.d (qd (Rat.divInt a b))))
inductive Iy (ss:List S)(R:S->Prop)(U_:Str->Prop):Prop
 |mk (a b c d:Int)(_:ss=[.d (tp a b),.d (tp c d)])(_:L4 400000 a b c d)(_:R (.d (tp (a*d+c*b) (b*d))))
inductive GV (ss:List S)(R:S->Prop)(U_:Str->Prop):Prop
 |mk (a b c d:Int)(_:ss=[.d (tp a b),.d (tp c d)])(_:L4 400000 a b c d)(_:R (.d (tp (a*d-c*b) (b*d))))
inductive Gn (ss:List S)(R:S->Prop)(U_:Str->Prop):Prop
 |mk (a b c d:Int)(_:ss=[.d (tp a b),.d (tp c d)])(_:L4 400000 a b c d)(_:R (.d (.bl (decide (a*d<=c*b)))))
inductive FJ (ss:List S)(R:S->Prop)(U_:Str->Prop):Prop
 |mk (cs:Cs)(m:Rat)(k:Int)(j n:Nat)(_:ss=[.d (crv cs m),.d (.int k)])(_:k=(j:Int))(_:j<cs.length)(_:Up cs)(_:n<=50000)(_:SzC n cs)(_:Sz n m)(_:∀A B:Int,Wq (4*n+2) A B (slp cs m j)->R (.d (tp A B)))
inductive Jo (ss:List S)(R:S->Prop)(U_:Str->Prop):Prop
 |mk (cs:Cs)(m t:Rat)(tn td:Int)(n:Nat)(_:ss=[.d (crv cs m),.d (tp tn td)])(_:Ord cs)(_:cs.length<=100000)(_:n<=50000)(_:SzC n cs)(_:Sz n m)(_:Wq n tn td t)(_:0<=t)(_:∀A B:Int,Wq (7*n+4) A B (val cs m t)->R (.d (tp A B)))
inductive FC (ss:List S)(R:S->Prop)(U_:Str->Prop):Prop
 |mk (q:Rat)(_:ss=[.d (qd q)])(_:Sz 13000 q)(_:R (.d (.bl true)))
inductive Fb (ss:List S)(R:S->Prop)(U_:Str->Prop):Prop
 |mk (ms:List Int)(_:ss=[.r (ms.map D.int)])(_:ms.length<=58)(_:∀sl:List Int,sl.length=ms.length->(∀x∈sl,0<=x/\x<=2000000000000)->R (.l (sl.map D.int)))
inductive F5 (ss:List S)(R:S->Prop)(U_:Str->Prop):Prop
 |mk (c:Int)(ms:List Int)(st sh:Int)(_:ss=[.d (.int c),.r (ms.map D.int),.d (.int st),.d (.int sh)])(_:0<ms.length)(_:ms.length<=58)(_:0<=st)(_:st<=4000000000000)(_:∀(cs:Cs)(m:Rat),Ord cs->LS 41 45 68 cs m->(∀i,i<cs.length->Sz 68 (vv cs i))->0<=m->cs.length<=ms.length->R (.d (crv cs m)))
inductive HH (ss:List S)(R:S->Prop)(U_:Str->Prop):Prop
 |mk (ns:List Int)(b z:Int)(_:ss=[.r (ns.map D.int),.d (.int b),.d (.int z)])(_:0<=b)(_:b<=100)(_:1<=z)(_:z<=8)(_:∀ms:List Int,(ms.length:Int)=z->R (.l (ms.map D.int)))
inductive FL (ss:List S)(R:S->Prop)(U_:Str->Prop):Prop
 |mk (cs:Cs)(m s L:Rat)(sn sd ln ld:Int)(n:Nat)(_:ss=[.d (crv cs m),.d (tp sn sd),.d (tp ln ld)])(_:Ord cs)(_:n<=10000)(_:SzK n cs m)(_:Wq n sn sd s)(_:0<=s)(_:Wq n ln ld L)(_:0<=L)(_:∀A B:Int,Wq (28*n+23) A B (val cs m (s+L)-val cs m s)->R (.d (tp A B)))
inductive Fc (ss:List S)(R:S->Prop)(U_:Str->Prop):Prop
 |mk (cs:Cs)(m:Rat)(ds:Cs)(k:Rat)(_:ss=[.d (crv cs m),.d (crv ds k)])(_:(Fe cs m/\LS 41 45 68 cs m/\cs.length<=7))(_:K8 ds k)(_:∀rows:List D,rows.length<=1000->(∀x∈rows,PLr x)->R (.l rows))
inductive GW (ss:List S)(R:S->Prop)(U_:Str->Prop):Prop
 |mk (cs:Cs)(m:Rat)(ds:Cs)(k:Rat)(_:ss=[.d (crv cs m),.d (crv ds k)])(_:(Fe cs m/\LS 41 45 68 cs m/\cs.length<=7))(_:K8 ds k)(_:(∀s t,0<=s->0<=t->val ds k t<=val cs m (s+t)-val cs m s))(_:R (.d (.bl true)))
inductive D9 (ss:List S)(R:S->Prop)(U_:Str->Prop):Prop
 |mk (cs:Cs)(m L:Rat)(_:ss=[.d (crv cs m),.d (qd L)])(_:Fe cs m)(_:LS 41 45 68 cs m)(_:cs.length<=7)(_:Sz 100 L)(_:0<=L)(_:∀(A B:Int)(b:Rat),Wq 8731 A B b->0<=b->Sz 620 b->R (.d (tp A B)))
inductive E1 (ss:List S)(R:S->Prop)(U_:Str->Prop):Prop
 |mk (cs:Cs)(m:Rat)(c:Int)(_:ss=[.d (crv cs m),.d (.int c)])(_:0<cs.length)(_:cs.length<=1000)(_:(∀i,i<cs.length->Sz 41 (tt cs i)))(_:∀L:Rat,Sz 100 L->0<L->R (.d (qd L)))
inductive F4 (ss:List S)(R:S->Prop)(U_:Str->Prop):Prop
 |mk (cs:Cs)(m:Rat)(c:Int)(_:ss=[.d (crv cs m),.d (.int c)])(_:(Fe cs m/\LS 41 45 68 cs m/\cs.length<=7))(_:∀(ds:Cs)(k:Rat),K8 ds k->R (.d (crv ds k)))
inductive EB (ss:List S)(R:S->Prop)(U_:Str->Prop):Prop
 |mk (cs:Cs)(m:Rat)(ds:Cs)(k:Rat)(s t:Rat)(_:ss=[.d (crv cs m),.d (crv ds k),.d (.tup [qd s,qd (s+t)])])(_:(Fe cs m/\LS 41 45 68 cs m/\cs.length<=7))(_:K8 ds k)(_:Sz 2444 s)(_:Sz 2402 t)(_:0<=s)(_:0<=t)(_:val cs m (s+t)-val cs m s<val ds k t)(_:R (.d (.bl true)))
inductive D8 (ss:List S)(R:S->Prop)(U_:Str->Prop):Prop
 |mk (cs:Cs)(m:Rat)(_:ss=[.d (crv cs m)])(_:(Fe cs m/\LS 41 45 68 cs m/\cs.length<=7))(_:∀s:Rat,Sz 45 s->0<=s->R (.d (qd s)))
inductive FI (ss:List S)(R:S->Prop)(U_:Str->Prop):Prop
 |mk (ns:List Int)(cs:Cs)(m:Rat)(w:Int)(_:ss=[.r (ns.map D.int),.d (crv cs m),.d (.int w)])(_:(Fe cs m/\LS 41 45 68 cs m/\cs.length<=7))(_:(∀i,i<cs.length->Sz 68 (vv cs i)))(_:∀(ds:Cs)(k:Rat),K8 ds k->R (.d (crv ds k)))
abbrev T4:Sp3:=MD
inductive ID (ss:List S)(R:S->Prop)(U_:Str->Prop):Prop
 |mk (a b c d:Int)(p q:Rat)(k l:Nat)(_:ss=[.d (tp a b),.d (tp c d)])(_:Wq k a b p)(_:Wq l c d q)(_:k<=200000)(_:l<=200000)(_:R (.d (.bl (decide (p<q)))))
inductive C3 (ss:List S)(R:S->Prop)(U_:Str->Prop):Prop
 |mk (cs:Cs)(m:Rat)(_:ss=[.d (.tup (cs.map cd)),.d (qd m)])(_:0<cs.length)(_:cs.length<=100000)(_:SzC 3200 cs)(_:Up cs)(_:R (.l ((G7 cs m).map qd)))
section
variable {P:Program}{w:World}{K:W.Frag}{mg:Str->Option Value}{base:Heap}{f:Addr}{fd:FuncData}
variable {K_CurveError K_NoRatio K_NoCurve K_NoTime:Addr}
theorem Lf:Ad ["thing"] ["thing"] (Aa GB):=scN
variable (AL:mg "isinstance"=none)
variable (Lk:mg "int"=none)
variable (Io:mg "bool"=none)
include AL Lk Io in
theorem Le (F:Fun K "is_whole" "is_whole" GB f fd):Ap P w K mg base CX0 1 f fd ["thing"] (Ae K mg IA):=by
 refine fn3 F Lf (fun ss R U h=>?_) (fun cdv A outer s H E ss R U hr h=>?_)
 .obtain⟨a,rfl,_⟩:=h;rfl
 obtain⟨a,rfl,q⟩:=h
 refine#[_,(Bc (UL (Nm .int (vN 0) rfl AL rfl Lk qCE) (VH (Pr (Nm .bool (vN 0) rfl AL rfl Io qCA))))),?_]
 refine#[trivial,#[trivial,?_]]
 exact q
variable (DE:Cal P w K mg base (CXU P w) 1 "is_whole" ["thing"] IA)
theorem CZ:Ad ["one","other","great","small","rest"] ["one","other"] (Aa Iv):=scN
variable (Ia:mg "abs"=none)
include Ia in
theorem Nv (F:Fun K "divisor" "divisor" Iv f fd):Ap P w K mg base CX0 1 f fd ["one","other"] (Ae K mg Jl):=by
 refine fn3 F CZ (fun ss R U h=>?_) (fun cdv A outer s H E ss R U hr h=>?_)
 .obtain⟨a,b,rfl,_⟩:=h;rfl
 obtain⟨a,b,rfl,q⟩:=h
 refine#[_,(Ab (AK 2 CZ (Ir P1 rfl Ia qBK (a1 (vN 0))))
  (Ab (AK 3 CZ (Ir P1 rfl Ia qBK (a1 (vN 1))))
  (Ab (Gs PassesOwn.never (Ce VW (vN 3) Ac) (Ab (AK 4 CZ (Ak BZ (vN 2) (vN 3)))
  (Ab (AK 2 CZ (vN 3))
  (Af (AK 3 CZ (vN 4))))))
  (Af (DC (pv 2)))))),?_]
 refine#[fun m τ=>∃x y z,τ=[I a,I b,I x,I y,z]/\0<=x/\0<=y/\g x y=g a b/\m=y.toNat,#[_,_,_,_,rfl,?_,?_,UB a b,rfl],?_]
 .exact Pg a
 .exact Pg b
 rintro m τ ⟨x,y,z,rfl,h1,h2,h3,rfl⟩
 refine Na (fun c=>?_) (fun c=>?_)
 .refine#[c,(x.fmod y).toNat,?_,_,_,_,rfl,h2,?_,?_,rfl]
  .have:=qBU x (show 0<y from ())
   omega
  .exact qBZ x ()
  .rw[<-h3,qCm x h2]
   exact RH ()
 .subst c
  rw[Vw h1] at h3
  subst h3
  exact q
variable (Gq:Cal P w K mg base (CXU P w) 1 "divisor" ["one","other"] Jl)
theorem Kb:Ad ["top","bottom","common"] ["top","bottom"] (Aa LH):=scN
include DE Gq in
theorem QM (F:Fun K "ratio" "ratio" LH f fd):Ap P w K mg base CX0 2 f fd ["top","bottom"] (Ae K mg Mm):=by
 refine fn3 F Kb (fun ss R U h=>?_) (fun cdv A outer s H E ss R U hr h=>?_)
 .obtain⟨a,b,rfl,_⟩:=h;rfl
 obtain⟨a,b,rfl,hb,h1,h2,q⟩:=h
 refine#[_,(O1 (BQ (PW3.pt (PV (w_not (Bu (Ao hr DE (a1 (vN 0))))) (JQ (w_not (Bu (Ao hr DE (a1 (vN 1)))))))) (Af Pc) An)
  (Ab (BQ (Ce IM (vN 1) Ac) (Af Pc) An)
  (Ab (AK 2 Kb (Ao hr Gq (a2 (vN 0) (vN 1))))
  (B3 (BQ (Ce Kj (vN 1) Ac) (Af (AK 2 Kb (Ft (vN 2)))) An)
  (Bc (AH (a2 (Ak Bf (vN 0) (vN 2)) (Ak Bf (vN 1) (vN 2))))))))),?_]
 have hp:=Iw (a:=a) hb
 have hc:=Nj (a:=a) hb
 refine#[#[a,rfl,#[b,rfl,rfl]],?_]
 refine BI (fun e=>absurd e hb) (fun _=>?_)
 refine#[a,b,rfl,?_]
 refine#[fun τ=>τ=[I a,I b,I (cm a b)],?_,?_]
 .refine BI (fun e=>?_) (fun e=>?_)
  .have e':cm a b=-(g a b):=if_pos e
   rw[e']
   rfl
  .have e':cm a b=g a b:=if_neg e
   rw[e']
   rfl
 rintro τ rfl
 refine#[#[hc,Uu h1],#[hc,Uu h2],(by show 2<=1000;decide),?_]
 show R (.d (.tup [.int (a.fdiv (cm a b)),.int (b.fdiv (cm a b))]))
 rw[hp.1,hp.2]
 exact q
variable (A7:Cal P w K mg base (CXU P w) 2 "ratio" ["top","bottom"] Mm)
theorem So:Ad ["one","other"] ["one","other"] (Aa Pq):=scN
include A7 in
theorem SX (F:Fun K "plus" "plus" Pq f fd):Ap P w K mg base CX0 3 f fd ["one","other"] (Ae K mg Pk):=by
 refine fn3 F So (fun ss R U h=>?_) (fun cdv A outer s H E ss R U hr h=>?_)
 .obtain⟨p,q,k,l,rfl,_⟩:=h;rfl
 obtain⟨q1,q2,k,l,rfl,h1,h2,hk,q⟩:=h
 refine#[_,(Bc (Ao hr A7 (a2 (Ak AZ (Ak AB (vK 0) (vK 1)) (Ak AB (vK 1) (vK 0))) (Ak AB (vK 0) (vK 1))))),?_]
 have m1:=Aj h1.1 (Ax h2)
 have m2:=Aj h2.1 (Ax h1)
 have m3:=Aj (Ax h1) (Ax h2)
 rw[qB6 l k] at m2
 refine#[AD h1.1 (Ax h2) (),AD h2.1 (Ax h1) (),AD (Ax h1) (Ax h2) (),_,_,rfl,MV q1 q2,Ay (GO m1 m2) (),Ay m3 (),?_]
 rw[OI q1 q2]
 exact q
variable (B6:Cal P w K mg base (CXU P w) 3 "plus" ["one","other"] Pk)
theorem Qg:Ad ["one","other"] ["one","other"] (Aa Li):=scN
include A7 in
theorem Qh (F:Fun K "minus" "minus" Li f fd):Ap P w K mg base CX0 3 f fd ["one","other"] (Ae K mg My):=by
 refine fn3 F Qg (fun ss R U h=>?_) (fun cdv A outer s H E ss R U hr h=>?_)
 .obtain⟨p,q,k,l,rfl,_⟩:=h;rfl
 obtain⟨q1,q2,k,l,rfl,h1,h2,hk,q⟩:=h
 refine#[_,(Bc (Ao hr A7 (a2 (Ak Dx (Ak AB (vK 0) (vK 1)) (Ak AB (vK 1) (vK 0))) (Ak AB (vK 0) (vK 1))))),?_]
 have m1:=Aj h1.1 (Ax h2)
 have m2:=Aj h2.1 (Ax h1)
 have m3:=Aj (Ax h1) (Ax h2)
 rw[qB6 l k] at m2
 refine#[AD h1.1 (Ax h2) (),AD h2.1 (Ax h1) (),AD (Ax h1) (Ax h2) (),_,_,rfl,MV q1 q2,Ay (FV m1 m2) (),Ay m3 (),?_]
 rw[MC q1 q2]
 exact q
variable (Av:Cal P w K mg base (CXU P w) 3 "minus" ["one","other"] My)
theorem QF:Ad ["one","other"] ["one","other"] (Aa Lc):=scN
include A7 in
theorem QD (F:Fun K "times" "times" Lc f fd):Ap P w K mg base CX0 3 f fd ["one","other"] (Ae K mg Mz):=by
 refine fn3 F QF (fun ss R U h=>?_) (fun cdv A outer s H E ss R U hr h=>?_)
 .obtain⟨p,q,k,l,rfl,_⟩:=h;rfl
 obtain⟨q1,q2,k,l,rfl,h1,h2,hk,q⟩:=h
 refine#[_,(Bc (Ao hr A7 (a2 (Ak AB (vK 0) (vK 1)) (Ak AB (vK 0) (vK 1))))),?_]
 refine#[AD h1.1 h2.1 (),AD (Ax h1) (Ax h2) (),_,_,rfl,MV q1 q2,Ay (Aj h1.1 h2.1) (),Ay (Aj (Ax h1) (Ax h2)) (),?_]
 rw[Ms q1 q2]
 exact q
variable (Fj:Cal P w K mg base (CXU P w) 3 "times" ["one","other"] Mz)
theorem RX:Ad ["one","other"] ["one","other"] (Aa NV):=scN
include A7 in
theorem Sj (F:Fun K "over" "over" NV f fd):Ap P w K mg base CX0 3 f fd ["one","other"] (Ae K mg PN):=by
 refine fn3 F RX (fun ss R U h=>?_) (fun cdv A outer s H E ss R U hr h=>?_)
 .obtain⟨p,q,k,l,rfl,_⟩:=h;rfl
 obtain⟨q1,q2,k,l,rfl,h1,h2,hk,h0,q⟩:=h
 refine#[_,(Bc (Ao hr A7 (a2 (Ak AB (vK 0) (vK 1)) (Ak AB (vK 0) (vK 1))))),?_]
 refine#[AD h1.1 (Ax h2) (),AD (Ax h1) h2.1 (),_,_,rfl,Sz.den_ne (k:=0) h0,Ay (Aj h1.1 (Ax h2)) (),Ay (Aj (Ax h1) h2.1) (),?_]
 rw[NP q1 q2 h0]
 exact q
variable (HX:Cal P w K mg base (CXU P w) 3 "over" ["one","other"] PN)
theorem Mg:Ad ["one","other"] ["one","other"] (Aa JC):=scN
theorem Qi (F:Fun K "under" "under" JC f fd):Ap P w K mg base CX0 1 f fd ["one","other"] (Ae K mg Mw):=by
 refine fn3 F Mg (fun ss R U h=>?_) (fun cdv A outer s H E ss R U hr h=>?_)
 .obtain⟨p,q,k,l,rfl,_⟩:=h;rfl
 obtain⟨q1,q2,k,l,rfl,h1,h2,hk,q⟩:=h
 refine#[_,(Bc (N3 Kj (Ak AB (vK 0) (vK 1)) (Ak AB (vK 1) (vK 0)) (Jj _))),?_]
 refine#[AD h1.1 (Ax h2) (),AD h2.1 (Ax h1) (),?_]
 have e:decide (q1.num*(q2.den:Int)<q2.num*(q1.den:Int))=decide (q1<q2):=decide_eq_decide.mpr (lt_iff q1 q2)
 show R (.d (.bl (decide (q1.num*(q2.den:Int)<q2.num*(q1.den:Int)))))
 rw[e]
 exact q
variable (As:Cal P w K mg base (CXU P w) 1 "under" ["one","other"] Mw)
theorem LQ (F:Fun K "under" "under" JC f fd):Ap P w K mg base CX0 1 f fd ["one","other"] (Ae K mg ID):=by
 refine fn3 F Mg (fun ss R U h=>?_) (fun cdv A outer s H E ss R U hr h=>?_)
 .obtain⟨a,b,c,d,p,q,k,l,rfl,_⟩:=h;rfl
 obtain⟨a,b,c,d,p,q0,k,l,rfl,h1,h2,hk,hl,q⟩:=h
 refine#[_,(Bc (N3 Kj (Ak AB (vK 0) (vK 1)) (Ak AB (vK 1) (vK 0)) (Jj _))),?_]
 refine#[AD h1.la h2.lb (),AD h2.la h1.lb (),?_]
 show R (.d (.bl (decide (a*d<c*b))))
 rw[Wy h1 h2]
 exact q
variable (AQ:Cal P w K mg base (CXU P w) 1 "under" ["one","other"] ID)
theorem IP:Ad ["corners"] ["corners"] (Aa DP):=scN
variable (AI:mg "len"=none)
variable (gc_NOUGHT:GC K mg "NOUGHT" (.tup [(.int 0),(.int 1)]))
variable (ec_NoCurve:ExC K "NoCurve" K_NoCurve)
variable (m_NoCurve:mg "NoCurve"=some (.ref K_NoCurve))
include As AI gc_NOUGHT ec_NoCurve m_NoCurve in
theorem IW (F:Fun K "check_begin" "check_begin" DP f fd):Ap P w K mg base (CXU P w) 2 f fd ["corners"] (Ae K mg Fa):=by
 refine fnW (fun ss R U h=>?_) (fnU F IP (fun ss R U h=>?_) (fun cdv A outer s H E ss R U hr h xo=>?_))
 .obtain⟨x,cs,rfl,hx,hl,hz,q,qu⟩:=h
  rcases hx with rfl|rfl<;>exact#[_,cs,rfl,(.inl rfl),hl,hz,q,qu]
 .obtain⟨x,cs,rfl,_⟩:=h.1;rfl
 obtain⟨h,nl_⟩:=h
 obtain⟨x,cs,rfl,hx,hl,hz,q,qu⟩:=h
 refine#[_,(Ab (BQ (Ce IM (CU AI (vN 0)) Ac) (Af (Fx xo rfl Ld rfl ec_NoCurve m_NoCurve)) An)
  (Ab (BQ (Ce (Tq 1 (hu_ hr ∅)) (A3 (vK 0) Ac) (Kk rfl gc_NOUGHT)) (Af (Fx xo rfl Ld rfl ec_NoCurve m_NoCurve)) An)
  (Af (BQ (Bu (Ja xo hr As (a2 (A3 (vK 0) Ac) (Kk rfl gc_NOUGHT)))) (Af (Fx xo rfl Ld rfl ec_NoCurve m_NoCurve)) An)))),?_]
 obtain rfl:=IX hx (nl_ _ (by simp))
 refine BI (fun c=>?_) (fun c=>?_)
 .exact qu (fun z=>by have:=z.1;rw[qAa] at c;omega)
 have c0:0<cs.length:=by rw[qAa] at c;omega
 have a0:=BL (cs:=cs) (i:=0) 0 rfl c0
 have z0:=hz 0 c0
 refine atR a0 ?_
 refine#[rfl,rfl,neT (tt cs 0) 0 (fun c=>qu (fun z=>c z.2.1)) (fun e0=>?_)]
 refine atR a0 ?_
 refine#[_,0,_,_,rfl,z0.2,Sz.zero,∅,?_]
 refine BI (fun c=>qu (fun z=>absurd c (qAM.mpr z.2.2))) (fun c=>?_)
 exact q #[c0,e0,qAM.mp c]
variable (CY:Cal P w K mg base (CXU P w) 2 "check_begin" ["corners"] Fa)
theorem CT:Ad ["corners","number","ahead","corner"] ["corners"] (Aa EC):=scN
variable (AO:mg "range"=none)
include As AI ec_NoCurve m_NoCurve AO in
theorem J5 (F:Fun K "check_rise" "check_rise" EC f fd):Ap P w K mg base (CXU P w) 2 f fd ["corners"] (Ae K mg F8):=by
 refine fnW (fun ss R U h=>?_) (fnU F CT (fun ss R U h=>?_) (fun cdv A outer s H E ss R U hr h xo=>?_))
 .obtain⟨x,cs,rfl,hx,c0,hl,hz,q,qu⟩:=h
  rcases hx with rfl|rfl<;>exact#[_,cs,rfl,(.inl rfl),c0,hl,hz,q,qu]
 .obtain⟨x,cs,rfl,_⟩:=h.1;rfl
 obtain⟨h,nl_⟩:=h
 obtain⟨x,cs,rfl,hx,c0,hl,hz,q,qu⟩:=h
 refine#[_,(Af (Ox (Cb PassesOwn.leaving rfl (CG rfl AO (PA3.out (a2 Ac (CU AI (vN 0))))) (A9 (i:=1) CT.nd rfl (Or.inl rfl)) (D5.out (Ab (AK 2 CT (A3 (vN 0) (Ak Dx (vN 1) Ac)))
  (Ab (AK 3 CT (A3 (vN 0) (vN 1)))
  (Ab (BQ (w_not (Bu (Ja xo hr As (a2 (vK 2) (vK 3))))) (Af (Fx xo rfl Ld rfl ec_NoCurve m_NoCurve)) An)
  (Af (BQ (Bu (Ja xo hr As (a2 (vK 3) (vK 2)))) (Af (Fx xo rfl Ld rfl ec_NoCurve m_NoCurve)) An))))))))),?_]
 obtain rfl:=IX hx (nl_ _ (by simp))
 refine#[#[∅,∅,by rw[qAa];omega,by rw[qAa];omega],?_]
 refine#[fun n τ=>∃y0 y1 y2,τ=[some (.r (cs.map cd)),y0,y1,y2]/\Ris cs n,#[_,_,_,rfl,fun k hk=>absurd hk (qBG k)],?_,?_]
 .rintro n τ hn ⟨y0,y1,y2,rfl,hr⟩
  rw[qAa] at hn
  have n1:n+1<cs.length:=()
  have z0:=hz n ()
  have z1:=hz (n+1) n1
  refine atR (BL (cs:=cs) n () ()) ?_
  refine atR (BL (cs:=cs) (n+1) () n1) ?_
  refine#[_,_,_,_,rfl,z0.1,z1.1,∅,?_]
  refine Na (fun c=>qu (fun z=>c (z n () n1).1)) (fun lt=>?_)
  refine#[_,_,_,_,rfl,z1.2,z0.2,∅,?_]
  refine BI (fun c=>qu (fun z=>absurd c (qAM.mpr (z n () n1).2))) (fun c=>?_)
  refine#[_,_,_,rfl,fun k hk k1=>?_]
  by_cases e:k<n
  .exact hr k e k1
  .have e':k=n:=()
   subst e'
   exact#[lt,qAM.mp c]
 rintro τ ⟨y0,y1,y2,rfl,hr⟩
 rw[qAa,show((cs.length:Int)-1).toNat=cs.length-1 from ()] at hr
 exact q (fun k hk k1=>hr k () k1)
variable (Dn:Cal P w K mg base (CXU P w) 2 "check_rise" ["corners"] F8)
theorem G1:Ad ["one","other"] ["one","other"] (Aa C7):=scN
include Av HX in
theorem G4 (F:Fun K "slope_between" "slope_between" C7 f fd):Ap P w K mg base CX0 4 f fd ["one","other"] (Ae K mg D7):=by
 refine fn3 F G1 (fun ss R U h=>?_) (fun cdv A outer s H E ss R U hr h=>?_)
 .obtain⟨a,b,c,d,n,e,f,rfl,_⟩:=h;rfl
 obtain⟨a,b,c,d,n,e,f,rfl,hn,ha,hb,hc,hd,he,hf,hs,h0,q⟩:=h
 refine#[_,(Bc (Ao hr HX (a2 (Ao hr Av (a2 (vK 1) (vK 0))) (Ao hr Av (a2 (vK 1) (vK 0)))))),?_]
 refine#[d,b,n,n,rfl,hd,hb,(),?_]
 refine#[c,a,n,n,rfl,hc,ha,(),?_]
 exact#[d-b,c-a,f,e,rfl,hf,he,(),h0,q]
variable (AG:Cal P w K mg base (CXU P w) 4 "slope_between" ["one","other"] D7)
theorem BP:Ad ["points","last","slopes"] ["points","last"] (Aa Be):=scN
include AI AO AG in
theorem G6 (F:Fun K "slopes_behind" "slopes_behind" Be f fd):Ap P w K mg base CX0 5 f fd ["points","last"] (Ae K mg D6):=by
 refine fnW (fun ss R U h=>?_) (fn3 F BP (fun ss R U h=>?_) (fun cdv A outer s H E ss R U hr h=>?_))
 .obtain⟨x,cs,m,rfl,hx,c0,hl,hz,df,up,q⟩:=h
  rcases hx with rfl|rfl<;>exact#[_,cs,m,rfl,(.inl rfl),c0,hl,hz,df,up,q]
 .obtain⟨x,cs,m,rfl,_⟩:=h.1;rfl
 obtain⟨h,nl_⟩:=h
 obtain⟨x,cs,m,rfl,hx,c0,hl,hz,df,up,q⟩:=h
 refine#[_,(Ab (KC (i:=2) (N:=["number","points"]) (idx:=[0]) (A8.mk' (Aa Be) ["points","last","slopes"] rfl rfl (by decide +kernel)) rfl (CG rfl AO (PA3.out (a2 Ac (CU AI (vN 0))))) Gf (fun cl C s₀ H₀ fp=>Cm) (fun cl C s₀ H₀ fp=>(Ao hr AG (a2 (A3 (vN 1) (Ak Dx (vN 0) Ac)) (A3 (vN 1) (vN 0))))) BP.nd rfl (Or.inl rfl))
  (Ab (Fu (Bq (Fo qAD qAA qAB AU (pv 2) (AX (PE3.out (vN 1)) Bt))))
  (Af (DC (pv 2))))),?_]
 obtain rfl:=IX hx (nl_ _ (by simp))
 refine#[#[∅,∅,by rw[qAa];omega,by rw[qAa];omega],?_]
 have eN:((((cs.map cd).length:Nat):Int)-1).toNat=cs.length-1:=by rw[qAa];omega
 refine#[(List.range (cs.length-1)).map fun i=>some (qd (slp cs m i)),by rw[BF,eN,qAa,qAr],?_,?_,?_]
 .intro n x hx
  obtain⟨hn,rfl⟩:=Ek hx
  rw[eN] at hn
  have n1:n+1<cs.length:=()
  have z0:=hz n ()
  have z1:=hz (n+1) n1
  refine atR (BL (cs:=cs) n () ()) ?_
  refine atR (BL (cs:=cs) (n+1) () n1) ?_
  obtain⟨e,f,he,hf,hs⟩:=df n n1
  refine#[tt cs n,vv cs n,tt cs (n+1),vv cs (n+1),6400,e,f,rfl,∅,z0.1,z0.2,z1.1,z1.2,he,hf,hs,FP (up n n1),?_]
  show((List.range (cs.length-1)).map _)[n]? = _
  rw[qAc,qAE ()]
  show some (some (qd (slp cs m n)))=_
  rw[BN n1]
 .rw[BF,eN];omega
 refine#[?_,?_]
 .have:=qBT id ((List.range (cs.length-1)).map fun i=>some (qd (slp cs m i)))
  rw[qAa,qAr] at this
  omega
 show R (.l (_++[qd m]))
 rw[L0 cs m c0]
 exact q
variable (Cd:Cal P w K mg base (CXU P w) 5 "slopes_behind" ["points","last"] D6)
include AI AO AG in
theorem Fn (F:Fun K "slopes_behind" "slopes_behind" Be f fd):Ap P w K mg base CX0 5 f fd ["points","last"] (Ae K mg C3):=by
 refine fn3 F BP (fun ss R U h=>?_) (fun cdv A outer s H E ss R U hr h=>?_)
 .obtain⟨cs,m,rfl,_⟩:=h;rfl
 obtain⟨cs,m,rfl,c0,hl,hz,up,q⟩:=h
 refine#[_,(Ab (KC (i:=2) (N:=["number","points"]) (idx:=[0]) (A8.mk' (Aa Be) ["points","last","slopes"] rfl rfl (by decide +kernel)) rfl (CG rfl AO (PA3.out (a2 Ac (CU AI (vN 0))))) Gf (fun cl C s₀ H₀ fp=>Cm) (fun cl C s₀ H₀ fp=>(Ao hr AG (a2 (A3 (vN 1) (Ak Dx (vN 0) Ac)) (A3 (vN 1) (vN 0))))) BP.nd rfl (Or.inl rfl))
  (Ab (Fu (Bq (Fo qAD qAA qAB AU (pv 2) (AX (PE3.out (vN 1)) Bt))))
  (Af (DC (pv 2))))),?_]
 have df:=Df.of hz ∅
 refine#[#[∅,∅,by rw[qAa];omega,by rw[qAa];omega],?_]
 have eN:((((cs.map cd).length:Nat):Int)-1).toNat=cs.length-1:=by rw[qAa];omega
 refine#[(List.range (cs.length-1)).map fun i=>some (qd (slp cs m i)),by rw[BF,eN,qAa,qAr],?_,?_,?_]
 .intro n x hx
  obtain⟨hn,rfl⟩:=Ek hx
  rw[eN] at hn
  have n1:n+1<cs.length:=()
  have z0:=hz n ()
  have z1:=hz (n+1) n1
  refine atR (BL (cs:=cs) n () ()) ?_
  refine atR (BL (cs:=cs) (n+1) () n1) ?_
  obtain⟨e,f,he,hf,hs⟩:=df n n1
  refine#[tt cs n,vv cs n,tt cs (n+1),vv cs (n+1),3200,e,f,rfl,∅,z0.1,z0.2,z1.1,z1.2,he,hf,hs,FP (up n n1),?_]
  show((List.range (cs.length-1)).map _)[n]? = _
  rw[qAc,qAE ()]
  show some (some (qd (slp cs m n)))=_
  rw[BN n1]
 .rw[BF,eN];omega
 refine#[?_,?_]
 .have:=qBT id ((List.range (cs.length-1)).map fun i=>some (qd (slp cs m i)))
  rw[qAa,qAr] at this
  omega
 show R (.l (_++[qd m]))
 rw[L0 cs m c0]
 exact q
variable (Ai:Cal P w K mg base (CXU P w) 5 "slopes_behind" ["points","last"] C3)
theorem Hi:Ad ["corners","last","slopes","kept","number"] ["corners","last"] (Aa LA):=scN
variable (BH:mg "tuple"=none)
include As AI gc_NOUGHT ec_NoCurve m_NoCurve CY AO Dn Cd BH in
theorem QC (F:Fun K "curve" "curve" LA f fd):Ap P w K mg base (CXU P w) 6 f fd ["corners","last"] (Ae K mg ML):=by
 refine fnW (fun ss R U h=>?_) (fnU F Hi (fun ss R U h=>?_) (fun cdv A outer s H E ss R U hr h xo=>?_))
 .obtain⟨x,cs,m,rfl,hx,hz,q,qu⟩:=h
  rcases hx with rfl|rfl<;>exact#[_,cs,m,rfl,(.inl rfl),hz,q,qu]
 .obtain⟨x,cs,m,rfl,_⟩:=h.1;rfl
 obtain⟨h,nl_⟩:=h
 obtain⟨x,cs,m,rfl,hx,hz,q,qu⟩:=h
 refine#[_,(Ab (Ml (Ja xo hr CY (a1 (vN 0))))
  (Ab (Ml (Ja xo hr Dn (a1 (vN 0))))
  (Ab (BQ (Bu (Ja xo hr As (a2 (vN 1) (Kk rfl gc_NOUGHT)))) (Af (Fx xo rfl Ld rfl ec_NoCurve m_NoCurve)) An)
  (Ab (AK 2 Hi (Ja xo hr Cd (a2 (vN 0) (vN 1))))
  (Ab (AK 3 Hi (GG (a1 (vK 0))))
  (Ab (Ox (Cb PassesOwn.leaving rfl (CG rfl AO (PA3.out (a2 Ac (CU AI (vN 0))))) (A9 (i:=4) Hi.nd rfl (Or.inl rfl)) (D5.out (Af (BQ (Ce (Tq 1 (hu_ hr ∅)) (A3 (vN 2) (vN 4)) (A3 (vN 2) (Ak Dx (vN 4) Ac))) (Af (Fu (Bq (Fo qAD qAA qAB AU (pv 3) (AX (PE3.out (A3 (vN 0) (vN 4))) Bt))))) An)))))
  (Bc (AH (a2 (Lv (vN 3) rfl BH) (vN 1)))))))))),?_]
 obtain rfl:=IX hx (nl_ _ (by simp))
 have hl:=hz.len
 refine#[_,cs,rfl,Or.inl rfl,hl,hz.cs,fun hb=>?_,fun nb=>qu (fun z=>nb #[z.1.ne,z.1.t0,z.1.v0])]
 refine#[_,cs,rfl,Or.inl rfl,hb.1,hl,hz.cs,fun hr=>?_,fun nr=>qu (fun z=>nr (fun k _ k1=>#[z.1.up k k1,z.1.vu k k1]))]
 refine#[m,0,_,_,rfl,hz.m,Sz.zero,∅,?_]
 refine BI (fun c=>qu (fun z=>absurd c (qAM.mpr z.2))) (fun c=>?_)
 have hm:0<=m:=qAM.mp c
 have c0:=hb.1
 have ho:Ord cs:=#[hb.1,hb.2.1,hb.2.2,fun k k1=>(hr k () k1).1,fun k k1=>(hr k () k1).2]
 refine#[_,cs,m,rfl,Or.inl rfl,c0,hl,hz.cs,hz.df,ho.up,?_]
 refine atR (BL (cs:=cs) (i:=0) 0 rfl c0) ?_
 refine#[(by show 1<=1000;decide),?_]
 refine#[#[∅,∅,by rw[qAa];omega,by rw[qAa];omega],?_]
 refine#[fun n τ=>∃y,τ=[some (.r (cs.map cd)),some (.d (qd m)),some (.l ((G7 cs m).map qd)),some (.l ((kp cs m n).map cd)),y],#[_,rfl],?_,?_]
 .rintro n τ hn ⟨y,rfl⟩
  rw[qAa] at hn
  have n1:n+1<cs.length:=()
  refine atR (Nh (n+1) () n1) ?_
  refine atR (Nh n () ()) ?_
  refine#[rfl,rfl,neT (slp cs m (n+1)) (slp cs m n) (fun c=>?_) (fun c=>?_)]
  .refine atR (BL (cs:=cs) (n+1) () n1) ?_
   refine#[?_,some (.d (.int (1+n*1))),?_]
   .rw[qAa]
    have:=L6 cs m n
    omega
   .rw[Pb (fun z=>c z.symm),qAO]
    rfl
  .refine#[some (.d (.int (1+n*1))),?_]
   rw[H0 c.symm]
   rfl
 rintro τ ⟨y,rfl⟩
 rw[qAa,show((cs.length:Int)-1).toNat=cs.length-1 from ()]
 exact#[(by show 2<=1000;decide),q #[ho,hm]]
variable (Dr:Cal P w K mg base (CXU P w) 6 "curve" ["corners","last"] ML)
theorem Sv:Ad ["value","slope"] ["value","slope"] (Aa Oc):=scN
include gc_NOUGHT Dr in
theorem Tn (F:Fun K "heap" "heap" Oc f fd):Ap P w K mg base (CXU P w) 7 f fd ["value","slope"] (Ae K mg OB):=by
 refine fnU F Sv (fun ss R U h=>?_) (fun cdv A outer s H E ss R U hr h xo=>?_)
 .obtain⟨v,s,rfl,_⟩:=h;rfl
 obtain⟨v,s,rfl,v0,s0,hv,hs,q⟩:=h
 refine#[_,(Bc (Ja xo hr Dr (a2 (GG (a1 (AH (a2 (Kk rfl gc_NOUGHT) (vN 0))))) (vN 1)))),?_]
 refine#[(by show 2<=1000;decide),(by show 1<=1000;decide),?_]
 exact#[_,[(0,v)],s,rfl,Or.inr rfl,SzK.d (n:=2000) #[(by show 1<=100000;decide),SzC.one ∅ hv,hs] ∅,fun _=>q,fun z=>absurd #[Ord.one v0,s0] z]
variable (HC:Cal P w K mg base (CXU P w) 7 "heap" ["value","slope"] OB)
theorem Ki:Ad ["t"] ["t"] (Aa Ei):=scN
variable (ec_NoTime:ExC K "NoTime" K_NoTime)
variable (m_NoTime:mg "NoTime"=some (.ref K_NoTime))
include As gc_NOUGHT ec_NoTime m_NoTime in
theorem JN (F:Fun K "check_time" "check_time" Ei f fd):Ap P w K mg base (CXU P w) 2 f fd ["t"] (Ae K mg Gm):=by
 refine fnU F Ki (fun ss R U h=>?_) (fun cdv A outer s H E ss R U hr h xo=>?_)
 .obtain⟨t,n,rfl,_⟩:=h;rfl
 obtain⟨t,n,rfl,hn,ht,q,qu⟩:=h
 refine#[_,(Af (BQ (Bu (Ja xo hr As (a2 (vN 0) (Kk rfl gc_NOUGHT)))) (Af (Fx xo rfl Ld rfl ec_NoTime m_NoTime)) An)),?_]
 refine#[t,0,_,_,rfl,ht,Sz.zero,(),?_]
 exact BI (fun c=>qu (qBe.mpr c)) (fun c=>q (qAM.mp c))
variable (Bv:Cal P w K mg base (CXU P w) 2 "check_time" ["t"] Gm)
theorem Bj:Ad ["corners","holds","low","high","middle"] ["corners","holds"] (Aa DV):=scN
include AI in
theorem IK (F:Fun K "count_while" "count_while" DV f fd):M1 P w K mg base 5 4 f fd ["corners","holds"] Ff:=by
 refine XE (fun a dom p ss R U h=>?_) (fnL F Bj (fun a dom p ss R U h=>?_) (fun cdv A outer s H E a dom p ss R U hr hL h=>?_))
 .obtain⟨x,xs,n,rfl,hx,hl,hn,hp,q⟩:=h
  rcases hx with rfl|rfl|rfl
  .exact#[_,xs,n,rfl,(.inl rfl),hl,hn,hp,q]
  all_goals exact#[_,xs,n,rfl,(.inr (.inl rfl)),hl,hn,hp,q]
 .obtain⟨x,xs,n,rfl,_⟩:=h.1;rfl
 obtain⟨h,nl_⟩:=h
 obtain⟨x,xs,n,rfl,hx,hl,hn,hp,q⟩:=h
 refine#[_,(Ab (AK 2 Bj Ac)
  (Ab (AK 3 Bj (CU AI (vN 0)))
  (Ab (Gs PassesOwn.never (Ce Kj (vN 2) (vN 3)) (Ab (AK 4 Bj (Ak Bf (Ak AZ (vN 2) (vN 3)) Ac))
  (Af (BQ (Bu (Tp hL (hr.mono ∅) (pv 1) (A3 (vN 0) (vN 4)))) (Af (AK 2 Bj (Ak AZ (vN 4) Ac))) (Af (AK 3 Bj (vN 4)))))))
  (Af (DC (pv 2)))))),?_]
 replace hx:=hx.imp_right fun z=>IX z (nl_ _ (by simp))
 rcases hx with rfl|rfl
 all_goals
  first|refine#[fun m τ=>∃(lo hi:Int)(y:Option S),τ=[some (.d (.tup xs)),some (.d (.ref a)),I lo,I hi,y]/\0<=lo/\lo<=n/\(n:Int)<=hi/\hi<=xs.length/\m=(hi-lo).toNat,#[_,_,_,_,rfl,∅,(),(),(),rfl],?_]|refine#[fun m τ=>∃(lo hi:Int)(y:Option S),τ=[some (.r xs),some (.d (.ref a)),I lo,I hi,y]/\0<=lo/\lo<=n/\(n:Int)<=hi/\hi<=xs.length/\m=(hi-lo).toNat,#[_,_,_,_,rfl,∅,(),(),(),rfl],?_]
  rintro m τ ⟨lo,hi,y,rfl,h1,h2,h3,h4,rfl⟩
  refine BI (fun c=>?_) (fun c=>?_)
  .have d1:lo<=(lo+hi).fdiv 2/\(lo+hi).fdiv 2<hi:=by
    rw[qBd _ ∅]
    exact Uy c
   refine#[#[nz2,C9 ∅],?_]
   generalize (lo+hi).fdiv 2=mid at d1
   have m0:0<=mid:=Int.le_trans h1 d1.1
   have em:mid=((mid.toNat:Nat):Int):=(Int.toNat_of_nonneg m0).symm
   have ml:mid.toNat<xs.length:=Xy h1 d1.1 d1.2 h4
   have hx:xs[mid.toNat]? = some xs[mid.toNat]:=qAb ml
   have b:atI xs mid=some xs[mid.toNat]:=by
    have:=atI_nat ml
    rw[<-em] at this
    rw[this]
    exact hx
   obtain⟨dm,ep⟩:=hp _ _ hx
   refine#[rfl,?_]
   refine atR b ?_
   refine#[dm,?_]
   rw[ep]
   refine BI (fun e=>?_) (fun e=>?_)
   .exact#[(hi-(mid+1)).toNat,(),_,_,_,rfl,Int.add_nonneg m0 ∅,(),h3,h4,rfl]
   .exact#[(mid-lo).toNat,XD d1.2 d1.1,_,_,_,rfl,h1,h2,(),(),rfl]
  .have e:lo=n:=()
   subst e
   exact q
variable (Az:W4 P w K mg base 5 4 "count_while" ["corners","holds"] Ff)
theorem LF:Ad ["f","t"] ["f","t"] (Aa EM):=scN
include As Bv Az in
theorem LC (F:Fun K "piece_at" "piece_at" EM f fd){cA cT:Addr}(ht_:W.tabIn K "piece_at"=some (cA,cT)) (hn_:rA K "piece_at" f) (hp_:(PyProof.Rows.recsOf P).any (fun d=>d.name == "piece_at")=true):Ap P w K mg base (CXU P w) 6 f fd ["f","t"] (Ae K mg HN):=by
 refine XG ht_ hn_ F LF (fun ss R U h=>?_) (fun cdv A outer s H E ss R U ec hr h xo=>?_)
 .obtain⟨cs,m,t,n,rfl,_⟩:=h;rfl
 subst ec
 obtain⟨cs,m,t,n,rfl,c0,hl,t0,up,hn,hz,ht,q,qu⟩:=h
 refine#[_,(Ab (Ml (Ja xo hr Bv (a1 (vN 1))))
  (Bc (Ak Dx (He (x:="corner") Az (hr.mono ∅) rfl ht_ hp_ rfl (A8.mk' (Aa EM) ["f","t"] rfl rfl (by decide +kernel) (N:=["corner","t"]) (idx:=[1])) (vK 0) (fun cl nm a cdv A outer s H hr=>(Pr (Ao hr As (a2 (vN 1) (vK 0)))))) Ac))),?_]
 refine#[t,n,rfl,hn,ht,fun c'=>?_,fun c=>qu c]
 have h0:tt cs 0<=t:=by rw[t0];exact c'
 refine#[fun x=>∃k,k<cs.length/\x=.tup [qd (tt cs k),qd (vv cs k)],fun x=>!decide (t<tOf x),?_,?_]
 .rintro x ⟨k,hk,rfl⟩
  refine#[t,tt cs k,_,_,rfl,ht,(hz k hk).1,(),?_]
  show S.d (.bl (!decide (t<tt cs k)))=.d (.bl (!decide (t<tOf (.tup [qd (tt cs k),qd (vv cs k)]))))
  rw[Rx]
 intro a
 refine#[_,_,plc cs t cs.length+1,rfl,Or.inl rfl,by rw[qAa];exact hl,by rw[qAa];exact Ic c0 _ (qAe _),fun i x hx=>?_,?_]
 .obtain⟨hi,rfl⟩:=D0 hx
  refine#[#[i,hi,rfl],?_]
  show(!decide (t<tOf (.tup [qd (tt cs i),qd (vv cs i)])))=_
  rw[Rx]
  exact Ts up h0 hi
 show R (.d (.int (((plc cs t cs.length+1:Nat):Int)-1)))
 rw[show(((plc cs t cs.length+1:Nat):Int)-1)=((plc cs t cs.length:Nat):Int) from ()]
 exact q c'
variable (ER:Cal P w K mg base (CXU P w) 6 "piece_at" ["f","t"] HN)
theorem DF:Ad ["f","number","corners"] ["f","number"] (Aa CJ):=scN
include AI AG in
theorem Gy (F:Fun K "slope_of_piece" "slope_of_piece" CJ f fd):Ap P w K mg base CX0 5 f fd ["f","number"] (Ae K mg DG):=by
 refine fn3 F DF (fun ss R U h=>?_) (fun cdv A outer s H E ss R U hr h=>?_)
 .obtain⟨cs,m,k,rfl,_⟩:=h;rfl
 obtain⟨cs,m,k,rfl,hk,hl,up,hz,df,q⟩:=h
 refine#[_,(Ab (AK 2 DF (vK 0))
  (Ab (BQ (Ce IM (vN 1) (Ak Dx (CU AI (vN 2)) Ac)) (Bc (vK 0)) An)
  (Bc (Ao hr AG (a2 (A3 (vN 2) (vN 1)) (A3 (vN 2) (Ak AZ (vN 1) Ac))))))),?_]
 refine BI (fun c=>?_) (fun c=>?_)
 .rw[qAa] at c
  rw[AW ()] at q
  exact q
 rw[qAa] at c
 have k1:k+1<cs.length:=()
 refine atR (OG hk) ?_
 refine atR (BL (cs:=cs) (k+1) () k1) ?_
 obtain⟨e,f,he,hf,hs⟩:=df k k1
 refine#[_,_,_,_,6400,e,f,rfl,∅,(hz k hk).1,(hz k hk).2,(hz _ k1).1,(hz _ k1).2,he,hf,hs,FP (up k k1),?_]
 rw[BN k1] at q
 exact q
variable (BO:Cal P w K mg base (CXU P w) 5 "slope_of_piece" ["f","number"] DG)
theorem Fh:Ad ["f","t","number","corner"] ["f","t"] (Aa GN):=scN
include B6 Av Fj ER BO in
theorem LP (F:Fun K "value_at" "value_at" GN f fd):Ap P w K mg base (CXU P w) 7 f fd ["f","t"] (Ae K mg HW):=by
 refine fnU F Fh (fun ss R U h=>?_) (fun cdv A outer s H E ss R U hr h xo=>?_)
 .obtain⟨cs,m,t,a,b,c,n,rfl,_⟩:=h;rfl
 obtain⟨cs,m,t,a,b,c,n,rfl,o,z,hl,h1,h4,hn,h2,ht,q,qu⟩:=h
 refine#[_,(Ab (AK 2 Fh (Ja xo hr ER (a2 (vN 0) (vN 1))))
  (Ab (AK 3 Fh (A3 (vK 0) (vN 2)))
  (Ab (BQ (Ce (Sn 1 (hu_ hr ∅)) (vK 3) (vN 1)) (Bc (vK 3)) An)
  (Bc (Ja xo hr B6 (a2 (vK 3) (Ja xo hr Fj (a2 (Ja xo hr BO (a2 (vN 0) (vN 2))) (Ja xo hr Av (a2 (vN 1) (vK 3))))))))))),?_]
 have c0:=o.ne
 have hz:=z.szk o hl (qAe _)
 refine#[cs,m,t,6000,rfl,c0,hl,o.t0,o.up,∅,hz.cs.mono h1,ht.mono hn,fun h=>?_,fun h=>qu h]
 have q':R (.d (qd (vv cs (plc cs t cs.length)+slp cs m (plc cs t cs.length)*(t-tt cs (plc cs t cs.length))))):=q h
 have hk:plc cs t cs.length<cs.length:=Ic c0 _ (qAe _)
 generalize plc cs t cs.length=k at q' hk
 have zk:=hz.cs k hk
 have tk:=z.tm k hk
 refine atR (OG hk) ?_
 refine#[rfl,rfl,eqT (tt cs k) t (fun e=>?_) (fun e=>?_)]
 .rw[show vv cs k+slp cs m k*(t-tt cs k)=vv cs k by rw[e];grind] at q'
  exact q'
 refine#[cs,m,k,rfl,hk,hl,o.up,hz.cs.mono (),z.df o h4,?_]
 refine#[t,tt cs k,n,a,rfl,ht,tk,(),?_]
 have zs:=(z.ln o k hk).1
 refine#[_,_,_,_,rfl,zs,ht.sub tk,(),?_]
 exact#[_,_,_,_,rfl,zk.2,zs.mul (ht.sub tk),(),q']
variable (BE:Cal P w K mg base (CXU P w) 7 "value_at" ["f","t"] HW)
theorem Dd:Ad ["f","slopes"] ["f"] (Aa BA):=scN
include As AI AO Ai in
theorem FQ (F:Fun K "steeper_corners" "steeper_corners" BA f fd):Ap P w K mg base CX0 6 f fd ["f"] (Ae K mg Dl):=by
 refine fn3 F Dd (fun ss R U h=>?_) (fun cdv A outer s H E ss R U hr h=>?_)
 .obtain⟨cs,m,a,b,c,rfl,_⟩:=h;rfl
 obtain⟨cs,m,a,b,c,rfl,o,z,hs,hl,q⟩:=h
 refine#[_,(Ab (AK 1 Dd (Ao hr Ai (a2 (vK 0) (vK 0))))
  (Bc (Fd (N:=["number","f","slopes"]) (idx:=[0,1]) (A8.mk' (Aa BA) ["f","slopes"] rfl rfl (by decide +kernel)) rfl (CG rfl AO (PA3.out (a2 Ac (CU AI (vN 1))))) Gf (fun cl C s₀ H₀ fp=>(NO (Bu (Ao hr As (a2 (A3 (vN 2) (Ak Dx (vN 0) Ac)) (A3 (vN 2) (vN 0))))))) (fun cl C s₀ H₀ fp=>(A3 (vK 1) (vN 0)))))),?_]
 have kc:SzK 1800 cs m:=z.szk o () hs
 have n0:=o.ne
 refine#[cs,m,rfl,o.ne,(),kc.cs.mono ∅,o.up,?_]
 have eN:((((G7 cs m).map qd).length:Nat):Int)=(cs.length:Int):=by rw[qAa,CS]
 have eT:((((G7 cs m).map qd).length:Nat)-1:Int).toNat=cs.length-1:=by rw[eN];omega
 refine#[#[∅,∅,(),()],?_]
 refine#[(List.range (cs.length-1)).map fun n=>if decide (slp cs m n<slp cs m (n+1))=true then some (cd (tt cs (n+1),vv cs (n+1))) else none,?_,?_,?_,?_]
 .rw[BF,qAa,qAr,eT]
 .intro n x hx
  obtain⟨hn,rfl⟩:=Ek hx
  rw[eT] at hn
  have z1:=(z.ln o n ()).1
  have z2:=(z.ln o (n+1) ()).1
  refine atR (Nh (cs:=cs) (m:=m) n () ()) ?_
  refine atR (Nh (cs:=cs) (m:=m) (n+1) () ()) ?_
  refine#[_,_,b,b,rfl,z1,z2,(),?_]
  have g:((List.range (cs.length-1)).map fun n=>if decide (slp cs m n<slp cs m (n+1))=true then some (cd (tt cs (n+1),vv cs (n+1))) else none)[n]? = some (if decide (slp cs m n<slp cs m (n+1))=true then some (cd (tt cs (n+1),vv cs (n+1))) else none):=by
   rw[qAc,qAE hn]
   rfl
  refine BI (fun c=>?_) (fun c=>?_)
  .refine atR (BL (cs:=cs) (n+1) () ()) ?_
   rw[if_pos (decide_eq_true c)] at g
   exact g
  .rw[if_neg (by simpa using c)] at g
   exact g
 .rw[BF,eT];omega
 rw[LB (p:=fun n=>decide (slp cs m n<slp cs m (n+1))) (f:=fun k=>cd (tt cs k,vv cs k))]
 exact q
variable (BC:Cal P w K mg base (CXU P w) 6 "steeper_corners" ["f"] Dl)
theorem Dc:Ad ["f","slopes"] ["f"] (Aa BG):=scN
include As AI AO Ai in
theorem F9 (F:Fun K "flatter_corners" "flatter_corners" BG f fd):Ap P w K mg base CX0 6 f fd ["f"] (Ae K mg Dk):=by
 refine fn3 F Dc (fun ss R U h=>?_) (fun cdv A outer s H E ss R U hr h=>?_)
 .obtain⟨cs,m,a,b,c,rfl,_⟩:=h;rfl
 obtain⟨cs,m,a,b,c,rfl,o,z,hs,hl,q⟩:=h
 refine#[_,(Ab (AK 1 Dc (Ao hr Ai (a2 (vK 0) (vK 0))))
  (Bc (Fd (N:=["number","f","slopes"]) (idx:=[0,1]) (A8.mk' (Aa BG) ["f","slopes"] rfl rfl (by decide +kernel)) rfl (CG rfl AO (PA3.out (a2 Ac (CU AI (vN 1))))) Gf (fun cl C s₀ H₀ fp=>(NO (Bu (Ao hr As (a2 (A3 (vN 2) (vN 0)) (A3 (vN 2) (Ak Dx (vN 0) Ac))))))) (fun cl C s₀ H₀ fp=>(A3 (vK 1) (vN 0)))))),?_]
 have kc:SzK 1800 cs m:=z.szk o () hs
 have n0:=o.ne
 refine#[cs,m,rfl,o.ne,(),kc.cs.mono ∅,o.up,?_]
 have eN:((((G7 cs m).map qd).length:Nat):Int)=(cs.length:Int):=by rw[qAa,CS]
 have eT:((((G7 cs m).map qd).length:Nat)-1:Int).toNat=cs.length-1:=by rw[eN];omega
 refine#[#[∅,∅,(),()],?_]
 refine#[(List.range (cs.length-1)).map fun n=>if decide (slp cs m (n+1)<slp cs m n)=true then some (cd (tt cs (n+1),vv cs (n+1))) else none,?_,?_,?_,?_]
 .rw[BF,qAa,qAr,eT]
 .intro n x hx
  obtain⟨hn,rfl⟩:=Ek hx
  rw[eT] at hn
  have z1:=(z.ln o n ()).1
  have z2:=(z.ln o (n+1) ()).1
  refine atR (Nh (cs:=cs) (m:=m) (n+1) () ()) ?_
  refine atR (Nh (cs:=cs) (m:=m) n () ()) ?_
  refine#[_,_,b,b,rfl,z2,z1,(),?_]
  have g:((List.range (cs.length-1)).map fun n=>if decide (slp cs m (n+1)<slp cs m n)=true then some (cd (tt cs (n+1),vv cs (n+1))) else none)[n]? = some (if decide (slp cs m (n+1)<slp cs m n)=true then some (cd (tt cs (n+1),vv cs (n+1))) else none):=by
   rw[qAc,qAE hn]
   rfl
  refine BI (fun c=>?_) (fun c=>?_)
  .refine atR (BL (cs:=cs) (n+1) () ()) ?_
   rw[if_pos (decide_eq_true c)] at g
   exact g
  .rw[if_neg (by simpa using c)] at g
   exact g
 .rw[BF,eT];omega
 rw[LB (p:=fun n=>decide (slp cs m (n+1)<slp cs m n)) (f:=fun k=>cd (tt cs k,vv cs k))]
 exact q
variable (AR:Cal P w K mg base (CXU P w) 6 "flatter_corners" ["f"] Dk)
theorem HY:Ad ["f"] ["f"] (Aa Cv):=scN
variable (P6:mg "max"=none)
include Ai P6 in
theorem Il (F:Fun K "steep_enough" "steep_enough" Cv f fd):Ap P w K mg base CX0 6 f fd ["f"] (Ae K mg EA):=by
 refine fn3 F HY (fun ss R U h=>?_) (fun cdv A outer s H E ss R U hr h=>?_)
 .obtain⟨cs,m,rfl,_⟩:=h;rfl
 obtain⟨cs,m,rfl,h,q⟩:=h
 refine#[_,(Bc (AH (a2 (Ak AZ (UK rfl (Fd (N:=["slope"]) (idx:=[]) (A8.mk' (Aa Cv) ["f"] rfl rfl (by decide +kernel)) rfl (Bp (PE3.out (Ao hr Ai (a2 (vK 0) (vK 0))))) Du (fun cl C s₀ H₀ fp=>Cm) (fun cl C s₀ H₀ fp=>(Ak Bf (vK 0) (vK 0)))) rfl P6) Ac) Ac))),?_]
 obtain⟨r,z,lc,_⟩:=h
 have o:=r.o
 have hz:=z.szk (n:=155) o () ∅
 refine#[cs,m,rfl,o.ne,(),hz.cs.mono ∅,o.up,?_]
 refine#[(G7 cs m).map fun q=>some (.int (q.num.fdiv (q.den:Int))),by rw[qAa,qAa],fun i x hx=>?_,by rw[qAa,CS];omega,?_]
 .obtain⟨p,hp,rfl⟩:=Co hx
  have d0:=den_pos p
  obtain⟨j,hj,rfl⟩:∃j,j<cs.length/\slp cs m j=p:=by
   have:=qAF hp
   unfold G7 at this
   obtain⟨j,hj,e⟩:=qAH.mp this
   exact#[j,qAI.mp hj,e]
  refine#[#[(),Uu (Ay (z.ln o j hj).1.1 ∅)],?_]
  show((G7 cs m).map _)[i]? = _
  rw[qAc,hp]
  rfl
 rw[Ey (G7 cs m) (fun q=>D.int (q.num.fdiv (q.den:Int)))]
 refine#[flo cs m,by unfold flo;rw[qBa];rfl,by unfold flo;rw[qAa,CS];exact o.ne,fun k k1 k2=>?_]
 refine#[(by show 2<=1000;decide),?_]
 have q:R (.d (qd ((stp cs m:Int):Rat))):=q
 rw[Rb k1 k2] at q
 exact q
variable (Bd:Cal P w K mg base (CXU P w) 6 "steep_enough" ["f"] EA)
theorem Lu:Ad ["f","g"] ["f","g"] (Aa Gx):=scN
include As in
theorem Lq (F:Fun K "outgrows" "outgrows" Gx f fd):Ap P w K mg base CX0 2 f fd ["f","g"] (Ae K mg HB):=by
 refine fn3 F Lu (fun ss R U h=>?_) (fun cdv A outer s H E ss R U hr h=>?_)
 .obtain⟨cs,m,ds,k,rfl,_⟩:=h;rfl
 obtain⟨cs,m,ds,k,rfl,zm,zk,q⟩:=h
 refine#[_,(Bc (Ao hr As (a2 (vK 1) (vK 0)))),?_]
 exact#[k,m,_,_,rfl,zk,zm,∅,q]
variable (Ci:Cal P w K mg base (CXU P w) 2 "outgrows" ["f","g"] HB)
theorem MW:Ad ["point","slope","height"] ["point","slope","height"] (Aa HF):=scN
include B6 Av HX in
theorem Nc (F:Fun K "time_of" "time_of" HF f fd):Ap P w K mg base CX0 4 f fd ["point","slope","height"] (Ae K mg Jp):=by
 refine fn3 F MW (fun ss R U h=>?_) (fun cdv A outer s H E ss R U hr h=>?_)
 .obtain⟨a,b,s,h,n,p,l,k,rfl,_⟩:=h;rfl
 obtain⟨a,b,s,h,n,p,l,k,rfl,ha,hb,hh,hs,s0,hl,q⟩:=h
 refine#[_,(Bc (Ao hr B6 (a2 (vK 0) (Ao hr HX (a2 (Ao hr Av (a2 (vN 2) (vK 0))) (vN 1)))))),?_]
 refine#[h,b,l,p,rfl,hh,hb,(),?_]
 refine#[h-b,s,_,k,rfl,hh.sub hb,hs,(),s0,?_]
 exact#[a,_,n,_,rfl,ha,(hh.sub hb).div hs s0,(),q]
variable (F3:Cal P w K mg base (CXU P w) 4 "time_of" ["point","slope","height"] Jp)
theorem JT:Ad ["rows"] ["rows"] (Aa Dj):=scN
include Av in
theorem JV (F:Fun K "gap_points" "gap_points" Dj f fd):Ap P w K mg base CX0 4 f fd ["rows"] (Ae K mg FY):=by
 refine fn3 F JT (fun ss R U h=>?_) (fun cdv A outer s H E ss R U hr h=>?_)
 .obtain⟨x,cs,m,ds,k,ts,v,rfl,_⟩:=h;rfl
 obtain⟨x,cs,m,ds,k,ts,v,rfl,hx,hl,hv,hz,q⟩:=h
 refine#[_,(Bc (Fd (N:=["row"]) (idx:=[]) (A8.mk' (Aa Dj) ["rows"] rfl rfl (by decide +kernel)) rfl (Bp (PE3.out (vN 0))) Du (fun cl C s₀ H₀ fp=>Cm) (fun cl C s₀ H₀ fp=>(AH (a2 (vK 0) (Ao hr Av (a2 (vK 0) (vK 0)))))))),?_]
 rcases hx with rfl|rfl
 all_goals
  refine#[ts.map fun t=>some (.tup [qd t,qd (gap cs m ds k t)]),by rw[qAa,qAa],?_,?_,?_]
  .intro i x hx
   obtain⟨t,et,rfl⟩:=Co hx
   obtain⟨hi,eT⟩:=Q6 et
   have z:=hz i hi
   rw[eT] at z
   refine#[_,_,_,_,rfl,z.1,z.2,(),?_]
   refine#[(by show 2<=1000;decide),?_]
   show(ts.map _)[i]? = _
   rw[qAc,et]
   rfl
  .rw[qAa];omega
  rw[Ey ts (fun t=>.tup [qd t,qd (gap cs m ds k t)])]
  have e:(gcs cs m ds k ts).map cd=ts.map (fun t=>.tup [qd t,qd (gap cs m ds k t)]):=by
   unfold gcs
   rw[qBa]
   rfl
  rw[e] at q
  exact q
variable (Bw:Cal P w K mg base (CXU P w) 4 "gap_points" ["rows"] FY)
theorem A5:Ad ["f","g","others","told","place","corner"] ["f","g"] (Aa Cw):=scN
include As AI in
theorem HA (F:Fun K "corner_times" "corner_times" Cw f fd):Ap P w K mg base CX0 2 f fd ["f","g"] (Ae K mg Ed):=by
 refine fn3 F A5 (fun ss R U h=>?_) (fun cdv A outer s H E ss R U hr h=>?_)
 .obtain⟨cs,m,ds,k,n,rfl,_⟩:=h;rfl
 obtain⟨cs,m,ds,k,n,rfl,oc,od,lc,ld,hn,zc,zd,q⟩:=h
 refine#[_,(Ab (KC (i:=2) (N:=["corner"]) (idx:=[]) (A8.mk' (Aa Cw) ["f","g","others","told","place","corner"] rfl rfl (by decide +kernel)) rfl (Bp (PE3.out (vK 1))) Du (fun cl C s₀ H₀ fp=>Cm) (fun cl C s₀ H₀ fp=>(vK 0)) A5.nd rfl (Or.inl rfl))
  (Ab (AK 3 A5 (GG LG))
  (Ab (AK 4 A5 Ac)
  (Ab (Er (Cb PassesOwn.never rfl (Bp (PE3.out (vK 0))) (A9 (i:=5) A5.nd rfl (Or.inl rfl)) (D5.out (Ab (Gs PassesOwn.never (PW3.pt (IL (Ce Kj (vN 4) (CU AI (vN 2))) (E4 (Bu (Ao hr As (a2 (A3 (vN 2) (vN 4)) (vK 5))))))) (Ab (Fu (Bq (Fo qAD qAA qAB AU (pv 3) (AX (PE3.out (A3 (vN 2) (vN 4))) Bt))))
  (Af (Mh (i:=4) A5.nd rfl (Or.inl rfl) Ac))))
  (B3 (BQ (PW3.pt (IL (Ce Kj (vN 4) (CU AI (vN 2))) (E4 (Ce (Sn 1 (hu_ hr ∅)) (A3 (vN 2) (vN 4)) (vK 5))))) (Af (Mh (i:=4) A5.nd rfl (Or.inl rfl) Ac)) An)
  (Af (Fu (Bq (Fo qAD qAA qAB AU (pv 3) (AX (PE3.out (vK 5)) Bt))))))))))
  (UC 3 (Bc (Nx Nk (vN 3) (TZ (vN 2) (Kl (vN 4)) VS)))))))),?_]
 refine#[ds.map fun c=>some (qd c.1),by rw[qAa,qAa],?_,?_,?_]
 .intro i x hx
  obtain⟨c,hc,rfl⟩:=Co hx
  show(ds.map _)[i]? = _
  rw[qAc,hc]
  rfl
 .rw[qAa];omega
 have e0:(ds.map fun c=>some (qd c.1)).filterMap id=(rst ds 0).map qd:=by
  rw[Ey ds (fun c=>qd c.1)]
  unfold rst
  rw[List.drop_zero,qBa]
  rfl
 rw[e0]
 refine#[(by show 0<=1000;decide),?_]
 refine#[fun n' τ=>∃(p:Nat)(ts:List Rat)(y0 y1 y5:Option S),τ=[some (.d (crv cs m)),some (.d (crv ds k)),some (.l ((rst ds 0).map qd)),some (.l (ts.map qd)),I p,y5]/\Mrg cs ds n' p ts/\p<=ds.length/\(n'<cs.length->∀x∈ts,x<tt cs n'),#[0,[],none,none,none,rfl,Mrg.nil cs ds,qA8 _,fun _ x hx=>by cases hx],?_,?_]
 .rintro n' τ x hx ⟨p,ts,y0,y1,y5,rfl,g,hp,hlt⟩
  obtain⟨hi,rfl⟩:=D0 hx
  have zi:=(zc n' hi).1
  refine#[fun mm τ=>∃(p:Nat)(ts:List Rat),τ=[some (.d (crv cs m)),some (.d (crv ds k)),some (.l ((rst ds 0).map qd)),some (.l (ts.map qd)),I p,some (.d (.tup [qd (tt cs n'),qd (vv cs n')]))]/\Mrg cs ds n' p ts/\p<=ds.length/\(n'<cs.length->∀x∈ts,x<tt cs n')/\mm=ds.length-p,#[_,p,ts,rfl,g,hp,hlt,rfl],?_]
  clear g hp hlt
  rintro mm τ ⟨p,ts,rfl,g,hp,hlt,rfl⟩
  refine BI (fun c=>?_) (fun c=>?_)
  .have pl:p<ds.length:=by rw[qAa,Dg] at c;omega
   refine atR (Jx p rfl pl) ?_
   refine#[_,_,_,_,rfl,(zd p pl).1,zi,(),?_]
   refine BI (fun c2=>?_) (fun c2=>?_)
   .refine atR (Jx p rfl pl) ?_
    obtain⟨g2,h2⟩:=g.other od.up pl (hlt hi) c2
    refine#[by rw[qAa];have:=g.len;omega,ds.length-(p+1),(),p+1,ts++[tt ds p],by rw[qAO];rfl,g2,pl,fun _=>h2,rfl]
   .have NL:p<ds.length->tt cs n'<=tt ds p:=fun _=>qAM.mp c2
    refine#[fun τ=>∃(q:Nat)(y0 y1 y5:Option S),τ=[some (.d (crv cs m)),some (.d (crv ds k)),some (.l ((rst ds 0).map qd)),some (.l (ts.map qd)),I q,some (.d (.tup [qd (tt cs n'),qd (vv cs n')]))]/\(q=p\/(q=p+1/\p<ds.length/\tt ds p=tt cs n'))/\q<=ds.length/\∀j,q<=j->j<ds.length->tt cs n'<tt ds j,?_,?_]
    .refine BI (fun c'=>?_) (fun c'=>?_)
     .have pl:p<ds.length:=by rw[qAa,Dg] at c';omega
      refine atR (Jx p rfl pl) ?_
      refine#[rfl,rfl,eqT (tt ds p) (tt cs n') (fun e=>?_) (fun e=>?_)]
      .exact#[p+1,none,none,none,rfl,.inr #[rfl,pl,e],pl,fun j j1 j2=>by rw[<-e];exact Jr od.up () j2]
      .refine#[p,none,none,none,rfl,.inl rfl,(),fun j j1 j2=>?_]
       have lt:tt cs n'<tt ds p:=Rat.lt_of_le_of_ne (NL pl) (fun z=>e z.symm)
       by_cases z:j=p
       .rw[z];exact lt
       .have:=Jr od.up (i:=p) (j:=j) () j2
        grind
     .have pl:¬p<ds.length:=by rw[qAa,Dg] at c';omega
      exact#[p,none,none,none,rfl,.inl rfl,hp,fun j j1 j2=>()]
    rintro τ ⟨q',y0,y1,y5,rfl,hq,hq2,hb⟩
    have g2:=g.one hq (hlt hi) hb
    refine#[by rw[qAa];have:=g.len;omega,q',ts++[tt cs n'],none,none,_,by rw[qAO];rfl,g2,hq2,fun c' x hx=>?_]
    rcases qAo.mp hx with hx|hx
    .have:=hlt hi x hx
     have:=oc.up n' c'
     grind
    .rw[qAz.mp hx];exact oc.up n' c'
  .have NL:p<ds.length->tt cs n'<=tt ds p:=fun z=>absurd z (by rw[qAa,Dg] at c;omega)
   refine#[fun τ=>∃(q:Nat)(y0 y1 y5:Option S),τ=[some (.d (crv cs m)),some (.d (crv ds k)),some (.l ((rst ds 0).map qd)),some (.l (ts.map qd)),I q,some (.d (.tup [qd (tt cs n'),qd (vv cs n')]))]/\(q=p\/(q=p+1/\p<ds.length/\tt ds p=tt cs n'))/\q<=ds.length/\∀j,q<=j->j<ds.length->tt cs n'<tt ds j,?_,?_]
   .refine BI (fun c'=>?_) (fun c'=>?_)
    .have pl:p<ds.length:=by rw[qAa,Dg] at c';omega
     refine atR (Jx p rfl pl) ?_
     refine#[rfl,rfl,eqT (tt ds p) (tt cs n') (fun e=>?_) (fun e=>?_)]
     .exact#[p+1,none,none,none,rfl,.inr #[rfl,pl,e],pl,fun j j1 j2=>by rw[<-e];exact Jr od.up () j2]
     .refine#[p,none,none,none,rfl,.inl rfl,(),fun j j1 j2=>?_]
      have lt:tt cs n'<tt ds p:=Rat.lt_of_le_of_ne (NL pl) (fun z=>e z.symm)
      by_cases z:j=p
      .rw[z];exact lt
      .have:=Jr od.up (i:=p) (j:=j) () j2
       grind
    .have pl:¬p<ds.length:=by rw[qAa,Dg] at c';omega
     exact#[p,none,none,none,rfl,.inl rfl,hp,fun j j1 j2=>()]
   rintro τ ⟨q',y0,y1,y5,rfl,hq,hq2,hb⟩
   have g2:=g.one hq (hlt hi) hb
   refine#[by rw[qAa];have:=g.len;omega,q',ts++[tt cs n'],none,none,_,by rw[qAO];rfl,g2,hq2,fun c' x hx=>?_]
   rcases qAo.mp hx with hx|hx
   .have:=hlt hi x hx
    have:=oc.up n' c'
    grind
   .rw[qAz.mp hx];exact oc.up n' c'
 rintro τ ⟨p,ts,y0,y1,y5,rfl,g,hp,hlt⟩
 rw[qAa] at g
 have gl:=g.len
 have lr:=Dg ds p
 have rr:Hh ((rst ds 0).map qd) (some (p:Int)) none=(rst ds p).map qd:=P4 hp
 show Ww (.lst (ts.map qd)) (.lst (Hh ((rst ds 0).map qd) (some (p:Int)) none)) (fun d=>R (.d d))
 rw[rr]
 refine#[by rw[qAa,qAa];omega,?_]
 rw[<-qAO]
 exact q _ (Ux oc od g hp) (by rw[qAx];omega)
variable (Ct:Cal P w K mg base (CXU P w) 2 "corner_times" ["f","g"] Ed)
theorem IJ:Ad ["f","g"] ["f","g"] (Aa CW):=scN
include BE Ct in
theorem IQ (F:Fun K "corner_rows" "corner_rows" CW f fd):Ap P w K mg base CX0 8 f fd ["f","g"] (Ae K mg E7):=by
 refine fn3 F IJ (fun ss R U h=>?_) (fun cdv A outer s H E ss R U hr h=>?_)
 .obtain⟨cs,m,ds,k,a,b,c,rfl,_⟩:=h;rfl
 obtain⟨cs,m,ds,k,a,b,c,rfl,oc,od,lc,ld,zc,zd,h1,h4,h2,q⟩:=h
 refine#[_,(Bc (Fd (N:=["t","f","g"]) (idx:=[0,1]) (A8.mk' (Aa CW) ["f","g"] rfl rfl (by decide +kernel)) rfl (Bp (PE3.out (Ao hr Ct (a2 (vN 0) (vN 1))))) Du (fun cl C s₀ H₀ fp=>Cm) (fun cl C s₀ H₀ fp=>(AH (AN (vN 0) (a2 (Ao hr BE (a2 (vN 1) (vN 0))) (Ao hr BE (a2 (vN 2) (vN 0))))))))),?_]
 refine#[cs,m,ds,k,6000,rfl,oc,od,lc,ld,∅,(zc.szk oc () h1).cs,(zd.szk od () h1).cs,fun ts ht hl=>?_]
 refine#[ts.map fun t=>some (rw3 cs m ds k t),by rw[qAa,qAa],?_,?_,?_]
 .intro i x hx
  obtain⟨t,et,rfl⟩:=Co hx
  obtain⟨hi,eT⟩:=Q6 et
  have zt:Sz a (T ts i):=by
   rcases ht.of i hi with⟨j,hj,e⟩|⟨j,hj,e⟩
   .rw[e];exact zc.tm j hj
   .rw[e];exact zd.tm j hj
  have t0:=LZ ht hi
  rw[eT] at zt t0
  refine#[cs,m,t,a,b,c,a,rfl,oc,zc,(),h1,h4,(),(),zt,fun _=>?_,fun z=>absurd t0 z]
  refine#[ds,k,t,a,b,c,a,rfl,od,zd,(),h1,h4,(),(),zt,fun _=>?_,fun z=>absurd t0 z]
  refine#[(by show 3<=1000;decide),?_]
  show(ts.map _)[i]? = _
  rw[qAc,et]
  rfl
 .rw[qAa];omega
 rw[Ey ts (rw3 cs m ds k)]
 exact q ts ht hl
variable (Bh:Cal P w K mg base (CXU P w) 8 "corner_rows" ["f","g"] E7)
theorem S5:Ad ["f","g"] ["f","g"] (Aa PD):=scN
include Av Dr Bw Bh in
theorem TH (F:Fun K "less" "less" PD f fd):Ap P w K mg base CX0 9 f fd ["f","g"] (Ae K mg Ph):=by
 refine fn3 F S5 (fun ss R U h=>?_) (fun cdv A outer s H E ss R U hr h=>?_)
 .obtain⟨cs,m,ds,k,a,b,c,aa,bb,cc,A,rfl,_⟩:=h;rfl
 obtain⟨cs,m,ds,k,a,b,c,aa,bb,cc,A,rfl,r1,r2,z1,z2,hA,hA2,hl0,n1,n2,n3,inc,g0,q⟩:=h
 refine#[_,(Bc (Ao hr Dr (a2 (Ao hr Bw (a1 (Ao hr Bh (a2 (vN 0) (vN 1))))) (Ao hr Av (a2 (vK 0) (vK 1)))))),?_]
 have oc:=r1.o
 have od:=r2.o
 refine#[cs,m,ds,k,A,b+bb,c+cc,rfl,oc,od,(),(),z1.mono hA () (),z2.mono hA2 () (),(),(),(),fun ts ht hl=>?_]
 have tz:∀i,i<ts.length->Sz A (T ts i):=fun i hi=>by
  rcases ht.of i hi with⟨j,hj,e⟩|⟨j,hj,e⟩
  .rw[e];exact(z1.tm j hj).mono hA
  .rw[e];exact(z2.tm j hj).mono hA2
 have vz:∀i,i<ts.length->Sz 6000 (val cs m (T ts i))/\Sz 6000 (val ds k (T ts i)):=fun i hi=>#[(z1.va (LZ ht hi) (tz i hi)).mono (),(z2.va (LZ ht hi) (tz i hi)).mono ()]
 refine#[_,cs,m,ds,k,ts,6000,rfl,Or.inr rfl,(),∅,vz,?_]
 have gl:=CK (cs:=cs) (m:=m) (ds:=ds) (k:=k) (ts:=ts)
 have O:=S3 oc od ht inc g0
 have m0:=QK oc od ht inc
 have LL:=Vn oc od ht O z1 z2 hA hA2
 refine#[m,k,_,_,rfl,z1.m oc,z2.m od,(),?_]
 refine#[_,gcs cs m ds k ts,m-k,rfl,Or.inr rfl,LL.szd O () () (),fun _=>?_,fun no=>absurd #[O,m0] no]
 have kl:=L6 (gcs cs m ds k ts) (m-k) ((gcs cs m ds k ts).length-1)
 have n0:=O.ne
 exact q _ _ (Mf O m0) (fun t t0=>by rw[(Jf O t).1,S9 oc od ht O t0]) rfl (LL.kept O) ()
variable (Iz:Cal P w K mg base (CXU P w) 9 "less" ["f","g"] Ph)
theorem Hb:Ad ["f","g","gaps","gap","slope"] ["f","g"] (Aa Ls):=scN
include B6 Av As gc_NOUGHT F3 Bw Bh in
theorem Qs (F:Fun K "above" "above" Ls f fd):Ap P w K mg base CX0 9 f fd ["f","g"] (Ae K mg Mi):=by
 refine fn3 F Hb (fun ss R U h=>?_) (fun cdv A outer s H E ss R U hr h=>?_)
 .obtain⟨cs,m,ds,k,rfl,_⟩:=h;rfl
 obtain⟨cs,m,ds,k,rfl,zc,zd,q⟩:=h
 refine#[_,(Ab (AK 2 Hb (Ao hr Bw (a1 (Ao hr Bh (a2 (vN 0) (vN 1))))))
  (Ab (OK (Cb PassesOwn.never rfl (Bp (pv 2)) (A9 (i:=3) Hb.nd rfl (Or.inl rfl)) (D5.out (Af (BQ (Bu (Ao hr As (a2 (Kk rfl gc_NOUGHT) (vK 3)))) (Bc (vK 3)) An)))))
  (Ab (AK 4 Hb (Ao hr Av (a2 (vK 0) (vK 1))))
  (Ab (BQ (Bu (Ao hr As (a2 (Kk rfl gc_NOUGHT) (vN 4)))) (Bc (Ao hr B6 (a2 (Ao hr F3 (AN (A3 (vN 2) (Ft Ac)) (a2 (vN 4) (Kk rfl gc_NOUGHT)))) (AH (a2 Ac Ac))))) An)
  (Bc Ng))))),?_]
 have oc:=zc.1.o
 have od:=zd.1.o
 have lc:=zc.2.2.1
 have ld:=zd.2.2
 refine#[cs,m,ds,k,1300,900,1700,rfl,oc,od,(),(),zc.2.1.mono ∅ ∅ ∅,zd.2.1.mono ∅ ∅ ∅,∅,∅,∅,fun ts ht hl=>?_]
 have tz:∀{i:Nat},i<ts.length->Sz 1300 (T ts i):=fun {i} hi=>by
  rcases ht.of i hi with⟨j,hj,e⟩|⟨j,hj,e⟩
  .rw[e];exact(zc.2.1.tm j hj).mono ∅
  .rw[e];exact(zd.2.1.tm j hj).mono ∅
 have vz:∀i,i<ts.length->Sz 3901 (val cs m (T ts i))/\Sz 3901 (val ds k (T ts i)):=fun i hi =>
  #[(zc.2.1.va (LZ ht hi) (tz hi)).mono ∅,(zd.2.1.va (LZ ht hi) (tz hi)).mono ∅]
 have gz:∀i,i<ts.length->Sz 4592 (gap cs m ds k (T ts i)):=fun i hi=>(UP zc.2.1 zd.2.1 (LZ ht hi) (tz hi)).mono ∅
 refine#[_,cs,m,ds,k,ts,3901,rfl,Or.inr rfl,(),∅,vz,?_]
 have gl:=CK (cs:=cs) (m:=m) (ds:=ds) (k:=k) (ts:=ts)
 refine#[fun i τ=>∃y:Option S,τ=[some (.d (crv cs m)),some (.d (crv ds k)),some (.r ((gcs cs m ds k ts).map cd)),y,none]/\∀j,j<i->gap cs m ds k (T ts j)<=0,#[_,rfl,fun j hj=>absurd hj (qBG j)],?_,?_]
 .rintro i τ x hx ⟨y,rfl,hj⟩
  obtain⟨hi,rfl⟩:=D0 hx
  rw[gl] at hi
  obtain⟨e1,e2⟩:=B5 (cs:=cs) (m:=m) (ds:=ds) (k:=k) hi
  rw[e1,e2]
  refine#[0,gap cs m ds k (T ts i),_,_,rfl,Sz.zero,gz i hi,∅,?_]
  refine BI (fun c=>?_) (fun c=>?_)
  .refine q (some (T ts i)) #[LZ ht hi,by unfold gap at c;grind] (fun t z=>?_)
   cases z
   exact(tz hi).mono ∅
  .refine#[_,rfl,fun j hj2=>?_]
   by_cases e:j<i
   .exact hj j e
   .have:j=i:=()
    subst this
    exact qAM.mp c
 rintro τ ⟨y,rfl,hj⟩
 rw[qAa,gl] at hj
 have zm:=zc.2.1.m oc
 have zk:=zd.2.1.m od
 refine#[m,k,_,_,rfl,zm,zk,∅,?_]
 refine#[0,m-k,_,_,rfl,Sz.zero,zm.sub zk,∅,?_]
 have ne:=ht.ne
 have hlast:ts.length-1<ts.length:=()
 refine BI (fun c=>?_) (fun c=>?_)
 .refine atR (OD (cs:=gcs cs m ds k ts) 1 ∅ (by rw[gl];exact ne)) ?_
  rw[gl]
  obtain⟨e1,e2⟩:=B5 (cs:=cs) (m:=m) (ds:=ds) (k:=k) hlast
  rw[e1,e2]
  have s0:m-k≠0:=fun z=>by rw[z] at c;exact absurd c ∅
  refine#[_,_,_,_,_,_,_,_,rfl,tz hlast,gz _ hlast,Sz.zero,zm.sub zk,s0,∅,?_]
  refine#[(by show 2<=1000;decide),?_]
  have zz:Sz 2400 (T ts (ts.length-1)+(0-gap cs m ds k (T ts (ts.length-1)))/(m-k)):=by
   rcases zc.2.2.2 with e0|z6
   .exact absurd c (by rw[e0];have:=zd.1.m0;grind)
   have es:sat cs m (T ts (ts.length-1))-sat ds k (T ts (ts.length-1))=m-k:=by
    have:=(JX (m:=m) (k:=k) oc od ht hlast).2
    rw[AW (by rw[gl];omega)] at this
    exact this.symm
   have zz:=QR (B:=0) z6 zd.2.1 (LZ ht hlast) Sz.zero (by rw[es];exact s0)
   rw[es] at zz
   exact zz.mono ∅
  refine#[_,1,_,1,rfl,zz,#[∅,∅],∅,?_]
  refine q (some _) (SN oc od ht (hj _ hlast) c) (fun t z=>?_)
  cases z
  exact(zz.add (show Sz 1 1 from #[∅,∅])).mono ∅
 .exact q none (Qa oc od ht hj (qAM.mp c)) (fun t z=>nomatch z)
variable (JR:Cal P w K mg base (CXU P w) 9 "above" ["f","g"] Mi)
theorem Ew:Ad ["point","slope","base"] ["point","slope"] (Aa Dy):=scN
include Av Fj in
theorem HI (F:Fun K "line_through" "line_through" Dy f fd):Ap P w K mg base CX0 4 f fd ["point","slope"] (Ae K mg EF):=by
 refine fn3 F Ew (fun ss R U h=>?_) (fun cdv A outer s H E ss R U hr h=>?_)
 .obtain⟨c,m,n,rfl,_⟩:=h;rfl
 obtain⟨c,m,n,rfl,z1,z2,zm,hn,q⟩:=h
 refine#[_,(Ab (AK 2 Ew (Ao hr Av (a2 (vK 0) (Ao hr Fj (a2 (vN 1) (vK 0))))))
  (Bc (AH (AN (Ak AB (vK 1) (vK 2)) (a2 (Ak AB (vK 2) (vK 1)) (Ak AB (vK 1) (vK 2))))))),?_]
 refine#[m,c.1,n,n,rfl,zm,z1,(),?_]
 have zt:=zm.mul z1
 refine#[c.2,m*c.1,n,n+n,rfl,z2,zt,(),?_]
 have zb:Sz (n+(n+n)+1) (c.2-m*c.1):=z2.sub zt
 exact#[AD zm.1 (Ax zb) (),AD zb.1 (Ax zm) (),AD (Ax zm) (Ax zb) (),by show 3<=1000;decide,q]
variable (Cy:Cal P w K mg base (CXU P w) 4 "line_through" ["point","slope"] EF)
theorem GY:Ad ["f","slopes"] ["f"] (Aa DY):=scN
variable (K4:mg "zip"=none)
include Ai Cy K4 in
theorem Kx (F:Fun K "pieces_of" "pieces_of" DY f fd):Ap P w K mg base CX0 6 f fd ["f"] (Ae K mg GQ):=by
 refine fn3 F GY (fun ss R U h=>?_) (fun cdv A outer s H E ss R U hr h=>?_)
 .obtain⟨cs,m,a,b,c,rfl,_⟩:=h;rfl
 obtain⟨cs,m,a,b,c,rfl,o,z,hs,hl,q⟩:=h
 refine#[_,(Ab (AK 1 GY (Ao hr Ai (a2 (vK 0) (vK 0))))
  (Bc (Ta (N:=["corner","slope"]) (idx:=[]) (DA.mk' (Aa DY) ["f","slopes"] rfl rfl (by decide +kernel)) rfl (Rp rfl K4 (PA3.out (a2 (vK 0) (vN 1)))) (fun cl C s₀ H₀ fp=>(AH (a2 (vK 0) (Ao hr Cy (a2 (vN 0) (vN 1))))))))),?_]
 have kc:SzK 1800 cs m:=z.szk o () hs
 refine#[cs,m,rfl,o.ne,(),kc.cs.mono ∅,o.up,?_]
 refine#[_,_,cs.map cd,(G7 cs m).map qd,rfl,rfl,Or.inl rfl,(CA cs m).map rpD,?_,?_,?_,q]
 .rw[qAa,qAa,qAa,CI,CS,Nat.min_self]
 .intro n x y hx hy
  obtain⟨hn,rfl⟩:=D0 hx
  obtain⟨hn2,rfl⟩:=R5 hy
  have zl:=z.ln o n hn
  refine#[(tt cs n,vv cs n),slp cs m n,1800,rfl,(kc.cs n hn).1,(kc.cs n hn).2,zl.1.mono (),∅,by show 2<=1000;decide,?_]
  show((CA cs m).map rpD)[n]? = _
  rw[qAc,EK hn]
  rfl
 .rw[qAa,CI];omega
variable (C8:Cal P w K mg base (CXU P w) 6 "pieces_of" ["f"] GQ)
theorem GU:Ad ["begin","line","value"] ["begin","line"] (Aa Fv):=scN
include A7 in
theorem KZ (F:Fun K "corner_of" "corner_of" Fv f fd):Ap P w K mg base CX0 3 f fd ["begin","line"] (Ae K mg GX):=by
 refine fn3 F GU (fun ss R U h=>?_) (fun cdv A outer s H E ss R U hr h=>?_)
 .obtain⟨p,q,k,m,rfl,_⟩:=h;rfl
 obtain⟨p,q0,k,m,rfl,w,hk,q⟩:=h
 refine#[_,(Ab (AK 2 GU (Ao hr A7 (a2 (Ak AZ (Ak AB (vK 1) (vK 0)) (Ak AB (vK 1) (vK 0))) (Ak AB (vK 1) (vK 0)))))
  (Bc (AH (a2 (Ao hr A7 (a2 (vK 0) (vK 0))) (vN 2))))),?_]
 obtain⟨e1,e2⟩:=Ik w
 have wa:=w.l.at_ w.t
 refine#[AD w.l.s.la w.t.la (),AD w.l.c.la w.t.lb (),AD w.l.s.lb w.t.lb (),_,_,rfl,fun z=>absurd wa.pos (by rw[z];decide),Ay wa.la (),Ay wa.lb (),?_]
 refine#[_,_,rfl,fun z=>absurd w.t.pos (by rw[z];decide),Ay w.t.la (),Ay w.t.lb (),?_]
 refine#[by show 2<=1000;decide,?_]
 rw[e1,e2]
 exact q
variable (DU:Cal P w K mg base (CXU P w) 3 "corner_of" ["begin","line"] GX)
theorem HV:Ad ["pieces","last"] ["pieces"] (Aa EO):=scN
include A7 Dr DU in
theorem LM (F:Fun K "curve_of" "curve_of" EO f fd):Ap P w K mg base CX0 7 f fd ["pieces"] (Ae K mg HJ):=by
 refine fnW (fun ss R U h=>?_) (fn3 F HV (fun ss R U h=>?_) (fun cdv A outer s H E ss R U hr h=>?_))
 .obtain⟨x,ps,P,k,m,rfl,hx,pl,n0,hl,hk,zd,o,m0,q⟩:=h
  rcases hx with rfl|rfl<;>exact#[_,ps,P,k,m,rfl,(.inl rfl),pl,n0,hl,hk,zd,o,m0,q]
 .obtain⟨x,ps,P,k,m,rfl,_⟩:=h.1;rfl
 obtain⟨h,nl_⟩:=h
 obtain⟨x,ps,P,k,m,rfl,hx,pl,n0,hl,hk,zd,o,m0,q⟩:=h
 refine#[_,(Ab (AK 1 HV (A3 (A3 (vN 0) (Ft Ac)) Ac))
  (Bc (Ao hr Dr (a2 (Fd (N:=["piece"]) (idx:=[]) (A8.mk' (Aa EO) ["pieces","last"] rfl rfl (by decide +kernel)) rfl (Bp (PE3.out (vN 0))) Du (fun cl C s₀ H₀ fp=>Cm) (fun cl C s₀ H₀ fp=>(Ao hr DU (a2 (vK 0) (vK 0))))) (Ao hr A7 (a2 (vK 1) (vK 1))))))),?_]
 obtain rfl:=IX hx (nl_ _ (by simp))
 have len:=pl.len
 have hw:∀i,i<ps.length->PW1 k m (ps.getD i dfR) (bg P i,ln P i):=fun i hi=>by
  obtain⟨r,h1,h2⟩:=pl.get (Bm hi)
  obtain⟨e1,e2⟩:=FG h1
  rw[e1,e2]
  exact h2
 refine atR (Rt (ps:=ps) n0) ?_
 refine#[ps.map fun p=>some (cd (Rat.divInt p.1.1 p.1.2,Rat.divInt (p.2.1*p.1.1+p.2.2.1*p.1.2) (p.2.2.2*p.1.2))),?_,?_,?_,?_]
 .rw[qAa,qAa]
 .intro i x hx
  have hi:i<ps.length:=by have:=(qAd.mp hx).1;rw[qAa] at this;exact this
  rw[qAc,Bm hi] at hx
  cases hx
  refine#[ps.getD i dfR,(bg P i,ln P i),k,m,rfl,hw i hi,(),?_]
  show(ps.map _)[i]? = _
  rw[qAc,Bm hi]
  have ce:=Ik (hw i hi)
  show some (some (cd (Rat.divInt (ps.getD i dfR).1.1 (ps.getD i dfR).1.2,_)))=_
  rw[ce.1,ce.2]
 .rw[qAa];omega
 have ef:(ps.map fun p=>some (cd (Rat.divInt p.1.1 p.1.2,Rat.divInt (p.2.1*p.1.1+p.2.2.1*p.1.2) (p.2.2.2*p.1.2)))).filterMap id=(G2 P).map cd:=by
  rw[FN (f:=fun p:RP=>cd (Rat.divInt p.1.1 p.1.2,Rat.divInt (p.2.1*p.1.1+p.2.2.1*p.1.2) (p.2.2.2*p.1.2)))]
  refine qCn fun i=>?_
  by_cases hi:i<ps.length
  .have ce:=Ik (hw i hi)
   unfold G2
   rw[qAc,qAc,qAc,Bm hi]
   have g:=qAb (show i<P.length from ())
   rw[g]
   obtain⟨e1,e2⟩:=FG g
   show some (cd (Rat.divInt (ps.getD i dfR).1.1 (ps.getD i dfR).1.2,_))=some (cd (_,_))
   rw[ce.1,ce.2,e1,e2]
  .rw[qAN.mpr (by rw[qAa];omega),qAN.mpr (by rw[qAa,Bo];omega)]
 rw[ef]
 have wl:=hw (ps.length-1) ()
 have el:Rat.divInt (ps.getD (ps.length-1) dfR).2.1 (ps.getD (ps.length-1) dfR).2.2.2=(ln P (P.length-1)).1:=by
  rw[<-len]
  exact Gj wl.l.s
 refine#[_,_,rfl,fun z=>absurd wl.l.s.pos (by rw[z];decide),Ay wl.l.s.la (),Ay wl.l.s.lb (),?_]
 rw[el]
 refine#[_,G2 P,(ln P (P.length-1)).1,rfl,Or.inr rfl,zd,fun _=>?_,fun z=>absurd #[o,m0] z]
 rw[Bo];exact q
variable (EW:Cal P w K mg base (CXU P w) 7 "curve_of" ["pieces"] HJ)
theorem JK:Ad ["t","way"] ["t","way"] (Aa Ep):=scN
theorem Ka (F:Fun K "moved_time" "moved_time" Ep f fd):Ap P w K mg base CX0 1 f fd ["t","way"] (Ae K mg Gb):=by
 refine fn3 F JK (fun ss R U h=>?_) (fun cdv A outer s H E ss R U hr h=>?_)
 .obtain⟨a,b,wn,wd,t,w,m,n,rfl,_⟩:=h;rfl
 obtain⟨a,b,wn,wd,t,w,m,n,rfl,h,hw,hm,hn,q⟩:=h
 refine#[_,(Bc (AH (a2 (Ak AZ (Ak AB (vK 0) (vK 1)) (Ak AB (vK 1) (vK 0))) (Ak AB (vK 0) (vK 1))))),?_]
 exact#[AD h.la hw.lb (),AD hw.la h.lb (),AD h.lb hw.lb (),by show 2<=1000;decide,q]
variable (Dq:Cal P w K mg base (CXU P w) 1 "moved_time" ["t","way"] Gb)
theorem Ca:Ad ["line","point","way","more","both","base"] ["line","point"] (Aa Es):=scN
theorem JW (F:Fun K "moved_line" "moved_line" Es f fd):Ap P w K mg base CX0 1 f fd ["line","point"] (Ae K mg FH):=by
 refine fn3 F Ca (fun ss R U h=>?_) (fun cdv A outer s H E ss R U hr h=>?_)
 .obtain⟨l,q,wn,wd,vn,vd,w,v,k,m,rfl,_⟩:=h;rfl
 obtain⟨l,q0,wn,wd,vn,vd,w,v,k,m,rfl,h,hw,hv,hk,hm,q⟩:=h
 refine#[_,(Ab (AK 2 Ca (vK 1))
  (Ab (AK 3 Ca (vK 1))
  (Ab (AK 4 Ca (Ak AB (vK 2) (vK 3)))
  (Ab (AK 5 Ca (Ak AZ (Ak Dx (Ak AB (vK 0) (vN 4)) (Ak AB (Ak AB (vK 0) (vK 2)) (vK 3))) (Ak AB (Ak AB (vK 0) (vK 3)) (vK 2))))
  (Bc (AH (AN (Ak AB (vK 0) (vN 4)) (a2 (vN 5) (Ak AB (vK 0) (vN 4)))))))))),?_]
 have b:=Aj hw.lb hv.lb
 exact#[AD hw.lb hv.lb (),AD h.c.la b (),AD h.s.la hw.la (),AD (Aj h.s.la hw.la) hv.lb (),AD h.s.lb hv.la (),AD (Aj h.s.lb hv.la) hw.lb (),AD h.s.la b (),AD h.s.lb b (),by show 3<=1000;decide,q]
variable (Dp:Cal P w K mg base (CXU P w) 1 "moved_line" ["line","point"] FH)
theorem SV:Ad ["pieces","point"] ["pieces","point"] (Aa Mr):=scN
include Dq Dp in
theorem TQ (F:Fun K "laid" "laid" Mr f fd):Ap P w K mg base CX0 2 f fd ["pieces","point"] (Ae K mg NU):=by
 refine fnW (fun ss R U h=>?_) (fn3 F SV (fun ss R U h=>?_) (fun cdv A outer s H E ss R U hr h=>?_))
 .obtain⟨x,ps,P,wn,wd,vn,vd,w,v,k,m,n,rfl,hx,h,hw,hv,hk,hm,hn,hl,q⟩:=h
  rcases hx with rfl|rfl<;>exact#[_,ps,P,wn,wd,vn,vd,w,v,k,m,n,rfl,(.inl rfl),h,hw,hv,hk,hm,hn,hl,q]
 .obtain⟨x,ps,P,wn,wd,vn,vd,w,v,k,m,n,rfl,_⟩:=h.1;rfl
 obtain⟨h,nl_⟩:=h
 obtain⟨x,ps,P,wn,wd,vn,vd,w,v,k,m,n,rfl,hx,h,hw,hv,hk,hm,hn,hl,q⟩:=h
 refine#[_,(Bc (Fd (N:=["piece","point"]) (idx:=[1]) (A8.mk' (Aa Mr) ["pieces","point"] rfl rfl (by decide +kernel)) rfl (Bp (PE3.out (vN 0))) Du (fun cl C s₀ H₀ fp=>Cm) (fun cl C s₀ H₀ fp=>(AH (a2 (Ao hr Dq (a2 (vK 0) (vK 1))) (Ao hr Dp (a2 (vK 0) (vN 1)))))))),?_]
 obtain rfl:=IX hx (nl_ _ (by simp))
 refine#[ps.map fun p=>some (rpD (mvR wn wd vn vd p)),by rw[qAa,qAa],?_,?_,?_]
 .intro i x hx
  rw[qAc] at hx
  cases hp:ps[i]? with
  |none=>rw[hp] at hx;cases hx
  |some p =>
   rw[hp] at hx
   cases hx
   obtain⟨q0,_,w0⟩:=h.get hp
   refine#[p.1.1,p.1.2,wn,wd,_,_,m,n,rfl,w0.t,hw,(),(),?_]
   refine#[p.2,_,wn,wd,vn,vd,_,_,k,n,rfl,w0.l,hw,hv,(),(),?_]
   refine#[by show 2<=1000;decide,?_]
   show(ps.map _)[i]? = _
   rw[qAc,hp]
   rfl
 .rw[qAa];exact hl
 rw[FN]
 rw[qBa] at q
 exact q
variable (KM:Cal P w K mg base (CXU P w) 2 "laid" ["pieces","point"] NU)
theorem Nq:Ad ["pieces"] ["pieces"] (Aa FK):=scN
theorem M0 (F:Fun K "flipped" "flipped" FK f fd):Ap P w K mg base CX0 1 f fd ["pieces"] (Ae K mg Jh):=by
 refine fnW (fun ss R U h=>?_) (fn3 F Nq (fun ss R U h=>?_) (fun cdv A outer s H E ss R U hr h=>?_))
 .obtain⟨x,ps,rfl,hx,hl,q⟩:=h
  rcases hx with rfl|rfl<;>exact#[_,ps,rfl,(.inl rfl),hl,q]
 .obtain⟨x,ps,rfl,_⟩:=h.1;rfl
 obtain⟨h,nl_⟩:=h
 obtain⟨x,ps,rfl,hx,hl,q⟩:=h
 refine#[_,(Bc (Fd (N:=["piece"]) (idx:=[]) (A8.mk' (Aa FK) ["pieces"] rfl rfl (by decide +kernel)) rfl (Bp (PE3.out (vN 0))) Du (fun cl C s₀ H₀ fp=>Cm) (fun cl C s₀ H₀ fp=>(AH (a2 (vK 0) (AH (AN (Ft (A3 (vK 0) Ac)) (a2 (Ft (A3 (vK 0) Ac)) (A3 (vK 0) Ac))))))))),?_]
 obtain rfl:=IX hx (nl_ _ (by simp))
 refine#[ps.map fun p=>some (rpD (flR p)),by rw[qAa,qAa],?_,?_,?_]
 .intro i x hx
  rw[qAc] at hx
  cases hp:ps[i]? with
  |none=>rw[hp] at hx;cases hx
  |some p =>
   rw[hp] at hx
   cases hx
   refine#[by show 3<=1000;decide,by show 2<=1000;decide,?_]
   show(ps.map _)[i]? = _
   rw[qAc,hp]
   rfl
 .rw[qAa];exact hl
 rw[FN]
 rw[qBa] at q
 exact q
variable (EH:Cal P w K mg base (CXU P w) 1 "flipped" ["pieces"] Jh)
theorem Fz:Ad ["pieces","far","begins","told","first"] ["pieces","far"] (Aa Gp):=scN
include Av gc_NOUGHT K4 in
theorem Oy (F:Fun K "turned" "turned" Gp f fd):Ap P w K mg base CX0 4 f fd ["pieces","far"] (Ae K mg K0):=by
 refine fn3 F Fz (fun ss R U h=>?_) (fun cdv A outer s H E ss R U hr h=>?_)
 .obtain⟨cs,m,far,n,rfl,_⟩:=h;rfl
 obtain⟨cs,m,far,n,rfl,n0,hl,zt,zf,hn,q⟩:=h
 refine#[_,(Ab (AK 2 Fz (Nx Nk (Fd (N:=["piece"]) (idx:=[]) (A8.mk' (Aa Gp) ["pieces","far","begins","told","first"] rfl rfl (by decide +kernel)) rfl (Bp (PE3.out (TZ (vN 0) (Kl Ac) VS))) Du (fun cl C s₀ H₀ fp=>Cm) (fun cl C s₀ H₀ fp=>(Ao hr Av (a2 (Kk rfl gc_NOUGHT) (vK 0))))) (GG (a1 (Ao hr Av (a2 (Kk rfl gc_NOUGHT) (vN 1)))))))
  (Ab (VA (i:=3) (N:=["begin","piece"]) (idx:=[]) (DA.mk' (Aa Gp) ["pieces","far","begins","told","first"] rfl rfl (by decide +kernel)) rfl (Rp rfl K4 (PA3.out (a2 (vN 2) (vN 0)))) (fun cl C s₀ H₀ fp=>(AH (a2 (vN 0) (AH (AN (Ft (A3 (vK 1) Ac)) (a2 (A3 (vK 1) Ac) (A3 (vK 1) Ac))))))) Fz.nd rfl (Or.inl rfl))
  (Ab (AK 4 Fz (A3 (vK 0) Ac))
  (Bc (Nx Nk (Wa (vN 3) (Ft Ac)) (GG (a1 (AH (a2 (Kk rfl gc_NOUGHT) (AH (AN Ac (a2 (vK 4) (vK 4))))))))))))),?_]
 have rl:=CI (cs:=cs) (m:=m)
 have ec:Hh ((CA cs m).map rpD) (some 1) none=((CA cs m).drop 1).map rpD:=T9 (h:=1) ()
 have gt:∀j,j+1<cs.length->((CA cs m).drop 1)[j]? = some (qr (tt cs (j+1)),Mj (slp cs m (j+1)) (vv cs (j+1)-slp cs m (j+1)*tt cs (j+1))):=fun j hj=>by
  rw[qBv,qB6 1 j,EK hj]
 refine#[(List.range (cs.length-1)).map fun j=>some (qd (0-tt cs (j+1))),?_,?_,?_,?_]
 .show _=(Hh ((CA cs m).map rpD) (some 1) none).length
  rw[ec,qAa,qAa,qAr,qAR,rl]
 .intro j x hx
  have hx:(Hh ((CA cs m).map rpD) (some 1) none)[j]? = some x:=hx
  rw[ec] at hx
  have hj:j+1<cs.length:=by have:=(qAd.mp hx).1;rw[qAa,qAR,rl] at this;omega
  rw[qAc,gt j hj] at hx
  cases hx
  refine#[0,tt cs (j+1),1,n,rfl,Sz.zero,zt _ hj,(),?_]
  show((List.range (cs.length-1)).map _)[j]? = _
  rw[qAc,qAE ()]
  rfl
 .show(Hh ((CA cs m).map rpD) (some 1) none).length<=_
  rw[ec,qAa,qAR,rl];omega
 have ef:((List.range (cs.length-1)).map fun j=>some (qd (0-tt cs (j+1)))).filterMap id=(List.range (cs.length-1)).map fun j=>qd (0-tt cs (j+1)):=FN
 rw[ef]
 refine#[0,far,1,n,rfl,Sz.zero,zf,(),?_]
 refine#[by show 1<=1000;decide,?_]
 refine#[by rw[qAa,qAr];show cs.length-1+1<=_;omega,?_]
 generalize eB:(List.range (cs.length-1)).map (fun j=>qd (0-tt cs (j+1)))++[qd (0-far)]=bs
 have bl:bs.length=cs.length:=by rw[<-eB];simp;omega
 have bg':∀j,j<cs.length->bs[j]? = some (qd (if j+1<cs.length then 0-tt cs (j+1) else 0-far)):=fun j hj=>by
  rw[<-eB]
  by_cases c:j+1<cs.length
  .rw[qAp (by simp;omega),qAc,qAE (),if_pos c]
   rfl
  .rw[qAs (by simp;omega),if_neg c]
   have:j-((List.range (cs.length-1)).map fun j=>qd (0-tt cs (j+1))).length=0:=by simp;omega
   rw[this]
   rfl
 refine#[_,_,bs,(CA cs m).map rpD,rfl,rfl,Or.inr rfl,(List.range cs.length).map (fun k=>rpD ((qr (if k+1<cs.length then 0-tt cs (k+1) else 0-far),(-(Mj (slp cs m k) (vv cs k-slp cs m k*tt cs k)).1,(Mj (slp cs m k) (vv cs k-slp cs m k*tt cs k)).2)):RP)),?_,?_,?_,?_]
 .rw[qAa,qAr,qAa,rl,bl,Nat.min_self]
 .intro j x y hx hy
  have hj:j<cs.length:=by have:=(qAd.mp hx).1;omega
  rw[bg' j hj] at hx
  rw[qAc,EK hj] at hy
  cases hx
  cases hy
  refine#[by show 3<=1000;decide,by show 2<=1000;decide,?_]
  show((List.range cs.length).map _)[j]? = _
  rw[qAc,qAE hj]
  rfl
 .rw[qAa,qAr];omega
 refine atR (HS (ps:=CA cs m) (i:=0) 0 rfl ()) ?_
 have e0:(CA cs m).getD 0 dfR=(qr (tt cs 0),Mj (slp cs m 0) (vv cs 0-slp cs m 0*tt cs 0)):=by
  rw[qAf,EK n0]
  rfl
 rw[e0]
 refine#[_,Or.inl rfl,rfl,?_]
 refine#[by show 3<=1000;decide,by show 2<=1000;decide,by show 1<=1000;decide,?_]
 refine#[by rw[qBr,qAa,qAr];show cs.length+1<=_;omega,?_]
 have eQ:(trR cs m far).map rpD=((List.range cs.length).map (fun k=>rpD ((qr (if k+1<cs.length then 0-tt cs (k+1) else 0-far),(-(Mj (slp cs m k) (vv cs k-slp cs m k*tt cs k)).1,(Mj (slp cs m k) (vv cs k-slp cs m k*tt cs k)).2)):RP))).reverse++[rpD ((0,1),(0,(Mj (slp cs m 0) (vv cs 0-slp cs m 0*tt cs 0)).2))]:=by
  unfold trR
  rw[qAO,List.map_reverse,qBa]
  rfl
 rw[eQ] at q
 exact q
variable (Hk:Cal P w K mg base (CXU P w) 4 "turned" ["pieces","far"] K0)
theorem E5:Ad ["pieces","begun"] ["pieces"] (Aa CN):=scN
include AQ gc_NOUGHT Az in
theorem IV (F:Fun K "from_nought" "from_nought" CN f fd){cA cT:Addr}(ht_:W.tabIn K "from_nought"=some (cA,cT)) (hn_:rA K "from_nought" f) (hp_:(PyProof.Rows.recsOf P).any (fun d=>d.name == "from_nought")=true):Ap P w K mg base CX0 6 f fd ["pieces"] (Ae K mg E6):=by
 refine WC ht_ hn_ F E5 (fun ss R U h=>?_) (fun cdv A outer s H E ss R U ec hr h=>?_)
 .obtain⟨ps,P,k,m,c,rfl,_⟩:=h;rfl
 subst ec
 obtain⟨ps,P,k,m,c,rfl,pl,hl,hm,c0,c1,b1,b2,q⟩:=h
 refine#[_,(Ab (AK 1 E5 (He (x:="piece") Az (hr.mono ∅) rfl ht_ hp_ rfl (A8.mk' (Aa CN) ["pieces","begun"] rfl rfl (by decide +kernel) (N:=["piece"]) (idx:=[])) (vN 0) (fun cl nm a cdv A outer s H hr=>(Pr (Ao hr AQ (a2 (Kk rfl gc_NOUGHT) (vK 0)))))))
  (Bc (Nx Nk (GG (a1 (AH (a2 (Kk rfl gc_NOUGHT) (A3 (A3 (vN 0) (Ak Dx (vN 1) Ac)) Ac))))) (TZ (vN 0) (Kl (vN 1)) VS)))),?_]
 have len:=pl.len
 have hw:∀i,i<ps.length->Wq m (ps.getD i dfR).1.1 (ps.getD i dfR).1.2 (bg P i):=fun i hi=>(pl.lnw (Bm hi)).2.1
 refine#[fun x=>∃i,i<ps.length/\x=rpD (ps.getD i dfR),fun x=>!decide (0<PR x),?_,?_]
 .rintro x ⟨i,hi,rfl⟩
  refine#[_,_,_,_,0,bg P i,1,m,rfl,Wq.of Sz.zero,hw i hi,∅,(),?_]
  show S.d (.bl (!decide (0<bg P i)))=.d (.bl (!decide (0<PR (rpD (ps.getD i dfR)))))
  rw[GD (hw i hi)]
 intro a
 refine#[_,ps.map rpD,c,rfl,Or.inr (Or.inr rfl),by rw[qAa];omega,by rw[qAa];omega,fun i x hx=>?_,?_]
 .have hi:i<ps.length:=by have:=(qAd.mp hx).1;rw[qAa] at this;exact this
  rw[qAc,Bm hi] at hx
  cases hx
  refine#[#[i,hi,rfl],?_]
  show(!decide (0<PR (rpD (ps.getD i dfR))))=_
  rw[GD (hw i hi)]
  by_cases z:i<c
  .have:=b1 i z
   rw[decide_eq_true z,decide_eq_false ⋯]
   rfl
  .have:=b2 i () ()
   rw[decide_eq_false z,decide_eq_true this]
   rfl
 refine atR (HS (ps:=ps) (i:=(c:Int)-1) (c-1) () ()) ?_
 refine#[by show 2<=1000;decide,by show 1<=1000;decide,?_]
 have ec:Hh (ps.map rpD) (some (c:Int)) none=(ps.drop c).map rpD:=T9 ()
 refine#[by rw[ec,qAa,qAR];show 1+_<=_;omega,?_]
 rw[ec]
 exact q
variable (B9:Cal P w K mg base (CXU P w) 6 "from_nought" ["pieces"] E6)
theorem C2:Ad ["one_or_two","first","second"] ["one_or_two"] (Aa Ds):=scN
include AQ in
theorem Im (F:Fun K "sooner_begin" "sooner_begin" Ds f fd):Ap P w K mg base CX0 2 f fd ["one_or_two"] (Ae K mg EL):=by
 refine fn3 F C2 (fun ss R U h=>?_) (fun cdv A outer s H E ss R U hr h=>?_)
 .obtain⟨xs,p,q,s,t,m,rfl,_⟩:=h;rfl
 obtain⟨xs,p,q0,s,t,m,rfl,n0,rfl,rfl,w1,w2,hm,q⟩:=h
 refine#[_,(Ab (AK 1 C2 (A3 (vK 0) Ac))
  (Ab (AK 2 C2 (A3 (A3 (vN 0) (Ft Ac)) Ac))
  (Ab (BQ (Bu (Ao hr AQ (a2 (vN 2) (vN 1)))) (Af (DC (pv 2))) An)
  (Af (DC (pv 1)))))),?_]
 refine atR (HS (ps:=xs) (i:=0) 0 rfl n0) ?_
 refine atR (Rt (ps:=xs) n0) ?_
 refine#[_,_,_,_,t,s,m,m,rfl,w2,w1,(),(),?_]
 refine BI (fun c=>?_) (fun c=>?_)
 .rw[if_pos c] at q;exact q
 .rw[if_neg c] at q;exact q
variable (Cn:Cal P w K mg base (CXU P w) 2 "sooner_begin" ["one_or_two"] EL)
theorem AV:Ad ["pieces","others","first","one","other","rows","begin"] ["pieces","others"] (Aa Cr):=scN
include AQ AI Az Cn in
theorem Ig (F:Fun K "side_by_side" "side_by_side" Cr f fd){cA cT:Addr}(ht_:W.tabIn K "side_by_side"=some (cA,cT)) (hn_:rA K "side_by_side" f) (hp_:(PyProof.Rows.recsOf P).any (fun d=>d.name == "side_by_side")=true):Ap P w K mg base CX0 6 f fd ["pieces","others"] (Ae K mg EI):=by
 refine fnW (fun ss R U h=>?_) (WC ht_ hn_ F AV (fun ss R U h=>?_) (fun cdv A outer s H E ss R U ec hr h=>?_))
 .obtain⟨y,ps,os,P,O,k,m,c,rfl,hy,pl,ol,o0,uP,uO,hm,hl,c0,c1,b1,b2,q⟩:=h
  rcases hy with rfl|rfl<;>exact#[_,ps,os,P,O,k,m,c,rfl,(.inl rfl),pl,ol,o0,uP,uO,hm,hl,c0,c1,b1,b2,q]
 .obtain⟨y,ps,os,P,O,k,m,c,rfl,_⟩:=h.1;rfl
 subst ec
 obtain⟨h,nl_⟩:=h
 obtain⟨y,ps,os,P,O,k,m,c,rfl,hy,pl,ol,o0,uP,uO,hm,hl,c0,c1,b1,b2,q⟩:=h
 refine#[_,(Ab (AK 2 AV (A3 (vK 1) Ac))
  (Ab (AK 3 AV (Ak Dx (He (x:="piece") Az (hr.mono ∅) rfl ht_ hp_ rfl (A8.mk' (Aa Cr) ["pieces","others","first","one","other","rows","begin"] rfl rfl (by decide +kernel) (N:=["piece","first"]) (idx:=[2])) (vN 0) (fun cl nm a cdv A outer s H hr=>(Pr (Ao hr AQ (a2 (vN 1) (vK 0)))))) Ac))
  (Ab (AK 4 AV Ac)
  (Ab (AK 5 AV (GG (a1 (AH (AN (vN 2) (a2 (A3 (A3 (vN 0) (vN 3)) Ac) (A3 (A3 (vN 1) (vN 4)) Ac)))))))
  (Ab (Gs PassesOwn.never (PW3.pt (PV (Ce Kj (Ak AZ (vN 3) Ac) (CU AI (vN 0))) (JQ (Ce Kj (Ak AZ (vN 4) Ac) (CU AI (vN 1)))))) (Ab (AK 6 AV (Ao hr Cn (a1 (Nx Nk (TZ (vN 0) (Kl (Ak AZ (vN 3) Ac)) (Kl (Ak AZ (vN 3) Ac))) (TZ (vN 1) (Kl (Ak AZ (vN 4) Ac)) (Kl (Ak AZ (vN 4) Ac)))))))
  (B3 (BQ (PW3.pt (IL (Ce Kj (Ak AZ (vN 3) Ac) (CU AI (vN 0))) (E4 (w_not (Bu (Ao hr AQ (a2 (vN 6) (A3 (A3 (vN 0) (Ak AZ (vN 3) Ac)) Ac)))))))) (Af (Mh (i:=3) AV.nd rfl (Or.inl rfl) Ac)) An)
  (B3 (BQ (PW3.pt (IL (Ce Kj (Ak AZ (vN 4) Ac) (CU AI (vN 1))) (E4 (w_not (Bu (Ao hr AQ (a2 (vN 6) (A3 (A3 (vN 1) (Ak AZ (vN 4) Ac)) Ac)))))))) (Af (Mh (i:=4) AV.nd rfl (Or.inl rfl) Ac)) An)
  (Af (Fu (Bq (Fo qAD qAA qAB AU (pv 5) (AX (PE3.out (AH (AN (vN 6) (a2 (A3 (A3 (vN 0) (vN 3)) Ac) (A3 (A3 (vN 1) (vN 4)) Ac))))) Bt)))))))))
  (Af (DC (pv 5)))))))),?_]
 have l1:=pl.len
 have l2:=ol.len
 have wP:∀i,i<ps.length->Wq m (ps.getD i dfR).1.1 (ps.getD i dfR).1.2 (bg P i):=fun i hi=>(pl.lnw (Bm hi)).2.1
 have wO:∀i,i<os.length->Wq m (os.getD i dfR).1.1 (os.getD i dfR).1.2 (bg O i):=fun i hi=>(ol.lnw (Bm hi)).2.1
 obtain rfl:=IX hy (nl_ _ (by simp))
 refine atR (HS (ps:=os) (i:=0) 0 rfl ()) ?_
 refine#[fun x=>∃i,i<ps.length/\x=rpD (ps.getD i dfR),fun x=>!decide (bg O 0<PR x),?_,?_]
 .rintro x ⟨i,hi,rfl⟩
  refine#[_,_,_,_,bg O 0,bg P i,m,m,rfl,wO 0 (),wP i hi,(),(),?_]
  show S.d (.bl (!decide (bg O 0<bg P i)))=.d (.bl (!decide (bg O 0<PR (rpD (ps.getD i dfR)))))
  rw[GD (wP i hi)]
 intro a
 refine#[_,ps.map rpD,c,rfl,Or.inr (Or.inl rfl),by rw[qAa];omega,by rw[qAa];omega,fun i x hx=>?_,?_]
 .have hi:i<ps.length:=by have:=(qAd.mp hx).1;rw[qAa] at this;exact this
  rw[qAc,Bm hi] at hx
  cases hx
  refine#[#[i,hi,rfl],?_]
  show(!decide (bg O 0<PR (rpD (ps.getD i dfR))))=_
  rw[GD (wP i hi)]
  by_cases z:i<c
  .have:=b1 i z
   rw[decide_eq_true z,decide_eq_false ⋯]
   rfl
  .have:=b2 i () ()
   rw[decide_eq_false z,decide_eq_true this]
   rfl
 have ec:((c:Int)-1)=((c-1:Nat):Int):=()
 refine atR (HS (ps:=ps) (i:=(c:Int)-1) (c-1) ec ()) ?_
 refine atR (HS (ps:=os) (i:=0) 0 rfl ()) ?_
 refine#[by show 3<=1000;decide,by show 1<=1000;decide,?_]
 have s1:NC P O m [((os.getD 0 dfR).1,c-1,0)]:=NC.one (wO 0 ()) () o0 (b1 _ ()) (fun z=>b2 _ () z) (fun z=>uO 0 z)
 refine#[fun mm τ=>∃(rw0:List R4)(i0 j0:Nat)(y6:Option S),τ=[some (.r (ps.map rpD)),some (.r (os.map rpD)),some (.d (tp (os.getD 0 dfR).1.1 (os.getD 0 dfR).1.2)),I (i0:Int),I (j0:Int),some (.l (rw0.map (Tb ps os))),y6]/\NC P O m rw0/\iF' rw0 (rw0.length-1)=i0/\jF rw0 (rw0.length-1)=j0/\mm=(P.length-i0)+(O.length-j0),#[_,[((os.getD 0 dfR).1,c-1,0)],c-1,0,none,by rw[<-ec];rfl,s1,rfl,rfl,rfl],?_]
 rintro mm τ ⟨rw0,i0,j0,y6,rfl,sb,ei0,ej0,rfl⟩
 have hi0:i0<P.length:=by rw[<-ei0];exact sb.iP _ (by have:=sb.n0;omega)
 have hj0:j0<O.length:=by rw[<-ej0];exact sb.jO _ (by have:=sb.n0;omega)
 refine BI (fun c1=>?_) (fun c1=>BI (fun c2=>?_) (fun c2=>?_))
 rotate_left 2
 .rw[qAa] at c1 c2
  exact q rw0 sb (by rw[ei0];omega) (by rw[ej0];omega)
 all_goals
  have hc:i0+1<P.length\/j0+1<O.length:=by first|(rw[qAa] at c2;omega)|(rw[qAa] at c1;omega)
  obtain⟨p,q0,s,t,x,tm,x0,hp,hq,w1,w2,et,wx,x1,x2,x3⟩:=Yl pl ol (i:=i0) (j:=j0) hc
  refine#[by rw[J4 (xs:=ps) (j:=i0) () (),J4 (xs:=os) (j:=j0) () (),qAa,qAa,qAS,qAS];omega,?_]
  refine#[(ps.drop (i0+1)).take 1++(os.drop (j0+1)).take 1,p,q0,s,t,m,by rw[J4 (xs:=ps) (j:=i0) () (),J4 (xs:=os) (j:=j0) () (),<-qAO];rfl,x0,hp,hq,w1,w2,hm,?_]
  rw[et]
  obtain⟨i',ei'⟩:∃i',i'=if i0+1<P.length/\¬x<bg P (i0+1) then i0+1 else i0:=#[_,rfl]
  obtain⟨j',ej'⟩:∃j',j'=if j0+1<O.length/\¬x<bg O (j0+1) then j0+1 else j0:=#[_,rfl]
  refine#[fun τ=>τ=[some (.r (ps.map rpD)),some (.r (os.map rpD)),some (.d (tp (os.getD 0 dfR).1.1 (os.getD 0 dfR).1.2)),I (i':Int),I (j0:Int),some (.l (rw0.map (Tb ps os))),some (.d (tp tm.1 tm.2))],?_,?_]
  .refine BI (fun c1=>?_) (fun c1=>iF ?_)
   .rw[qAa] at c1
    refine atR (HS (ps:=ps) (i0+1) () ()) ?_
    refine#[_,_,_,_,x,bg P (i0+1),m,m,rfl,wx,(pl.lnw (Bm (show i0+1<ps.length from ()))).2.1,(),(),?_]
    refine Na (fun c2=>?_) (fun c2=>?_)
    .rw[if_pos #[(),c2]] at ei'
     rw[ei']
     rfl
    .rw[if_neg (fun z=>z.2 c2)] at ei'
     rw[ei']
     rfl
   .rw[qAa] at c1
    rw[if_neg (fun z=>c1 ())] at ei'
    rw[ei']
    rfl
  rintro τ rfl
  refine#[fun τ=>τ=[some (.r (ps.map rpD)),some (.r (os.map rpD)),some (.d (tp (os.getD 0 dfR).1.1 (os.getD 0 dfR).1.2)),I (i':Int),I (j':Int),some (.l (rw0.map (Tb ps os))),some (.d (tp tm.1 tm.2))],?_,?_]
  .refine BI (fun c1=>?_) (fun c1=>iF ?_)
   .rw[qAa] at c1
    refine atR (HS (ps:=os) (j0+1) () ()) ?_
    refine#[_,_,_,_,x,bg O (j0+1),m,m,rfl,wx,(ol.lnw (Bm (show j0+1<os.length from ()))).2.1,(),(),?_]
    refine Na (fun c2=>?_) (fun c2=>?_)
    .rw[if_pos #[(),c2]] at ej'
     rw[ej']
     rfl
    .rw[if_neg (fun z=>z.2 c2)] at ej'
     rw[ej']
     rfl
   .rw[qAa] at c1
    rw[if_neg (fun z=>c1 ())] at ej'
    rw[ej']
    rfl
  rintro τ rfl
  have st:=sb.step uP uO (tm:=tm) (x:=x) (i':=i') (j':=j') wx (by rw[ei0];exact x1) (by rw[ej0];exact x2) (by rw[ei0,ej0];exact x3) (by rw[ei0];exact ei') (by rw[ej0];exact ej')
  have hl':(rw0++[(tm,i',j')]).length-1=rw0.length:=by simp
  have ii:=Xp (rw:=rw0) (r:=(tm,i',j'))
  have iP':=st.iP rw0.length (by simp)
  have jO':=st.jO rw0.length (by simp)
  rw[ii.2.1] at iP'
  rw[ii.2.2.1] at jO'
  have iP':i'<P.length:=iP'
  have jO':j'<O.length:=jO'
  have st':=st.cnt
  rw[hl',ii.2.1,ii.2.2.1] at st'
  have st':(rw0++[(tm,i',j')]).length+iF' (rw0++[(tm,i',j')]) 0<=i'+j'+1+iF' (rw0++[(tm,i',j')]) 0:=st'
  have dec:i0+j0<i'+j':=by
   rcases x3 with⟨z1,z2⟩|⟨z1,z2⟩
   .rw[if_pos #[z1,by rw[z2];exact qA0]] at ei'
    split at ej'<;>omega
   .rw[if_pos #[z1,by rw[z2];exact qA0]] at ej'
    split at ei'<;>omega
  refine atR (HS (ps:=ps) i' rfl ()) ?_
  refine atR (HS (ps:=os) j' rfl ()) ?_
  rw[qAx] at st'
  have st':rw0.length+1+iF' (rw0++[(tm,i',j')]) 0<=i'+j'+1+iF' (rw0++[(tm,i',j')]) 0:=st'
  refine#[by show 3<=1000;decide,by rw[qAa];omega,?_]
  refine#[(P.length-i')+(O.length-j'),(),rw0++[(tm,i',j')],i',j',_,by rw[qAO];rfl,st,by rw[hl'];exact ii.2.1,by rw[hl'];exact ii.2.2.1,rfl]
variable (Cu:Cal P w K mg base (CXU P w) 6 "side_by_side" ["pieces","others"] EI)
theorem SF:Ad ["number"] ["number"] (Aa PC):=scN
theorem S6 (F:Fun K "sign" "sign" PC f fd):Ap P w K mg base CX0 1 f fd ["number"] (Ae K mg N0):=by
 refine fn3 F SF (fun ss R U h=>?_) (fun cdv A outer s H E ss R U hr h=>?_)
 .obtain⟨a,rfl,_⟩:=h;rfl
 obtain⟨a,rfl,q⟩:=h
 refine#[_,(Ab (BQ (Ce Kj (vN 0) Ac) (Bc (Ft Ac)) An)
  (Ab (BQ (Ce Rn (vN 0) Ac) (Bc Ac) An)
  (Bc Ac))),?_]
 refine BI (fun c=>?_) (fun c=>?_)
 .rw[qBO c] at q
  exact q
 refine BI (fun c2=>?_) (fun c2=>?_)
 .rw[qBY c2] at q
  exact q
 .have:a=0:=()
  subst this
  exact q
variable (Iu:Cal P w K mg base (CXU P w) 1 "sign" ["number"] N0)
theorem SW:Ad ["one","other","t"] ["one","other","t"] (Aa Pa):=scN
include Iu in
theorem Tv (F:Fun K "side" "side" Pa f fd):Ap P w K mg base CX0 2 f fd ["one","other","t"] (Ae K mg NK):=by
 refine fn3 F SW (fun ss R U h=>?_) (fun cdv A outer s H E ss R U hr h=>?_)
 .obtain⟨l1,l2,tn,td,q1,q2,t,k,m,rfl,_⟩:=h;rfl
 obtain⟨l1,l2,tn,td,q1,q2,t,k,m,rfl,h1,h2,w,hk,hm,q⟩:=h
 refine#[_,(Bc (Ao hr Iu (a1 (Ak Dx (Ak AB (Ak AZ (Ak AB (vK 0) (vK 2)) (Ak AB (vK 0) (vK 2))) (vK 1)) (Ak AB (Ak AZ (Ak AB (vK 1) (vK 2)) (Ak AB (vK 1) (vK 2))) (vK 0)))))),?_]
 have a1:=GO (Aj h1.s.la w.la) (Aj h1.c.la w.lb)
 have a2:=GO (Aj h2.s.la w.la) (Aj h2.c.la w.lb)
 refine#[AD h1.s.la w.la (),AD h1.c.la w.lb (),AD a1 h2.s.lb (),AD h2.s.la w.la (),AD h2.c.la w.lb (),AD a2 h1.s.lb (),_,rfl,?_]
 rw[SG h1 h2 w]
 exact q
variable (MA:Cal P w K mg base (CXU P w) 2 "side" ["one","other","t"] NK)
theorem RN:Ad ["one","other"] ["one","other"] (Aa NN):=scN
include Iu in
theorem Sl (F:Fun K "lean" "lean" NN f fd):Ap P w K mg base CX0 2 f fd ["one","other"] (Ae K mg NX):=by
 refine fn3 F RN (fun ss R U h=>?_) (fun cdv A outer s H E ss R U hr h=>?_)
 .obtain⟨l1,l2,q1,q2,k,rfl,_⟩:=h;rfl
 obtain⟨l1,l2,q1,q2,k,rfl,h1,h2,hk,q⟩:=h
 refine#[_,(Bc (Ao hr Iu (a1 (Ak Dx (Ak AB (vK 0) (vK 1)) (Ak AB (vK 1) (vK 0)))))),?_]
 refine#[AD h1.s.la h2.s.lb (),AD h2.s.la h1.s.lb (),_,rfl,?_]
 rw[R0 h1 h2]
 exact q
variable (Mk:Cal P w K mg base (CXU P w) 2 "lean" ["one","other"] NX)
theorem K1:Ad ["told","begin","line"] ["told","begin","line"] (Aa Fg):=scN
theorem Kw (F:Fun K "add_piece" "add_piece" Fg f fd):Ap P w K mg base CX0 1 f fd ["told","begin","line"] (Nn K Di):=by
 refine fnM F K1 (fun xs ds R h=>?_) (fun cdv A outer s H E a xs ds R hr h=>?_)
 .obtain⟨ps,p,rfl,rfl,_⟩:=h;rfl
 obtain⟨ps,p,rfl,rfl,hl,q⟩:=h
 refine#[_,(Af (BQ (PW3.pt (PV (w_not (V7 (pv 0))) (JQ (Ce (Tq 1 (hu_ hr ∅)) (A3 (A3 (vN 0) (Ft Ac)) Ac) (vN 2))))) (Af (Fu (Bq (Fo qAD qAA qAB AU (pv 0) (AX (PE3.out (AH (a2 (vN 1) (vN 2)))) Bt))))) An)),?_]
 rcases qBh ps.length with z|z
 .have z:=qAP z
  subst z
  exact#[by show 2<=1000;decide,∅,_,rfl,q _ (Or.inl #[rfl,fun q' h=>by cases h])]
 have hg:ps[ps.length-1]? = some (ps[ps.length-1]' ()):=qAb _
 have e:(List.map rpD ps).isEmpty=false:=by
  cases ps with
  |nil=>cases z
  |cons _ _=>rfl
 refine iF ?_ (congrArg (fun b=>!(!b)) e)
 refine atR (Kg hg) ?_
 refine#[rfl,rfl,?_]
 refine Yh (fun c=>?_) (fun c=>?_)
 .have:=q _ (Or.inl #[rfl,fun q' h=>by rw[hg] at h;cases h;exact c])
  rw[qAO] at this
  exact#[by show 2<=1000;decide,by rw[qAa];omega,_,rfl,this]
 .exact#[_,rfl,q _ (Or.inr #[rfl,_,hg,c])]
variable (BW:VL P w K mg base 1 "add_piece" ["told","begin","line"] Di)
theorem Lx:Ad ["one","other"] ["one","other"] (Aa GH):=scN
include A7 in
theorem Lg (F:Fun K "crossing" "crossing" GH f fd):Ap P w K mg base CX0 3 f fd ["one","other"] (Ae K mg HU):=by
 refine fn3 F Lx (fun ss R U h=>?_) (fun cdv A outer s H E ss R U hr h=>?_)
 .obtain⟨l1,l2,q1,q2,k,rfl,_⟩:=h;rfl
 obtain⟨l1,l2,q1,q2,k,rfl,h1,h2,hk,ne,q⟩:=h
 refine#[_,(Bc (Ao hr A7 (a2 (Ak Dx (Ak AB (vK 1) (vK 0)) (Ak AB (vK 0) (vK 1))) (Ak Dx (Ak AB (vK 0) (vK 1)) (Ak AB (vK 1) (vK 0)))))),?_]
 obtain⟨n,e⟩:=Mu h1 h2 ne
 refine#[AD h2.c.la h1.s.lb (),AD h1.c.la h2.s.lb (),AD h1.s.la h2.s.lb (),AD h2.s.la h1.s.lb (),_,_,rfl,n,Ay (FV (Aj h2.c.la h1.s.lb) (Aj h1.c.la h2.s.lb)) (),Ay (FV (Aj h1.s.la h2.s.lb) (Aj h2.s.la h1.s.lb)) (),?_]
 rw[e]
 exact q
variable (DI:Cal P w K mg base (CXU P w) 3 "crossing" ["one","other"] HU)
theorem Eh:Ad ["told","row","now","then","one","other"] ["told","row","now","then"] (Aa Fl):=scN
include BW DI in
theorem Ko (F:Fun K "add_lower" "add_lower" Fl f fd):Ap P w K mg base CX0 4 f fd ["told","row","now","then"] (Nn K GZ):=by
 refine fnM F Eh (fun xs ds R h=>?_) (fun cdv A outer s H E a xs ds R hr h=>?_)
 .obtain⟨ps,tm,l1,l2,now,thn,q1,q2,k,rfl,rfl,_⟩:=h;rfl
 obtain⟨ps,tm,l1,l2,now,thn,q1,q2,k,rfl,rfl,h1,h2,hk,hx,hl,q⟩:=h
 refine#[_,(Ab (AK 4 Eh (vK 1))
  (Ab (AK 5 Eh (vK 1))
  (B3 (BQ (PW3.pt (PV (Ce Kj (vN 2) Ac) (JQ (PW3.pt (IL (Ce IM (vN 2) Ac) (E4 (Ce Kj (vN 3) Ac))))))) (Af (HQ BW (hr.mono ∅) rfl (pv 0) (a2 (vK 1) (vN 4)))) (Af (HQ BW (hr.mono ∅) rfl (pv 0) (a2 (vK 1) (vN 5)))))
  (B3 (BQ (PW3.pt (IL (Ce Kj (vN 2) Ac) (E4 (Ce Rn (vN 3) Ac)))) (Af (HQ BW (hr.mono ∅) rfl (pv 0) (a2 (Ao hr DI (a2 (vN 4) (vN 5))) (vN 5)))) An)
  (Af (BQ (PW3.pt (IL (Ce Rn (vN 2) Ac) (E4 (Ce Kj (vN 3) Ac)))) (Af (HQ BW (hr.mono ∅) rfl (pv 0) (a2 (Ao hr DI (a2 (vN 4) (vN 5))) (vN 4)))) An)))))),?_]
 refine#[fun τ=>∃ps1:List RP,τ=[some (.l (ps1.map rpD)),some (.d (.tup [.tup [.int tm.1,.int tm.2],lnD l1,lnD l2])),I now,I thn,some (.d (lnD l1)),some (.d (lnD l2))]/\(if now<0\/(now=0/\thn<0) then K3 ps (tm,l1) ps1 else K3 ps (tm,l2) ps1),?_,?_]
 .have one:(now<0\/(now=0/\thn<0))->Di (ps.map rpD) [.tup [.int tm.1,.int tm.2],lnD l1] fun ys=>∃ps1:List RP,[some (.l ys),some (.d (.tup [.tup [.int tm.1,.int tm.2],lnD l1,lnD l2])),I now,I thn,some (.d (lnD l1)),some (.d (lnD l2))]=[some (.l (ps1.map rpD)),some (.d (.tup [.tup [.int tm.1,.int tm.2],lnD l1,lnD l2])),I now,I thn,some (.d (lnD l1)),some (.d (lnD l2))]/\(if now<0\/(now=0/\thn<0) then K3 ps (tm,l1) ps1 else K3 ps (tm,l2) ps1):=fun c=>#[ps,(tm,l1),rfl,rfl,(),fun ps' a=>#[ps',rfl,by rw[if_pos c];exact a]]
  have two:¬(now<0\/(now=0/\thn<0))->Di (ps.map rpD) [.tup [.int tm.1,.int tm.2],lnD l2] fun ys=>∃ps1:List RP,[some (.l ys),some (.d (.tup [.tup [.int tm.1,.int tm.2],lnD l1,lnD l2])),I now,I thn,some (.d (lnD l1)),some (.d (lnD l2))]=[some (.l (ps1.map rpD)),some (.d (.tup [.tup [.int tm.1,.int tm.2],lnD l1,lnD l2])),I now,I thn,some (.d (lnD l1)),some (.d (lnD l2))]/\(if now<0\/(now=0/\thn<0) then K3 ps (tm,l1) ps1 else K3 ps (tm,l2) ps1):=fun c=>#[ps,(tm,l2),rfl,rfl,(),fun ps' a=>#[ps',rfl,by rw[if_neg c];exact a]]
  refine BI (fun c=>one (.inl c)) (fun c=>?_)
  refine BI (fun c2=>?_) (fun c2=>two (fun z=>z.elim c fun z=>c2 z.1))
  exact BI (fun c3=>one (.inr #[c2,c3])) (fun c3=>two (fun z=>z.elim c fun z=>c3 z.2))
 rintro τ ⟨ps1,rfl,a1⟩
 have hl1:ps1.length<=ps.length+1:=by split at a1<;>exact a1.len
 refine#[fun τ=>∃ps2:List RP,τ=[some (.l (ps2.map rpD)),some (.d (.tup [.tup [.int tm.1,.int tm.2],lnD l1,lnD l2])),I now,I thn,some (.d (lnD l1)),some (.d (lnD l2))]/\(if now<0/\0<thn then K3 ps1 (((xg q1 q2).num,((xg q1 q2).den:Int)),l2) ps2 else ps2=ps1),?_,?_]
 .refine BI (fun c=>?_) (fun c=>#[ps1,rfl,by rw[if_neg (fun z=>c z.1)]])
  refine BI (fun c2=>?_) (fun c2=>#[ps1,rfl,by rw[if_neg (fun z=>c2 z.2)]])
  refine#[l1,l2,q1,q2,k,rfl,h1,h2,hk,hx (.inl #[c,c2]),?_]
  exact#[ps1,(((xg q1 q2).num,((xg q1 q2).den:Int)),l2),rfl,rfl,(),fun ps' a=>#[ps',rfl,by rw[if_pos #[c,c2]];exact a]]
 rintro τ ⟨ps2,rfl,a2⟩
 have hl2:ps2.length<=ps1.length+1:=by
  split at a2
  .exact a2.len
  .rw[a2];omega
 have fin:∀ps',(if 0<now/\thn<0 then K3 ps2 (((xg q1 q2).num,((xg q1 q2).den:Int)),l1) ps' else ps'=ps2)->QH ps tm l1 l2 now thn (xg q1 q2) ps':=fun ps' a=>by
  refine#[ps1,a1,?_]
  by_cases c:now<0/\0<thn
  .rw[if_pos c] at a2 ⊢
   rw[if_neg ()] at a
   rw[a]
   exact a2
  .rw[if_neg c] at a2 ⊢
   rw[<-a2]
   exact a
 refine BI (fun c=>?_) (fun c=>#[_,rfl,q _ (fin _ (by rw[if_neg (fun z=>c z.1)]))])
 refine BI (fun c2=>?_) (fun c2=>#[_,rfl,q _ (fin _ (by rw[if_neg (fun z=>c2 z.2)]))])
 refine#[l1,l2,q1,q2,k,rfl,h1,h2,hk,hx (.inr #[c,c2]),?_]
 exact#[ps2,(((xg q1 q2).num,((xg q1 q2).den:Int)),l1),rfl,rfl,(),fun ps' a=>#[_,rfl,q _ (fin _ (by rw[if_pos #[c,c2]];exact a))]]
variable (DN:VL P w K mg base 4 "add_lower" ["told","row","now","then"] GZ)
theorem Ch:Ad ["pieces","others","begin","told","rows","sides","number","row"] ["pieces","others"] (Aa Ez):=scN
variable (D1:mg "enumerate"=none)
include AQ Az Cu MA Mk DN D1 in
theorem Nz (F:Fun K "lowered" "lowered" Ez f fd){cA cT:Addr}(ht_:W.tabIn K "lowered"=some (cA,cT)) (hn_:rA K "lowered" f) (hp_:(PyProof.Rows.recsOf P).any (fun d=>d.name == "lowered")=true):Ap P w K mg base CX0 7 f fd ["pieces","others"] (Ae K mg Je):=by
 refine fnW (fun ss R U h=>?_) (WC ht_ hn_ F Ch (fun ss R U h=>?_) (fun cdv A outer s H E ss R U ec hr h=>?_))
 .obtain⟨y,ps,os,P,O,B,S0,G,V,k,m,h,g,rfl,hy,⟨rP,p0,ol,pO,o0,sO,gO,ux,hkm,hm,hb,hj,hl,hn0⟩,q⟩:=h
  rcases hy with rfl|rfl<;>exact#[_,ps,os,P,O,B,S0,G,V,k,m,h,g,rfl,(.inl rfl),#[rP,p0,ol,pO,o0,sO,gO,ux,hkm,hm,hb,hj,hl,hn0],q]
 .obtain⟨y,ps,os,P,O,B,S0,G,V,k,m,h,g,rfl,_⟩:=h.1;rfl
 subst ec
 obtain⟨h,nl_⟩:=h
 obtain⟨y,ps,os,P,O,B,S0,G,V,k,m,h,g,rfl,hy,⟨rP,p0,ol,pO,o0,sO,gO,ux,hkm,hm,hb,hj,hl,hn0⟩,q⟩:=h
 refine#[_,(Ab (AK 2 Ch (A3 (vK 1) Ac))
  (Ab (AK 3 Ch (TZ (vN 0) VS (Kl (He (x:="piece") Az (hr.mono ∅) rfl ht_ hp_ rfl (A8.mk' (Aa Ez) ["pieces","others","begin","told","rows","sides","number","row"] rfl rfl (by decide +kernel) (N:=["piece","begin"]) (idx:=[2])) (vN 0) (fun cl nm a cdv A outer s H hr=>(Ao hr AQ (a2 (vK 0) (vN 1))))))))
  (Ab (AK 4 Ch (Ao hr Cu (a2 (vN 0) (vN 1))))
  (Ab (KC (i:=5) (N:=["row"]) (idx:=[]) (A8.mk' (Aa Ez) ["pieces","others","begin","told","rows","sides","number","row"] rfl rfl (by decide +kernel)) rfl (Bp (PE3.out (vN 4))) Du (fun cl C s₀ H₀ fp=>Cm) (fun cl C s₀ H₀ fp=>(Ao hr MA (AN (vK 0) (a2 (vK 0) (vK 0))))) Ch.nd rfl (Or.inl rfl))
  (Ab (Fu (Bq (Fo qAD qAA qAB AU (pv 5) (AX (PE3.out (Ao hr Mk (a2 (A3 (A3 (vN 4) (Ft Ac)) Ac) (A3 (A3 (vN 4) (Ft Ac)) Ac)))) Bt))))
  (Ab (Vl (Cb PassesOwn.never rfl (TR rfl D1 (pv 4)) (Ri rfl (Hj (A9 (i:=6) Ch.nd rfl (Or.inl rfl)) (Hj (A9 (i:=7) Ch.nd rfl (Or.inl rfl)) Of))) (D5.out (Af (HQ DN (hr.mono ∅) rfl (pv 3) (AN (vN 7) (a2 (A3 (vN 5) (vN 6)) (A3 (vN 5) (Ak AZ (vN 6) Ac)))))))))
  (Af (DC (pv 3))))))))),?_]
 have pl:=rP.pl
 have pP:=rP.pu
 have uP:=pP.up
 have uO:=pO.up
 have l1:=pl.len
 have l2:=ol.len
 have wP:∀i,i<ps.length->Wq m (ps.getD i dfR).1.1 (ps.getD i dfR).1.2 (bg P i):=fun i hi=>(pl.lnw (Bm hi)).2.1
 have wO:∀i,i<os.length->Wq m (os.getD i dfR).1.1 (os.getD i dfR).1.2 (bg O i):=fun i hi=>(ol.lnw (Bm hi)).2.1
 obtain⟨c,cA0,cA1,cA2⟩:=Rj uP (bg O 0)
 obtain⟨d,d1,dB1,dB2⟩:=OE uP (bg O 0)
 have cA3:c<P.length->bg O 0<=bg P c:=fun z=>cA2 c (qAe _) z
 have d0:0<d:=by
  rcases qBh d with z|z
  .have:=dB2 0 () p0;grind
  .exact z
 have hj0:0<c->h (bg O 0)<=g (bg O 0):=fun z=>hj (cA1 0 z)
 obtain rfl:=IX hy (nl_ _ (by simp))
 refine atR (HS (ps:=os) (i:=0) 0 rfl ()) ?_
 refine#[fun x=>∃i,i<ps.length/\x=rpD (ps.getD i dfR),fun x=>decide (PR x<bg O 0),?_,?_]
 .rintro x ⟨i,hi,rfl⟩
  refine#[_,_,_,_,bg P i,bg O 0,m,m,rfl,wP i hi,wO 0 (),(),(),?_]
  show S.d (.bl (decide (bg P i<bg O 0)))=.d (.bl (decide (PR (rpD (ps.getD i dfR))<bg O 0)))
  rw[GD (wP i hi)]
 intro a
 refine#[_,ps.map rpD,c,rfl,Or.inr (Or.inl rfl),by rw[qAa];omega,by rw[qAa];omega,fun i x hx=>?_,?_]
 .have hi:i<ps.length:=by have:=(qAd.mp hx).1;rw[qAa] at this;exact this
  rw[qAc,Bm hi] at hx
  cases hx
  refine#[#[i,hi,rfl],?_]
  show decide (PR (rpD (ps.getD i dfR))<bg O 0)=_
  rw[GD (wP i hi)]
  refine decide_eq_decide.mpr #[fun z=>?_,fun z=>cA1 i z]
  by_cases y:i<c
  .exact y
  .have:=cA2 i () ();grind
 have ec:Hh (ps.map rpD) none (some (c:Int))=(ps.take c).map rpD:=Wh ()
 refine#[_,ps,os,P,O,k,m,d,rfl,Or.inl rfl,pl,ol,o0,uP,uO,(),(),d0,d1,dB1,dB2,fun rw0 sb e1 e2=>?_]
 have sA:=sb.all e1 e2
 have nw:=sb.n0
 have cn:=sb.cnt
 have iL:=sb.iP (rw0.length-1) ()
 have jL:=sb.jO (rw0.length-1) ()
 have lw1:∀n,n<rw0.length->LW k (ps.getD (iF' rw0 n) dfR).2 (ln P (iF' rw0 n)):=fun n hn=>(pl.lnw (Bm (by have:=sb.iP n hn;omega))).1
 have lw2:∀n,n<rw0.length->LW k (os.getD (jF rw0 n) dfR).2 (ln O (jF rw0 n)):=fun n hn=>(ol.lnw (Bm (by have:=sb.jO n hn;omega))).1
 refine#[(List.range rw0.length).map fun n=>some (D.int (sg (ev (ln P (iF' rw0 n)) (aF rw0 n)-ev (ln O (jF rw0 n)) (aF rw0 n)))),?_,?_,?_,?_]
 .rw[qAa,qAa,qAr]
 .intro n x hx
  have hn:n<rw0.length:=by have:=(qAd.mp hx).1;rw[qAa] at this;exact this
  rw[qAc,TJ hn] at hx
  cases hx
  refine#[_,_,_,_,_,_,aF rw0 n,k,m,rfl,lw1 n hn,lw2 n hn,sb.w n hn,(),(),?_]
  show((List.range rw0.length).map _)[n]? = _
  rw[qAc,qAE hn]
  rfl
 .rw[qAa];omega
 have ef:((List.range rw0.length).map fun n=>some (D.int (sg (ev (ln P (iF' rw0 n)) (aF rw0 n)-ev (ln O (jF rw0 n)) (aF rw0 n))))).filterMap id=(List.range rw0.length).map fun n=>D.int (sg (ev (ln P (iF' rw0 n)) (aF rw0 n)-ev (ln O (jF rw0 n)) (aF rw0 n))):=FN
 rw[ef]
 have eL:atI (rw0.map (Tb ps os)) (-1)=some (Tb ps os (tmF rw0 (rw0.length-1),iF' rw0 (rw0.length-1),jF rw0 (rw0.length-1))):=Kg (TJ ())
 refine atR eL ?_
 refine atR eL ?_
 refine#[_,_,_,_,k,rfl,lw1 _ (),lw2 _ (),(),?_]
 refine#[by rw[qAa,qAr];omega,?_]
 generalize eS:(List.range rw0.length).map (fun n=>D.int (sg (ev (ln P (iF' rw0 n)) (aF rw0 n)-ev (ln O (jF rw0 n)) (aF rw0 n))))++[D.int (sg ((ln P (iF' rw0 (rw0.length-1))).1-(ln O (jF rw0 (rw0.length-1))).1))]=sd
 have sl:sd.length=rw0.length+1:=by rw[<-eS];simp
 have sNow:∀n,n<rw0.length->atI sd (n:Int)=some (D.int (sg (ev (ln P (iF' rw0 n)) (aF rw0 n)-ev (ln O (jF rw0 n)) (aF rw0 n)))):=fun n hn=>by
  rw[CH.atI_nat (),<-eS,qAp (by simp;exact hn),qAc,qAE hn]
  rfl
 have sThn:∀n,n<rw0.length->atI sd ((n:Int)+1)=some (D.int (sg (DL (ln P (iF' rw0 n)) (ln O (jF rw0 n)) (TmN rw0.length (aF rw0) (n+1))))):=fun n hn=>by
  by_cases z:n+1<rw0.length
  .rw[sA.thn pP pO z,show(n:Int)+1=((n+1:Nat):Int) from ()]
   exact sNow (n+1) z
  .have en:n=rw0.length-1:=()
   rw[show(n:Int)+1=((rw0.length:Nat):Int) from (),CH.atI_nat (),<-eS,qAs (by simp),en]
   have e9:TmN rw0.length (aF rw0) (rw0.length-1+1)=none:=if_neg ()
   rw[e9]
   simp
   rfl
 refine#[fun n τ=>∃(qs:List RP)(Q:Ps)(y6 y7:Option S),τ=[some (.r (ps.map rpD)),some (.r (os.map rpD)),some (.d (tp (os.getD 0 dfR).1.1 (os.getD 0 dfR).1.2)),some (.l (qs.map rpD)),some (.r (rw0.map (Tb ps os))),some (.l sd),y6,y7]/\Sb B S0 G V k m ps os P O h g rw0.length (aF rw0) (iF' rw0) (jF rw0) n qs Q/\(n=0->qs=ps.take c),#[ps.take c,P.take c,none,none,by rw[<-ec];rfl,Sb.zero rP sA cA0 cA1 cA3 hj0,fun _=>rfl],?_,?_]
 .rintro n τ x hx ⟨qs,Q,y6,y7,rfl,li,z0⟩
  have hn:n<rw0.length:=by have:=(qAd.mp hx).1;rw[qAa] at this;exact this
  rw[qAc,TJ hn] at hx
  cases hx
  have ql:qs.length<=90000:=by
   have q1:=li.r.cn.len
   have q2:=li.r.pl.len
   rw[qAx] at q1
   have q3:(To O).length=O.length:=qAa _
   rw[q3] at q1
   omega
  refine atR (sNow n hn) ?_
  refine atR (sThn n hn) ?_
  refine#[qs,tmF rw0 n,(ps.getD (iF' rw0 n) dfR).2,(os.getD (jF rw0 n) dfR).2,_,_,ln P (iF' rw0 n),ln O (jF rw0 n),k,rfl,rfl,lw1 n hn,lw2 n hn,(),fun z=>?_,(),fun qs' ad=>?_]
  .rcases z with⟨z1,z2⟩|⟨z1,z2⟩
   .exact(IB (T:=TmN rw0.length (aF rw0) (n+1)) (a:=aF rw0 n) (by have:=Om.mp z1;grind) (MY (sA.lt hn) (ON.mp z2))).1
   .have:=(IB (l1:=ln O (jF rw0 n)) (l2:=ln P (iF' rw0 n)) (T:=TmN rw0.length (aF rw0) (n+1)) (a:=aF rw0 n) (by have:=ON.mp z1;grind) (MY (sA.lt hn) (by rw[GK];have:=Om.mp z2;grind))).1
    exact Ne.symm this
  obtain⟨Q',li'⟩:=li.step rP ol pO sO gO ux hkm sA hb hn (sb.w n hn) (Bm (show iF' rw0 n<ps.length by have:=sb.iP n hn;omega)) (Bm (show jF rw0 n<os.length by have:=sb.jO n hn;omega)) ad (fun z y=>by
   have t0:=z0 z
   rw[y] at t0
   have c0':c=0:=by
    have:(ps.take c).length=0:=by rw[<-t0];rfl
    rw[qAS] at this
    omega
   have:=cA2 0 () p0
   grind)
  exact#[qs',Q',_,_,rfl,li',fun z=>absurd z ()]
 rintro τ ⟨qs,Q,y6,y7,rfl,li,_⟩
 rw[qAa] at li
 have r:=li.r
 have e9:TmN rw0.length (aF rw0) rw0.length=none:=if_neg ()
 rw[e9] at r
 have lb:=li.b.2 nw
 exact q qs Q r (by rw[<-r.pl.len];exact List.length_pos_iff.mpr lb.1) lb.2
variable (Et:Cal P w K mg base (CXU P w) 7 "lowered" ["pieces","others"] Je)
theorem EZ:Ad ["g"] ["g"] (Aa BX):=scN
include BC in
theorem EX (F:Fun K "begin_and_steeper" "begin_and_steeper" BX f fd):Ap P w K mg base CX0 7 f fd ["g"] (Ae K mg CM):=by
 refine fn3 F EZ (fun ss R U h=>?_) (fun cdv A outer s H E ss R U hr h=>?_)
 .obtain⟨cs,m,a,b,c,rfl,_⟩:=h;rfl
 obtain⟨cs,m,a,b,c,rfl,o,z,hs,hl,q⟩:=h
 refine#[_,(Bc (Nx Nk (GG (a1 (A3 (vK 0) Ac))) (Ao hr BC (a1 (vN 0))))),?_]
 have sl:(stI cs m).length<=cs.length:=by
  unfold CH.stI
  rw[qAa]
  have:=qA2 (fun n=>decide (slp cs m n<slp cs m (n+1))) (List.range (cs.length-1))
  rw[qAr] at this
  omega
 refine atR (BL (cs:=cs) (i:=0) 0 rfl o.ne) ?_
 refine#[by show 1<=1000;decide,?_]
 refine#[cs,m,a,b,c,rfl,o,z,hs,hl,?_]
 refine#[by rw[qAa];show 1+(stI cs m).length<=_;omega,?_]
 exact q
variable (AJ:Cal P w K mg base (CXU P w) 7 "begin_and_steeper" ["g"] CM)
theorem CB:Ad ["f","g","ones","others","found","corner"] ["f","g"] (Aa JI):=scN
include B6 Av gc_NOUGHT AR Ci C8 EW KM EH Hk B9 Et AJ in
theorem N6 (F:Fun K "undone" "undone" JI f fd):Ap P w K mg base CX0 8 f fd ["f","g"] (Ae K mg Ku):=by
 refine fn3 F CB (fun ss R U h=>?_) (fun cdv A outer s H E ss R U hr h=>?_)
 .obtain⟨fc,fm,gc,gm,a,b,c,N,S0,rfl,_⟩:=h;rfl
 obtain⟨fc,fm,gc,gm,a,b,c,N,S0,rfl,⟨rf,rg,zf,zg,hb,hz,hn,hN,sf,sg,s0,fl,gl⟩,qn,q⟩:=h
 refine#[_,(Ab (BQ (Bu (Ao hr Ci (a2 (vN 0) (vN 1)))) (Bc Ng) An)
  (Ab (AK 2 CB (Ao hr EH (a1 (Ao hr C8 (a1 (vN 0))))))
  (Ab (AK 3 CB (Ao hr Hk (a2 (Ao hr C8 (a1 (vN 1))) (Ao hr B6 (a2 (A3 (A3 (vK 0) (Ft Ac)) Ac) (A3 (A3 (vK 1) (Ft Ac)) Ac))))))
  (Ab (AK 4 CB (GG (a1 (AH (a2 (Kk rfl gc_NOUGHT) (AH (AN Ac (a2 Ac Ac))))))))
  (Ab (Er (Cb PassesOwn.never rfl (Bp (PE3.out (Ao hr AJ (a1 (vN 1))))) (A9 (i:=5) CB.nd rfl (Or.inl rfl)) (D5.out (Af (AK 4 CB (Ao hr Et (a2 (vN 4) (Ao hr B9 (a1 (Ao hr KM (a2 (vN 2) (AH (a2 (Ao hr Av (a2 (Kk rfl gc_NOUGHT) (vK 5))) (vK 5))))))))))))))
  (Ab (Er (Cb PassesOwn.never rfl (Bp (PE3.out (Ao hr AR (a1 (vN 0))))) (A9 (i:=5) CB.nd rfl (Or.inl rfl)) (D5.out (Af (AK 4 CB (Ao hr Et (a2 (vN 4) (Ao hr B9 (a1 (Ao hr KM (a2 (vN 3) (AH (a2 (vK 5) (Ao hr Av (a2 (Kk rfl gc_NOUGHT) (vK 5))))))))))))))))
  (Bc (Ao hr EW (a1 (Ao hr EH (a1 (vN 4)))))))))))),?_]
 have of:=rf.o
 have og:=rg.o
 have f0:=of.ne
 have g0:=og.ne
 have zfm:=zf.m of
 have zgm:=zg.m og
 refine#[fc,fm,gc,gm,rfl,zfm.mono (),zgm.mono (),?_]
 refine BI (fun c1=>qn c1) (fun c1=>?_)
 have hm:fm<=gm:=⋯
 have q:=q hm
 refine#[fc,fm,a,b,c,rfl,of,zf,(),(),?_]
 refine#[_,CA fc fm,rfl,Or.inr rfl,by rw[CI];omega,?_]
 refine#[gc,gm,a,b,c,rfl,og,zg,(),(),?_]
 refine atR (OD (cs:=fc) 1 ∅ f0) ?_
 refine atR (OD (cs:=gc) 1 ∅ g0) ?_
 have tfl:=zf.tm (fc.length-1) ()
 have tgl:=zg.tm (gc.length-1) ()
 refine#[_,_,a,a,rfl,tfl,tgl,(),?_]
 have zfar:Sz (2*a+1) (tt fc (fc.length-1)+tt gc (gc.length-1)):=(tfl.add tgl).mono ()
 refine#[gc,gm,_,2*a+2,rfl,g0,(),fun i hi=>(zg.tm i hi).mono (),zfar.mono (),(),?_]
 refine#[by show 3<=1000;decide,by show 2<=1000;decide,by show 1<=1000;decide,?_]
 obtain⟨K,hK⟩:∃K,K=2*a+3*b+3*c+12:=#[_,rfl]
 obtain⟨Z,hZ⟩:∃Z,Z=2*(a+b+c)+5:=#[_,rfl]
 obtain⟨X,hX⟩:∃X,X=4*(a+b+c)+2*b+16:=#[_,rfl]
 obtain⟨W,hW⟩:∃W,W=2*(fc.length*gc.length)+2*fc.length+gc.length+3:=#[_,rfl]
 rw[<-hZ,<-hX] at q
 rw[<-hW] at hn
 have sub:=RQ of og sf sg s0
 have sL:(S0.map (fun y=>-y)).length=S0.length:=qAa _
 have sm0:(0:Rat)∈S0.map (fun y=>-y):=sub 0 UI
 have sp:1<=S0.length:=qCy s0
 have cnt:∀x,x<=W->x*(S0.map (fun y=>-y)).length<=N:=fun x hx=>qAJ (by rw[sL];exact qA4 _ hx) hn
 have WS:W<=40000:=by
  have:=qCd W sp
  omega
 have plF:PL (b+c) a ((CA fc fm).map flR) ((Eb fc fm).map flP):=(QZ of zf).flipped
 have plG:PL (b+c) (2*a+4) (trR gc gm (tt fc (fc.length-1)+tt gc (gc.length-1))) (GF (Eb gc gm) (tt fc (fc.length-1)+tt gc (gc.length-1))):=Vc og zg (n:=2*a+2) (zfar.mono ()) ()
 have ux:=WY (b:=b) (Z:=Z) (X:=X) ()
 have stl:(stI gc gm).length+1<=gc.length:=by
  unfold CH.stI
  rw[qAa]
  have:=qA2 (fun n=>decide (slp gc gm n<slp gc gm (n+1))) (List.range (gc.length-1))
  rw[qAr] at this
  omega
 have fll:(flI fc fm).length+1<=fc.length:=by
  unfold flI
  rw[qAa]
  have:=qA2 (fun n=>decide (slp fc fm (n+1)<slp fc fm n)) (List.range (fc.length-1))
  rw[qAr] at this
  omega
 refine#[gc,gm,a,b,c,rfl,og,zg,(),(),?_]
 refine#[fun n τ=>∃(qs:List RP)(Q:Ps)(B:List Rat)(h:Rat->Rat)(y5:Option S),τ=[some (.d (crv fc fm)),some (.d (crv gc gm)),some (.l (((CA fc fm).map flR).map rpD)),some (.d (.lst ((trR gc gm (tt fc (fc.length-1)+tt gc (gc.length-1))).map rpD))),some (.l (qs.map rpD)),y5]/\EY B ((S0.map (fun y=>-y))) (Gz b Z) (Sz X) K (2*K+1) h none qs Q/\0<Q.length/\bg Q 0=0/\PY (((0::stI gc gm).take n).map (cA fc fm gc)) h/\B.length<=n*fc.length,#[[((0,1),(0,0,1))],[(0,(0,0))],[],fun _=>0,none,rfl,Po sm0 hb () () () (),∅,rfl,PY.nil,qA8 _],?_,?_]
 .rintro n τ x hx ⟨qs,Q,B,h,y5,rfl,r,ne,b0,mi,bl⟩
  obtain⟨k,hk,rfl⟩:=Co hx
  have nl:n<(0::stI gc gm).length:=(qAd.mp hk).1
  have nl:n<(stI gc gm).length+1:=nl
  have kl:k<gc.length:=by
   rcases qAk.mp (qAF hk) with rfl|z
   .exact g0
   .exact(Ip.mp z).1
  have tg:=zg.tm k kl
  have vg:Sz (b+a+c+1) (vv gc k):=by
   have:=zg.va (CD og kl) tg
   rw[E3 og kl] at this
   exact this
  refine#[0,tt gc k,1,a,rfl,Sz.zero,tg,(),?_]
  refine#[by show 2<=1000;decide,?_]
  have w1:Wq (a+b+c+3) (0-tt gc k).num ((0-tt gc k).den:Int) (0-tt gc k):=Wq.of ((Sz.zero.sub tg).mono ())
  have w2:Wq (a+b+c+3) (vv gc k).num ((vv gc k).den:Int) (vv gc k):=Wq.of (vg.mono ())
  refine#[_,(CA fc fm).map flR,(Eb fc fm).map flP,_,_,_,_,_,_,b+c,a,a+b+c+3,rfl,Or.inl rfl,plF,w1,w2,(),(),(),by rw[qAa,CI];omega,?_]
  have plA:PL K (2*K+1) (((CA fc fm).map flR).map (mvR (0-tt gc k).num ((0-tt gc k).den:Int) (vv gc k).num ((vv gc k).den:Int))) (pA fc fm gc k):=(plF.moved w1 w2).mono (k':=K) (m':=2*K+1) () ()
  have puA:=Wg (fm:=fm) (gc:=gc) of (k:=k)
  have lA:=OO (fc:=fc) (fm:=fm) (gc:=gc) (k:=k)
  obtain⟨d,d1,d2,d3⟩:=OE puA.up 0
  have d0:0<d:=by
   rcases qBh d with z|z
   .have:=d3 0 () (by rw[lA];exact f0)
    rw[(Qy f0).1,of.t0] at this
    have:=CD og kl
    grind
   .exact z
  have gA:=Wi of og zf zg kl (Z:=Z) (X:=X) () ()
  have oth:Tz ((S0.map (fun y=>-y))) b Z X K (2*K+1) (frR (((CA fc fm).map flR).map (mvR (0-tt gc k).num ((0-tt gc k).den:Int) (vv gc k).num ((vv gc k).den:Int))) d) (frN (pA fc fm gc k) d) (cA fc fm gc k):=Ra (K:=K) (m:=2*K+1) plA puA () () d0 d1 d2 d3 (fun x hx=>sub _ (gA.1 x hx)) gA.2
  refine#[_,pA fc fm gc k,K,2*K+1,d,rfl,plA,by rw[qAa,qAa,CI];omega,(),d0,d1,d2,d3,?_]
  have oL:(frN (pA fc fm gc k) d).length<=fc.length:=by rw[Ef,lA];omega
  have ol':=oth.pl.len
  have nm:n*fc.length<=fc.length*gc.length:=by rw[Nat.mul_comm];exact qCd _ ()
  have c1':=cnt (B.length+1) ()
  have c2':=cnt (B.length+(frN (pA fc fm gc k) d).length+1) ()
  have ql:qs.length<=40000:=by rw[r.pl.len];exact qAJ (qAJ r.cn.len c1') hN
  refine#[_,qs,frR (((CA fc fm).map flR).map (mvR (0-tt gc k).num ((0-tt gc k).den:Int) (vv gc k).num ((vv gc k).den:Int))) d,Q,frN (pA fc fm gc k) d,B,(S0.map (fun y=>-y)),Gz b Z,Sz X,K,2*K+1,h,cA fc fm gc k,rfl,Or.inr rfl,#[r,ne,oth.pl,oth.pu,oth.ne,oth.sl,oth.gd,ux,(),(),by rw[b0,oth.b0];exact qAg,fun z=>?_,(),()],fun qs' Q' r' ne' b0'=>?_]
  .rw[b0,oth.b0] at z;exact absurd z qA0
  rw[oth.b0] at r'
  refine#[qs',Q',_,_,_,rfl,r',ne',b0'.trans b0,?_,?_]
  .rw[qBp,hk,qAO]
   exact mi.add
  .rw[qAx,show(To (frN (pA fc fm gc k) d)).length=(frN (pA fc fm gc k) d).length from qAa _,Nat.add_mul]
   omega
 rintro τ ⟨qs,Q,B,h,y5,rfl,r,ne,b0,mi,bl⟩
 rw[qAa] at mi bl
 rw[qBt (qAe _)] at mi
 replace bl:B.length<=fc.length*gc.length:=qAJ bl (by rw[Nat.mul_comm];exact qCd _ (by show(stI gc gm).length+1<=_;exact stl))
 refine#[fc,fm,a,b,c,rfl,of,zf,(),(),?_]
 refine#[fun n τ=>∃(qs:List RP)(Q:Ps)(B:List Rat)(h:Rat->Rat)(y5:Option S),τ=[some (.d (crv fc fm)),some (.d (crv gc gm)),some (.l (((CA fc fm).map flR).map rpD)),some (.d (.lst ((trR gc gm (tt fc (fc.length-1)+tt gc (gc.length-1))).map rpD))),some (.l (qs.map rpD)),y5]/\EY B ((S0.map (fun y=>-y))) (Gz b Z) (Sz X) K (2*K+1) h none qs Q/\0<Q.length/\bg Q 0=0/\PY ((0::stI gc gm).map (cA fc fm gc)++((flI fc fm).take n).map (cB fc gc gm)) h/\B.length<=fc.length*gc.length+n*(gc.length+1),#[qs,Q,B,h,_,rfl,r,ne,b0,by rw[List.take_zero,List.map_nil,qBx];exact mi,()],?_,?_]
 .clear r ne b0 mi bl
  clear qs Q B h y5
  rintro n τ x hx ⟨qs,Q,B,h,y5,rfl,r,ne,b0,mi,bl⟩
  obtain⟨k,hk,rfl⟩:=Co hx
  have nl:n<(flI fc fm).length:=(qAd.mp hk).1
  have hm':=Ie.mp (qAF hk)
  have kl:=hm'.1
  have tf:=zf.tm k kl
  have vf:Sz (b+a+c+1) (vv fc k):=by
   have:=zf.va (CD of kl) tf
   rw[E3 of kl] at this
   exact this
  have tkl:tt fc k<=tt fc (fc.length-1):=Bn of.up () ()
  have tk0:0<tt fc k:=by
   have h1:=of.up 0 ()
   rw[of.t0] at h1
   have h2:=Bn of.up (i:=0+1) (j:=k) () kl
   grind
  have far1:tt gc (gc.length-1)<tt fc (fc.length-1)+tt gc (gc.length-1):=⋯
  refine#[0,vv fc k,1,b+a+c+1,rfl,Sz.zero,vf,(),?_]
  refine#[by show 2<=1000;decide,?_]
  have w1:Wq (a+b+c+3) (tt fc k).num ((tt fc k).den:Int) (tt fc k):=Wq.of (tf.mono ())
  have w2:Wq (a+b+c+3) (0-vv fc k).num ((0-vv fc k).den:Int) (0-vv fc k):=Wq.of ((Sz.zero.sub vf).mono ())
  have tl:(trR gc gm (tt fc (fc.length-1)+tt gc (gc.length-1))).length=gc.length+1:=by rw[plG.len,Fi,AS]
  refine#[_,trR gc gm (tt fc (fc.length-1)+tt gc (gc.length-1)),GF (Eb gc gm) (tt fc (fc.length-1)+tt gc (gc.length-1)),_,_,_,_,_,_,b+c,2*a+4,a+b+c+3,rfl,Or.inr rfl,plG,w1,w2,(),(),(),by rw[tl];omega,?_]
  have plA:PL K (2*K+1) ((trR gc gm (tt fc (fc.length-1)+tt gc (gc.length-1))).map (mvR (tt fc k).num ((tt fc k).den:Int) (0-vv fc k).num ((0-vv fc k).den:Int))) (pB fc gc gm (tt fc (fc.length-1)+tt gc (gc.length-1)) k):=(plG.moved w1 w2).mono (k':=K) (m':=2*K+1) () ()
  have puA:=WE (fc:=fc) (gm:=gm) og (k:=k) far1
  have lA:=Ot (fc:=fc) (gc:=gc) (gm:=gm) (k:=k) (far:=tt fc (fc.length-1)+tt gc (gc.length-1))
  have b00:=XB (fc:=fc) (gm:=gm) og (k:=k) (far:=tt fc (fc.length-1)+tt gc (gc.length-1))
  obtain⟨d,d1,d2,d3⟩:=OE puA.up 0
  have d0:0<d:=by
   rcases qBh d with z|z
   .have:=d3 0 () (by rw[lA];omega)
    rw[b00] at this
    have:=CD og (show gc.length-1<gc.length from ())
    grind
   .exact z
  have gA:=V3 of og zf zg kl zfar (Z:=Z) (X:=X) hb () ()
  have oth:Tz ((S0.map (fun y=>-y))) b Z X K (2*K+1) (frR ((trR gc gm (tt fc (fc.length-1)+tt gc (gc.length-1))).map (mvR (tt fc k).num ((tt fc k).den:Int) (0-vv fc k).num ((0-vv fc k).den:Int))) d) (frN (pB fc gc gm (tt fc (fc.length-1)+tt gc (gc.length-1)) k) d) (cB fc gc gm k):=Ra (K:=K) (m:=2*K+1) plA puA () () d0 d1 d2 d3 (fun x hx=>sub _ (gA.1 x hx)) gA.2
  refine#[_,pB fc gc gm (tt fc (fc.length-1)+tt gc (gc.length-1)) k,K,2*K+1,d,rfl,plA,by rw[qAa,tl];omega,(),d0,d1,d2,d3,?_]
  have oL:(frN (pB fc gc gm (tt fc (fc.length-1)+tt gc (gc.length-1)) k) d).length<=gc.length+1:=by rw[Ef,lA];omega
  have ol':=oth.pl.len
  have nm:(n+1)*(gc.length+1)<=fc.length*(gc.length+1):=qA4 _ ()
  have n1:(n+1)*(gc.length+1)=n*(gc.length+1)+(gc.length+1):=Nat.succ_mul _ _
  have n2:fc.length*(gc.length+1)=fc.length*gc.length+fc.length:=Nat.mul_succ _ _
  have c1':=cnt (B.length+1) ()
  have c2':=cnt (B.length+(frN (pB fc gc gm (tt fc (fc.length-1)+tt gc (gc.length-1)) k) d).length+1) ()
  have ql:qs.length<=40000:=by rw[r.pl.len];exact qAJ (qAJ r.cn.len c1') hN
  refine#[_,qs,frR ((trR gc gm (tt fc (fc.length-1)+tt gc (gc.length-1))).map (mvR (tt fc k).num ((tt fc k).den:Int) (0-vv fc k).num ((0-vv fc k).den:Int))) d,Q,frN (pB fc gc gm (tt fc (fc.length-1)+tt gc (gc.length-1)) k) d,B,(S0.map (fun y=>-y)),Gz b Z,Sz X,K,2*K+1,h,cB fc gc gm k,rfl,Or.inr rfl,#[r,ne,oth.pl,oth.pu,oth.ne,oth.sl,oth.gd,ux,(),(),by rw[b0,oth.b0];exact qAg,fun z=>?_,(),()],fun qs' Q' r' ne' b0'=>?_]
  .rw[b0,oth.b0] at z;exact absurd z qA0
  rw[oth.b0] at r'
  refine#[qs',Q',_,_,_,rfl,r',ne',b0'.trans b0,?_,?_]
  .rw[qBp,hk,qAO,<-List.append_assoc]
   exact mi.add
  .rw[qAx,show(To (frN (pB fc gc gm (tt fc (fc.length-1)+tt gc (gc.length-1)) k) d)).length=(frN (pB fc gc gm (tt fc (fc.length-1)+tt gc (gc.length-1)) k) d).length from qAa _]
   omega
 clear r ne b0 mi bl
 clear qs Q B h y5
 rintro τ ⟨qs,Q,B,h,y5,rfl,r,ne,b0,mi,bl⟩
 rw[qAa] at mi bl
 rw[qBt (qAe _)] at mi
 have nm:(flI fc fm).length*(gc.length+1)<=fc.length*(gc.length+1):=qA4 _ ()
 have n2:fc.length*(gc.length+1)=fc.length*gc.length+fc.length:=Nat.mul_succ _ _
 have c1':=cnt (B.length+1) ()
 have ql0:Q.length<=(B.length+1)*((S0.map (fun y=>-y))).length:=r.cn.len
 have ql:qs.length<=40000:=by rw[r.pl.len];exact qAJ (qAJ ql0 c1') hN
 obtain⟨o,m0,eM,iv,ls⟩:=Sx rf rg hm r ne b0 mi
 refine#[_,qs,rfl,Or.inl rfl,(),?_]
 have fl':(Q.map flP).length=Q.length:=qAa _
 refine#[_,qs.map flR,Q.map flP,K,2*K+1,rfl,Or.inr rfl,r.pl.flipped,by rw[qAa,r.pl.len];exact ne,by rw[qAa];omega,(),ls.szd o (by rw[Bo];omega) () (),o,m0,?_]
 have ki:=Mf o m0
 have kv:=fun t=>Jf (m:=(ln (Q.map flP) ((Q.map flP).length-1)).1) o t
 have kl':=L6 (G2 (Q.map flP)) (ln (Q.map flP) ((Q.map flP).length-1)).1 ((G2 (Q.map flP)).length-1)
 have kls:=ls.kept o
 have ksl:=(UD r o).kept o
 rw[Bo] at ki kv kl' kls ksl
 rw[eM] at ki kv kl' kls ksl iv ⊢
 refine q _ ki (fun t t0=>?_) kls ksl ?_
 .rw[(kv t).1];exact iv t t0
 .omega
variable (Hm:Cal P w K mg base (CXU P w) 8 "undone" ["f","g"] Ku)
theorem Lp:Ad ["f","g","t","u"] ["f","g","t","u"] (Aa GA):=scN
include B6 Av BE in
theorem Lh (F:Fun K "ahead_by" "ahead_by" GA f fd):Ap P w K mg base CX0 8 f fd ["f","g","t","u"] (Ae K mg IH):=by
 refine fn3 F Lp (fun ss R U h=>?_) (fun cdv A outer s H E ss R U hr h=>?_)
 .obtain⟨fc,fm,gc,gm,t,u,a,b,c,n,rfl,_⟩:=h;rfl
 obtain⟨fc,fm,gc,gm,t,u,a,b,c,n,rfl,⟨of,og,zf,zg,hs,lf,lg⟩,t0,u0,zt,zu,hn,q⟩:=h
 refine#[_,(Bc (Ao hr Av (a2 (Ao hr BE (a2 (vN 0) (Ao hr B6 (a2 (vN 2) (vN 3))))) (Ao hr BE (a2 (vN 1) (vN 3)))))),?_]
 have tu:0<=t+u:=⋯
 have zs:=zt.add zu
 refine#[t,u,n,n,rfl,zt,zu,(),?_]
 refine#[fc,fm,t+u,a,b,c,_,rfl,of,zf,(),(),(),(),(),zs,fun _=>?_,fun z=>absurd tu z]
 refine#[gc,gm,u,a,b,c,n,rfl,og,zg,(),(),(),(),(),zu,fun _=>?_,fun z=>absurd u0 z]
 exact#[_,_,_,_,rfl,zf.va tu zs,zg.va u0 zu,(),q]
variable (DJ:Cal P w K mg base (CXU P w) 8 "ahead_by" ["f","g","t","u"] IH)
theorem Ck:Ad ["f","g","t","told","corner"] ["f","g","t"] (Aa BV):=scN
include Av As AR AJ in
theorem GJ (F:Fun K "possible_leads" "possible_leads" BV f fd):Ap P w K mg base CX0 8 f fd ["f","g","t"] (Ae K mg DH):=by
 refine fn3 F Ck (fun ss R U h=>?_) (fun cdv A outer s H E ss R U hr h=>?_)
 .obtain⟨fc,fm,gc,gm,t,a,b,c,n,rfl,_⟩:=h;rfl
 obtain⟨fc,fm,gc,gm,t,a,b,c,n,rfl,⟨of,og,zf,zg,hs,lf,lg⟩,zt,hn,q⟩:=h
 refine#[_,(Ab (KC (i:=3) (N:=["corner"]) (idx:=[]) (A8.mk' (Aa BV) ["f","g","t","told","corner"] rfl rfl (by decide +kernel)) rfl (Bp (PE3.out (Ao hr AJ (a1 (vN 1))))) Du (fun cl C s₀ H₀ fp=>Cm) (fun cl C s₀ H₀ fp=>(vK 0)) Ck.nd rfl (Or.inl rfl))
  (Ab (Er (Cb PassesOwn.never rfl (Bp (PE3.out (Ao hr AR (a1 (vN 0))))) (A9 (i:=4) Ck.nd rfl (Or.inl rfl)) (D5.out (Af (BQ (Bu (Ao hr As (a2 (vN 2) (vK 4)))) (Af (Fu (Bq (Fo qAD qAA qAB AU (pv 3) (AX (PE3.out (Ao hr Av (a2 (vK 4) (vN 2)))) Bt))))) An)))))
  (Af (DC (pv 3))))),?_]
 have sl:(stI gc gm).length<=gc.length:=by
  unfold CH.stI
  rw[qAa]
  have:=qA2 (fun n=>decide (slp gc gm n<slp gc gm (n+1))) (List.range (gc.length-1))
  rw[qAr] at this
  omega
 have fl:(flI fc fm).length<=fc.length:=by
  unfold CH.flI
  rw[qAa]
  have:=qA2 (fun n=>decide (slp fc fm (n+1)<slp fc fm n)) (List.range (fc.length-1))
  rw[qAr] at this
  omega
 refine#[gc,gm,a,b,c,rfl,og,zg,(),lg,?_]
 refine#[(0::stI gc gm).map fun k=>some (qd (tt gc k)),by rw[qAa,qAa],?_,?_,?_]
 .intro i x hx
  obtain⟨k,hk,rfl⟩:=Co hx
  show((0::stI gc gm).map _)[i]? = _
  rw[qAc,hk]
  rfl
 .rw[qAa];show(stI gc gm).length+1<=_;omega
 rw[Ey (0::stI gc gm) (fun k=>qd (tt gc k))]
 refine#[fc,fm,a,b,c,rfl,of,zf,(),lf,?_]
 refine#[fun n' τ=>∃(us:List Rat)(y4:Option S),τ=[some (.d (crv fc fm)),some (.d (crv gc gm)),some (.d (qd t)),some (.l (us.map qd)),y4]/\us.length<=5001+n'/\n'<=5000/\(∀u∈us,0<=u/\Sz (a+n+1) u)/\(∀k∈stI gc gm,tt gc k∈us)/\(∀j k,j<n'->(flI fc fm)[j]? = some k->t<tt fc k->tt fc k-t∈us),#[(0::stI gc gm).map (tt gc),none,by rw[qBa];rfl,by rw[qAa];show(stI gc gm).length+1<=_;omega,(),fun u hu=>?_,fun k hk=>qAH.mpr #[k,qAk.mpr (.inr hk),rfl],fun j k hj=>absurd hj (qBG j)],?_,?_]
 .obtain⟨k,hk,rfl⟩:=qAH.mp hu
  have kl:k<gc.length:=by
   rcases qAk.mp hk with rfl|hk
   .exact og.ne
   .exact(Ip.mp hk).1
  exact#[CD og kl,(zg.tm k kl).mono ()]
 .rintro i τ x hx ⟨us,y4,rfl,ul,i0,good,g1,g2⟩
  have il:=(qAd.mp hx).1
  rw[qAa] at il
  obtain⟨k,hk,rfl⟩:=Co hx
  have kf:=Ie.mp (qAF hk)
  have zk:=zf.tm k kf.1
  refine#[t,tt fc k,_,_,rfl,zt,zk,(),?_]
  have ext:∀us':List Rat,(∀u∈us,u∈us')->(t<tt fc k->tt fc k-t∈us')->∀j k',j<i+1->(flI fc fm)[j]? = some k'->t<tt fc k'->tt fc k'-t∈us':=fun us' h1 h2 j k' hj hk' ht=>by
   by_cases e:j<i
   .exact h1 _ (g2 j k' e hk' ht)
   .have:j=i:=()
    subst this
    rw[hk] at hk'
    cases hk'
    exact h2 ht
  refine BI (fun c=>?_) (fun c=>?_)
  .refine#[tt fc k,t,_,_,rfl,zk,zt,(),?_]
   refine#[by rw[qAa];omega,us++[tt fc k-t],_,by rw[qAO];rfl,by rw[qAx];show us.length+1<=_;omega,(),fun u hu=>?_,fun k hk=>qAo.mpr (.inl (g1 k hk)),ext _ (fun u hu=>qAo.mpr (.inl hu)) (fun _=>qAo.mpr (.inr (qAz.mpr rfl)))]
   rcases qAo.mp hu with h|h
   .exact good u h
   .rw[qAz.mp h]
    exact#[⋯,(zk.sub zt).mono ()]
  .exact#[us,_,rfl,(),(),good,g1,ext us (fun _ h=>h) (fun h=>absurd h c)]
 rintro τ ⟨us,y4,rfl,ul,_,good,g1,g2⟩
 refine q us (by rw[qAa] at ul;omega) good g1 (fun k hk ht=>?_)
 obtain⟨j,hj⟩:=qCF.mp hk
 exact g2 j k (by rw[qAa];exact(qAd.mp hj).1) hj ht
variable (BS:Cal P w K mg base (CXU P w) 8 "possible_leads" ["f","g","t"] DH)
theorem Fq:Ad ["f","g","t","best","worth","u","value"] ["f","g","t"] (Aa NW):=scN
include As gc_NOUGHT Bv Ci DJ BS in
theorem SY (F:Fun K "lead" "lead" NW f fd):Ap P w K mg base (CXU P w) 9 f fd ["f","g","t"] (Ae K mg NR):=by
 refine fnU F Fq (fun ss R U h=>?_) (fun cdv A outer s H E ss R U hr h xo=>?_)
 .obtain⟨fc,fm,gc,gm,t,a,b,c,n,rfl,_⟩:=h;rfl
 obtain⟨fc,fm,gc,gm,t,a,b,c,n,rfl,⟨of,og,zf,zg,hs,lf,lg⟩,zt,hn,q1,q2,qu⟩:=h
 refine#[_,(Ab (Ml (Ja xo hr Bv (a1 (vN 2))))
  (Ab (BQ (Bu (Ja xo hr Ci (a2 (vN 0) (vN 1)))) (Bc Ng) An)
  (Ab (AK 3 Fq (Kk rfl gc_NOUGHT))
  (Ab (AK 4 Fq (Ja xo hr DJ (AN (vN 0) (AN (vN 1) (a2 (vN 2) (vN 3))))))
  (Ab (Er (Cb PassesOwn.leaving rfl (Bp (PE3.out (Ja xo hr BS (AN (vN 0) (a2 (vN 1) (vN 2)))))) (A9 (i:=5) Fq.nd rfl (Or.inl rfl)) (D5.out (Ab (AK 6 Fq (Ja xo hr DJ (AN (vN 0) (AN (vN 1) (a2 (vN 2) (vN 5))))))
  (Af (BQ (Bu (Ja xo hr As (a2 (vN 4) (vN 6)))) (Ab (AK 3 Fq (vN 5))
  (Af (AK 4 Fq (vN 6)))) An))))))
  (Af (DC (pv 3)))))))),?_]
 refine#[t,n,rfl,(),zt,fun t0=>?_,fun z=>qu z]
 have zt':=zt.mono (show n<=a+n+1 from ())
 refine#[fc,fm,gc,gm,rfl,(zf.m of).mono (),(zg.m og).mono (),?_]
 refine BI (fun lt=>q1 t0 lt) (fun ge=>?_)
 have le:fm<=gm:=qAM.mp ge
 refine#[fc,fm,gc,gm,t,0,a,b,c,a+n+1,rfl,#[of,og,zf,zg,hs,lf,lg],t0,qAg,zt',Sz.zero.mono (),(),?_]
 refine#[fc,fm,gc,gm,t,a,b,c,n,rfl,#[of,og,zf,zg,hs,lf,lg],zt,(),fun us ul good g1 g2=>?_]
 have zgap:∀{u:Rat},0<=u->Sz (a+n+1) u->Sz 9000 (G8 fc fm gc gm t u):=fun {u} u0 zu=>by
  have tu:0<=t+u:=⋯
  unfold G8
  exact((zf.va tu (zt.add zu)).sub (zg.va u0 zu)).mono ()
 refine#[fun i τ=>∃(b':Rat)(y5 y6:Option S),τ=[some (.d (crv fc fm)),some (.d (crv gc gm)),some (.d (qd t)),some (.d (qd b')),some (.d (qd (G8 fc fm gc gm t b'))),y5,y6]/\0<=b'/\Sz (a+n+1) b'/\G8 fc fm gc gm t 0<=G8 fc fm gc gm t b'/\∀j u,j<i->us[j]? = some u->G8 fc fm gc gm t u<=G8 fc fm gc gm t b',#[0,none,none,rfl,qAg,Sz.zero.mono (),qAg,fun j u hj=>absurd hj (qBG j)],?_,?_]
 .rintro i τ x hx ⟨b',y5,y6,rfl,b0,zb,h0,hb⟩
  obtain⟨u,hu,rfl⟩:=Co hx
  obtain⟨u0,zu⟩:=good u (qAF hu)
  refine#[fc,fm,gc,gm,t,u,a,b,c,a+n+1,rfl,#[of,og,zf,zg,hs,lf,lg],t0,u0,zt',zu,(),?_]
  refine#[_,_,9000,9000,rfl,zgap b0 zb,zgap u0 zu,(),?_]
  have ext:∀w:Rat,G8 fc fm gc gm t b'<=G8 fc fm gc gm t w->G8 fc fm gc gm t u<=G8 fc fm gc gm t w->∀j v,j<i+1->us[j]? = some v->G8 fc fm gc gm t v<=G8 fc fm gc gm t w:=fun w h1 h2 j v hj hv=>by
   by_cases e:j<i
   .exact qAL (hb j v e hv) h1
   .have:j=i:=()
    subst this
    rw[hu] at hv
    cases hv
    exact h2
  refine BI (fun c=>?_) (fun c=>?_)
  .exact#[u,_,_,rfl,u0,zu,qAL h0 (qAy c),ext u (qAy c) qAg]
  .exact#[b',_,_,rfl,b0,zb,h0,ext b' qAg (qAM.mp c)]
 rintro τ ⟨b',y5,y6,rfl,b0,zb,h0,hb⟩
 rw[qAa] at hb
 have all:∀u∈us,G8 fc fm gc gm t u<=G8 fc fm gc gm t b':=fun u hu=>by
  obtain⟨j,hj⟩:=qCF.mp hu
  exact hb j u (qAd.mp hj).1 hj
 refine q2 t0 le b' b0 zb (fun v v0=>?_)
 obtain⟨w,w0,cw,best⟩:=Mp of og le t0
 refine qAL (best v v0) ?_
 show G8 fc fm gc gm t w<=_
 rcases cw with rfl|⟨k,k0,kl,e,s⟩|⟨k,k0,kl,e,s⟩
 .exact h0
 .rw[<-e];exact all _ (g1 k (Ip.mpr #[kl,k0,s]))
 .by_cases z:w=0
  .rw[z];exact h0
  .have:=g2 k (Ie.mpr #[kl,k0,s]) ⋯
   rw[e,show t+w-t=w from ⋯] at this
   exact all _ this
variable (MM:Cal P w K mg base (CXU P w) 9 "lead" ["f","g","t"] NR)
theorem HR:Ad ["story","length","s"] ["story","length"] (Aa GI):=scN
include B6 MM in
theorem Lm (F:Fun K "place_of" "place_of" GI f fd):Ap P w K mg base CX0 10 f fd ["story","length"] (Ae K mg IF):=by
 refine fn3 F HR (fun ss R U h=>?_) (fun cdv A outer s H E ss R U hr h=>?_)
 .obtain⟨cs,m,r,rfl,_⟩:=h;rfl
 obtain⟨cs,m,r,rfl,⟨rr,z,hl⟩,hr_,q1,q2⟩:=h
 refine#[_,(Ab (BQ (Ce Vj (vN 1) Ng) (Bc Ng) An)
  (Ab (AK 2 HR (Ao hr MM (AN (vN 0) (a2 (vN 0) (vN 1)))))
  (Bc (AH (a2 (vN 2) (Ao hr B6 (a2 (vN 2) (vN 1)))))))),?_]
 cases r with
 |none=>exact q1 rfl
 |some t =>
  obtain⟨zt,t0⟩:=hr_ t rfl
  have o:=rr.o
  refine#[cs,m,cs,m,t,41,92,137,2402,rfl,#[o,o,z,z,∅,(),()],zt,∅,fun _ c=>absurd c qA0,fun _ _ u u0 zu best=>?_,fun z=>absurd t0 z]
  refine#[u,t,_,_,rfl,zu,zt,∅,?_]
  exact#[by show 2<=1000;decide,q2 t u rfl u0 zu best]
variable (EU:Cal P w K mg base (CXU P w) 10 "place_of" ["story","length"] IF)
theorem Ni:Ad ["offer"] ["offer"] (Aa II):=scN
include HC Bd Iz in
theorem Nu (F:Fun K "missing" "missing" II f fd):Ap P w K mg base CX0 10 f fd ["offer"] (Ae K mg Jn):=by
 refine fn3 F Ni (fun ss R U h=>?_) (fun cdv A outer s H E ss R U hr h=>?_)
 .obtain⟨cs,m,rfl,_⟩:=h;rfl
 obtain⟨cs,m,rfl,h,q⟩:=h
 refine#[_,(Bc (Ao hr Iz (a2 (Ao hr HC (a2 (A3 (A3 (vK 0) Ac) Ac) (Ao hr Bd (a1 (vN 0))))) (vN 0)))),?_]
 obtain⟨r1,l1,zk,k0,km,sl⟩:=h.st
 have o:=h.1.o
 have hl:=h.2.2.1
 refine atR (BL (cs:=cs) (i:=0) 0 rfl o.ne) ?_
 refine#[cs,m,rfl,h,?_]
 refine#[_,_,rfl,o.v0,k0,h.2.2.2.mono ∅,zk.mono ∅,?_]
 have gv:∀t,gap [(0,vv cs 0)] (sK cs m) cs m t=vv cs 0+sK cs m*t-val cs m t:=fun t=>by unfold gap;rw[NH]
 have om:=Pn (v:=vv cs 0) o qAg sl
 refine#[[(0,vv cs 0)],sK cs m,cs,m,1,46,68,41,45,68,41,rfl,r1,h.1,l1,h.2.1,∅,∅,by show 1+_<=_;omega,∅,∅,∅,fun x y x0 xy=>?_,?_,fun C M kC vC eM zC lC=>q C M #[kC,eM,fun t t0=>by rw[vC t t0,gv],zC,by have:C.length<=1+cs.length:=lC;omega]]
 .rw[gv,gv,<-DR o,<-DR o]
  exact CQ #[om,km] x0 xy
 .rw[gv,Gg o]
  grind
variable (C5:Cal P w K mg base (CXU P w) 10 "missing" ["offer"] Jn)
theorem OA:Ad ["story"] ["story"] (Aa JD):=scN
include Hm in
theorem Ob (F:Fun K "growth" "growth" JD f fd):Ap P w K mg base CX0 9 f fd ["story"] (Ae K mg KW):=by
 refine fn3 F OA (fun ss R U h=>?_) (fun cdv A outer s H E ss R U hr h=>?_)
 .obtain⟨cs,m,rfl,_⟩:=h;rfl
 obtain⟨cs,m,rfl,⟨r,z,hl⟩,q⟩:=h
 refine#[_,(Bc (Ao hr Hm (a2 (vN 0) (vN 0)))),?_]
 obtain⟨S0,nS,s,s0⟩:∃S0:List Rat,S0.length<=9/\SL S0 cs m/\(0:Rat)∈S0:=#[0::slL cs m,by rw[qAU,Sd];omega,(UO r.o).mono fun x h=>by simp[h],qAV]
 exact#[cs,m,cs,m,41,92,137,1395,S0,rfl,#[r,r,z,z,∅,∅,XU hl hl nS,∅,s,s,s0,(),()],fun c=>absurd c qA0,fun _ C k i z _ l=>q C k i z l]
variable (Hg:Cal P w K mg base (CXU P w) 9 "growth" ["story"] KW)
theorem Pf:Ad ["offer"] ["offer"] (Aa JU):=scN
include gc_NOUGHT HC Bd Iz C5 Hg in
theorem O2 (F:Fun K "surest" "surest" JU f fd):Ap P w K mg base CX0 11 f fd ["offer"] (Ae K mg KJ):=by
 refine fn3 F Pf (fun ss R U h=>?_) (fun cdv A outer s H E ss R U hr h=>?_)
 .obtain⟨cs,m,rfl,_⟩:=h;rfl
 obtain⟨cs,m,rfl,h,q⟩:=h
 refine#[_,(Bc (Ao hr Iz (a2 (Ao hr HC (a2 (Kk rfl gc_NOUGHT) (Ao hr Bd (a1 (vN 0))))) (Ao hr Hg (a1 (Ao hr C5 (a1 (vN 0)))))))),?_]
 obtain⟨r1,l1,zk,k0,km,sl⟩:=h.st
 have o:=h.1.o
 have hl:=h.2.2.1
 refine#[cs,m,rfl,h,?_]
 refine#[0,_,rfl,qAg,k0,Sz.zero.mono ∅,zk.mono ∅,?_]
 refine#[cs,m,rfl,h,fun C M hM=>?_]
 obtain⟨kC,eM,vC,zC,lC⟩:=hM
 refine#[C,M,rfl,#[kC.rise,zC,lC],fun G kG iG zG lG=>?_]
 have om:=Pn (v:=vv cs 0) o qAg sl
 have ev:∀x,0<=x->val C M x=val (miK cs m) (sK cs m-m) x:=fun x x0=>by rw[vC x x0,DR o]
 have iM:∀t,0<=t->IsM cs m t (val G M t):=fun t t0=>Vz (iG t t0) t0 ev ev
 have o0:Ord [(0,(0:Rat))]:=Ord.one qAg
 have l0:LS 1 46 1 [(0,(0:Rat))] (sK cs m):=Ln.ls (Ln.one zk (by show Sz 1 (0-_*0);rw[show(0:Rat)-sK cs m*0=0 from ⋯];exact Sz.zero)) o0 (fun i hi=>by
  have:i=0:=by(have:i<1:=hi;omega)
  subst this
  exact Sz.zero)
 have gv:∀t,gap [(0,(0:Rat))] (sK cs m) G M t=sK cs m*t-val G M t:=fun t=>by unfold gap;rw[NH];grind
 have mono:∀x y,0<=x->x<=y->sK cs m*x-val G M x<=sK cs m*y-val G M y:=fun x y x0 xy=>by
  have y0:0<=y:=qAL x0 xy
  rcases(iM y y0).2.1 with e|⟨u,u0,e⟩
  .have a:=(iM x x0).1
   have b:=qAt k0 (show 0<=y-x from ⋯)
   rw[e]
   grind
  .have a:=(iM x x0).2.2 u u0
   rw[DR o,DR o] at a e
   have b:=CQ h.1 (x:=x+u) (y:=y+u) ⋯ ⋯
   grind
 refine#[[(0,0)],sK cs m,G,M,1,46,1,1280,92,545,1280,rfl,#[o0,k0],kG.rise,l0,zG,∅,∅,by show 1+_<=_;omega,∅,∅,∅,fun x y x0 xy=>by rw[gv,gv];exact mono x y x0 xy,?_,fun C' M' kC' vC' eM' zC' lC'=>?_]
 .rw[gv]
  rcases(iM 0 qAg).2.1 with e|⟨u,u0,e⟩
  .rw[e];grind
  .rw[show(0:Rat)+u=u from ⋯] at e
   grind
 have:M'=m:=by rw[eM',eM];grind
 subst this
 exact q C' #[kC',zC',by have:C'.length<=1+G.length:=lC';omega,fun t t0=>#[_,iM t t0,by rw[vC' t t0,gv]]]
variable (Hq:Cal P w K mg base (CXU P w) 11 "surest" ["offer"] KJ)
theorem TU:Ad ["offer","g"] ["offer","g"] (Aa Pe):=scN
include JR EU C5 Hq in
theorem SD (F:Fun K "lack" "lack" Pe f fd):Ap P w K mg base CX0 12 f fd ["offer","g"] (Ae K mg OZ):=by
 refine fn3 F TU (fun ss R U h=>?_) (fun cdv A outer s H E ss R U hr h=>?_)
 .obtain⟨cs,m,ds,k,rfl,_⟩:=h;rfl
 obtain⟨cs,m,ds,k,rfl,h,hd,q1,q2⟩:=h
 refine#[_,(Bc (Ao hr EU (a2 (Ao hr C5 (a1 (vN 0))) (Ao hr JR (a2 (vN 1) (Ao hr Hq (a1 (vN 0)))))))),?_]
 have o:=h.1.o
 refine#[cs,m,rfl,h,fun Mc M hM=>?_]
 refine#[cs,m,rfl,h,fun C hC=>?_]
 refine#[ds,k,C,m,rfl,hd,#[hC.1.rise,hC.2.1,hC.2.2.1],fun r a z=>?_]
 refine#[Mc,M,r,rfl,#[hM.1.rise,hM.2.2.2.1,hM.2.2.2.2],fun t e=>#[z t e,?_],fun e=>?_,fun t s e s0 zs best=>?_]
 .subst e;exact a.1
 .subst e
  refine q1 fun s t s0 t0=>?_
  obtain⟨g,ig,ev⟩:=hC.2.2.2 t t0
  have b:=a t t0
  have c:=ig.2.2 s s0
  rw[DR o,DR o] at c
  rw[ev] at b
  rw[show s+t=t+s from ⋯]
  grind
 .subst e
  refine q2 s t s0 a.1 zs (z t rfl) ?_
  have t0:=a.1
  obtain⟨g,ig,ev⟩:=hC.2.2.2 t t0
  have lt:=a.2
  rw[ev] at lt
  have gs:G8 Mc M Mc M t s=sK cs m*t-(val cs m (t+s)-val cs m s):=by
   unfold G8
   rw[hM.2.2.1 _ (qBV t0 s0),hM.2.2.1 _ s0]
   grind
  rw[show s+t=t+s from ⋯]
  rcases ig.2.1 with e|⟨u,u0,e⟩
  .have b:=best 0 qAg
   have mn:val Mc M 0<=val Mc M (t+0):=CQ hM.1.rise qAg ⋯
   rw[gs] at b
   unfold G8 at b
   grind
  .have b:=best u u0
   rw[gs] at b
   unfold G8 at b
   rw[hM.2.2.1 _ (qBV t0 u0),hM.2.2.1 _ u0] at b
   rw[DR o,DR o] at e
   grind
variable (Mb:Cal P w K mg base (CXU P w) 12 "lack" ["offer","g"] OZ)
theorem Ih:Ad ["_law_script","_law_k"] ["_law_script","_law_k"] (Aa Dv):=scN
include AI in
theorem Ii (F:Fun K "_law_cell_at" "_law_cell_at" Dv f fd):Ap P w K mg base CX0 1 f fd ["_law_script","_law_k"] (Ae K mg Em):=by
 refine fn3 F Ih (fun ss R U h=>?_) (fun cdv A outer s H E ss R U hr h=>?_)
 .obtain⟨ns,k,rfl,_⟩:=h;rfl
 obtain⟨ns,k,rfl,k0,k1,q⟩:=h
 refine#[_,(Ab (BQ (Ce Kj (vN 1) (CU AI (vN 0))) (Bc (A3 (vN 0) (vN 1))) An)
  (Bc (Ak AZ (Ak AB Ac (vN 1)) Ac))),?_]
 unfold cl at q
 refine BI (fun c=>?_) (fun c=>?_)
 .rw[qAa] at c
  rw[if_pos c] at q
  refine atR (FD (ms:=ns) k.toNat () ()) ?_
  rw[show((k.toNat:Nat):Int)=k from ()]
  exact q
 .rw[qAa] at c
  rw[if_neg c] at q
  exact#[AD (m:=10) (n:=20) ∅ () ∅,q]
variable (Au:Cal P w K mg base (CXU P w) 1 "_law_cell_at" ["_law_script","_law_k"] Em)
theorem Cj:Ad ["_law_top","_law_bottom","_law_one","_law_other_here","_law_rest"] ["_law_top","_law_bottom"] (Aa Gw):=scN
include Ia in
theorem LU (F:Fun K "_law_low" "_law_low" Gw f fd):Ap P w K mg base CX0 1 f fd ["_law_top","_law_bottom"] (Ae K mg IG):=by
 refine fn3 F Cj (fun ss R U h=>?_) (fun cdv A outer s H E ss R U hr h=>?_)
 .obtain⟨a,b,rfl,_⟩:=h;rfl
 obtain⟨a,b,rfl,hb,h1,h2,q⟩:=h
 refine#[_,(Ab (AK 2 Cj (Ir P1 rfl Ia qBK (a1 (vN 0))))
  (Ab (AK 3 Cj (vN 1))
  (Ab (Gs PassesOwn.never (Ce Rn (vN 3) Ac) (Ab (AK 4 Cj (Ak BZ (vN 2) (vN 3)))
  (Ab (AK 2 Cj (vN 3))
  (Af (AK 3 Cj (vN 4))))))
  (Bc (AH (a2 (Ak Bf (vN 0) (vN 2)) (Ak Bf (vN 1) (vN 2)))))))),?_]
 have hb0:b≠0:=by clear h1 h2;omega
 have hp:=Iw (a:=a) hb0
 have hc:=Nj (a:=a) hb0
 have e:cm a b=g a b:=if_neg (by clear h1 h2;omega)
 rw[e] at hp hc
 have ga:=UB a b
 rw[if_neg (show ¬b<0 by clear h1 h2;omega)] at ga
 refine#[fun m τ=>∃x y z,τ=[I a,I b,I x,I y,z]/\0<=x/\0<=y/\g x y=g a b/\m=y.toNat,#[_,_,_,_,rfl,Pg a,Int.le_of_lt hb,ga,rfl],?_]
 rintro m τ ⟨x,y,z,rfl,k1,k2,k3,rfl⟩
 refine BI (fun c=>?_) (fun c=>?_)
 .clear h1 h2
  have c:0<y:=c
  refine#[(),(x.fmod y).toNat,?_,_,_,_,rfl,k2,?_,?_,rfl]
  .have:=qBU x (show 0<y from ())
   omega
  .exact qBZ x ()
  .rw[<-k3,qCm x k2]
   exact RH ()
 .have c:y=0:=by have:¬0<y:=c;omega
  subst c
  rw[Vw k1] at k3
  subst k3
  refine#[#[hc,Uu h1],#[hc,Uu h2],(by show 2<=1000;decide),?_]
  show R (.d (.tup [.int (a.fdiv (g a b)),.int (b.fdiv (g a b))]))
  rw[hp.1,hp.2]
  exact q
variable (Am:Cal P w K mg base (CXU P w) 1 "_law_low" ["_law_top","_law_bottom"] IG)
theorem Ly:Ad ["_law_one","_law_other_here"] ["_law_one","_law_other_here"] (Aa Gv):=scN
theorem Lw (F:Fun K "_law_add" "_law_add" Gv f fd):Ap P w K mg base CX0 1 f fd ["_law_one","_law_other_here"] (Ae K mg Iy):=by
 refine fn3 F Ly (fun ss R U h=>?_) (fun cdv A outer s H E ss R U hr h=>?_)
 .obtain⟨a,b,c,d,rfl,_⟩:=h;rfl
 obtain⟨a,b,c,d,rfl,⟨h1,h2,h3,h4⟩,q⟩:=h
 refine#[_,(Bc (AH (a2 (Ak AZ (Ak AB (vK 0) (vK 1)) (Ak AB (vK 1) (vK 0))) (Ak AB (vK 0) (vK 1))))),?_]
 exact#[AD h1 h4 ∅,AD h3 h2 ∅,AD h2 h4 ∅,(by show 2<=1000;decide),q]
variable (Bi:Cal P w K mg base (CXU P w) 1 "_law_add" ["_law_one","_law_other_here"] Iy)
theorem Kr:Ad ["_law_one","_law_other_here"] ["_law_one","_law_other_here"] (Aa Fw):=scN
theorem KP (F:Fun K "_law_take" "_law_take" Fw f fd):Ap P w K mg base CX0 1 f fd ["_law_one","_law_other_here"] (Ae K mg GV):=by
 refine fn3 F Kr (fun ss R U h=>?_) (fun cdv A outer s H E ss R U hr h=>?_)
 .obtain⟨a,b,c,d,rfl,_⟩:=h;rfl
 obtain⟨a,b,c,d,rfl,⟨h1,h2,h3,h4⟩,q⟩:=h
 refine#[_,(Bc (AH (a2 (Ak Dx (Ak AB (vK 0) (vK 1)) (Ak AB (vK 1) (vK 0))) (Ak AB (vK 0) (vK 1))))),?_]
 exact#[AD h1 h4 ∅,AD h3 h2 ∅,AD h2 h4 ∅,(by show 2<=1000;decide),q]
variable (Ag:Cal P w K mg base (CXU P w) 1 "_law_take" ["_law_one","_law_other_here"] GV)
theorem JO:Ad ["_law_one","_law_other_here"] ["_law_one","_law_other_here"] (Aa Ex):=scN
theorem Jv (F:Fun K "_law_up_to" "_law_up_to" Ex f fd):Ap P w K mg base CX0 1 f fd ["_law_one","_law_other_here"] (Ae K mg Gn):=by
 refine fn3 F JO (fun ss R U h=>?_) (fun cdv A outer s H E ss R U hr h=>?_)
 .obtain⟨a,b,c,d,rfl,_⟩:=h;rfl
 obtain⟨a,b,c,d,rfl,⟨h1,h2,h3,h4⟩,q⟩:=h
 refine#[_,(Bc (N3 Xv (Ak AB (vK 0) (vK 1)) (Ak AB (vK 1) (vK 0)) (Jj _))),?_]
 exact#[AD h1 h4 ∅,AD h3 h2 ∅,q]
variable (Ah:Cal P w K mg base (CXU P w) 1 "_law_up_to" ["_law_one","_law_other_here"] Gn)
theorem DO:Ad ["_law_f","_law_k","_law_high","_law_wide"] ["_law_f","_law_k"] (Aa Eo):=scN
include AI Ag in
theorem JA (F:Fun K "_law_slope" "_law_slope" Eo f fd):Ap P w K mg base CX0 2 f fd ["_law_f","_law_k"] (Ae K mg FJ):=by
 refine fn3 F DO (fun ss R U h=>?_) (fun cdv A outer s H E ss R U hr h=>?_)
 .obtain⟨cs,m,k,j,n,rfl,_⟩:=h;rfl
 obtain⟨cs,m,k,j,n,rfl,rfl,jl,up,hn,zc,zm,q⟩:=h
 refine#[_,(Ab (BQ (Ce IM (Ak AZ (vN 1) Ac) (CU AI (vK 0))) (Bc (vK 0)) An)
  (Ab (AK 2 DO (Ao hr Ag (a2 (A3 (A3 (vK 0) (Ak AZ (vN 1) Ac)) Ac) (A3 (A3 (vK 0) (vN 1)) Ac))))
  (Ab (AK 3 DO (Ao hr Ag (a2 (A3 (A3 (vK 0) (Ak AZ (vN 1) Ac)) Ac) (A3 (A3 (vK 0) (vN 1)) Ac))))
  (Bc (AH (a2 (Ak AB (vK 2) (vK 3)) (Ak AB (vK 2) (vK 3)))))))),?_]
 refine BI (fun c=>?_) (fun c=>?_)
 .rw[qAa] at c
  have e:slp cs m j=m:=AW ()
  rw[e] at q
  exact q _ _ ((Wq.of zm).mono ())
 .rw[qAa] at c
  have j1:j+1<cs.length:=()
  have b1:=BL (cs:=cs) (i:=(j:Int)+1) (j+1) () j1
  have b0:=BL (cs:=cs) (i:=(j:Int)) j rfl jl
  have z1:=zc _ j1
  have z0:=zc _ jl
  refine atR b1 ?_
  refine atR b0 ?_
  refine#[_,_,_,_,rfl,l4 z1.2 z0.2 (),?_]
  refine atR b1 ?_
  refine atR b0 ?_
  refine#[_,_,_,_,rfl,l4 z1.1 z0.1 (),?_]
  have w1:=(Wq.of z1.2).minus (Wq.of z0.2)
  have w2:=(Wq.of z1.1).minus (Wq.of z0.1)
  refine#[AD w1.la w2.lb (),AD w1.lb w2.la (),(by show 2<=1000;decide),?_]
  rw[BN j1] at q
  exact q _ _ ((w1.div w2 (QU (up j j1))).mono ())
variable (Ba:Cal P w K mg base (CXU P w) 2 "_law_slope" ["_law_f","_law_k"] FJ)
theorem DK:Ad ["_law_f","_law_t","_law_k","_law_slope_here","_law_gone"] ["_law_f","_law_t"] (Aa HL):=scN
include AI Bi Ag Ah Ba in
theorem M5 (F:Fun K "_law_at" "_law_at" HL f fd):Ap P w K mg base CX0 3 f fd ["_law_f","_law_t"] (Ae K mg Jo):=by
 refine fn3 F DK (fun ss R U h=>?_) (fun cdv A outer s H E ss R U hr h=>?_)
 .obtain⟨cs,m,t,tn,td,n,rfl,_⟩:=h;rfl
 obtain⟨cs,m,t,tn,td,n,rfl,oc,lc,hn,zc,zm,wt,t0,q⟩:=h
 refine#[_,(Ab (AK 2 DK Ac)
  (Ab (Gs PassesOwn.never (PW3.pt (IL (Ce Kj (Ak AZ (vN 2) Ac) (CU AI (vK 0))) (E4 (Bu (Ao hr Ah (a2 (A3 (A3 (vK 0) (Ak AZ (vN 2) Ac)) Ac) (vN 1))))))) (Af (AK 2 DK (Ak AZ (vN 2) Ac))))
  (Ab (AK 3 DK (Ao hr Ba (a2 (vN 0) (vN 2))))
  (Ab (AK 4 DK (Ao hr Ag (a2 (vN 1) (A3 (A3 (vK 0) (vN 2)) Ac))))
  (Bc (Ao hr Bi (a2 (A3 (A3 (vK 0) (vN 2)) Ac) (AH (a2 (Ak AB (vK 3) (vK 4)) (Ak AB (vK 3) (vK 4))))))))))),?_]
 refine#[fun mm τ=>∃j:Nat,τ=[some (.d (crv cs m)),some (.d (tp tn td)),I j,none,none]/\j<cs.length/\tt cs j<=t/\mm=cs.length-j,#[_,0,rfl,oc.ne,by rw[oc.t0];exact t0,rfl],?_]
 rintro mm τ ⟨j,rfl,jl,jt,rfl⟩
 refine BI (fun c=>?_) (fun c=>?_)
 .rw[qAa] at c
  have j1:j+1<cs.length:=()
  refine atR (BL (cs:=cs) (i:=(j:Int)+1) (j+1) () j1) ?_
  have w1:=Wq.of (zc _ j1).1
  refine#[_,_,_,_,rfl,w1.l4 wt (),?_]
  refine BI (fun c2=>?_) (fun c2=>?_)
  .rw[w1.le_iff wt] at c2
   exact#[cs.length-(j+1),(),j+1,rfl,j1,c2,rfl]
  .rw[w1.le_iff wt] at c2
   have on:On cs j t:=#[jl,jt,fun _=>⋯]
   refine#[cs,m,_,j,n,rfl,rfl,jl,oc.up,(),zc,zm,fun A B wS=>?_]
   have b0:=BL (cs:=cs) (i:=(j:Int)) j rfl jl
   refine atR b0 ?_
   have w0:=Wq.of (zc _ jl).1
   refine#[_,_,_,_,rfl,wt.l4 w0 (),?_]
   have wg:=wt.minus w0
   refine atR b0 ?_
   have wm:=wS.mul wg
   refine#[AD wS.la wg.la (),AD wS.lb wg.lb (),(by show 2<=1000;decide),?_]
   have wv:=Wq.of (zc _ jl).2
   refine#[_,_,_,_,rfl,(wv.mono (show n<=400000 from ())).l4 (wm.mono ()) (qAe _),?_]
   exact q _ _ (((wv.plus wm).cast (DD oc.up on).symm).mono ())
 .rw[qAa] at c
  have on:On cs j t:=#[jl,jt,fun h=>absurd h ()]
  refine#[cs,m,_,j,n,rfl,rfl,jl,oc.up,(),zc,zm,fun A B wS=>?_]
  have b0:=BL (cs:=cs) (i:=(j:Int)) j rfl jl
  refine atR b0 ?_
  have w0:=Wq.of (zc _ jl).1
  refine#[_,_,_,_,rfl,wt.l4 w0 (),?_]
  have wg:=wt.minus w0
  refine atR b0 ?_
  have wm:=wS.mul wg
  refine#[AD wS.la wg.la (),AD wS.lb wg.lb (),(by show 2<=1000;decide),?_]
  have wv:=Wq.of (zc _ jl).2
  refine#[_,_,_,_,rfl,(wv.mono (show n<=400000 from ())).l4 (wm.mono ()) (qAe _),?_]
  exact q _ _ (((wv.plus wm).cast (DD oc.up on).symm).mono ())
variable (Bx:Cal P w K mg base (CXU P w) 3 "_law_at" ["_law_f","_law_t"] Jo)
theorem FR:Ad ["_law_found","_law_part"] ["_law_found"] (Aa ED):=scN
include AL Lk Io AI BH Am in
theorem JG (F:Fun K "_law_ratio" "_law_ratio" ED f fd):Ap P w K mg base CX0 2 f fd ["_law_found"] (Ae K mg FC):=by
 refine fn3 F FR (fun ss R U h=>?_) (fun cdv A outer s H E ss R U hr h=>?_)
 .obtain⟨q0,rfl,_⟩:=h;rfl
 obtain⟨q0,rfl,hz,q⟩:=h
 refine#[_,(O1 (BQ (PW3.pt (PV (w_not (Bu (Nm .tuple (vN 0) rfl AL rfl BH qBW))) (JQ (Ce VW (CU AI (vN 0)) Ac)))) (Bc RI) An)
  (Ab (OK (Cb PassesOwn.never rfl (Bp (pv 0)) (A9 (i:=1) FR.nd rfl (Or.inl rfl)) (D5.out (Af (BQ (PW3.pt (PV (w_not (Bu (Nm .int (vN 1) rfl AL rfl Lk qCE))) (JQ (Bu (Nm .bool (vN 1) rfl AL rfl Io qCA))))) (Bc RI) An)))))
  (Bc (UL (N3 Rn (vK 0) Ac (Jj _)) (VH (N3 (Sn 1 (hu_ hr ∅)) (Ao hr Am (a2 (vK 0) (vK 0))) (vN 0) (Jj _))))))),?_]
 have hd:=den_pos q0
 refine#[#[trivial,rfl],?_]
 refine#[fun n τ=>∃z,τ=[some (.d (qd q0)),z],#[_,rfl],?_,?_]
 .rintro n τ x hx ⟨z,rfl⟩
  have ex:∃i,x=.int i:=by
   match n,hx with
   |0,hx=>exact#[_,(qAl hx).symm]
   |1,hx=>exact#[_,(qAl hx).symm]
  obtain⟨i,rfl⟩:=ex
  exact#[trivial,#[trivial,#[_,rfl]]]
 rintro τ ⟨z,rfl⟩
 refine BI (fun _=>?_) (fun c=>absurd (show(0:Int)<q0.den from ()) c)
 refine#[q0.num,q0.den,rfl,(),hz.1,Ax hz,rfl,rfl,?_]
 rw[qCh]
 have e:eqN 1 (qd q0) (qd q0)=true:=Hc 1 _ rfl
 show R (.d (.bl (eqN 1 (qd q0) (qd q0))))
 rw[e]
 exact q
variable (CC:Cal P w K mg base (CXU P w) 2 "_law_ratio" ["_law_found"] FC)
theorem AM:Ad ["_law_cells","_law_slopes_here","_law_slope_here","_law_cell","_law_kind"] ["_law_cells"] (Aa DT):=scN
theorem IT (F:Fun K "_law_slopes" "_law_slopes" DT f fd):Ap P w K mg base CX0 1 f fd ["_law_cells"] (Ae K mg Fb):=by
 refine fn3 F AM (fun ss R U h=>?_) (fun cdv A outer s H E ss R U hr h=>?_)
 .obtain⟨ms,rfl,_⟩:=h;rfl
 obtain⟨ms,rfl,hl,q⟩:=h
 refine#[_,(Ab (AK 1 AM (GG LG))
  (Ab (AK 2 AM Ac)
  (Ab (OK (Cb PassesOwn.never rfl (Bp (pv 0)) (A9 (i:=3) AM.nd rfl (Or.inl rfl)) (D5.out (Ab (AK 4 AM (Ak BZ (vN 3) Ac))
  (B3 (BQ (Ce IM (vN 4) Ac) (Af (AK 2 AM Ac)) An)
  (B3 (BQ (Ce IM (vN 4) Ac) (Af (AK 2 AM Ac)) An)
  (B3 (BQ (Ce IM (vN 4) Ac) (Af (AK 2 AM (Ak AZ Ac (Ak BZ (Ak Bf (vN 3) Ac) Ac)))) An)
  (B3 (BQ (Ce IM (vN 4) Ac) (Af (AK 2 AM (Ak AZ Ac (Ak BZ (Ak Bf (vN 3) Ac) Ac)))) An)
  (B3 (BQ (Ce IM (vN 4) Ac) (Af (AK 2 AM (Ak AZ Ac (Ak BZ (Ak Bf (vN 3) Ac) (Ak Np Ac Ac))))) An)
  (Af (Fu (Bq (Fo qAD qAA qAB AU (pv 1) (AX (PE3.out (vN 2)) Bt))))))))))))))
  (Af (DC (pv 1)))))),?_]
 refine#[(by show 0<=1000;decide),?_]
 refine#[fun n τ=>∃(s:Int)(sl:List Int)(y3 y4:Option S),τ=[some (.r (ms.map D.int)),some (.l (sl.map D.int)),I s,y3,y4]/\sl.length=n/\0<=s/\s<=2000000000000/\∀x∈sl,0<=x/\x<=2000000000000,#[0,[],_,_,rfl,rfl,∅,∅,fun x hx=>by cases hx],?_,?_]
 .rintro n τ x hx ⟨s,sl,y3,y4,rfl,e,s0,s1,bs⟩
  have hn:n<ms.length:=by have:=(qAd.mp hx).1;rw[qAa] at this;exact this
  obtain⟨c,_,rfl⟩:=Co hx
  have h12:(0:Int)<10^(12:Int).toNat:=∅
  have h121:(10:Int)^(12:Int).toNat=1000000000000:=∅
  have f5:=fm (a:=c.fdiv 24) (show(0:Int)<5 from ∅)
  have f1000:=fm (a:=c.fdiv 24) (show(0:Int)<1000 from ∅)
  have f12:=fm (a:=c.fdiv 24) h12
  refine#[∅,?_]
  refine#[fun τ=>∃s:Int,τ=[some (.r (ms.map D.int)),some (.l (sl.map D.int)),I s,I c,I (c.fmod 6)]/\0<=s/\s<=2000000000000,?_,?_]
  .refine BI (fun _=>#[0,rfl,∅,∅]) (fun _=>#[s,rfl,s0,s1])
  clear s0 s1
  rintro τ ⟨s,rfl,s0,s1⟩
  refine#[fun τ=>∃s:Int,τ=[some (.r (ms.map D.int)),some (.l (sl.map D.int)),I s,I c,I (c.fmod 6)]/\0<=s/\s<=2000000000000,?_,?_]
  .refine BI (fun _=>#[1,rfl,∅,∅]) (fun _=>#[s,rfl,s0,s1])
  clear s0 s1
  rintro τ ⟨s,rfl,s0,s1⟩
  refine#[fun τ=>∃s:Int,τ=[some (.r (ms.map D.int)),some (.l (sl.map D.int)),I s,I c,I (c.fmod 6)]/\0<=s/\s<=2000000000000,?_,?_]
  .refine BI (fun _=>#[#[∅,C9 ∅],∅,_,rfl,(),()]) (fun _=>#[s,rfl,s0,s1])
  clear s0 s1
  rintro τ ⟨s,rfl,s0,s1⟩
  refine#[fun τ=>∃s:Int,τ=[some (.r (ms.map D.int)),some (.l (sl.map D.int)),I s,I c,I (c.fmod 6)]/\0<=s/\s<=2000000000000,?_,?_]
  .refine BI (fun _=>#[#[∅,C9 ∅],∅,_,rfl,(),()]) (fun _=>#[s,rfl,s0,s1])
  clear s0 s1
  rintro τ ⟨s,rfl,s0,s1⟩
  refine#[fun τ=>∃s:Int,τ=[some (.r (ms.map D.int)),some (.l (sl.map D.int)),I s,I c,I (c.fmod 6)]/\0<=s/\s<=2000000000000,?_,?_]
  .refine BI (fun _=>#[#[∅,C9 ∅],#[∅,∅,∅],qBc h12,_,rfl,(),by rw[h121] at f12 ⊢;omega]) (fun _=>#[s,rfl,s0,s1])
  clear s0 s1
  rintro τ ⟨s,rfl,s0,s1⟩
  refine#[by rw[qAa];omega,s,sl++[s],_,_,by rw[qAO];rfl,by rw[qAx,e];rfl,s0,s1,fun x hx=>?_]
  rcases qAo.mp hx with h|h
  .exact bs x h
  .rw[qAz.mp h];exact#[s0,s1]
 rintro τ ⟨s,sl,y3,y4,rfl,e,s0,s1,bs⟩
 rw[qAa] at e
 exact q sl e bs
variable (CP:Cal P w K mg base (CXU P w) 1 "_law_slopes" ["_law_cells"] Fb)
theorem Ar:Ad ["_law_head","_law_cells","_law_start","_law_shape","_law_unit","_law_part","_law_slopes_here","_law_time","_law_value","_law_corners","_law_k","_law_gap"] ["_law_head","_law_cells","_law_start","_law_shape"] (Aa En):=scN
variable (F7:mg "sorted"=none)
include AI AO BH Am CP F7 in
theorem JL (F:Fun K "_law_drawn" "_law_drawn" En f fd):Ap P w K mg base CX0 2 f fd ["_law_head","_law_cells","_law_start","_law_shape"] (Ae K mg F5):=by
 refine fn3 F Ar (fun ss R U h=>?_) (fun cdv A outer s H E ss R U hr h=>?_)
 .obtain⟨c,ms,st,sh,rfl,_⟩:=h;rfl
 obtain⟨c,ms,st,sh,rfl,m0,m1,s0,s1,q⟩:=h
 refine#[_,(Ab (AK 4 Ar (Ak AZ Ac (Ak BZ (vN 0) Ac)))
  (Ab (AK 5 Ar (Ak AZ Ac (Ak BZ (Ak Bf (vN 0) Ac) Ac)))
  (B3 (BQ (Ce IM (Ak BZ (Ak Bf (vN 0) Ac) Ac) Ac) (Af (AK 4 Ar (Ak AZ Ac (Ak BZ (Ak Bf (vN 0) Ac) (Ak Np Ac Ac))))) An)
  (Ab (AK 6 Ar (Ao hr CP (a1 (vN 1))))
  (B3 (BQ (Ce IM (vN 3) Ac) (Af (AK 6 Ar (ND (vN 6) rfl F7))) An)
  (B3 (BQ (Ce IM (vN 3) Ac) (Af (AK 6 Ar (Qk (vN 6) rfl F7))) An)
  (Ab (AK 7 Ar Ac)
  (Ab (AK 8 Ar (vN 2))
  (Ab (AK 9 Ar (GG (a1 (AH (a2 (AH (a2 Ac Ac)) (Ao hr Am (a2 (vN 8) (Ak AB (vN 4) (vN 5)))))))))
  (Ab (Ox (Cb PassesOwn.never rfl (CG rfl AO (PA3.out (a2 Ac (CU AI (vN 1))))) (A9 (i:=10) Ar.nd rfl (Or.inl rfl)) (D5.out (Ab (AK 11 Ar (Ak AZ Ac (Ak BZ (Ak Bf (A3 (vN 1) (Ak Dx (vN 10) Ac)) Ac) Ac)))
  (B3 (BQ (Ce IM (vN 11) Ac) (Af (AK 11 Ar (Ak AZ Ac (Ak BZ (Ak AB (A3 (vN 1) (Ak Dx (vN 10) Ac)) Ac) Ac)))) An)
  (Ab (AK 7 Ar (Ak AZ (vN 7) (vN 11)))
  (Ab (AK 8 Ar (Ak AZ (vN 8) (Ak AB (vN 11) (A3 (vN 6) (Ak Dx (vN 10) Ac)))))
  (Af (BQ (Ce VW (A3 (vN 6) (vN 10)) (A3 (vN 6) (Ak Dx (vN 10) Ac))) (Af (Fu (Bq (Fo qAD qAA qAB AU (pv 9) (AX (PE3.out (AH (a2 (Ao hr Am (a2 (vN 7) (vN 4))) (Ao hr Am (a2 (vN 8) (Ak AB (vN 4) (vN 5))))))) Bt))))) An)))))))))
  (Bc (AH (a2 (Lv (vN 9) rfl BH) (Ao hr Am (a2 (A3 (vN 6) (Ft Ac)) (vN 5)))))))))))))))),?_]
 have h12:(0:Int)<10^(12:Int).toNat:=∅
 have h121:(10:Int)^(12:Int).toNat=1000000000000:=∅
 have f6:=fm (a:=c) (show(0:Int)<6 from ∅)
 have f5:=fm (a:=c.fdiv 6) (show(0:Int)<5 from ∅)
 have f12:=fm (a:=c.fdiv 120) h12
 refine#[∅,#[∅,C9 ∅],∅,?_]
 refine#[fun τ=>∃u p:Int,τ=[I c,some (.r (ms.map D.int)),I st,I sh,I u,I p,none,none,none,none,none,none]/\0<u/\u<=1000000000000/\0<p/\p<=5,?_,?_]
 .refine#[#[∅,C9 ∅],∅,?_]
  refine BI (fun _=>?_) (fun _=>#[_,_,rfl,(),(),(),()])
  exact#[#[∅,C9 ∅],#[∅,∅,∅],qBc h12,_,_,rfl,(),by rw[h121] at f12 ⊢;omega,(),()]
 clear f6 f5 f12
 rintro τ ⟨u,p,rfl,u0,u1,p0,p1⟩
 refine#[ms,rfl,m1,fun sl el bs=>?_]
 refine#[fun τ=>∃sl:List Int,τ=[I c,some (.r (ms.map D.int)),I st,I sh,I u,I p,some (.l (sl.map D.int)),none,none,none,none,none]/\sl.length=ms.length/\∀x∈sl,0<=x/\x<=2000000000000,?_,?_]
 .refine BI (fun _=>?_) (fun _=>#[sl,rfl,el,bs])
  exact#[sl,rfl,(),fun sl' pm=>#[sl',rfl,by rw[pm.length_eq];exact el,fun x hx=>bs x (pm.mem_iff.mp hx)]]
 clear bs el
 clear sl
 rintro τ ⟨sl,rfl,el,bs⟩
 refine#[fun τ=>∃sl:List Int,τ=[I c,some (.r (ms.map D.int)),I st,I sh,I u,I p,some (.l (sl.map D.int)),none,none,none,none,none]/\sl.length=ms.length/\∀x∈sl,0<=x/\x<=2000000000000,?_,?_]
 .refine BI (fun _=>?_) (fun _=>#[sl,rfl,el,bs])
  exact#[sl,rfl,(),fun sl' pm=>#[sl',rfl,by rw[pm.length_eq];exact el,fun x hx=>bs x (pm.mem_iff.mp hx)]]
 clear bs el
 clear sl
 rintro τ ⟨sl,rfl,el,bs⟩
 have up0:0<u*p:=qA1 u0 p0
 have ub:u.natAbs<2^41:=()
 have pb:p.natAbs<2^4:=()
 have upb:(u*p).natAbs<2^100:=Ay (Aj ub pb) ∅
 have ub':u.natAbs<2^100:=Ay ub ∅
 have mup:IntMulOk u p:=AD ub pb ∅
 have stb:st.natAbs<2^100:=()
 have u13:∀{x:Nat},x<2^100->x<2^13000:=fun h=>Ay h ∅
 have upb68:(u*p).natAbs<2^68:=Ay (Aj ub pb) ∅
 have s9:∀j:Nat,j<sl.length->0<=cell sl j/\cell sl j<=2000000000000:=fun j hj=>by
  refine bs _ ?_
  unfold cell
  rw[qBI,qAf,qAb hj]
  exact qBM hj
 have zsl:∀j:Nat,j<sl.length->Sz 45 (Rat.divInt (cell sl j) p):=fun j hj=>by
  have:=s9 j hj
  exact J1 p0 () (Ay pb ∅)
 refine#[(by show 2<=1000;decide),mup,st,u*p,rfl,up0,u13 stb,u13 upb,(by show 2<=1000;decide),(by show 1<=1000;decide),?_]
 refine#[#[∅,∅,by rw[qAa];omega,by rw[qAa];omega],?_]
 refine#[fun n τ=>∃(ti va:Int)(cs:Cs)(y10 y11:Option S),τ=[I c,some (.r (ms.map D.int)),I st,I sh,I u,I p,some (.l (sl.map D.int)),I ti,I va,some (.l (cs.map cd)),y10,y11]/\Ord cs/\(Ln 45 68 cs (Rat.divInt (cell sl n) p)/\(∀i,i<cs.length->Sz 41 (tt cs i)/\Sz 68 (vv cs i))/\Rat.divInt va (u*p)=vv cs (cs.length-1)+Rat.divInt (cell sl n) p*(Rat.divInt ti u-tt cs (cs.length-1)))/\cs.length<=n+1/\tt cs (cs.length-1)<=Rat.divInt ti u/\vv cs (cs.length-1)<=Rat.divInt va (u*p)/\0<=ti/\ti<=n*1000010/\0<=va/\va<=4000000000000+n*2000020000000000000,#[0,st,[(0,Rat.divInt st (u*p))],_,_,rfl,Ord.one (Gk up0 s0),#[Ln.one (zsl 0 ()) (by show Sz 68 (Rat.divInt st (u*p)-Rat.divInt (cell sl 0) p*0);rw[show Rat.divInt st (u*p)-Rat.divInt (cell sl 0) p*0=Rat.divInt st (u*p) from ⋯];exact J1 up0 () upb68),fun i hi=>by(have:i=0:=by(have:i<1:=hi;omega));subst this;exact#[Sz.zero.mono ∅,J1 up0 () upb68],by rw[Rat.zero_divInt];show Rat.divInt st (u*p)=Rat.divInt st (u*p)+Rat.divInt (cell sl 0) p*(0-0);grind],qAe _,by rw[Rat.zero_divInt];exact qAg,qAg,∅,∅,s0,()],?_,?_]
 .rintro n τ hn ⟨ti,va,cs,y10,y11,rfl,oc,⟨zl,zt,onl⟩,lc,ht,hv,t0,t1,v0,v1⟩
  rw[qAa] at hn
  have nl:n+1<ms.length:=()
  have b0:=FD (ms:=ms) (i:=1+n*1-1) n () ()
  have c0:=FD (ms:=sl) (i:=1+n*1-1) n () ()
  have c1:=FD (ms:=sl) (i:=1+n*1) (n+1) () ()
  have sn:=s9 n ()
  refine atR b0 ?_
  have f4:=fm (a:=(cell ms n).fdiv 6) (show(0:Int)<4 from ∅)
  have f3:=fm (a:=cell ms n*48271) (show(0:Int)<1000003 from ∅)
  refine#[#[∅,C9 ∅],∅,?_]
  refine#[fun τ=>∃g:Int,τ=[I c,some (.r (ms.map D.int)),I st,I sh,I u,I p,some (.l (sl.map D.int)),I ti,I va,some (.l (cs.map cd)),I (1+n*1),I g]/\1<=g/\g<=1000010,?_,?_]
  .refine BI (fun _=>?_) (fun _=>#[_,rfl,(),()])
   refine atR b0 ?_
   exact#[PySem.IntMulOk.of_right ∅,∅,_,rfl,(),()]
  clear f4 f3
  rintro τ ⟨g,rfl,g0,g1⟩
  refine atR c0 ?_
  have sn1:=s9 (n+1) ()
  have zs1:=zsl (n+1) ()
  generalize ecx:cell sl n=x at sn zl onl ⊢
  have gx:0<=g*x:=qCg () sn.1
  have gx1:g*x<=1000010*2000000000000:=Int.mul_le_mul g1 sn.2 sn.1 ∅
  refine#[AD (m:=21) (n:=42) () () ∅,?_]
  refine atR c1 ?_
  refine atR c0 ?_
  have lt1:Rat.divInt ti u<Rat.divInt (ti+g) u:=Km u0 ()
  have le1:Rat.divInt va (u*p)<=Rat.divInt (va+g*x) (u*p):=OC up0 ()
  have tb:(ti+g).natAbs<2^100:=()
  have vb:(va+g*x).natAbs<2^100:=()
  have n60:(n:Int)<=58:=()
  have st2:=OY (va:=va) (g:=g) (x:=x) (ti:=ti) u0 p0
  have onl2:Rat.divInt (va+g*x) (u*p)=vv cs (cs.length-1)+Rat.divInt x p*(Rat.divInt (ti+g) u-tt cs (cs.length-1)):=by
   rw[st2,onl]
   generalize Rat.divInt x p=M
   generalize Rat.divInt ti u=X0
   generalize Rat.divInt (ti+g) u=X1
   generalize vv cs (cs.length-1)=Y
   generalize tt cs (cs.length-1)=Z
   grind
  refine Na (fun _=>?_) (fun ne=>?_)
  .refine#[ti+g,u,rfl,u0,u13 tb,u13 ub',mup,va+g*x,u*p,rfl,up0,u13 vb,u13 upb,(by show 2<=1000;decide),by rw[qAa];omega,?_]
   have o2:Ord (cs++[(Rat.divInt (ti+g) u,Rat.divInt (va+g*x) (u*p))]):=oc.snoc (c:=(Rat.divInt (ti+g) u,Rat.divInt (va+g*x) (u*p))) (by show _<Rat.divInt (ti+g) u;grind) (by show _<=Rat.divInt (va+g*x) (u*p);grind)
   have ln:(cs++[(Rat.divInt (ti+g) u,Rat.divInt (va+g*x) (u*p))]).length-1=cs.length:=by rw[BB];omega
   refine#[_,_,cs++[(Rat.divInt (ti+g) u,Rat.divInt (va+g*x) (u*p))],_,_,by rw[qAO];rfl,o2,#[zl.snoc (LY (by show Rat.divInt (va+g*x) (u*p)-_=Rat.divInt x p*(Rat.divInt (ti+g) u-_);rw[onl2];grind) (by show Rat.divInt (ti+g) u-_≠0;grind)) zs1 ?_,?_,?_],by rw[BB];omega,by rw[ln,PQ];exact qAg,by rw[ln,RE];exact qAg,(),(),(),()]
   .show Sz 68 (Rat.divInt (va+g*x) (u*p)-Rat.divInt (cell sl ((n+1:Nat):Int)) p*Rat.divInt (ti+g) u)
    rw[Th u0 p0]
    have m1:(va+g*x).natAbs<2^67:=()
    have m3:cell sl ((n+1:Nat):Int)*(ti+g)<=2000000000000*60000000:=Int.mul_le_mul sn1.2 () () ∅
    have m4:0<=cell sl ((n+1:Nat):Int)*(ti+g):=qCg sn1.1 ()
    have m2:(cell sl ((n+1:Nat):Int)*(ti+g)).natAbs<2^67:=()
    exact J1 up0 (FV m1 m2) upb68
   .intro i hi
    rw[BB] at hi
    by_cases e:i<cs.length
    .rw[M9 e,OR e];exact zt i e
    .have:i=cs.length:=()
     subst this
     rw[PQ,RE]
     exact#[J1 u0 () ub,J1 up0 () upb68]
   .rw[ln,PQ,RE]
    show Rat.divInt (va+g*x) (u*p)=Rat.divInt (va+g*x) (u*p)+_*(Rat.divInt (ti+g) u-Rat.divInt (ti+g) u)
    grind
  .have ne:cell sl ((n+1:Nat):Int)=x:=ne.trans ecx
   exact#[_,_,cs,_,_,rfl,oc,#[by rw[ne];exact zl,zt,by rw[ne];exact onl2],(),⋯,⋯,(),(),(),()]
 rintro τ ⟨ti,va,cs,y10,y11,rfl,oc,⟨zl,zt,onl⟩,lc,ht,hv,t0,t1,v0,v1⟩
 have eN:((((ms.map D.int).length:Nat):Int)-1).toNat=ms.length-1:=by rw[qAa];omega
 rw[eN] at lc zl
 have bx:=s9 (ms.length-1) ()
 refine atR (KU (ms:=sl) ()) ?_
 rw[el]
 have xb:(cell sl ((ms.length-1:Nat):Int)).natAbs<2^100:=()
 have pb':p.natAbs<2^100:=Ay pb ∅
 refine#[cell sl ((ms.length-1:Nat):Int),p,rfl,p0,u13 xb,u13 pb',(by show 2<=1000;decide),?_]
 exact q cs _ oc (zl.ls oc (fun i hi=>(zt i hi).1)) (fun i hi=>(zt i hi).2) (Gk p0 bx.1) ()
variable (Br:Cal P w K mg base (CXU P w) 2 "_law_drawn" ["_law_head","_law_cells","_law_start","_law_shape"] F5)
theorem K5:Ad ["_law_script","_law_begin","_law_many"] ["_law_script","_law_begin","_law_many"] (Aa ET):=scN
include AO Au in
theorem LN (F:Fun K "_law_few" "_law_few" ET f fd):Ap P w K mg base CX0 2 f fd ["_law_script","_law_begin","_law_many"] (Ae K mg HH):=by
 refine fn3 F K5 (fun ss R U h=>?_) (fun cdv A outer s H E ss R U hr h=>?_)
 .obtain⟨ns,b,z,rfl,_⟩:=h;rfl
 obtain⟨ns,b,z,rfl,b0,b1,z0,z1,q⟩:=h
 refine#[_,(Bc (Fd (N:=["_law_k","_law_script"]) (idx:=[0]) (A8.mk' (Aa ET) ["_law_script","_law_begin","_law_many"] rfl rfl (by decide +kernel)) rfl (CG rfl AO (PA3.out (a2 (vN 1) (Ak AZ (vN 1) (vN 2))))) Gf (fun cl C s₀ H₀ fp=>Cm) (fun cl C s₀ H₀ fp=>(Ao hr Au (a2 (vN 1) (vN 0)))))),?_]
 refine#[#[(),(),(),()],?_]
 generalize ec:(b+z-b).toNat=cnt
 have hc:0<cnt/\cnt<=8:=()
 refine#[(List.range cnt).map fun(i:Nat)=>some (D.int (cl ns (b+(i:Int)*1))),by rw[BF,qAa,qAr],?_,?_,?_]
 .intro n x hx
  obtain⟨hn,rfl⟩:=Ek hx
  refine#[ns,b+(n:Int)*1,rfl,(),(),?_]
  show((List.range cnt).map _)[n]? = _
  rw[qAc,qAE hn]
  rfl
 .rw[BF];omega
 rw[Te]
 exact q _ (by rw[qAa,qAr];omega)
variable (Cg:Cal P w K mg base (CXU P w) 2 "_law_few" ["_law_script","_law_begin","_law_many"] HH)
theorem Ju:Ad ["_law_f","_law_start","_law_length_here"] ["_law_f","_law_start","_law_length_here"] (Aa Ee):=scN
include Bi Ag Bx in
theorem JP (F:Fun K "_law_grown" "_law_grown" Ee f fd):Ap P w K mg base CX0 4 f fd ["_law_f","_law_start","_law_length_here"] (Ae K mg FL):=by
 refine fn3 F Ju (fun ss R U h=>?_) (fun cdv A outer s H E ss R U hr h=>?_)
 .obtain⟨cs,m,s,L,sn,sd,ln,ld,n,rfl,_⟩:=h;rfl
 obtain⟨cs,m,s,L,sn,sd,ln,ld,n,rfl,o,hn,hz,ws,s0,wl,l0,q⟩:=h
 refine#[_,(Bc (Ao hr Ag (a2 (Ao hr Bx (a2 (vN 0) (Ao hr Bi (a2 (vN 1) (vN 2))))) (Ao hr Bx (a2 (vN 0) (vN 1)))))),?_]
 have hc:=hz.cs.mono (show n<=n+n+1 from ())
 have hm:=hz.m.mono (show n<=n+n+1 from ())
 refine#[_,_,_,_,rfl,ws.l4 wl (),?_]
 refine#[cs,m,s+L,_,_,n+n+1,rfl,o,hz.len,(),hc,hm,ws.plus wl,qBV s0 l0,fun A B w1=>?_]
 refine#[cs,m,s,_,_,n+n+1,rfl,o,hz.len,(),hc,hm,ws.mono (),s0,fun A' B' w2=>?_]
 exact#[_,_,_,_,rfl,w1.l4 w2 (),q _ _ ((w1.minus w2).mono ())]
variable (AE:Cal P w K mg base (CXU P w) 4 "_law_grown" ["_law_f","_law_start","_law_length_here"] FL)
theorem BM:Ad ["_law_f","_law_g","_law_rows","_law_corner","_law_other_here"] ["_law_f","_law_g"] (Aa DW):=scN
include Ag Ah in
theorem IS (F:Fun K "_law_places" "_law_places" DW f fd):Ap P w K mg base CX0 2 f fd ["_law_f","_law_g"] (Ae K mg Fc):=by
 refine fn3 F BM (fun ss R U h=>?_) (fun cdv A outer s H E ss R U hr h=>?_)
 .obtain⟨cs,m,ds,k,rfl,_⟩:=h;rfl
 obtain⟨cs,m,ds,k,rfl,⟨r,z,lc⟩,hd,q⟩:=h
 refine#[_,(Ab (AK 2 BM (GG LG))
  (Ab (Er (Cb PassesOwn.never rfl (Bp (PE3.out (vK 0))) (A9 (i:=3) BM.nd rfl (Or.inl rfl)) (D5.out (Ab (Er (Cb PassesOwn.never rfl (Bp (PE3.out (vK 0))) (A9 (i:=4) BM.nd rfl (Or.inl rfl)) (D5.out (Af (BQ (Bu (Ao hr Ah (a2 (vK 3) (vK 4)))) (Af (Fu (Bq (Fo qAD qAA qAB AU (pv 2) (AX (PE3.out (AH (a2 (vK 3) (Ao hr Ag (a2 (vK 4) (vK 3)))))) Bt))))) An)))))
  (Af (Er (Cb PassesOwn.never rfl (Bp (PE3.out (vK 1))) (A9 (i:=4) BM.nd rfl (Or.inl rfl)) (D5.out (Ab (Fu (Bq (Fo qAD qAA qAB AU (pv 2) (AX (PE3.out (AH (a2 (vK 3) (vK 4)))) Bt))))
  (Af (BQ (Bu (Ao hr Ah (a2 (vK 4) (vK 3)))) (Af (Fu (Bq (Fo qAD qAA qAB AU (pv 2) (AX (PE3.out (AH (a2 (Ao hr Ag (a2 (vK 3) (vK 4))) (vK 4)))) Bt))))) An)))))))))))
  (Af (DC (pv 2))))),?_]
 have o:=r.o
 have od:=hd.1.o
 have ld:=hd.2.2.1
 have Wt:∀{i:Nat},i<cs.length->Wq 750 (tt cs i).num (tt cs i).den (tt cs i):=fun hi=>Wq.of ((z.tm _ hi).mono ∅)
 have Wd:∀{i:Nat},i<ds.length->Wq 750 (tt ds i).num (tt ds i).den (tt ds i):=fun hi=>Wq.of (hd.2.1.tm _ hi)
 refine#[by show 0<=1000;decide,?_]
 refine#[fun n τ=>∃(rows:List D)(y3 y4:Option S),τ=[some (.d (crv cs m)),some (.d (crv ds k)),some (.l rows),y3,y4]/\rows.length<=21*n/\n<=7/\∀x∈rows,PLr x,#[[],_,_,rfl,∅,∅,fun x h=>nomatch h],?_,?_]
 .rintro n τ x hx ⟨rows,y3,y4,rfl,lr,n7,hr⟩
  obtain⟨nl,rfl⟩:=D0 hx
  have t0:=CD o nl
  refine#[fun j τ=>∃(rows':List D)(y4:Option S),τ=[some (.d (crv cs m)),some (.d (crv ds k)),some (.l rows'),some (.d (.tup [qd (tt cs n),qd (vv cs n)])),y4]/\rows'.length<=21*n+j/\j<=7/\∀x∈rows',PLr x,#[rows,_,rfl,lr,∅,hr],?_,?_]
  .rintro j τ x hx ⟨rows',y4,rfl,lr',j7,hr'⟩
   obtain⟨jl,rfl⟩:=D0 hx
   refine#[_,_,_,_,rfl,(Wt nl).l4 (Wt jl) ∅,?_]
   refine BI (fun c=>?_) (fun c=>#[rows',_,rfl,(),(),hr'])
   rw[(Wt nl).le_iff (Wt jl)] at c
   refine#[_,_,_,_,rfl,(Wt jl).l4 (Wt nl) ∅,(by show 2<=1000;decide),(),?_]
   exact#[_,_,rfl,by rw[qAx];show _+1<=_;omega,(),La hr' #[_,_,_,_,_,_,rfl,(Wt nl).mono ∅,t0,((Wt jl).minus (Wt nl)).mono ∅,⋯]]
  rintro τ ⟨rows',y4,rfl,lr',j7,hr'⟩
  rw[qAa] at lr' j7
  refine#[fun j τ=>∃(rows2:List D)(y4:Option S),τ=[some (.d (crv cs m)),some (.d (crv ds k)),some (.l rows2),some (.d (.tup [qd (tt cs n),qd (vv cs n)])),y4]/\rows2.length<=21*n+7+2*j/\j<=7/\∀x∈rows2,PLr x,#[rows',_,rfl,(),∅,hr'],?_,?_]
  .rintro j τ x hx ⟨rows2,y4,rfl,lr2,j7,hr2⟩
   obtain⟨jl,rfl⟩:=D0 hx
   have d0:=CD od jl
   have a1:=La hr2 (y:=.tup [qd (tt cs n),qd (tt ds j)]) #[_,_,_,_,_,_,rfl,(Wt nl).mono ∅,t0,(Wd jl).mono ∅,d0]
   refine#[(by show 2<=1000;decide),(),?_]
   refine#[_,_,_,_,rfl,(Wd jl).l4 (Wt nl) ∅,?_]
   refine BI (fun c=>?_) (fun c=>#[_,_,rfl,by rw[qAx];show _+1<=_;omega,(),a1])
   rw[(Wd jl).le_iff (Wt nl)] at c
   refine#[_,_,_,_,rfl,(Wt nl).l4 (Wd jl) ∅,(by show 2<=1000;decide),by rw[qAx];show _+1<_;omega,?_]
   exact#[_,_,rfl,by rw[qAx,qAx];show _+1+1<=_;omega,(),La a1 #[_,_,_,_,_,_,rfl,((Wt nl).minus (Wd jl)).mono ∅,⋯,(Wd jl).mono ∅,d0]]
  rintro τ ⟨rows2,y4,rfl,lr2,j7,hr2⟩
  rw[qAa] at lr2 j7
  exact#[rows2,_,_,rfl,(),(),hr2]
 rintro τ ⟨rows,y3,y4,rfl,lr,n7,hr⟩
 rw[qAa] at lr
 exact q rows () hr
variable (CV:Cal P w K mg base (CXU P w) 2 "_law_places" ["_law_f","_law_g"] Fc)
theorem GR:Ad ["_law_offer","_law_g","_law_place"] ["_law_offer","_law_g"] (Aa Fy):=scN
include Ah Bx AE CV in
theorem KY (F:Fun K "_law_sure" "_law_sure" Fy f fd):Ap P w K mg base CX0 5 f fd ["_law_offer","_law_g"] (Ae K mg GW):=by
 refine fn3 F GR (fun ss R U h=>?_) (fun cdv A outer s H E ss R U hr h=>?_)
 .obtain⟨cs,m,ds,k,rfl,_⟩:=h;rfl
 obtain⟨cs,m,ds,k,rfl,⟨r,z,lc⟩,hd,h2,q⟩:=h
 refine#[_,(Ab (BQ (w_not (Bu (Ao hr Ah (a2 (vK 1) (vK 0))))) (Bc RI) An)
  (Ab (Er (Cb PassesOwn.never rfl (Bp (PE3.out (Ao hr CV (a2 (vN 0) (vN 1))))) (A9 (i:=2) GR.nd rfl (Or.inl rfl)) (D5.out (Af (BQ (w_not (Bu (Ao hr Ah (a2 (Ao hr Bx (a2 (vN 1) (vK 2))) (Ao hr AE (AN (vN 0) (a2 (vK 2) (vK 2)))))))) (Bc RI) An)))))
  (Bc RI))),?_]
 have o:=r.o
 have od:=hd.1.o
 have ld:=hd.2.2.1
 have hz:=z.szk (n:=3351) o () ∅
 have hs:=hd.2.1.szk (n:=3351) od () ∅
 have wm:Wq 3351 m.num m.den m:=Wq.of hz.m
 have wk:Wq 3351 k.num k.den k:=Wq.of hs.m
 have mk:k<=m:=Qp od o fun t t0=>by
  have a:=h2 0 t qAg t0
  rw[show 0+t=t from ⋯] at a
  have:=UX r (qAg (a:=0))
  grind
 refine#[_,_,_,_,rfl,wk.l4 wm ∅,?_]
 refine Na (fun c=>absurd ((wk.le_iff wm).mpr mk) c) (fun _=>?_)
 refine#[cs,m,ds,k,rfl,#[r,z,lc],hd,fun rows lr hr=>?_]
 refine#[fun n τ=>∃y:Option S,τ=[some (.d (crv cs m)),some (.d (crv ds k)),y],#[_,rfl],?_,?_]
 .rintro n τ x hx ⟨y,rfl⟩
  obtain⟨a,b,c,d,s,L,rfl,ws,s0,wL,l0⟩:=hr x (qAF hx)
  refine#[ds,k,L,_,_,3351,rfl,od,hs.len,∅,hs.cs,hs.m,wL.mono ∅,l0,fun A' B' wB=>?_]
  refine#[cs,m,s,L,_,_,_,_,3351,rfl,o,∅,hz,ws.mono ∅,s0,wL.mono ∅,l0,fun A B wA=>?_]
  refine#[_,_,_,_,rfl,(wB.mono ∅).l4 wA ∅,?_]
  exact Na (fun d=>absurd ((wB.le_iff wA).mpr (h2 _ _ s0 l0)) d) (fun _=>#[_,rfl])
 rintro τ ⟨y,rfl⟩
 exact q
variable (D4:Cal P w K mg base (CXU P w) 5 "_law_sure" ["_law_offer","_law_g"] GW)
theorem AY:Ad ["_law_offer","_law_length_here","_law_best","_law_corner","_law_start"] ["_law_offer","_law_length_here"] (Aa C4):=scN
include Ag Ah AE in
theorem G3 (F:Fun K "_law_least_in" "_law_least_in" C4 f fd):Ap P w K mg base CX0 5 f fd ["_law_offer","_law_length_here"] (Ae K mg D9):=by
 refine fn3 F AY (fun ss R U h=>?_) (fun cdv A outer s H E ss R U hr h=>?_)
 .obtain⟨cs,m,L,rfl,_⟩:=h;rfl
 obtain⟨cs,m,L,rfl,r,z,lc,zL,l0,q⟩:=h
 refine#[_,(Ab (AK 2 AY (Ao hr AE (AN (vN 0) (a2 (AH (a2 Ac Ac)) (vN 1)))))
  (Ab (Er (Cb PassesOwn.never rfl (Bp (PE3.out (vK 0))) (A9 (i:=3) AY.nd rfl (Or.inl rfl)) (D5.out (Ab (AK 4 AY (vK 3))
  (B3 (BQ (w_not (Bu (Ao hr Ah (a2 (vN 2) (Ao hr AE (AN (vN 0) (a2 (vN 4) (vN 1)))))))) (Af (AK 2 AY (Ao hr AE (AN (vN 0) (a2 (vN 4) (vN 1)))))) An)
  (Ab (AK 4 AY (Ao hr Ag (a2 (vK 3) (vN 1))))
  (Af (BQ (PW3.pt (IL (Ce X9 (vK 4) Ac) (E4 (w_not (Bu (Ao hr Ah (a2 (vN 2) (Ao hr AE (AN (vN 0) (a2 (vN 4) (vN 1))))))))))) (Af (AK 2 AY (Ao hr AE (AN (vN 0) (a2 (vN 4) (vN 1)))))) An))))))))
  (Af (DC (pv 2))))),?_]
 have o:=r.o
 have hz:=z.szk (n:=155) o () ∅
 have hz3:=z.szk (n:=311) o () ∅
 have wl:Wq 155 L.num L.den L:=(Wq.of zL).mono ∅
 have bz:∀{s:Rat},0<=s->Sz 142 s->Sz 620 (val cs m (s+L)-val cs m s):=fun {s} s0 zs=>((z.va (qBV s0 l0) (zs.add zL)).sub (z.va s0 zs)).mono ∅
 have up:∀{s:Rat},0<=s->0<=val cs m (s+L)-val cs m s:=fun {s} s0=>by have:=CQ r (x:=s) (y:=s+L) s0 ⋯;grind
 refine#[(by show 2<=1000;decide),?_]
 refine#[cs,m,0,L,_,_,_,_,311,rfl,o,∅,hz3,(Wq.of Sz.zero:Wq 1 0 1 0).mono ∅,qAg,wl.mono ∅,l0,fun A B w=>?_]
 refine#[fun n τ=>∃(A B:Int)(b:Rat)(y3 y4:Option S),τ=[some (.d (crv cs m)),some (.d (qd L)),some (.d (tp A B)),y3,y4]/\Wq 8731 A B b/\0<=b/\Sz 620 b,#[A,B,_,_,_,rfl,w.mono ∅,up qAg,bz qAg (Sz.zero.mono ∅)],?_,?_]
 .rintro n τ x hx ⟨A,B,b,y3,y4,rfl,wb,b0,zb⟩
  obtain⟨nl,rfl⟩:=D0 hx
  have t0:0<=tt cs n:=CD o nl
  have zt:=z.tm n nl
  have wt:Wq 155 (tt cs n).num (tt cs n).den (tt cs n):=(Wq.of zt).mono ∅
  refine#[fun τ=>∃(A B:Int)(b:Rat)(y4:Option S),τ=[some (.d (crv cs m)),some (.d (qd L)),some (.d (tp A B)),some (.d (.tup [qd (tt cs n),qd (vv cs n)])),y4]/\Wq 8731 A B b/\0<=b/\Sz 620 b,?_,?_]
  .refine#[cs,m,tt cs n,L,_,_,_,_,311,rfl,o,∅,hz3,wt.mono ∅,t0,wl.mono ∅,l0,fun A1 B1 w1=>?_]
   refine#[_,_,_,_,rfl,wb.l4 w1 ∅,?_]
   refine Na (fun c=>?_) (fun c=>#[A,B,b,_,rfl,wb,b0,zb])
   refine#[cs,m,tt cs n,L,_,_,_,_,311,rfl,o,∅,hz3,wt.mono ∅,t0,wl.mono ∅,l0,fun A2 B2 w2=>?_]
   exact#[A2,B2,_,_,rfl,w2,up t0,bz t0 (zt.mono ∅)]
  clear wb b0 zb
  clear A B b
  rintro τ ⟨A,B,b,y4,rfl,wb,b0,zb⟩
  refine#[_,_,_,_,rfl,wt.l4 wl ∅,?_]
  have w:=wt.minus wl
  refine BI (fun c=>?_) (fun c=>#[A,B,b,_,_,rfl,wb,b0,zb])
  have c:0<=tt cs n-L:=(W2 w).mp c
  refine#[cs,m,tt cs n-L,L,_,_,_,_,311,rfl,o,∅,hz3,w,c,wl.mono ∅,l0,fun A1 B1 w1=>?_]
  refine#[_,_,_,_,rfl,wb.l4 w1 ∅,?_]
  refine Na (fun d=>?_) (fun d=>#[A,B,b,_,_,rfl,wb,b0,zb])
  refine#[cs,m,tt cs n-L,L,_,_,_,_,311,rfl,o,∅,hz3,w,c,wl.mono ∅,l0,fun A2 B2 w2=>?_]
  exact#[A2,B2,_,_,_,rfl,w2,up c,bz c (zt.sub zL)]
 rintro τ ⟨A,B,b,y3,y4,rfl,wb,b0,zb⟩
 exact q A B b wb b0 zb
variable (Cc:Cal P w K mg base (CXU P w) 5 "_law_least_in" ["_law_offer","_law_length_here"] D9)
theorem BK:Ad ["_law_f","_law_cell","_law_one","_law_other_here","_law_length_here","_law_tenths"] ["_law_f","_law_cell"] (Aa DX):=scN
include Ia AI Am Ag in
theorem IU (F:Fun K "_law_length" "_law_length" DX f fd):Ap P w K mg base CX0 2 f fd ["_law_f","_law_cell"] (Ae K mg E1):=by
 refine fn3 F BK (fun ss R U h=>?_) (fun cdv A outer s H E ss R U hr h=>?_)
 .obtain⟨cs,m,c,rfl,_⟩:=h;rfl
 obtain⟨cs,m,c,rfl,c0,hl,hz,q⟩:=h
 refine#[_,(Ab (AK 2 BK (A3 (A3 (vK 0) (Ak BZ (vN 1) (CU AI (vK 0)))) Ac))
  (Ab (AK 3 BK (A3 (A3 (vK 0) (Ak BZ (Ak Bf (vN 1) Ac) (CU AI (vK 0)))) Ac))
  (Ab (AK 4 BK (Ao hr Ag (a2 (vN 2) (vN 3))))
  (Ab (AK 5 BK (Ak AZ Ac (Ak BZ (Ak Bf (vN 1) Ac) Ac)))
  (Ab (BQ (Ce IM (vK 4) Ac) (Bc (Ao hr Am (a2 (Ak AZ Ac (Ak BZ (Ak Bf (vN 1) Ac) Ac)) (Ak AZ Ac (Ak BZ (Ak Bf (vN 1) Ac) Ac))))) An)
  (Bc (Ao hr Am (a2 (Ak AB (Ir P1 rfl Ia qBK (a1 (vK 4))) (vN 5)) (Ak AB (vK 4) Ac))))))))),?_]
 have nl:(((cs.map cd).length:Nat):Int)≠0:=by rw[qAa];omega
 have at_:∀x:Int,∃k,k<cs.length/\atI (cs.map cd) (x.fmod (((cs.map cd).length:Nat):Int))=some (.tup [qd (tt cs k),qd (vv cs k)]):=fun x=>by
  have fl:=fm (a:=x) (m:=(((cs.map cd).length:Nat):Int)) (by rw[qAa];omega)
  rw[qAa] at fl
  exact#[(x.fmod (cs.length:Int)).toNat,(),BL _ (by rw[qAa];omega) ()]
 obtain⟨i,il,bi⟩:=at_ c
 obtain⟨j,jl,bj⟩:=at_ (c.fdiv 7)
 refine#[nl,atR bi ?_]
 refine#[#[∅,C9 ∅],nl,atR bj ?_]
 have wi:Wq 41 (tt cs i).num (tt cs i).den (tt cs i):=Wq.of (hz i il)
 have wj:Wq 41 (tt cs j).num (tt cs j).den (tt cs j):=Wq.of (hz j jl)
 have w:=wi.minus wj
 refine#[_,_,_,_,rfl,wi.l4 wj ∅,?_]
 have f12:=fm (a:=c.fdiv 49) (show(0:Int)<12 from ∅)
 have f40:=fm (a:=c.fdiv 49) (show(0:Int)<40 from ∅)
 have f9:=fm (a:=c.fdiv 49) (show(0:Int)<9 from ∅)
 refine#[#[∅,C9 ∅],∅,?_]
 refine BI (fun _=>?_) (fun ne=>?_)
 .have x1:(1+(c.fdiv 49).fmod 40).natAbs<2^100:=Ay (show _<2^6 from ()) ∅
  have x2:(1+(c.fdiv 49).fmod 9).natAbs<2^100:=Ay (show _<2^6 from ()) ∅
  exact#[#[∅,C9 ∅],∅,#[∅,C9 ∅],∅,_,_,rfl,(),Ay x1 ∅,Ay x2 ∅,q _ (J1 () x1 x2) (WT () () x1 x2)]
 have la:=w.la
 have lb:=w.lb
 have p0:=w.pos
 generalize (tt cs i).num*((tt cs j).den:Int)-(tt cs j).num*((tt cs i).den:Int)=X at la ne ⊢
 generalize ((tt cs i).den:Int)*((tt cs j).den:Int)=Y at lb p0 ⊢
 have ta:(6+(c.fdiv 49).fmod 12).natAbs<2^5:=()
 have xa:(if X<0 then -X else X).natAbs<2^83:=by
  have la:X.natAbs<2^83:=la
  split
  .rw[qCC];exact la
  .exact la
 have lb:Y.natAbs<2^83:=lb
 have m1:=Aj xa ta
 have m2:=Aj lb (show(10:Int).natAbs<2^4 from ∅)
 refine#[AD xa ta ∅,AD lb (show(10:Int).natAbs<2^4 from ∅) ∅,_,_,rfl,(),Ay m1 ∅,Ay m2 ∅,?_]
 have x0:0<(if X<0 then -X else X):=by split<;>omega
 exact q _ (J1 () (Ay m1 ∅) (Ay m2 ∅)) (WT (n:=100) () (qA1 x0 ()) (Ay m1 ∅) (Ay m2 ∅))
variable (CO:Cal P w K mg base (CXU P w) 2 "_law_length" ["_law_f","_law_cell"] E1)
theorem BD:Ad ["_law_offer","_law_cell","_law_length_here","_law_high","_law_half","_law_parts"] ["_law_offer","_law_cell"] (Aa EE):=scN
include Am Bi Cc CO in
theorem Jw (F:Fun K "_law_sharp" "_law_sharp" EE f fd):Ap P w K mg base CX0 6 f fd ["_law_offer","_law_cell"] (Ae K mg F4):=by
 refine fn3 F BD (fun ss R U h=>?_) (fun cdv A outer s H E ss R U hr h=>?_)
 .obtain⟨cs,m,c,rfl,_⟩:=h;rfl
 obtain⟨cs,m,c,rfl,⟨r,z,lc⟩,q⟩:=h
 refine#[_,(Ab (AK 2 BD (Ao hr CO (a2 (vN 0) (Ak Bf (vN 1) Ac))))
  (Ab (AK 3 BD (Ao hr Cc (a2 (vN 0) (vN 2))))
  (B3 (BQ (PW3.pt (PV (Ce IM (Ak BZ (vN 1) Ac) Ac) (JQ (Ce IM (vK 3) Ac)))) (Ab (AK 5 BD (Ak AZ Ac (Ak BZ (Ak Bf (vN 1) Ac) (Ak Np Ac Ac))))
  (Af (AK 3 BD (Ao hr Bi (a2 (vN 3) (AH (a2 Ac (vN 5)))))))) An)
  (Ab (AK 4 BD (Ao hr Am (a2 (vK 2) (Ak AB (vK 2) Ac))))
  (Bc (AH (a2 (AH (AN (AH (a2 (AH (a2 Ac Ac)) (AH (a2 Ac Ac)))) (a2 (AH (a2 (vN 4) (AH (a2 Ac Ac)))) (AH (a2 (vN 2) (Ao hr Am (a2 (vK 3) (vK 3)))))))) (AH (a2 Ac Ac))))))))),?_]
 have o:=r.o
 refine#[#[∅,C9 ∅],cs,m,_,rfl,o.ne,(),z.tm,fun L zL l0=>?_]
 refine#[cs,m,L,rfl,r,z,lc,zL,qAy l0,fun A B b wb b0 zb=>?_]
 refine#[fun τ=>∃(A B:Int)(b:Rat)(y y':Option S),τ=[some (.d (crv cs m)),I c,some (.d (qd L)),some (.d (tp A B)),y,y']/\Wq 8800 A B b/\0<=b/\Sz 660 b,?_,?_]
 .refine#[∅,?_]
  have h9:(0:Int)<10^(9:Int).toNat:=∅
  have h91:(10:Int)^(9:Int).toNat=1000000000:=∅
  have f:=fm (a:=c.fdiv 2) h9
  rw[h91] at f
  have pw:Wq 30 1 (1+(c.fdiv 2).fmod (10^(9:Int).toNat)) (Rat.divInt 1 (1+(c.fdiv 2).fmod (10^(9:Int).toNat))):=MO (by rw[h91];omega) ∅ (by rw[h91];omega)
  have p0:=Gk (a:=1) pw.pos ∅
  have w:=wb.plus pw
  refine BI (fun _=>?_) (fun _=>BI (fun _=>?_) (fun _=>#[A,B,b,_,_,rfl,wb.mono ∅,b0,zb.mono ∅]))
  all_goals exact#[#[∅,C9 ∅],#[∅,∅,∅],qBc h9,(by show 2<=1000;decide),_,_,_,_,rfl,wb.l4 (pw.mono ∅) ∅,_,_,_,_,_,rfl,w.mono ∅,qBV b0 p0,(zb.add pw.sz).mono ∅]
 clear wb b0 zb
 clear A B b
 rintro τ ⟨A,B,b,y,y',rfl,wb,b0,zb⟩
 have wL:Wq 100 L.num L.den L:=Wq.of zL
 have wh:Wq 102 L.num ((L.den:Int)*2) (L/2):=#[by have:=wL.pos;omega,by rw[qAj,wL.eq];grind,Ay wL.la ∅,Aj wL.lb (show(2:Int).natAbs<2^2 from ∅)]
 refine#[AD wL.lb (show(2:Int).natAbs<2^2 from ∅) ∅,_,_,rfl,wh.pos,Ay wh.la ∅,Ay wh.lb ∅,?_]
 rw[Gj wh]
 refine#[(by show 2<=1000;decide),(by show 2<=1000;decide),(by show 2<=1000;decide),(by show 2<=1000;decide),(by show 2<=1000;decide),_,_,rfl,wb.pos,Ay wb.la ∅,Ay wb.lb ∅,?_]
 rw[Gj wb]
 exact#[(by show 2<=1000;decide),(by show 3<=1000;decide),(by show 2<=1000;decide),(by show 2<=1000;decide),q [(0,0),(L/2,0),(L,b)] 0 (Qc ⋯ ⋯ b0 zL wh.sz zb)]
variable (De:Cal P w K mg base (CXU P w) 6 "_law_sharp" ["_law_offer","_law_cell"] F4)
theorem EG:Ad ["_law_offer","_law_g","_law_place","_law_length_here"] ["_law_offer","_law_g","_law_place"] (Aa Dz):=scN
include AL AI BH Ag Ah Bx CC AE in
theorem Ib (F:Fun K "_law_is_lack" "_law_is_lack" Dz f fd):Ap P w K mg base CX0 5 f fd ["_law_offer","_law_g","_law_place"] (Ae K mg EB):=by
 refine fn3 F EG (fun ss R U h=>?_) (fun cdv A outer s H E ss R U hr h=>?_)
 .obtain⟨cs,m,ds,k,s,t,rfl,_⟩:=h;rfl
 obtain⟨cs,m,ds,k,s,t,rfl,⟨r,z,lc⟩,hd,zs,zt,s0,t0,lt,q⟩:=h
 refine#[_,(O1 (BQ (PW3.pt (PV (w_not (Bu (Nm .tuple (vN 2) rfl AL rfl BH qBW))) (JQ (Ce VW (CU AI (vN 2)) Ac)))) (Bc RI) An)
  (O1 (BQ (PW3.pt (PV (w_not (Bu (Ao hr CC (a1 (vK 2))))) (PV (w_not (Bu (Ao hr CC (a1 (vK 2))))) (JQ (Ce Kj (A3 (vK 2) Ac) Ac))))) (Bc RI) An)
  (Ab (BQ (w_not (Bu (Ao hr Ah (a2 (vK 2) (vK 2))))) (Bc RI) An)
  (Ab (AK 3 EG (Ao hr Ag (a2 (vK 2) (vK 2))))
  (Bc (Pr (Ao hr Ah (a2 (Ao hr Bx (a2 (vN 1) (vN 3))) (Ao hr AE (AN (vN 0) (a2 (vK 2) (vN 3)))))))))))),?_]
 have o:=r.o
 have zu:Sz 4847 (s+t):=(zs.add zt).mono ∅
 have ws:Wq 4847 s.num s.den s:=(Wq.of zs).mono ∅
 have wu:Wq 4847 (s+t).num (s+t).den (s+t):=Wq.of zu
 have su:s<=s+t:=⋯
 have hz7:SzK 9695 cs m:=z.szk o () ∅
 have hs:SzK 9695 ds k:=hd.2.1.szk hd.1.o (by have:=hd.2.2.1;omega) ∅
 refine#[#[trivial,rfl],#[s,rfl,zs.mono ∅,s+t,rfl,zu.mono ∅,BI (fun c=>absurd c (Uv s0)) (fun _=>rfl)],?_]
 refine#[_,_,_,_,rfl,ws.l4 wu ∅,?_]
 refine Na (fun c=>absurd ((ws.le_iff wu).mpr su) c) (fun _=>?_)
 refine#[_,_,_,_,rfl,wu.l4 ws ∅,?_]
 have w:=wu.minus ws
 rw[show s+t-s=t from ⋯] at w
 refine#[ds,k,t,_,_,9695,rfl,hd.1.o,hs.len,∅,hs.cs,hs.m,w,t0,fun A' B' wB=>?_]
 refine#[cs,m,s,t,_,_,_,_,9695,rfl,o,∅,hz7,ws.mono ∅,s0,w,t0,fun A B wA=>?_]
 refine#[_,_,_,_,rfl,(wB.mono ∅).l4 wA ∅,?_]
 show R (.d (.bl (!decide _)))
 rw[decide_eq_false (fun c=>absurd ((wB.le_iff wA).mp c) (qBe.mpr lt))]
 exact q
variable (Cq:Cal P w K mg base (CXU P w) 5 "_law_is_lack" ["_law_offer","_law_g","_law_place"] EB)
theorem BR:Ad ["_law_f","_law_best","_law_k"] ["_law_f"] (Aa C6):=scN
include AI AO Am Ah Ba in
theorem G0 (F:Fun K "_law_flattest" "_law_flattest" C6 f fd):Ap P w K mg base CX0 3 f fd ["_law_f"] (Ae K mg D8):=by
 refine fn3 F BR (fun ss R U h=>?_) (fun cdv A outer s H E ss R U hr h=>?_)
 .obtain⟨cs,m,rfl,_⟩:=h;rfl
 obtain⟨cs,m,rfl,⟨r,z,lc⟩,q⟩:=h
 refine#[_,(Ab (AK 1 BR (Ao hr Ba (a2 (vN 0) Ac)))
  (Ab (U2 (Cb PassesOwn.never rfl (N1 rfl AO (PA3.out (a1 (CU AI (vK 0))))) (A9 (i:=2) BR.nd rfl (Or.inl rfl)) (D5.out (Af (BQ (w_not (Bu (Ao hr Ah (a2 (vN 1) (Ao hr Ba (a2 (vN 0) (vN 2))))))) (Af (AK 1 BR (Ao hr Ba (a2 (vN 0) (vN 2))))) An)))))
  (Bc (Ao hr Am (a2 (vK 1) (vK 1)))))),?_]
 have o:=r.o
 have hz:=z.szk (n:=155) o () ∅
 refine#[cs,m,_,0,155,rfl,(),o.ne,o.up,∅,hz.cs,hz.m,fun A B w=>?_]
 refine#[by rw[qAa];omega,?_]
 refine#[fun n τ=>∃(A B:Int)(s:Rat)(y:Option S),τ=[some (.d (crv cs m)),some (.d (tp A B)),y]/\Wq 622 A B s/\Sz 45 s/\0<=s,#[A,B,_,_,rfl,w,(z.ln o 0 o.ne).1,HE r 0],?_,?_]
 .rintro n τ hn ⟨A,B,s,y,rfl,w,zs,s0⟩
  rw[qAa] at hn
  have nl:n<cs.length:=()
  refine#[cs,m,_,n,155,rfl,(),nl,o.up,∅,hz.cs,hz.m,fun A1 B1 w1=>?_]
  refine#[_,_,_,_,rfl,w.l4 w1 ∅,?_]
  refine Na (fun _=>?_) (fun _=>#[A,B,s,_,rfl,w,zs,s0])
  exact#[cs,m,_,n,155,rfl,(),nl,o.up,∅,hz.cs,hz.m,fun A2 B2 w2=>#[A2,B2,_,_,rfl,w2,(z.ln o n nl).1,HE r n]]
 rintro τ ⟨A,B,s,y,rfl,w,zs,s0⟩
 refine#[_,_,rfl,w.pos,Ay w.la ∅,Ay w.lb ∅,?_]
 rw[Gj w]
 exact q s zs s0
variable (B8:Cal P w K mg base (CXU P w) 3 "_law_flattest" ["_law_f"] D8)
theorem Bb:Ad ["_law_script","_law_offer","_law_way","_law_cell","_law_cells","_law_base","_law_corners","_law_corner","_law_flat","_law_value"] ["_law_script","_law_offer","_law_way"] (Aa Ej):=scN
include BH Au Am Ag Br Cg De B8 in
theorem JS (F:Fun K "_law_other" "_law_other" Ej f fd):Ap P w K mg base CX0 7 f fd ["_law_script","_law_offer","_law_way"] (Ae K mg FI):=by
 refine fn3 F Bb (fun ss R U h=>?_) (fun cdv A outer s H E ss R U hr h=>?_)
 .obtain⟨ns,cs,m,w,rfl,_⟩:=h;rfl
 obtain⟨ns,cs,m,w,rfl,⟨r,z,lc⟩,hv,q⟩:=h
 refine#[_,(Ab (AK 3 Bb (Ao hr Au (a2 (vN 0) Ac)))
  (Ab (BQ (Ce IM (vN 2) Ac) (Ab (AK 5 Bb (A3 (A3 (vK 1) Ac) Ac))
  (Ab (AK 6 Bb (GG LG))
  (Ab (Er (Cb PassesOwn.never rfl (Bp (PE3.out (vK 1))) (A9 (i:=7) Bb.nd rfl (Or.inl rfl)) (D5.out (Ab (AK 9 Bb (Ao hr Ag (a2 (vK 7) (vN 5))))
  (Af (Fu (Bq (Fo qAD qAA qAB AU (pv 6) (AX (PE3.out (AH (a2 (vK 7) (Ao hr Am (a2 (vK 9) (vK 9)))))) Bt)))))))))
  (Bc (AH (a2 (Lv (vN 6) rfl BH) (vK 1))))))) An)
  (Ab (BQ (Ce IM (vN 2) Ac) (Ab (AK 8 Bb (Ao hr B8 (a1 (vN 1))))
  (Bc (AH (a2 (AH (a1 (AH (a2 (AH (a2 Ac Ac)) (AH (a2 Ac Ac)))))) (Ao hr Am (a2 (Ak AB (vK 8) (Ak AZ Ac (Ak BZ (vN 3) Ac))) (Ak AB (vK 8) Ac))))))) An)
  (Ab (BQ (Ce Rn (vN 2) Ac) (Bc (Ao hr De (a2 (vN 1) (vN 3)))) An)
  (O1 (BQ (PW3.pt (IL (Ce IM (vN 2) Ac) (E4 (Ce Rn (A3 (vK 1) Ac) Ac)))) (Bc (AH (a2 (AH (a2 (AH (a2 (AH (a2 Ac Ac)) (AH (a2 Ac Ac)))) (AH (a2 (Ao hr Am (a2 (Ak AZ Ac (Ak BZ (vN 3) (Ak Np Ac Ac))) Ac)) (AH (a2 Ac Ac)))))) (vK 1)))) An)
  (Ab (AK 4 Bb (Ao hr Cg (AN (vN 0) (a2 Ac (Ak AZ Ac (Ak BZ (Ak AZ (Ak Bf (vN 3) Ac) Ac) Ac))))))
  (Bc (Ao hr Br (AN (Ao hr Au (a2 (vN 0) Ac)) (AN (vN 4) (a2 (Ak AB (Ak Bf (Ak BZ (vN 3) Ac) Ac) (Ak BZ (Ak Bf (vN 3) Ac) (Ak Np Ac Ac))) (Ak BZ (Ak Bf (vN 3) Ac) Ac)))))))))))),?_]
 refine#[ns,3,rfl,∅,∅,?_]
 have o:=r.o
 generalize cl ns 3=c
 refine BI (fun _=>?_) (fun _=>?_)
 .refine atR (BL (cs:=cs) (i:=0) 0 rfl o.ne) ?_
  have w2:Wq 68 (vv cs 0).num ((vv cs 0).den:Int) (vv cs 0):=Wq.of (hv 0 o.ne)
  refine#[by show 0<=1000;decide,?_]
  refine#[fun j τ=>∃y7 y9:Option S,τ=[some (.r (ns.map D.int)),some (.d (crv cs m)),I w,I c,none,some (.d (qd (vv cs 0))),some (.l (((lw cs (vv cs 0)).take j).map cd)),y7,none,y9],#[_,_,rfl],?_,?_]
  .rintro j τ x hx ⟨y7,y9,rfl⟩
   obtain⟨jl,rfl⟩:=D0 hx
   have w1:Wq 68 (vv cs j).num ((vv cs j).den:Int) (vv cs j):=Wq.of (hv j jl)
   refine#[_,_,_,_,rfl,w1.l4 w2 ∅,?_]
   have w:=w1.minus w2
   refine#[_,_,rfl,w.pos,Ay w.la ∅,Ay w.lb ∅,by show 2<=1000;decide,by rw[qAa,qAS,Gd];omega,?_]
   have g:(lw cs (vv cs 0))[j]? = some (tt cs j,vv cs j-vv cs 0):=by
    unfold lw
    rw[qAc,qAb jl,(Jd jl).1,(Jd jl).2]
    rfl
   exact#[_,_,by rw[qBp,g,qAO,Gj w];rfl]
  rintro τ ⟨y7,y9,rfl⟩
  rw[qAa,<-Gd (cs:=cs) (e:=vv cs 0),qCq]
  exact#[by show 2<=1000;decide,q _ _ (K8.of #[Ut o qAg,r.m0] ((WL z o (hv 0 o.ne)).mono ∅ ∅ ∅) (by rw[Gd];exact lc))]
 refine BI (fun _=>?_) (fun _=>?_)
 .refine#[cs,m,rfl,#[r,z,lc],fun s zs s0=>?_]
  have f3:=fm (a:=c) (show(0:Int)<3 from ∅)
  have wt:Wq 5 (9+c.fmod 3) 10 (Rat.divInt (9+c.fmod 3) 10):=MO ∅ () ∅
  have ws:Wq 45 s.num s.den s:=Wq.of zs
  have w:=ws.mul wt
  refine#[(by show 2<=1000;decide),(by show 2<=1000;decide),(by show 2<=1000;decide),(by show 1<=1000;decide),∅,AD ws.la wt.la ∅,AD ws.lb wt.lb ∅,_,_,rfl,w.pos,Ay w.la ∅,Ay w.lb ∅,?_]
  rw[Gj w]
  refine#[(by show 2<=1000;decide),q [(0,0)] _ ?_]
  have o1:Ord [(0,(0:Rat))]:=Ord.one qAg
  refine K8.of #[o1,qAt s0 (Gk ∅ ())] (Ln.ls (Ln.one (w.sz.mono ∅) ?_) o1 (fun i hi=>?_)) (by show 1<=7;decide)
  .show Sz 1600 (0-_*0)
   rw[show(0:Rat)-s*Rat.divInt (9+c.fmod 3) 10*0=0 from ⋯]
   exact Sz.zero.mono ∅
  .have:i=0:=by(have:i<1:=hi;omega)
   subst this
   exact Sz.zero.mono ∅
 refine BI (fun _=>#[cs,m,_,rfl,#[r,z,lc],q]) (fun _=>?_)
 have h6:(0:Int)<10^(6:Int).toNat:=∅
 have h61:(10:Int)^(6:Int).toNat=1000000:=∅
 have f6:=fm (a:=c) h6
 refine#[BI (fun _=>BI (fun _=>?_) (fun _=>rfl)) (fun _=>rfl),?_]
 .have wx:Wq 100 (1+c.fmod (10^(6:Int).toNat)) 7 (Rat.divInt (1+c.fmod (10^(6:Int).toNat)) 7):=MO ∅ (by rw[h61] at f6 ⊢;omega) ∅
  have x0:=WT (n:=100) (show(0:Int)<7 from ∅) (show 0<1+c.fmod (10^(6:Int).toNat) from ()) wx.la ∅
  refine#[(by show 2<=1000;decide),(by show 2<=1000;decide),(by show 2<=1000;decide),#[∅,∅,∅],qBc h6,_,_,rfl,∅,Ay wx.la ∅,∅,(by show 2<=1000;decide),(by show 2<=1000;decide),(by show 2<=1000;decide),(by show 2<=1000;decide),?_]
  exact q [(0,0),(_,0)] m (RU x0 r.m0 wx.sz (z.m o))
 have h12:(0:Int)<10^(12:Int).toNat:=∅
 have h121:(10:Int)^(12:Int).toNat=1000000000000:=∅
 have f4:=fm (a:=c.fdiv 4+1) (show(0:Int)<4 from ∅)
 refine#[#[∅,C9 ∅],∅,ns,14,_,rfl,∅,∅,(),(),fun ms lm=>?_]
 have f2:=fm (a:=c) (show(0:Int)<4 from ∅)
 have f7:=fm (a:=c.fdiv 16) h12
 have f3:0<=(c.fmod 4).fdiv 3/\(c.fmod 4).fdiv 3<=1:=by
  rw[qBd _ ∅]
  omega
 refine#[ns,4,rfl,∅,∅,∅,#[∅,C9 ∅],#[∅,C9 ∅],#[∅,∅,∅],qBc h12,AD (m:=2) (n:=41) () (by rw[h121] at f7 ⊢;omega) ∅,#[∅,C9 ∅],∅,?_]
 obtain⟨st,est,s0,s1⟩:∃st:Int,(c.fmod 4).fdiv 3*(c.fdiv 16).fmod (10^(12:Int).toNat)=st/\0<=st/\st<=1000000000000:=by
  refine#[_,rfl,qCg f3.1 f7.1,?_]
  rw[h121] at f7 ⊢
  rcases(show(c.fmod 4).fdiv 3=0\/(c.fmod 4).fdiv 3=1 from ()) with e|e<;>rw[e]<;>omega
 rw[est]
 exact#[_,ms,_,_,rfl,(),(),s0,(),fun fc k of zf hv k0 lf=>q fc k (K8.of #[of,k0] (zf.mono ∅ ∅ ∅) ())]
variable (Dh:Cal P w K mg base (CXU P w) 7 "_law_other" ["_law_script","_law_offer","_law_way"] FI)
theorem Ea:Ad ["_law_script","_law_side","_law_many","_law_cells","_law_start","_law_way","_law_shape","_law_offer","_law_g","_law_found"] ["_law_script"] (Aa Lr):=scN
include Mb Au Br Cg D4 Cq Dh in
theorem Ug (F:Fun K "law" "law" Lr f fd):Ap P w K mg base CX0 13 f fd ["_law_script"] (Ae K mg T4):=by
 refine fn3 F Ea (fun ss R U h=>?_) (fun cdv A outer s H E ss R U hr h=>?_)
 .obtain⟨ns,rfl,_⟩:=h;rfl
 obtain⟨ns,rfl,hl,q⟩:=h
 refine#[_,(Ab (AK 1 Ea (Ao hr Au (a2 (vN 0) Ac)))
  (Ab (AK 2 Ea (Ak AZ Ac (Ak BZ (Ak AZ (Ak Bf (vN 1) Ac) Ac) Ac)))
  (B3 (BQ (Ce IM (Ak BZ (Ak Bf (vN 1) Ac) Ac) Ac) (Af (AK 2 Ea Ac)) An)
  (Ab (AK 3 Ea (Ao hr Cg (AN (vN 0) (a2 Ac (vN 2)))))
  (Ab (AK 4 Ea (Ak AB (Ak BZ (vN 1) Ac) (Ak BZ (Ao hr Au (a2 (vN 0) Ac)) (Ak Np Ac Ac))))
  (Ab (AK 5 Ea (Ak BZ (Ak Bf (vN 1) Ac) Ac))
  (Ab (AK 6 Ea (Ak AB (Ak BZ (Ak Bf (vN 1) Ac) Ac) Ac))
  (B3 (BQ (Ce Rn (vN 5) Ac) (Af (AK 6 Ea Ac)) An)
  (Ab (AK 7 Ea (Ao hr Br (AN (Ao hr Au (a2 (vN 0) Ac)) (AN (vN 3) (a2 (vN 4) (vN 6))))))
  (Ab (AK 8 Ea (Ao hr Dh (AN (vN 0) (a2 (vN 7) (vN 5)))))
  (Ab (AK 9 Ea (Ao hr Mb (a2 (vN 7) (vN 8))))
  (Ab (BQ (Ce Vj (vN 9) Ng) (Bc (Ao hr D4 (a2 (vN 7) (vN 8)))) An)
  (Bc (Ao hr Cq (AN (vN 7) (a2 (vN 8) (vN 9))))))))))))))))),?_]
 refine#[ns,0,rfl,∅,∅,?_]
 have f5:=fm (a:=(cl ns 0).fdiv 32+2) (show(0:Int)<5 from ∅)
 refine#[#[∅,C9 ∅],∅,?_]
 refine#[fun τ=>∃z:Int,τ=[some (.r (ns.map D.int)),I (cl ns 0),I z,none,none,none,none,none,none,none]/\1<=z/\z<=7,?_,?_]
 .refine#[#[∅,C9 ∅],∅,?_]
  exact BI (fun _=>#[7,rfl,∅,∅]) (fun _=>#[_,rfl,(),()])
 clear f5
 rintro τ ⟨z,rfl,z1,z7⟩
 refine#[ns,5,_,rfl,∅,∅,(),(),fun ms lm=>?_]
 have h12:(0:Int)<10^(12:Int).toNat:=∅
 have h121:(10:Int)^(12:Int).toNat=1000000000000:=∅
 have f2:=fm (a:=cl ns 0) (show(0:Int)<2 from ∅)
 have f6:=fm (a:=cl ns 1) h12
 refine#[∅,ns,1,rfl,∅,∅,#[∅,∅,∅],qBc h12,AD (m:=2) (n:=41) () (by rw[h121] at f6 ⊢;omega) ∅,?_]
 obtain⟨st,est,s0,s1⟩:∃st:Int,(cl ns 0).fmod 2*(cl ns 1).fmod (10^(12:Int).toNat)=st/\0<=st/\st<=1000000000000:=by
  refine#[_,rfl,qCg f2.1 f6.1,?_]
  rw[h121] at f6 ⊢
  rcases(show(cl ns 0).fmod 2=0\/(cl ns 0).fmod 2=1 from ()) with e|e<;>rw[e]<;>omega
 rw[est]
 refine#[#[∅,C9 ∅],∅,#[∅,C9 ∅],∅,PySem.IntMulOk.of_right ∅,?_]
 refine#[fun τ=>∃sh:Int,τ=[some (.r (ns.map D.int)),I (cl ns 0),I z,some (.l (ms.map D.int)),I st,I (((cl ns 0).fdiv 4).fmod 8),I sh,none,none,none],BI (fun _=>#[_,rfl]) (fun _=>#[_,rfl]),?_]
 rintro τ ⟨sh,rfl⟩
 refine#[ns,2,rfl,∅,∅,_,ms,_,_,rfl,(),(),s0,(),fun fc k of zf hv k0 lf=>?_]
 have h:KO fc k:=#[#[of,k0],zf,(),hv 0 of.ne]
 have cm:Fe fc k/\LS 41 45 68 fc k/\fc.length<=7:=#[h.1,h.2.1,h.2.2.1]
 refine#[ns,fc,k,_,rfl,cm,hv,fun ds kd hd=>?_]
 exact#[fc,k,ds,kd,rfl,h,hd,fun nl=>#[fc,k,ds,kd,rfl,cm,hd,nl,q],fun s t s0 t0 zs zt lt=>#[fc,k,ds,kd,s,t,rfl,cm,hd,zs,zt,s0,t0,lt,q]]
end
abbrev Due (l:W.OpenLaw)(w:World)(K:W.Frag)(mg:Str->Option Value)(fa:Addr):Prop:=∃fd:FuncData,(∀(s:Shared)(v:Value),BindsTo s fd #[[v],[]] [("_law_script",v)])/\∀base:Heap,K.In base->base.Ns mainGlobals mg->∃mg',Ap l.prog w K mg base CX0 13 fa fd ["_law_script"] (Ae K mg' MD)
theorem all_mk {l:W.OpenLaw}{w:World}{K:W.Frag}{h:Heap}{mg:Str->Option Value}{fa:Addr}(X:K.In h) (G:h.Ns mainGlobals mg) (hfa:mg "law"=some (.ref fa)) (fx:Facts l K):Due l w K mg fa:=by
 obtain @⟨kV,dc,pm,cd,ct,oc,od,an,sl,fL,K_NoCurve,K_NoTime,gt_NOUGHT_0,gt_NOUGHT_1,ga_NOUGHT_2,gd_NOUGHT_3,gn_NOUGHT_3,gs_NOUGHT_3,r0,r1,r2,r3,r4,r5,r6,r7,r8,r9,r10,r11,r12,r13,r14,r15,r16,r17,r18,r19,r20,r21,r22,r23,r24,r25,r26,r27,r28,r29,r30,r31,r32,r33,r34,r35,r36,r37,r38,r39,r40,r41,r42,r43,r44,r45,r46,r47,r48,r49,r50,r51,r52,r53,r54,r55,r56,r57,r58,r59,r60,r61,r62,r63,r64,r65,r66,r67,r68,r69,r70,r71,r72,r73,r74,r75,r76,r77,aL,lL,cL,kL,z0,z1,z2,z3,z4,z5,z6,z7,z8,z9,z10,n_NoCurve,n_NoTime,n_NOUGHT,n_gl_NOUGHT_6,x_NoCurve,x_NoTime,ht_piece_at,hp_piece_at,ht_from_nought,hp_from_nought,ht_side_by_side,hp_side_by_side,ht_lowered,hp_lowered⟩:=fx
 have e:=hfa.symm.trans (qBE X G aL)
 cases e
 have AL:=qAW X G z0
 have Lk:=qAW X G z1
 have Io:=qAW X G z2
 have Ia:=qAW X G z3
 have AI:=qAW X G z4
 have AO:=qAW X G z5
 have BH:=qAW X G z6
 have P6:=qAW X G z7
 have K4:=qAW X G z8
 have D1:=qAW X G z9
 have F7:=qAW X G z10
 have gc_NOUGHT:GC K mg "NOUGHT" (.tup [(.int 0),(.int 1)]):=KD.of (qBE X G n_NOUGHT) (KD.tup n_gl_NOUGHT_6 (Nat.le_of_ble_eq_true rfl) (.cons KD.int (.cons KD.int .nil)))
 have ec_NoCurve:ExC K "NoCurve" K_NoCurve:=#[n_NoCurve,x_NoCurve]
 have m_NoCurve:=qBE X G n_NoCurve
 have ec_NoTime:ExC K "NoTime" K_NoTime:=#[n_NoTime,x_NoTime]
 have m_NoTime:=qBE X G n_NoTime
 obtain⟨⟨cA_piece_at,cT_piece_at⟩,n_ht_piece_at⟩:=qBm.mp ht_piece_at
 obtain⟨⟨cA_from_nought,cT_from_nought⟩,n_ht_from_nought⟩:=qBm.mp ht_from_nought
 obtain⟨⟨cA_side_by_side,cT_side_by_side⟩,n_ht_side_by_side⟩:=qBm.mp ht_side_by_side
 obtain⟨⟨cA_lowered,cT_lowered⟩,n_ht_lowered⟩:=qBm.mp ht_lowered
 refine#[W.fnOf "law" "law" (Fp Lr) (B7 Lr) (Aa Lr) .none kV dc pm an cd ct,fun s v=>.of_eq rfl,fun base _ _=>#[mg,?_]]
 have M:=@mkC l.prog w K mg base h X G
 have DE:=M r0 (fun F _=>Ap.anyCX (Le AL Lk Io F))
 have Gq:=M r1 (fun F _=>Ap.anyCX (Nv Ia F))
 have A7:=M r2 (fun F _=>Ap.anyCX (QM DE Gq F))
 have B6:=M r3 (fun F _=>Ap.anyCX (SX A7 F))
 have Av:=M r4 (fun F _=>Ap.anyCX (Qh A7 F))
 have Fj:=M r5 (fun F _=>Ap.anyCX (QD A7 F))
 have HX:=M r6 (fun F _=>Ap.anyCX (Sj A7 F))
 have As:=M r7 (fun F _=>Ap.anyCX (Qi F))
 have AQ:=M r7 (fun F _=>Ap.anyCX (LQ F))
 have CY:=M r8 (fun F _=>IW As AI gc_NOUGHT ec_NoCurve m_NoCurve F)
 have Dn:=M r9 (fun F _=>J5 As AI ec_NoCurve m_NoCurve AO F)
 have AG:=M r10 (fun F _=>Ap.anyCX (G4 Av HX F))
 have Cd:=M r11 (fun F _=>Ap.anyCX (G6 AI AO AG F))
 have Ai:=M r11 (fun F _=>Ap.anyCX (Fn AI AO AG F))
 have Dr:=M r12 (fun F _=>QC As AI gc_NOUGHT ec_NoCurve m_NoCurve CY AO Dn Cd BH F)
 have HC:=M r13 (fun F _=>Tn gc_NOUGHT Dr F)
 have Bv:=M r14 (fun F _=>JN As gc_NOUGHT ec_NoTime m_NoTime F)
 have Az:=mkL (P:=l.prog) (w:=w) (base:=base) X G r15 (fun F _=>IK AI F)
 have ER:=M r16 (fun F a=>LC As Bv Az F n_ht_piece_at a hp_piece_at)
 have BO:=M r17 (fun F _=>Ap.anyCX (Gy AI AG F))
 have BE:=M r18 (fun F _=>LP B6 Av Fj ER BO F)
 have BC:=M r19 (fun F _=>Ap.anyCX (FQ As AI AO Ai F))
 have AR:=M r20 (fun F _=>Ap.anyCX (F9 As AI AO Ai F))
 have Bd:=M r21 (fun F _=>Ap.anyCX (Il Ai P6 F))
 have Ci:=M r22 (fun F _=>Ap.anyCX (Lq As F))
 have F3:=M r23 (fun F _=>Ap.anyCX (Nc B6 Av HX F))
 have Bw:=M r24 (fun F _=>Ap.anyCX (JV Av F))
 have Ct:=M r25 (fun F _=>Ap.anyCX (HA As AI F))
 have Bh:=M r26 (fun F _=>Ap.anyCX (IQ BE Ct F))
 have Iz:=M r27 (fun F _=>Ap.anyCX (TH Av Dr Bw Bh F))
 have JR:=M r28 (fun F _=>Ap.anyCX (Qs B6 Av As gc_NOUGHT F3 Bw Bh F))
 have Cy:=M r29 (fun F _=>Ap.anyCX (HI Av Fj F))
 have C8:=M r30 (fun F _=>Ap.anyCX (Kx Ai Cy K4 F))
 have DU:=M r31 (fun F _=>Ap.anyCX (KZ A7 F))
 have EW:=M r32 (fun F _=>Ap.anyCX (LM A7 Dr DU F))
 have Dq:=M r33 (fun F _=>Ap.anyCX (Ka F))
 have Dp:=M r34 (fun F _=>Ap.anyCX (JW F))
 have KM:=M r35 (fun F _=>Ap.anyCX (TQ Dq Dp F))
 have EH:=M r36 (fun F _=>Ap.anyCX (M0 F))
 have Hk:=M r37 (fun F _=>Ap.anyCX (Oy Av gc_NOUGHT K4 F))
 have B9:=M r38 (fun F a=>Ap.anyCX (IV AQ gc_NOUGHT Az F n_ht_from_nought a hp_from_nought))
 have Cn:=M r39 (fun F _=>Ap.anyCX (Im AQ F))
 have Cu:=M r40 (fun F a=>Ap.anyCX (Ig AQ AI Az Cn F n_ht_side_by_side a hp_side_by_side))
 have Iu:=M r41 (fun F _=>Ap.anyCX (S6 F))
 have MA:=M r42 (fun F _=>Ap.anyCX (Tv Iu F))
 have Mk:=M r43 (fun F _=>Ap.anyCX (Sl Iu F))
 have BW:=mkM (P:=l.prog) (w:=w) (base:=base) X G r44 (fun F _=>Kw F)
 have DI:=M r45 (fun F _=>Ap.anyCX (Lg A7 F))
 have DN:=mkM (P:=l.prog) (w:=w) (base:=base) X G r46 (fun F _=>Ko BW DI F)
 have Et:=M r47 (fun F a=>Ap.anyCX (Nz AQ Az Cu MA Mk DN D1 F n_ht_lowered a hp_lowered))
 have AJ:=M r48 (fun F _=>Ap.anyCX (EX BC F))
 have Hm:=M r49 (fun F _=>Ap.anyCX (N6 B6 Av gc_NOUGHT AR Ci C8 EW KM EH Hk B9 Et AJ F))
 have DJ:=M r50 (fun F _=>Ap.anyCX (Lh B6 Av BE F))
 have BS:=M r51 (fun F _=>Ap.anyCX (GJ Av As AR AJ F))
 have MM:=M r52 (fun F _=>SY As gc_NOUGHT Bv Ci DJ BS F)
 have EU:=M r53 (fun F _=>Ap.anyCX (Lm B6 MM F))
 have C5:=M r54 (fun F _=>Ap.anyCX (Nu HC Bd Iz F))
 have Hg:=M r55 (fun F _=>Ap.anyCX (Ob Hm F))
 have Hq:=M r56 (fun F _=>Ap.anyCX (O2 gc_NOUGHT HC Bd Iz C5 Hg F))
 have Mb:=M r57 (fun F _=>Ap.anyCX (SD JR EU C5 Hq F))
 have Au:=M r58 (fun F _=>Ap.anyCX (Ii AI F))
 have Am:=M r59 (fun F _=>Ap.anyCX (LU Ia F))
 have Bi:=M r60 (fun F _=>Ap.anyCX (Lw F))
 have Ag:=M r61 (fun F _=>Ap.anyCX (KP F))
 have Ah:=M r62 (fun F _=>Ap.anyCX (Jv F))
 have Ba:=M r63 (fun F _=>Ap.anyCX (JA AI Ag F))
 have Bx:=M r64 (fun F _=>Ap.anyCX (M5 AI Bi Ag Ah Ba F))
 have CC:=M r65 (fun F _=>Ap.anyCX (JG AL Lk Io AI BH Am F))
 have CP:=M r66 (fun F _=>Ap.anyCX (IT F))
 have Br:=M r67 (fun F _=>Ap.anyCX (JL AI AO BH Am CP F7 F))
 have Cg:=M r68 (fun F _=>Ap.anyCX (LN AO Au F))
 have AE:=M r69 (fun F _=>Ap.anyCX (JP Bi Ag Bx F))
 have CV:=M r70 (fun F _=>Ap.anyCX (IS Ag Ah F))
 have D4:=M r71 (fun F _=>Ap.anyCX (KY Ah Bx AE CV F))
 have Cc:=M r72 (fun F _=>Ap.anyCX (G3 Ag Ah AE F))
 have CO:=M r73 (fun F _=>Ap.anyCX (IU Ia AI Am Ag F))
 have De:=M r74 (fun F _=>Ap.anyCX (Jw Am Bi Cc CO F))
 have Cq:=M r75 (fun F _=>Ap.anyCX (Ib AL AI BH Ag Ah Bx CC AE F))
 have B8:=M r76 (fun F _=>Ap.anyCX (G0 AI AO Am Ah Ba F))
 have Dh:=M r77 (fun F _=>Ap.anyCX (JS BH Au Am Ag Br Cg De B8 F))
 exact Ug Mb Au Br Cg D4 Cq Dh (Mv (st:=Lr) lL cL kL)
end CL
theorem PySem.Challenge.cw_curvehouse_k31_a_lack_holds : PySem.Challenge.rw_curvehouse_k31_a_lack.Holds := by
 exact CL.front fun e1 e2 e3 e4 e5 fx=>L3.walk3 (l:=PySem.Challenge.rw_curvehouse_k31_a_lack) (k:=13) (x:="_law_script") rfl e1 #[rfl,∅,∅] e2 e3 e4 fun w mg fa h X G hg=>CL.all_mk X G (e5 ▸ hg) (fx w)
